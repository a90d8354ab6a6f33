/- Tell of a talker. Conditions: the talker lies in memory and has at most twenty slots. -/
import Derived.Test.YtmhgoddlbklbfaaTe
namespace Go.Proofs.Ytmhgoddlbklbfaa.Tb
open Go.RowKit Ta

def shutT (e : Sl) : To := ⟨e.sl, e.ver, e.who, e.val, false⟩
theorem row44 : (Try.prog.info? 44).map (·.size) = some 5 := by kernel_rfl

set_option maxHeartbeats 1000000 in
theorem entry_any (B : Nat) (w : World) (e0 e1 e2 : Int) (e3 : ByteArray) (e4 : Bool) (h0 : w.cell? ⟨B, 0, none⟩ = some (.int .i64 e0)) (h1 : w.cell? ⟨B, 1, none⟩ = some (.int .i64 e1)) (h2 : w.cell? ⟨B, 2, none⟩ = some (.int .i64 e2)) (h3 : w.cell? ⟨B, 3, none⟩ = some (.string e3)) (h4 : w.cell? ⟨B, 4, none⟩ = some (.bool e4)) :
    Calls Try.prog 27 #[.pointer (some ⟨B, 0, none⟩)] w fun e w' => e = .returned (.agg #[.int .i64 e0, .int .i64 e1, .int .i64 e2, .string e3, .bool false]) ∧ Below w.heap.size w w' := by
  have hlt : B < w.heap.size := World.block_lt_of_cell? w _ h0
  go_enter Try.func27, Try.ntmps27
  go_wp2
  have g := two w (.cells #[.int .i64 e0, .int .i64 e1, .int .i64 e2, .string e3, .bool false] 44) (.cells #[.int .i64 e0, .int .i64 e1, .int .i64 e2, .string e3, .bool false] 44)
  exact bodyPost_ret (results_cell_row rfl _ _ w.heap.size 44 _ (0, 0) _ rfl g.1 Try.underlying44 rfl row44) rfl ⟨rfl, ((Below.refl _ w).alloc (Nat.le_refl _) _).alloc (by simp) _⟩

def tellL (es : List Sl) : List To := (es.filter (fun e => decide (0 < e.ver))).map shutT
theorem tellL_succ {i : Nat} {es : List Sl} (hi : i < es.length) : tellL (es.take (i + 1)) = if 0 < es[i].ver then tellL (es.take i) ++ [shutT es[i]] else tellL (es.take i) := by
  unfold tellL
  rw [List.take_succ_eq_append_getElem hi, List.filter_append, List.map_append]
  split
  · rename_i h; simp [h]
  · rename_i h; simp [h]
theorem tellL_le (es : List Sl) : (tellL es).length ≤ es.length := by
  unfold tellL
  rw [List.length_map]
  exact List.length_filter_le _ _
theorem own_below {w w' : World} {base e size : Nat} {v : Value} {n : Nat} {xs : List Value} (h : w.ownsRow base e size v n xs) (hb : Below w.heap.size w w') : w'.ownsRow base e size v n xs := by
  obtain ⟨h1, h | ⟨g, cap, cur, hv, hg, hh, h2⟩⟩ := h
  · exact ⟨h1, .inl h⟩
  · exact ⟨h1, .inr ⟨g, cap, cur, hv, hg, (hb.block g (Array.getElem?_eq_some_iff.1 hh).1).trans hh, h2⟩⟩

set_option maxHeartbeats 2000000 in
theorem tell_any {w : World} {b N : Nat} {W : Int} {es : List Sl} (h : Tk w b W (N : Int) es) (hN : N ≤ 20) :
    Calls Try.prog 16 #[.pointer (some ⟨b, 0, none⟩)] w fun e w' => ∃ v, e = .returned v ∧ w'.ownsRow w.heap.size 44 5 v (tellL (es.take N)).length (tls (tellL (es.take N))) ∧ Below w.heap.size w w' := by
  obtain ⟨i44, hi44, hz440, hz441, hz442⟩ := info_parts info44
  have K21 := form_any h hN
  have hbw := h.lt
  have hle : es.length = 20 := h.2
  have HT : Hid (Tk w b W (N : Int) es) := h
  clear h
  go_enter Try.func16, Try.ntmps16
  go_wp2_with (go_at_call 21; (with_reducible refine K21.mono ?_); rintro e w1 ⟨rfl, hb1⟩)
  go_loopw [3, 5, 9] (fun lv _ iv wr => ∃ (i : Nat), iv = .int .i64 (i : Int) ∧ i ≤ N ∧ wr.ownsRow w.heap.size 44 5 lv (tellL (es.take i)).length (tls (tellL (es.take i))) ∧ Below w.heap.size w wr) (fun _ _ iv _ => N - (intOf iv).toNat)
  case atStart => exact ⟨0, rfl, by omega, ⟨by simp [tellL, tls], .inl ⟨rfl, rfl⟩⟩, hb1⟩
  case round =>
    obtain ⟨i, rfl, hi, hown, hB⟩ := hrel
    by_cases hil : i < N
    · have hil' : (i : Int) < (N : Int) := by omega
      have hi20 : (i : Int) < 20 := by omega
      have hie : i < es.length := by omega
      have hT := HT.out.below hB
      have g := hT.slot hie
      have HL : Hid (tellL (es.take (i + 1)) = if 0 < es[i].ver then tellL (es.take i) ++ [shutT es[i]] else tellL (es.take i)) := tellL_succ hie
      have hlen : (tellL (es.take i)).length ≤ 20 := Nat.le_trans (tellL_le _) (by simp; omega)
      have hws : w.heap.size ≤ wr.heap.size := hB.size
      obtain ⟨L, hL⟩ : ∃ L, tellL (es.take i) = L := ⟨_, rfl⟩
      rw [hL] at hown HL hlen
      obtain ⟨⟨e0, e1, e2, e3, e4, e5⟩, he⟩ : ∃ e, es[i] = e := ⟨_, rfl⟩
      rw [he] at g HL
      dsimp only [shutT] at g HL
      unfold at6 at g
      obtain ⟨g0, g1, g2, g3, g4, g5⟩ := g
      have KE := fun w' (hw' : w'.heap[wr.heap.size]? = some (.cells #[.int .i64 e0, .int .i64 e1, .int .i64 e2, .string e3, .bool e4, .bool e5] 54 (0, 0))) => entry_any wr.heap.size w' e0 e1 e2 e3 e4 (cell_of_row _ _ 0 _ 54 (0, 0) hw') (cell_of_row _ _ 1 _ 54 (0, 0) hw') (cell_of_row _ _ 2 _ 54 (0, 0) hw') (cell_of_row _ _ 3 _ 54 (0, 0) hw') (cell_of_row _ _ 4 _ 54 (0, 0) hw')
      have hbA := fun o => (Below.refl _ wr).alloc (Nat.le_refl _) o
      clear he hL hT hie K21 HT
      by_cases hs : 0 < e1
      · rw [if_pos hs] at HL
        go_wp2_with (first
          | (go_at_call 27; (with_reducible refine (KE _ (heap_alloc_new _ _)).mono ?_); rintro e w2 ⟨rfl, hb2⟩; have hb2' : Below wr.heap.size wr w2 := (hbA _).trans (hb2.mono (by simp)); have hown2 := own_below hown hb2')
          | (at_builtin; refine wpList_append_own _ rfl (.tmp 17) (.tmp 19) 36 rfl w.heap.size 44 i44 (.agg #[.int .i64 0, .int .i64 0, .int .i64 0, .string ByteArray.empty, .bool false]) 5 48 Try.underlying36 hi44 hz440 hz441 hz442 rfl (by decide) _ _ _ rfl (hown2.alloc _) ⟨_, 0, none⟩ 1 1 (tl ⟨e0, e1, e2, e3, _⟩) rfl rfl (cell_told _ e0 e1 e2 e3 _) (tl_one _) (by unfold maxLen; omega) (by omega) (by have := hb2'.size; simp; omega) ?_; intro v' W2 hown3 hgrow3 _; have hb3 : Below w.heap.size w W2 := ((hB.trans (hb2'.mono hws)).alloc (Nat.le_trans hws hb2'.size) _).grown hgrow3 (by have := hb2'.size; simp; omega) (fun q hq => (hown.lt q hq).1)))
        go_roundw
        case rel => exact ⟨i + 1, by go_num, by omega, by rw [HL.out, tls_snoc, List.length_append]; exact hown3, hb3⟩
        case measure => simp [intOf]; omega
      · rw [if_neg hs] at HL
        go_wp2
        go_roundw
        case rel => exact ⟨i + 1, by go_num, by omega, by rw [HL.out]; exact hown.alloc _, hB.alloc hws _⟩
        case measure => simp [intOf]; omega
    · have hil' : ¬ (i : Int) < (N : Int) := by omega
      have e : i = N := by omega
      subst e
      go_wp2
      go_ret
      exact ⟨_, rfl, hown, hB⟩
end Go.Proofs.Ytmhgoddlbklbfaa.Tb
