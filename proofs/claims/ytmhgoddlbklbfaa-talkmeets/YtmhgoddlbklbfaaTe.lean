/- Take of a talker. Conditions: the talker lies in memory and has at most twenty slots. -/
import Derived.Test.YtmhgoddlbklbfaaTd
import Derived.Laws.AppendOwn
namespace Go.Proofs.Ytmhgoddlbklbfaa.Tb
open Go.RowKit Ta

def tls (l : List To) : List Value := l.flatMap tl
theorem tls_length (l : List To) : (tls l).length = l.length * 5 := by
  unfold tls
  induction l with
  | nil => rfl
  | cons a l ih => simp only [List.flatMap_cons, List.length_append, ih, List.length_cons, Nat.add_mul]; simp [tl]; omega
theorem tls_snoc (l : List To) (t : To) : tls (l ++ [t]) = tls l ++ tl t := by simp [tls]
theorem info44 : (Try.prog.info? 44).map (fun i => (i.zero, i.size, i.bytes)) = some (some (.agg #[.int .i64 0, .int .i64 0, .int .i64 0, .string ByteArray.empty, .bool false]), 5, 48) := by kernel_rfl
theorem info_parts {t : TypeId} {z : Value} {s b : Nat} (h : (Try.prog.info? t).map (fun i => (i.zero, i.size, i.bytes)) = some (some z, s, b)) : ∃ i, Try.prog.info? t = some i ∧ i.zero = some z ∧ i.size = s ∧ i.bytes = b := by
  cases hi : Try.prog.info? t with
  | none => rw [hi] at h; cases h
  | some i =>
    rw [hi] at h
    simp only [Option.map_some, Option.some.injEq, Prod.mk.injEq] at h
    exact ⟨i, rfl, h.1, h.2.1, h.2.2⟩
theorem own_set {w : World} {base e size : Nat} {v : Value} {n : Nat} {xs : List Value} (h : w.ownsRow base e size v n xs) {b q : Nat} (hb : b < base) (u : Value) : (w.setCell ⟨b, q, none⟩ u).ownsRow base e size v n xs := by
  obtain ⟨h1, h | ⟨g, cap, cur, hv, hg, hh, h2⟩⟩ := h
  · exact ⟨h1, .inl h⟩
  · exact ⟨h1, .inr ⟨g, cap, cur, hv, hg, (heap_setCell_other _ _ _ _ (by show g ≠ b; omega)).trans hh, h2⟩⟩
theorem own_ko {w w' : World} {base e size : Nat} {v : Value} {n X : Nat} {xs : List Value} (h : w.ownsRow base e size v n xs) (hk : Ko w w' X) (hX : X < base) : w'.ownsRow base e size v n xs := by
  obtain ⟨h1, h | ⟨g, cap, cur, hv, hg, hh, h2⟩⟩ := h
  · exact ⟨h1, .inl h⟩
  · have hl : g < w.heap.size := by
      have := (Array.getElem?_eq_some_iff.1 hh).1
      exact this
    exact ⟨h1, .inr ⟨g, cap, cur, hv, hg, (hk.2 g (by omega) hl).trans hh, h2⟩⟩

def calm (e : Sl) : Sl := { e with ow := false }
def toldL (es : List Sl) : List To := (es.filter (fun e => e.op || e.ow)).map Sl.to
def takeS (N : Nat) (es : List Sl) : List Sl := (es.take N).map calm ++ es.drop N
theorem takeS_length (N : Nat) (es : List Sl) : (takeS N es).length = es.length := by simp [takeS]; omega
theorem takeS_at {i : Nat} {es : List Sl} (hi : i < es.length) : (takeS i es)[i]'(by rw [takeS_length]; exact hi) = es[i] := by
  have h1 : ((es.take i).map calm).length = i := by simp; omega
  have h2 : (takeS i es)[i]? = es[i]? := by
    unfold takeS
    rw [List.getElem?_append_right (by omega), h1, Nat.sub_self, List.getElem?_drop, Nat.add_zero]
  rw [List.getElem?_eq_getElem (by rw [takeS_length]; exact hi), List.getElem?_eq_getElem hi] at h2
  exact Option.some.inj h2
theorem takeS_succ {i : Nat} {es : List Sl} (hi : i < es.length) : (takeS i es).set i (calm es[i]) = takeS (i + 1) es := by
  have h1 : ((es.take i).map calm).length = i := by simp; omega
  unfold takeS
  rw [List.set_append_right _ _ (by omega), h1, Nat.sub_self, List.drop_eq_getElem_cons hi, List.set_cons_zero, List.take_succ_eq_append_getElem hi, List.map_append, List.append_assoc]
  rfl
theorem toldL_succ {i : Nat} {es : List Sl} (hi : i < es.length) : toldL (es.take (i + 1)) = if (es[i].op || es[i].ow) = true then toldL (es.take i) ++ [es[i].to] else toldL (es.take i) := by
  unfold toldL
  rw [List.take_succ_eq_append_getElem hi, List.filter_append, List.map_append]
  split
  · rename_i h; simp [h]
  · rename_i h; simp [h]
theorem toldL_le (es : List Sl) : (toldL es).length ≤ es.length := by
  unfold toldL
  rw [List.length_map]
  exact List.length_filter_le _ _

theorem Ko.low {w wr W2 : World} {b : Nat} (hk : Ko w wr b) (hb : Below w.heap.size wr W2) : Ko w W2 b := ⟨Nat.le_trans hk.1 hb.size, fun c hc hl => (hb.block c hl).trans (hk.2 c hc hl), hb.os.trans hk.os, hb.tape.trans hk.tape, hb.output.trans hk.output⟩
theorem Tk.low {w W2 : World} {b n : Nat} {W N : Int} {es : List Sl} (h : Tk w b W N es) (hb : Below n w W2) (hn : b < n) : Tk W2 b W N es := ⟨(hb.block b hn).trans h.1, h.2⟩
theorem calm_world {w : World} {b : Nat} {W n : Int} {es : List Sl} (h : Tk w b W n es) {i : Nat} (hi : i < es.length) : Tk (w.setCell ⟨b, 2 + i * 6 + 5, none⟩ (.bool false)) b W n (es.set i (calm es[i])) := h.set hi 5 (by omega) (.bool false) (calm es[i]) rfl
theorem cell_told (w : World) (e0 e1 e2 : Int) (e3 : ByteArray) (e4 : Bool) : ∀ j u, (tl ⟨e0, e1, e2, e3, e4⟩)[j]? = some u → (w.alloc (.cells #[.int .i64 e0, .int .i64 e1, .int .i64 e2, .string e3, .bool e4] 44)).cell? ((⟨w.heap.size, 0, none⟩ : Addr).add j) = some u := by
  intro j u hj
  have hadd : (⟨w.heap.size, 0, none⟩ : Addr).add j = ⟨w.heap.size, j, none⟩ := by unfold Addr.add; split <;> simp_all
  rw [hadd, cell_of_row _ _ j _ 44 _ (heap_alloc_new w _)]
  simpa [tl] using hj
theorem tl_one (t : To) : ∀ u ∈ tl t, u.oneCell' = true := by
  intro u hu
  simp [tl] at hu
  rcases hu with rfl | rfl | rfl | rfl | rfl <;> rfl

set_option maxHeartbeats 2000000 in
theorem take_any {w : World} {b N : Nat} {W : Int} {es : List Sl} (h : Tk w b W (N : Int) es) (hN : N ≤ 20) :
    Calls Try.prog 11 #[.pointer (some ⟨b, 0, none⟩)] w fun e w' => ∃ v, e = .returned v ∧ w'.ownsRow w.heap.size 44 5 v (toldL (es.take N)).length (tls (toldL (es.take N))) ∧ Tk w' b W (N : Int) (takeS N es) ∧ Ko w w' b := by
  obtain ⟨i44, hi44, hz440, hz441, hz442⟩ := info_parts info44
  have K21 := form_any h hN
  have hbw := h.lt
  have hle : es.length = 20 := h.2
  have HT : Hid (Tk w b W (N : Int) es) := h
  clear h
  go_enter Try.func11, Try.ntmps11
  go_wp2_with (go_at_call 21; (with_reducible refine K21.mono ?_); rintro e w1 ⟨rfl, hb1⟩)
  go_loopw [3, 4, 5, 9] (fun lv _ _ iv wr => ∃ (i : Nat), iv = .int .i64 (i : Int) ∧ i ≤ N ∧ wr.ownsRow w.heap.size 44 5 lv (toldL (es.take i)).length (tls (toldL (es.take i))) ∧ Tk wr b W (N : Int) (takeS i es) ∧ Ko w wr b) (fun _ _ _ iv _ => N - (intOf iv).toNat)
  case atStart => exact ⟨0, rfl, by omega, ⟨by simp [toldL, tls], .inl ⟨rfl, rfl⟩⟩, by simpa [takeS] using HT.out.below hb1, ko_below hb1⟩
  case round =>
    obtain ⟨i, rfl, hi, hown, hT, hK⟩ := hrel
    by_cases hil : i < N
    · have hil' : (i : Int) < (N : Int) := by omega
      have hi20 : (i : Int) < 20 := by omega
      have hie : i < es.length := by omega
      have hit : i < (takeS i es).length := by rw [takeS_length]; exact hie
      have g := hT.slot hit
      rw [takeS_at hie] at g
      have fz := hT.frozen
      have HC : Hid (∀ W2, Below w.heap.size wr W2 → Tk (W2.setCell ⟨b, 2 + i * 6 + 5, none⟩ (.bool false)) b W (N : Int) (takeS (i + 1) es) ∧ Ko w (W2.setCell ⟨b, 2 + i * 6 + 5, none⟩ (.bool false)) b) := fun W2 hb => by
        have := calm_world (hT.low hb hbw) hit
        rw [takeS_at hie, takeS_succ hie] at this
        exact ⟨this, (hK.low hb).trans (ko_set _ _ _ _)⟩
      have HF : Hid (∀ W2, Below w.heap.size wr W2 → W2.cell? ⟨b, 2 + i * 6 + 5, none⟩ = some (.bool es[i].ow) ∧ W2.frozen? ⟨b, 2 + i * 6 + 5, none⟩ = false) := fun W2 hb => by
        have g2 := ((hT.low hb hbw).slot hit).2.2.2.2.2
        rw [takeS_at hie] at g2
        exact ⟨g2, (hT.low hb hbw).frozen _⟩
      have HL : Hid (toldL (es.take (i + 1)) = if (es[i].op || es[i].ow) = true then toldL (es.take i) ++ [es[i].to] else toldL (es.take i)) := toldL_succ hie
      have hlen : (toldL (es.take i)).length ≤ 20 := Nat.le_trans (toldL_le _) (by simp; omega)
      have hws : w.heap.size ≤ wr.heap.size := hK.1
      obtain ⟨L, hL⟩ : ∃ L, toldL (es.take i) = L := ⟨_, rfl⟩
      rw [hL] at hown HL hlen
      obtain ⟨⟨e0, e1, e2, e3, e4, e5⟩, he⟩ : ∃ e, es[i] = e := ⟨_, rfl⟩
      rw [he] at g HF HL
      dsimp only [Sl.to] at g HF HL
      unfold at6 at g
      obtain ⟨g0, g1, g2, g3, g4, g5⟩ := g
      clear he hL hT hK hie hit K21 HT
      by_cases hs : (e4 || e5) = true
      · rw [if_pos hs] at HL
        have hcase : e4 = true ∨ (e4 = false ∧ e5 = true) := by cases e4 <;> simp_all
        clear hs
        rcases hcase with rfl | ⟨rfl, rfl⟩
        all_goals
          go_wp2_with (at_builtin; refine wpList_append_own _ rfl (.tmp 28) (.tmp 33) 36 rfl w.heap.size 44 i44 (.agg #[.int .i64 0, .int .i64 0, .int .i64 0, .string ByteArray.empty, .bool false]) 5 48 Try.underlying36 hi44 hz440 hz441 hz442 rfl (by decide) _ _ _ rfl (hown.alloc _) ⟨_, 0, none⟩ 1 1 (tl ⟨e0, e1, e2, e3, _⟩) rfl rfl (cell_told _ e0 e1 e2 e3 _) (tl_one _) (by unfold maxLen; omega) (by omega) (by simp; omega) ?_; intro v' W2 hown3 hgrow3 _; have hb3 : Below w.heap.size wr W2 := ((Below.refl _ wr).alloc hws _).grown hgrow3 (by simp; omega) (fun q hq => (hown.lt q hq).1); have f3 := HF.out W2 hb3; obtain ⟨f31, f32⟩ := f3)
          go_roundw
          case rel => exact ⟨i + 1, by go_num, by omega, by rw [HL.out, tls_snoc, List.length_append]; exact own_set hown3 hbw _, (HC.out _ hb3).1, (HC.out _ hb3).2⟩
          case measure => simp [intOf]; omega
      · rw [if_neg hs] at HL
        have h4 : e4 = false := by cases e4 <;> simp_all
        have h5 : e5 = false := by cases e5 <;> simp_all
        subst h4 h5
        clear hs
        go_wp2
        go_roundw
        case rel => exact ⟨i + 1, by go_num, by omega, by rw [HL.out]; exact own_set hown hbw _, (HC.out _ (Below.refl _ _)).1, (HC.out _ (Below.refl _ _)).2⟩
        case measure => simp [intOf]; omega
    · have hil' : ¬ (i : Int) < (N : Int) := by omega
      have e : i = N := by omega
      subst e
      go_wp2
      go_ret
      exact ⟨_, rfl, hown, hT, hK⟩
end Go.Proofs.Ytmhgoddlbklbfaa.Tb
