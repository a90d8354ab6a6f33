/- The document's Change: what a right change makes of a text, in a new list. Conditions: the change is right; the text has at most 60 symbols. -/
import Derived.Test.YtkcbgapakpheiaaHe
import Derived.Test.YtkcbgapakpheiaaCh
namespace Go.Proofs.Ytkcbgapakpheiaa.Cs
open Go.RowKit Go.Shelf Sd Md Sc Ap Tu Ch Bx

theorem drop_drop' (l : List Int) (a b : Nat) : (l.drop a).drop b = l.drop (a + b) := by rw [List.drop_drop]

theorem one_new' (w : World) (y : Int) : Row (w.alloc (.cells #[.int .i64 y] 3)) (.slice (some ⟨w.heap.size, 0, none⟩) 1 1) 1 1 (ints [y]) := by
  refine ⟨rfl, some ⟨w.heap.size, 0, none⟩, 1, rfl, Nat.le_refl _, (by omega), (fun h => by cases h), .inr ⟨w.heap.size, 0, rfl, by simp, fun j u hu => ?_⟩⟩
  match j, hu with
  | 0, hu => simp [ints] at hu ⊢; exact hu

set_option maxHeartbeats 4000000 in
theorem change_any (x : VC) (vx : Value) (text : List Int) (w : World) (h : IsC w x) (hg : Sd.Good x.c) (hx : IsI w vx text) (htl : text.length ≤ 60) :
    Calls Try.prog 20 #[x.val, vx] w fun e w' => ∃ v, e = .returned v ∧ IsI w' v (change x.c text) ∧ w'.ownsRow w.heap.size 3 1 v (change x.c text).length (ints (change x.c text)) ∧ Below w.heap.size w w' := by
  obtain ⟨⟨kk, frm, tt, left, right⟩, vf, vt, vl, vr, ls, rs⟩ := x
  have HC : Hid (IsC w ⟨⟨kk, frm, tt, left, right⟩, vf, vt, vl, vr, ls, rs⟩) := h
  have HG : Hid (Sd.Good ⟨kk, frm, tt, left, right⟩) := hg
  obtain ⟨hl, hr, hf, ht, hls, hrs, _⟩ := h
  dsimp only at hl hr hf ht hls hrs ⊢
  have f1 := hg.f1
  have f2 := hg.f2
  have t2 := hg.t2
  dsimp only at f1 f2 t2
  have HB : Hid (1 ≤ frm.length ∧ frm.length ≤ 2 ∧ tt.length ≤ 2 ∧ text.length ≤ 60) := ⟨f1, f2, t2, htl⟩
  have HX : Hid (IsI w vx text) := hx
  obtain ⟨af, cf, hv, _, _⟩ := hf.len
  subst hv
  obtain ⟨at', ct, hv, _, _⟩ := ht.len
  subst hv
  obtain ⟨al, cl, hv, _, _⟩ := hls.len
  subst hv
  obtain ⟨ar, cr, hv, _, _⟩ := hrs.len
  subst hv
  obtain ⟨ax, cx, hv, _, _⟩ := hx.len
  subst hv
  obtain ⟨i0, hi, hz0, hz1, hz2⟩ := info_parts info3
  have hb : ∀ o, Below w.heap.size w (w.alloc o) := fun o => (Below.refl _ _).alloc (Nat.le_refl _) _
  have bx0 := Box.new w kk (.slice af frm.length cf) (.slice at' tt.length ct) (.slice al ls.length cl) (.slice ar rs.length cr)
  simp only [VC.val]
  clear hl hr hf ht hls hrs hg f1 f2 t2 htl hx
  go_enter Try.func20, Try.ntmps20
  go_wp2
  go_loopw [5, 6] (fun v5 i wr => ∃ (out : List Int) (p : Nat), i = .int .i64 p ∧ wr.ownsRow (w.heap.size + 1) 3 1 v5 out.length (ints out) ∧ Below (w.heap.size + 1) (w.alloc (.cells #[.int .i64 kk, .slice af frm.length cf, .slice at' tt.length ct, .slice al ls.length cl, .slice ar rs.length cr] 58)) wr ∧ Hid (going ⟨kk, frm, tt, left, right⟩ out (text.drop p) = change ⟨kk, frm, tt, left, right⟩ text ∧ out.length + 2 * (text.length - p) ≤ 2 * text.length) ∧ p ≤ text.length) (fun _ i _ => text.length - (intOf i).toNat)
  case atStart => exact ⟨[], 0, rfl, World.ownsRow_nil _ _ _ _, Below.refl _ _, ⟨rfl, by simp⟩, by omega⟩
  case round =>
    obtain ⟨out, p, rfl, hown, hbw, hall, hp⟩ := hrel
    have hsz := hbw.size
    simp only [World.size_alloc] at hsz
    have hbT : Below w.heap.size w wr := (hb _).trans (hbw.mono (by omega))
    have hbx := bx0.below (by simpa using hbw)
    have g0 := hbx.g0
    have g1 := hbx.g1
    have g2 := hbx.g2
    have g3 := hbx.g3
    have g4 := hbx.g4
    by_cases hlt : p < text.length
    · have hbo := HB.out
      have hao := hall.out
      have con29 := He.here_any ⟨⟨kk, frm, tt, left, right⟩, _, _, _, _, ls, rs⟩ _ _ out text p wr (HC.out.below (Nat.le_refl _) hbT) HG.out (isI_of_own hown (by omega)) (HX.out.below (Nat.le_refl _) hbT) hlt (by omega) (by omega)
      simp only [VC.val] at con29
      have hout : out.length ≤ 120 := by omega
      have hto : tt.length ≤ 2 := by omega
      have hfr : frm.length ≤ 2 := by omega
      have hfp : 0 < frm.length := by omega
      have htx : text.length ≤ 60 := by omega
      have hdl : (text.drop p).length = text.length - p := List.length_drop ..
      generalize hr : here ⟨kk, frm, tt, left, right⟩ out (text.drop p) = r at con29
      cases r with
      | true =>
        have hle : frm.length ≤ (text.drop p).length := here_len hr
        have hle2 : p + frm.length ≤ text.length := by omega
        have HN : Hid (going ⟨kk, frm, tt, left, right⟩ (out ++ tt) (text.drop (p + frm.length)) = change ⟨kk, frm, tt, left, right⟩ text ∧ (out ++ tt).length + 2 * (text.length - (p + frm.length)) ≤ 2 * text.length) := by
          refine ⟨?_, ?_⟩
          · rw [← hao.1, going_yes HG.out.f1 (by intro e; rw [e] at hdl; simp at hdl; omega) hr, drop_drop']
          · rw [List.length_append]
            omega
        have hT : ∀ W, Below w.heap.size w W → Row W (.slice at' tt.length ct) 1 tt.length (ints tt) := fun W hW => HC.out.t.below (Nat.le_refl _) hW
        clear hall hr hao hbo hdl hle
        go_wp2_with (first
          | (go_at_call 30; with_reducible refine con29.mono ?_; rintro e w2 ⟨rfl, hb2⟩; have hbx2 := hbx.below hb2; have k1 := hbx2.g1; have k2 := hbx2.g2; have own2 := own_keep hown hb2; have hbT2 := hbT.trans (hb2.mono hbT.size); have hT2 := hT _ hbT2; have hsz2 := hb2.size)
          | (at_builtin; refine wpList_app _ rfl (.tmp 16) (.tmp 18) 27 rfl (w.heap.size + 1) 3 i0 (.int .i64 0) 1 8 Try.underlying27 hi hz0 hz1 hz2 rfl (by decide) _ _ _ rfl own2 _ _ _ rfl hT2 (ints_one tt) (by unfold maxLen; omega) (by omega) (by omega) ?_; intro v' W3 hown3 hgrow3; have m1 : W3.cell? ⟨w.heap.size, 1, none⟩ = some (.slice af frm.length cf) := ((below_of_grown hgrow3 own2 (by omega)).cell (p := ⟨w.heap.size, 1, none⟩) (by show w.heap.size < w.heap.size + 1; omega)).trans k1))
        go_roundw
        case rel => exact ⟨out ++ tt, p + frm.length, by go_num, by rw [ints_append, List.length_append]; exact hown3, (hbw.trans (hb2.mono hsz)).trans (below_of_grown hgrow3 own2 (by omega)), HN, hle2⟩
        case measure => simp [intOf]; omega
      | false =>
        obtain ⟨y, rest', hd⟩ : ∃ y l, text.drop p = y :: l := by
          cases hc : text.drop p with
          | nil => rw [hc] at hdl; simp at hdl; omega
          | cons y l => exact ⟨y, l, rfl⟩
        have hd1 : text.drop (p + 1) = rest' := by rw [← drop_drop', hd]; rfl
        have hy : text.getD p 0 = y := by
          have := Hp.getD_drop text p 0
          rw [hd, Nat.add_zero] at this
          exact this.symm
        have HN : Hid (going ⟨kk, frm, tt, left, right⟩ (out ++ [y]) (text.drop (p + 1)) = change ⟨kk, frm, tt, left, right⟩ text ∧ (out ++ [y]).length + 2 * (text.length - (p + 1)) ≤ 2 * text.length) := by
          refine ⟨?_, ?_⟩
          · rw [hd] at hr
            rw [← hao.1, hd, going_no hr, hd1]
          · simp only [List.length_append, List.length_cons, List.length_nil]
            omega
        obtain ⟨bx, ox, hax, hltx, hcx⟩ : ∃ bx ox, ax = some ⟨bx, ox, none⟩ ∧ bx < w.heap.size ∧ w.cell? ⟨bx, ox + p, none⟩ = some (.int .i64 y) := by
          rcases HX.out.shape with ⟨_, _, _, e⟩ | ⟨b', o', c', hv, hl', _, _, _, hc⟩
          · rw [e] at hlt
            simp at hlt
          · simp only [Value.slice.injEq] at hv
            exact ⟨b', o', hv.1, hl', by rw [← hy]; exact hc p hlt⟩
        subst hax
        clear hall hr hao hbo hdl hd hd1 hy
        go_wp2_with (first
          | (go_at_call 30; with_reducible refine con29.mono ?_; rintro e w2 ⟨rfl, hb2⟩; have own2 := own_keep hown hb2; have hbT2 := hbT.trans (hb2.mono hbT.size); have hsz2 := hb2.size; have cy : w2.cell? ⟨bx, ox + p, none⟩ = some (.int .i64 y) := (hbT2.cell (p := ⟨bx, ox + p, none⟩) hltx).trans hcx)
          | (at_builtin; refine wpList_app _ rfl (.tmp 25) (.tmp 30) 27 rfl (w.heap.size + 1) 3 i0 (.int .i64 0) 1 8 Try.underlying27 hi hz0 hz1 hz2 rfl (by decide) _ _ _ rfl (own2.alloc _) _ 1 (ints [y]) rfl (one_new' w2 y) (ints_one [y]) (by unfold maxLen; omega) (by omega) (by simp; omega) ?_; intro v' W3 hown3 hgrow3))
        go_roundw
        case rel => exact ⟨out ++ [y], p + 1, by go_num, by rw [ints_append, List.length_append]; exact hown3, ((hbw.trans (hb2.mono hsz)).alloc (by omega) _).trans (below_of_grown hgrow3 (own2.alloc _) (by simp; omega)), HN, by omega⟩
        case measure => simp [intOf]; omega
    · have hpe : p = text.length := by omega
      have hres := hall.out.1
      have hlen : out.length ≤ 140737488355328 := by
        have := hall.out.2
        have := HB.out
        omega
      rw [hpe, List.drop_length, going_nil] at hres
      subst hres
      clear hall
      go_wp2
      go_ret
      exact ⟨_, rfl, isI_of_own hown hlen, own_base hown (by omega), hbT⟩
end Go.Proofs.Ytkcbgapakpheiaa.Cs
