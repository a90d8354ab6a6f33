/- Cutless. No conditions. -/
import Derived.Test.YtbmgkgoghgdbhaaVa
import Derived.Test.YtbmgkgoghgdbhaaRh
import Derived.Test.YtbmgkgoghgdbhaaRn
namespace Go.Proofs.Ytbmgkgoghgdbhaa.Te
open Go.RowKit

/-- what Cutless says of a proof that is right (r) or not -/
def ct (p : Pf) (r : Bool) : Int := if rtE p = 0 then (if r = true then cseq p.left p.goal else 1) else rtE p
def CutQ (p : Pf) (e1 : Int) (w : World) (en : Ending) (w' : World) : Prop := ∃ p' x', en = .returned (.tuple #[vpf p' x', .int .i64 e1]) ∧ Below w.heap.size w w' ∧ (e1 = 0 → ∃ d e0, PfAt (fun _ => True) w' d e0 p' x' ∧ Good p.left p.goal p' ∧ cseq p.left p.goal = 0) ∧ (e1 ≠ 0 → p' = pf0 ∧ x' = pl0)
theorem rtE_fine {p : Pf} (h : rtE p = 0) : Gpf p := by
  unfold rtE at h
  by_cases h1 : 200 < szp p ∨ lgp p = true
  · rw [if_pos h1] at h; cases h
  · rw [if_neg h1] at h
    exact gpf_of _ p (Nat.le_refl _) h
set_option maxRecDepth 100000 in
set_option maxHeartbeats 2000000 in
theorem cutless_any {P : Nat → Prop} {d e : Nat} (p : Pf) (x : Pl) (w : World) (r : Bool) (h : PfAt P w d e p x) (hr : r = true ↔ Rt p) : Calls Try.prog 25 #[vpf p x] w fun en w' => CutQ p (ct p r) w en w' := by
  obtain ⟨e', rfl⟩ := h.pos
  have hpe := h
  obtain ⟨_, _, _, hL, hG, _, _⟩ := hpe
  have K17 := fun W hW => Right_any p x W r (h.below hW) hr
  unfold RightQ at K17
  obtain ⟨s, hs⟩ := fix_bool (cseq p.left p.goal = 0 ∧ E p.left p.goal)
  have K20 := fun W hW => Prove_any p.left x.la x.lc p.goal x.ga x.gc W s (hL.1.at.below hW) hL.2 (hG.at.below hW) hs
  have HE : Hid (rtE p = 0 → r = true → E p.left p.goal) := fun h1 h2 => rt_E _ p (Nat.le_refl _) (hr.1 h2) (rtE_fine h1)
  have HS : Hid (s = true ↔ cseq p.left p.goal = 0 ∧ E p.left p.goal) := hs
  obtain ⟨q, hq⟩ : ∃ q, rtE p = q := ⟨_, rfl⟩
  obtain ⟨u, hu⟩ : ∃ u, cseq p.left p.goal = u := ⟨_, rfl⟩
  have HQ : Hid (rtE p = q) := hq
  have HU : Hid (cseq p.left p.goal = u) := hu
  unfold ct
  rw [hq] at K17 ⊢
  rw [hu] at K20 ⊢
  obtain ⟨e1, he1⟩ : ∃ e1, (if q = 0 then (if r = true then u else 1) else q) = e1 := ⟨_, rfl⟩
  rw [he1]
  have HE1 : Hid ((if q = 0 then (if r = true then u else 1) else q) = e1) := he1
  clear h hr hL hG hs hq hu he1
  unfold vpf at K17 ⊢
  unfold vty at K20
  go_enter Try.func25, Try.ntmps25
  go_upto_region 1 with fail
  obtain ⟨x1, x2, hVs, hVb⟩ := two_boxes w (.cells #[.int .i64 p.step, .slice x.la p.left.length x.lc, .int .i64 p.goal.kind, .int .i64 p.goal.n, .slice x.ga p.goal.kids.length x.gc, .int .i64 p.ix, .int .i64 p.n, .slice x.ka p.kids.length x.kc] 37) (.cells #[.int .i64 0, .slice none 0 0, .int .i64 0, .int .i64 0, .slice none 0 0, .int .i64 0, .int .i64 0, .slice none 0 0] 37)
  generalize hV : (w.alloc (.cells #[.int .i64 p.step, .slice x.la p.left.length x.lc, .int .i64 p.goal.kind, .int .i64 p.goal.n, .slice x.ga p.goal.kids.length x.gc, .int .i64 p.ix, .int .i64 p.n, .slice x.ka p.kids.length x.kc] 37)).alloc (.cells #[.int .i64 0, .slice none 0 0, .int .i64 0, .int .i64 0, .slice none 0 0, .int .i64 0, .int .i64 0, .slice none 0 0] 37) = V at *
  clear hV hVs
  have K17 := K17 _ hVb
  have i0 := cell_of_row _ _ 0 _ _ _ x1
  have i1 := cell_of_row _ _ 1 _ _ _ x1
  have i2 := cell_of_row _ _ 2 _ _ _ x1
  have i3 := cell_of_row _ _ 3 _ _ _ x1
  have i4 := cell_of_row _ _ 4 _ _ _ x1
  have i5 := cell_of_row _ _ 5 _ _ _ x1
  have i6 := cell_of_row _ _ 6 _ _ _ x1
  have i7 := cell_of_row _ _ 7 _ _ _ x1
  by_cases h0 : q = 0
  rotate_left
  · have he : e1 = q := by have := HE1.out; rw [if_neg h0] at this; exact this.symm
    subst he
    rw [if_neg h0] at K17
    have h0b : (e1 != 0) = true := bne_iff_ne.2 h0
    go_wp2_with (go_at_call 17; (with_reducible refine K17.mono ?_); rintro e3 w3 ⟨rfl, hb3⟩; clear K17; have x2 := (hb3.block _ (lt_of_get x2)).trans x2; have zq0 := cell_of_row _ _ 0 _ _ _ x2; have zq1 := cell_of_row _ _ 1 _ _ _ x2; have zq2 := cell_of_row _ _ 2 _ _ _ x2; have zq3 := cell_of_row _ _ 3 _ _ _ x2; have zq4 := cell_of_row _ _ 4 _ _ _ x2; have zq5 := cell_of_row _ _ 5 _ _ _ x2; have zq6 := cell_of_row _ _ 6 _ _ _ x2; have zq7 := cell_of_row _ _ 7 _ _ _ x2; have ze0 := frozen_of_row _ _ 0 _ 37 x2; have ze1 := frozen_of_row _ _ 1 _ 37 x2; have ze2 := frozen_of_row _ _ 2 _ 37 x2; have ze3 := frozen_of_row _ _ 3 _ 37 x2; have ze4 := frozen_of_row _ _ 4 _ 37 x2; have ze5 := frozen_of_row _ _ 5 _ 37 x2; have ze6 := frozen_of_row _ _ 6 _ 37 x2; have ze7 := frozen_of_row _ _ 7 _ 37 x2)
    refine bodyPost_ret (results_37 rfl _ _ (w.heap.size + 1) _ rfl (laid8 x2 _ _ _ _ _ _ _ _) rfl) rfl ?_
    exact ⟨pf0, pl0, rfl, below8 (hVb.trans (hb3.mono hVb.size)) (by omega) _ _ _ _ _ _ _ _, fun h => absurd h h0, fun _ => ⟨rfl, rfl⟩⟩
  subst h0
  rw [if_pos rfl] at K17
  obtain rfl | rfl : r = false ∨ r = true := by cases r <;> simp
  · have he : e1 = 1 := by have := HE1.out; simpa using this.symm
    subst he
    go_wp2_with (go_at_call 17; (with_reducible refine K17.mono ?_); rintro e3 w3 ⟨rfl, hb3⟩; clear K17; have x2 := (hb3.block _ (lt_of_get x2)).trans x2; have zq0 := cell_of_row _ _ 0 _ _ _ x2; have zq1 := cell_of_row _ _ 1 _ _ _ x2; have zq2 := cell_of_row _ _ 2 _ _ _ x2; have zq3 := cell_of_row _ _ 3 _ _ _ x2; have zq4 := cell_of_row _ _ 4 _ _ _ x2; have zq5 := cell_of_row _ _ 5 _ _ _ x2; have zq6 := cell_of_row _ _ 6 _ _ _ x2; have zq7 := cell_of_row _ _ 7 _ _ _ x2; have ze0 := frozen_of_row _ _ 0 _ 37 x2; have ze1 := frozen_of_row _ _ 1 _ 37 x2; have ze2 := frozen_of_row _ _ 2 _ 37 x2; have ze3 := frozen_of_row _ _ 3 _ 37 x2; have ze4 := frozen_of_row _ _ 4 _ 37 x2; have ze5 := frozen_of_row _ _ 5 _ 37 x2; have ze6 := frozen_of_row _ _ 6 _ 37 x2; have ze7 := frozen_of_row _ _ 7 _ 37 x2)
    refine bodyPost_ret (results_37 rfl _ _ (w.heap.size + 1) _ rfl (laid8 x2 _ _ _ _ _ _ _ _) rfl) rfl ?_
    exact ⟨pf0, pl0, rfl, below8 (hVb.trans (hb3.mono hVb.size)) (by omega) _ _ _ _ _ _ _ _, fun h => absurd h (by decide), fun _ => ⟨rfl, rfl⟩⟩
  have he : e1 = u := by have := HE1.out; simpa using this.symm
  subst he
  have HSU : Hid (s = true ↔ e1 = 0) := by
    refine HS.out.trans ?_
    rw [HU.out]
    exact ⟨fun h => h.1, fun h => ⟨h, HE.out HQ.out rfl⟩⟩
  clear HS HE
  go_upto_region 6 with (go_at_call 17; (with_reducible refine K17.mono ?_); rintro e3 w3 ⟨rfl, hb3⟩; clear K17)
  have hB3 := hVb.trans (hb3.mono hVb.size)
  have x1 := (hb3.block _ (lt_of_get x1)).trans x1
  have x2 := (hb3.block _ (lt_of_get x2)).trans x2
  have hs3 : w.heap.size + 1 < w3.heap.size := lt_of_get x2
  clear i0 i1 i2 i3 i4 i5 i6 i7
  have K20 := K20 _ hB3
  have i0 := cell_of_row _ _ 0 _ _ _ x1
  have i1 := cell_of_row _ _ 1 _ _ _ x1
  have i2 := cell_of_row _ _ 2 _ _ _ x1
  have i3 := cell_of_row _ _ 3 _ _ _ x1
  have i4 := cell_of_row _ _ 4 _ _ _ x1
  have i5 := cell_of_row _ _ 5 _ _ _ x1
  have i6 := cell_of_row _ _ 6 _ _ _ x1
  have i7 := cell_of_row _ _ 7 _ _ _ x1
  go_upto_region 7 with (go_at_call 20; (with_reducible refine K20.mono ?_); rintro e4 w4 ⟨p4, y4, rfl, hb4, hpt, hpf⟩; clear K20; unfold vpf)
  have hn := heap_alloc_new w4 (.cells #[.int .i64 p4.step, .slice y4.la p4.left.length y4.lc, .int .i64 p4.goal.kind, .int .i64 p4.goal.n, .slice y4.ga p4.goal.kids.length y4.gc, .int .i64 p4.ix, .int .i64 p4.n, .slice y4.ka p4.kids.length y4.kc] 37)
  have hbn : Below w4.heap.size w4 (w4.alloc (.cells #[.int .i64 p4.step, .slice y4.la p4.left.length y4.lc, .int .i64 p4.goal.kind, .int .i64 p4.goal.n, .slice y4.ga p4.goal.kids.length y4.gc, .int .i64 p4.ix, .int .i64 p4.n, .slice y4.ka p4.kids.length y4.kc] 37)) := (Below.refl _ w4).alloc (Nat.le_refl _) _
  have hb5 := hb4.trans (hbn.mono hb4.size)
  have hB5 := hB3.trans (hb5.mono hB3.size)
  have x2 := (hb5.block _ (lt_of_get x2)).trans x2
  have hlt := lt_of_get x2
  have HPT : Hid (s = true → ∃ d e0, PfAt (fun g => w3.heap.size ≤ g) (w4.alloc (.cells #[.int .i64 p4.step, .slice y4.la p4.left.length y4.lc, .int .i64 p4.goal.kind, .int .i64 p4.goal.n, .slice y4.ga p4.goal.kids.length y4.gc, .int .i64 p4.ix, .int .i64 p4.n, .slice y4.ka p4.kids.length y4.kc] 37)) d e0 p4 y4 ∧ Good p.left p.goal p4) := fun h => by
    obtain ⟨d, e0, h1, h2⟩ := hpt h
    exact ⟨d, e0, h1.below hbn, h2⟩
  have HPF : Hid (s = false → p4 = pf0 ∧ y4 = pl0) := hpf
  clear hpt hpf i0 i1 i2 i3 i4 i5 i6 i7 x1 hb4 hb5 hbn
  generalize hV : w4.alloc (.cells #[.int .i64 p4.step, .slice y4.la p4.left.length y4.lc, .int .i64 p4.goal.kind, .int .i64 p4.goal.n, .slice y4.ga p4.goal.kids.length y4.gc, .int .i64 p4.ix, .int .i64 p4.n, .slice y4.ka p4.kids.length y4.kc] 37) = W5 at *
  clear hV
  generalize w4.heap.size = B at *
  have k0 := cell_of_row _ _ 0 _ _ _ hn
  have k1 := cell_of_row _ _ 1 _ _ _ hn
  have k2 := cell_of_row _ _ 2 _ _ _ hn
  have k3 := cell_of_row _ _ 3 _ _ _ hn
  have k4 := cell_of_row _ _ 4 _ _ _ hn
  have k5 := cell_of_row _ _ 5 _ _ _ hn
  have k6 := cell_of_row _ _ 6 _ _ _ hn
  have k7 := cell_of_row _ _ 7 _ _ _ hn
  have zq0 := cell_of_row _ _ 0 _ _ _ x2
  have zq1 := cell_of_row _ _ 1 _ _ _ x2
  have zq2 := cell_of_row _ _ 2 _ _ _ x2
  have zq3 := cell_of_row _ _ 3 _ _ _ x2
  have zq4 := cell_of_row _ _ 4 _ _ _ x2
  have zq5 := cell_of_row _ _ 5 _ _ _ x2
  have zq6 := cell_of_row _ _ 6 _ _ _ x2
  have zq7 := cell_of_row _ _ 7 _ _ _ x2
  have ze0 := frozen_of_row _ _ 0 _ 37 x2
  have ze1 := frozen_of_row _ _ 1 _ 37 x2
  have ze2 := frozen_of_row _ _ 2 _ 37 x2
  have ze3 := frozen_of_row _ _ 3 _ 37 x2
  have ze4 := frozen_of_row _ _ 4 _ 37 x2
  have ze5 := frozen_of_row _ _ 5 _ 37 x2
  have ze6 := frozen_of_row _ _ 6 _ 37 x2
  have ze7 := frozen_of_row _ _ 7 _ 37 x2
  go_wp2_with fail
  have kF := ko8 W5 (w.heap.size + 1) (.int .i64 p4.step) (.slice y4.la p4.left.length y4.lc) (.int .i64 p4.goal.kind) (.int .i64 p4.goal.n) (.slice y4.ga p4.goal.kids.length y4.gc) (.int .i64 p4.ix) (.int .i64 p4.n) (.slice y4.ka p4.kids.length y4.kc)
  refine bodyPost_ret (results_37 rfl _ _ (w.heap.size + 1) _ rfl (laid8 x2 _ _ _ _ _ _ _ _) rfl) rfl ?_
  refine ⟨p4, y4, rfl, below8 hB5 (by omega) _ _ _ _ _ _ _ _, fun hu => ?_, fun hu => HPF.out (bool_false HSU.out hu)⟩
  obtain ⟨d4, e4', hp4, hg4⟩ := HPT.out (HSU.out.2 hu)
  exact ⟨d4, e4', hp4.keep (by simp) (fun g hg hP => by
    have hP' : w3.heap.size ≤ g := hP
    exact ⟨trivial, kF g (by omega)⟩), hg4, HU.out.trans hu⟩
end Go.Proofs.Ytbmgkgoghgdbhaa.Te
