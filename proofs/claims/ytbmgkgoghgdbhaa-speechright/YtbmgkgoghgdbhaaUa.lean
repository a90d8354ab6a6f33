/- SpeechRight walked: it returns true. No conditions. -/
import Derived.Test.YtbmgkgoghgdbhaaRp
import Derived.Test.YtbmgkgoghgdbhaaRq
namespace Go.Proofs.Ytbmgkgoghgdbhaa.Te
open Go.RowKit

theorem rtE_zero {p : Pf} (h : rtE p = 0) : Gpf p ∧ Lpf p ∧ szp p ≤ 200 ∧ cpf p = 0 := by
  unfold rtE at h
  by_cases h1 : 200 < szp p ∨ lgp p = true
  · rw [if_pos h1] at h; cases h
  · rw [if_neg h1] at h
    refine ⟨gpf_of _ p (Nat.le_refl _) h, lpf_of _ p (Nat.le_refl _) ?_, by omega, h⟩
    cases hl : lgp p
    · rfl
    · exact absurd (.inr hl) h1
set_option maxRecDepth 100000 in
set_option maxHeartbeats 1000000 in
theorem right_law {P : Nat → Prop} {d e : Nat} (p : Pf) (x : Pl) (w : World) (h : PfAt P w d e p x) : Calls Try.prog 4 #[vpf p x] w fun e w' => e = .returned (.bool true) ∧ Below w.heap.size w w' := by
  obtain ⟨r, hr⟩ := fix_bool (Rt p)
  obtain ⟨O, hO⟩ : ∃ O, O = Obj.cells #[.int .i64 p.step, .slice x.la p.left.length x.lc, .int .i64 p.goal.kind, .int .i64 p.goal.n, .slice x.ga p.goal.kids.length x.gc, .int .i64 p.ix, .int .i64 p.n, .slice x.ka p.kids.length x.kc] 37 (0, 0) := ⟨_, rfl⟩
  have hVb : Below w.heap.size w (w.alloc O) := (Below.refl _ w).alloc (Nat.le_refl _) _
  have x1 := heap_alloc_new w O
  have K17 := Right_any p x (w.alloc O) r (h.below hVb) hr
  unfold RightQ at K17
  have HP : Hid (PfAt P w d e p x) := h
  have HR : Hid (r = true ↔ Rt p) := hr
  obtain ⟨q, hq⟩ : ∃ q, rtE p = q := ⟨_, rfl⟩
  rw [hq] at K17
  have HQ : Hid (rtE p = q) := hq
  obtain ⟨u, hu⟩ : ∃ u, (if q = 0 then r else false) = u := ⟨_, rfl⟩
  rw [hu] at K17
  have HU : Hid ((if q = 0 then r else false) = u) := hu
  clear h hr hq hu
  unfold vpf at K17 ⊢
  subst hO
  go_enter Try.func4, Try.ntmps4
  go_upto_region 1 with fail
  generalize hV : w.alloc (.cells #[.int .i64 p.step, .slice x.la p.left.length x.lc, .int .i64 p.goal.kind, .int .i64 p.goal.n, .slice x.ga p.goal.kids.length x.gc, .int .i64 p.ix, .int .i64 p.n, .slice x.ka p.kids.length x.kc] 37) = V at *
  clear hV
  have i0 := cell_of_row _ _ 0 _ _ _ x1
  have i1 := cell_of_row _ _ 1 _ _ _ x1
  have i2 := cell_of_row _ _ 2 _ _ _ x1
  have i3 := cell_of_row _ _ 3 _ _ _ x1
  have i4 := cell_of_row _ _ 4 _ _ _ x1
  have i5 := cell_of_row _ _ 5 _ _ _ x1
  have i6 := cell_of_row _ _ 6 _ _ _ x1
  have i7 := cell_of_row _ _ 7 _ _ _ x1
  go_upto_region 2 with (go_at_call 17; (with_reducible refine K17.mono ?_); rintro e1 w1 ⟨rfl, hb1⟩; clear K17)
  have hB1 := hVb.trans (hb1.mono hVb.size)
  have x1 := (hb1.block _ (lt_of_get x1)).trans x1
  clear i0 i1 i2 i3 i4 i5 i6 i7
  have K18 := asks_any p x w1 (HP.out.below hB1)
  rw [HQ.out] at K18
  unfold vpf at K18
  have i0 := cell_of_row _ _ 0 _ _ _ x1
  have i1 := cell_of_row _ _ 1 _ _ _ x1
  have i2 := cell_of_row _ _ 2 _ _ _ x1
  have i3 := cell_of_row _ _ 3 _ _ _ x1
  have i4 := cell_of_row _ _ 4 _ _ _ x1
  have i5 := cell_of_row _ _ 5 _ _ _ x1
  have i6 := cell_of_row _ _ 6 _ _ _ x1
  have i7 := cell_of_row _ _ 7 _ _ _ x1
  go_upto_region 3 with (go_at_call 18; (with_reducible refine K18.mono ?_); rintro e2 w2 ⟨rfl, hb2⟩; clear K18)
  have hB2 := hB1.trans (hb2.mono hB1.size)
  have x1 := (hb2.block _ (lt_of_get x1)).trans x1
  clear i0 i1 i2 i3 i4 i5 i6 i7
  have K11 := begun_any w2
  go_upto_region 5 with (go_at_call 11; (with_reducible refine K11.mono ?_); rintro e3 w3 ⟨rfl, hb3⟩; clear K11)
  have hB3 := hB2.trans (hb3.mono hB2.size)
  have x1 := (hb3.block _ (lt_of_get x1)).trans x1
  by_cases h0 : q = 0
  · have hz := rtE_zero (HQ.out.trans h0)
    have hur : u = r := by have := HU.out; rw [if_pos h0] at this; exact this.symm
    have K19 := rp_any e p x w3 r (HP.out.below hB3) hz.1 hz.2.1 HR.out
    unfold vpf at K19
    subst hur h0
    clear hz
    have i0 := cell_of_row _ _ 0 _ _ _ x1
    have i1 := cell_of_row _ _ 1 _ _ _ x1
    have i2 := cell_of_row _ _ 2 _ _ _ x1
    have i3 := cell_of_row _ _ 3 _ _ _ x1
    have i4 := cell_of_row _ _ 4 _ _ _ x1
    have i5 := cell_of_row _ _ 5 _ _ _ x1
    have i6 := cell_of_row _ _ 6 _ _ _ x1
    have i7 := cell_of_row _ _ 7 _ _ _ x1
    cases u with
    | true =>
      go_wp2_with (go_at_call 19; (with_reducible refine K19.mono ?_); rintro e4 w4 ⟨rfl, hb4⟩; clear K19)
      go_ret
      exact ⟨rfl, hB3.trans (hb4.mono hB3.size)⟩
    | false =>
      go_wp2_with (go_at_call 19; (with_reducible refine K19.mono ?_); rintro e4 w4 ⟨rfl, hb4⟩; clear K19)
      go_ret
      exact ⟨rfl, hB3.trans (hb4.mono hB3.size)⟩
  · have hur : u = false := by have := HU.out; rw [if_neg h0] at this; exact this.symm
    subst hur
    go_wp2_with fail
    go_ret
    exact ⟨rfl, hB3⟩
end Go.Proofs.Ytbmgkgoghgdbhaa.Te
