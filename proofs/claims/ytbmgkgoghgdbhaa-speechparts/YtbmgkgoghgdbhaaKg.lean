/- The document's ReadPart. Condition: the text is no longer than any that comes in. -/
import Derived.Test.YtbmgkgoghgdbhaaKf
namespace Go.Proofs.Ytbmgkgoghgdbhaa.Te
open Go.RowKit

set_option maxRecDepth 100000 in
set_option maxHeartbeats 4000000 in
theorem readpart_any (s : ByteArray) (t : Ty) (x : Int) (w : World) (hs : s.size ≤ 140737488355328) (hr : rdP (nb s) = (t, x)) : Calls Try.prog 15 #[.string s] w fun e w' => RaQ t x w e w' := by
  have K42 := fun W => partAt_any s hs (nb s).length (nb s) 0 W (List.drop_zero) (Nat.le_refl _) (Nat.zero_le _)
  have HR : Hid (rdP (nb s) = (t, x)) := hr
  clear hr
  go_enter Try.func15, Try.ntmps15
  go_upto_region 1 with fail
  have hVb : Below w.heap.size w (w.alloc (.cells #[.int .i64 0, .int .i64 0, .slice none 0 0] 24)) := (Below.refl _ w).alloc (Nat.le_refl _) _
  have x1 := heap_alloc_new w (.cells #[.int .i64 0, .int .i64 0, .slice none 0 0] 24)
  have HV : Hid ((w.alloc (.cells #[.int .i64 0, .int .i64 0, .slice none 0 0] 24)).heap.size = w.heap.size + 1) := (by show _ = _; simp)
  generalize hV : w.alloc (.cells #[.int .i64 0, .int .i64 0, .slice none 0 0] 24) = V at *
  clear hV
  have K42 := K42 V
  rw [Int.natCast_zero] at K42
  go_upto_region 2 with (go_at_call 42; (with_reducible refine K42.mono ?_); rintro e1 w1 ⟨hb1, hq1⟩; clear K42; rcases hq1 with ⟨hp1, rfl⟩ | ⟨p, r, a1, c1, m, hp1, hm, hr1, rfl, hT1⟩)
  · obtain ⟨rfl, rfl⟩ : t = ty0 ∧ x = 1 := by
      have := HR.out
      unfold rdP at this
      rw [hp1] at this
      simp only [Prod.mk.injEq] at this
      exact ⟨this.1.symm, this.2.symm⟩
    have hne : ((-1 : Int) != (s.size : Int)) = true := bne_iff_ne.2 (by omega)
    have hbn : Below w1.heap.size w1 (w1.alloc (.cells #[.int .i64 0, .int .i64 0, .slice none 0 0] 24)) := (Below.refl _ w1).alloc (Nat.le_refl _) _
    have hb2 := hb1.trans (hbn.mono hb1.size)
    have x1 := (hb2.block _ (lt_of_get x1)).trans x1
    have hB2 := hVb.trans (hb2.mono hVb.size)
    generalize hV : w1.alloc (.cells #[.int .i64 0, .int .i64 0, .slice none 0 0] 24) = W2 at *
    clear hV
    have i0 := cell_of_row _ _ 0 _ _ _ x1
    have i1 := cell_of_row _ _ 1 _ _ _ x1
    have i2 := cell_of_row _ _ 2 _ _ _ x1
    have f0 := frozen_of_row _ _ 0 _ 24 x1
    have f1 := frozen_of_row _ _ 1 _ 24 x1
    have f2 := frozen_of_row _ _ 2 _ 24 x1
    go_wp2_with fail
    exact bodyPost_ret (results_row_tmp rfl _ _ w.heap.size 24 _ (0, 0) _ rfl (laid_box x1 0 0 none 0 0) Try.underlying24 rfl size24) rfl ⟨none, 0, 1, rfl, ty0_at _, below_box hB2 _ _ _⟩
  · have HP1 : Hid (pa (nb s).length (nb s) = some (p, r)) := hp1
    have HR1 : Hid ((nb s).drop m = r) := hr1
    have hbn : Below w1.heap.size w1 (w1.alloc (.cells #[.int .i64 p.kind, .int .i64 p.n, .slice a1 p.kids.length c1] 24)) := (Below.refl _ w1).alloc (Nat.le_refl _) _
    have x4 := heap_alloc_new w1 (.cells #[.int .i64 p.kind, .int .i64 p.n, .slice a1 p.kids.length c1] 24)
    have hb2 := hb1.trans (hbn.mono hb1.size)
    have x1 := (hb2.block _ (lt_of_get x1)).trans x1
    have hB2 := hVb.trans (hb2.mono hVb.size)
    have HT1 : Hid (TyP (fun g => V.heap.size ≤ g) (w1.alloc (.cells #[.int .i64 p.kind, .int .i64 p.n, .slice a1 p.kids.length c1] 24)) (nb s).length p a1 c1) := hT1.below hbn
    have hml : m = s.size - r.length ∧ r.length ≤ s.size := by
      have := congrArg List.length HR1.out
      rw [List.length_drop, nb_len] at this
      omega
    clear hp1 hr1 hT1 hb1 hbn
    generalize hV : w1.alloc (.cells #[.int .i64 p.kind, .int .i64 p.n, .slice a1 p.kids.length c1] 24) = W2 at *
    clear hV
    generalize w1.heap.size = B4 at *
    cases r with
    | cons c l =>
      obtain ⟨rfl, rfl⟩ : t = ty0 ∧ x = 1 := by
        have := HR.out
        unfold rdP at this
        rw [HP1.out] at this
        simp only [Prod.mk.injEq] at this
        exact ⟨this.1.symm, this.2.symm⟩
      have hne : ((m : Int) != (s.size : Int)) = true := by simp at hml ⊢; omega
      clear hml
      have i0 := cell_of_row _ _ 0 _ _ _ x1
      have i1 := cell_of_row _ _ 1 _ _ _ x1
      have i2 := cell_of_row _ _ 2 _ _ _ x1
      have f0 := frozen_of_row _ _ 0 _ 24 x1
      have f1 := frozen_of_row _ _ 1 _ 24 x1
      have f2 := frozen_of_row _ _ 2 _ 24 x1
      go_wp2_with fail
      exact bodyPost_ret (results_row_tmp rfl _ _ w.heap.size 24 _ (0, 0) _ rfl (laid_box x1 0 0 none 0 0) Try.underlying24 rfl size24) rfl ⟨none, 0, 1, rfl, ty0_at _, below_box hB2 _ _ _⟩
    | nil =>
      obtain rfl : m = s.size := by simp at hml; omega
      clear hml
      have hne : ((s.size : Int) != (s.size : Int)) = false := by simp
      have p0 := cell_of_row _ _ 0 _ _ _ x4
      have p1 := cell_of_row _ _ 1 _ _ _ x4
      have p2 := cell_of_row _ _ 2 _ _ _ x4
      have K33 := size_any (nb s).length p a1 c1 W2 15 HT1.out.at (by omega)
      unfold vty at K33
      have HR2 := HR.out
      rw [rdP_some HP1.out] at HR2
      rw [show ((15 : Nat) : Int) = 15 from rfl] at K33
      by_cases h15 : 15 < sz p
      · rw [if_pos h15] at HR2
        simp only [Prod.mk.injEq] at HR2
        obtain ⟨rfl, rfl⟩ := HR2
        have hc15 : (15 : Int) < ((cap (sz p) 15 : Nat) : Int) := by have : 15 < cap (sz p) 15 := (by rw [cap_gt]; exact h15); omega
        clear HR
        generalize cap (sz p) 15 = N at *
        go_upto_region 5 with (go_at_call 33; (with_reducible refine K33.mono ?_); rintro e2 w3 ⟨rfl, hb3⟩; clear K33)
        have x1 := (hb3.block _ (lt_of_get x1)).trans x1
        have hB3 := hB2.trans (hb3.mono hB2.size)
        have i0 := cell_of_row _ _ 0 _ _ _ x1
        have i1 := cell_of_row _ _ 1 _ _ _ x1
        have i2 := cell_of_row _ _ 2 _ _ _ x1
        have f0 := frozen_of_row _ _ 0 _ 24 x1
        have f1 := frozen_of_row _ _ 1 _ 24 x1
        have f2 := frozen_of_row _ _ 2 _ 24 x1
        go_wp2_with fail
        exact bodyPost_ret (results_row_tmp rfl _ _ w.heap.size 24 _ (0, 0) _ rfl (laid_box x1 0 0 none 0 0) Try.underlying24 rfl size24) rfl ⟨none, 0, 1, rfl, ty0_at _, below_box hB3 _ _ _⟩
      · rw [if_neg h15] at HR2
        simp only [Prod.mk.injEq] at HR2
        obtain ⟨rfl, rfl⟩ := HR2
        have hc15 : ¬ (15 : Int) < ((cap (sz p) 15 : Nat) : Int) := by have : ¬ 15 < cap (sz p) 15 := (by rw [cap_gt]; exact h15); omega
        clear HR
        generalize cap (sz p) 15 = N at *
        go_upto_region 6 with (go_at_call 33; (with_reducible refine K33.mono ?_); rintro e2 w3 ⟨rfl, hb3⟩; clear K33)
        have x1 := (hb3.block _ (lt_of_get x1)).trans x1
        have x4 := (hb3.block _ (lt_of_get x4)).trans x4
        have hB3 := hB2.trans (hb3.mono hB2.size)
        have HT3 : Hid (TyP (fun g => V.heap.size ≤ g) w3 (nb s).length p a1 c1) := HT1.out.below hb3
        clear p0 p1 p2
        have p0 := cell_of_row _ _ 0 _ _ _ x4
        have p1 := cell_of_row _ _ 1 _ _ _ x4
        have p2 := cell_of_row _ _ 2 _ _ _ x4
        have i0 := cell_of_row _ _ 0 _ _ _ x1
        have i1 := cell_of_row _ _ 1 _ _ _ x1
        have i2 := cell_of_row _ _ 2 _ _ _ x1
        have f0 := frozen_of_row _ _ 0 _ 24 x1
        have f1 := frozen_of_row _ _ 1 _ 24 x1
        have f2 := frozen_of_row _ _ 2 _ 24 x1
        go_wp2_with fail
        refine bodyPost_ret (results_row_tmp rfl _ _ w.heap.size 24 _ (0, 0) _ rfl (laid_box x1 p.kind p.n a1 p.kids.length c1) Try.underlying24 rfl size24) rfl ⟨a1, c1, (nb s).length, rfl, ?_, below_box hB3 _ _ _⟩
        exact (HT3.out.keep (Q := fun _ => True) (by simp) (fun g _ hP => ⟨trivial, ko3 w3 w.heap.size _ _ _ g (by have hP' : V.heap.size ≤ g := hP; have := HV.out; omega)⟩)).at
end Go.Proofs.Ytbmgkgoghgdbhaa.Te
