/- The document's partAt. Condition: the place lies in the text or at its end. -/
import Derived.Test.YtbmgkgoghgdbhaaKe
namespace Go.Proofs.Ytbmgkgoghgdbhaa.Te
open Go.RowKit

theorem nb_at {s : ByteArray} {m c : Nat} {l : List Nat} (h : (nb s).drop m = c :: l) : m < s.size ∧ (∀ h : m < s.size, (s[m]'h).toNat = c) ∧ (nb s).drop (m + 1) = l := by
  have h0 : m < s.size := by
    have := congrArg List.length h
    rw [List.length_drop, nb_len, List.length_cons] at this
    omega
  have h1 := nb_drop h0
  rw [h] at h1
  simp only [List.cons.injEq] at h1
  exact ⟨h0, fun _ => h1.1.symm, h1.2.symm⟩
/-- what partAt answers -/
def PaQ (d : Nat) (o : Option (Ty × List Nat)) (s : ByteArray) (w : World) (e : Ending) (w' : World) : Prop := Below w.heap.size w w' ∧ ((o = none ∧ e = .returned (.tuple #[.agg #[.int .i64 0, .int .i64 0, .slice none 0 0], .int .i64 (-1)])) ∨ ∃ p r a c, ∃ m : Nat, o = some (p, r) ∧ m ≤ s.size ∧ (nb s).drop m = r ∧ e = .returned (.tuple #[.agg #[.int .i64 p.kind, .int .i64 p.n, .slice a p.kids.length c], .int .i64 (m : Int)]) ∧ TyP (fun g => w.heap.size ≤ g) w' d p a c)
set_option maxRecDepth 100000 in
set_option maxHeartbeats 8000000 in
theorem partAt_any (s : ByteArray) (hsz : s.size ≤ 140737488355328) : ∀ (n : Nat) (l : List Nat) (p : Nat) (w : World), (nb s).drop p = l → l.length ≤ n → p ≤ s.size → Calls Try.prog 42 #[.string s, .int .i64 (p : Int)] w fun e w' => PaQ n (pa n l) s w e w' := by
  intro n
  induction n with
  | zero =>
    intro l p w hl hn hp
    obtain rfl := List.length_eq_zero_iff.1 (Nat.le_zero.1 hn)
    have HN : Hid (pa 0 ([] : List Nat) = none) := rfl
    have hml : p = s.size := by
      have := congrArg List.length hl
      rw [List.length_drop, nb_len] at this
      simp at this
      omega
    have hpo0 : ¬ (p : Int) < 0 := by omega
    have hpo1 : (s.size : Int) ≤ (p : Int) := by omega
    clear hml hl hp
    go_enter Try.func42, Try.ntmps42
    go_upto_region 1 with fail
    have hVb : Below w.heap.size w (w.alloc (.cells #[.int .i64 0, .int .i64 0, .slice none 0 0] 24)) := (Below.refl _ w).alloc (Nat.le_refl _) _
    have x1 := heap_alloc_new w (.cells #[.int .i64 0, .int .i64 0, .slice none 0 0] 24)
    have HV : Hid ((w.alloc (.cells #[.int .i64 0, .int .i64 0, .slice none 0 0] 24)).heap.size = w.heap.size + 1) := (by show _ = _; simp)
    generalize hV : w.alloc (.cells #[.int .i64 0, .int .i64 0, .slice none 0 0] 24) = V at *
    clear hV
    have i0 := cell_of_row _ _ 0 _ _ _ x1
    have i1 := cell_of_row _ _ 1 _ _ _ x1
    have i2 := cell_of_row _ _ 2 _ _ _ x1
    have f0 := frozen_of_row _ _ 0 _ 24 x1
    have f1 := frozen_of_row _ _ 1 _ 24 x1
    have f2 := frozen_of_row _ _ 2 _ 24 x1
    go_wp2_with fail
    exact bodyPost_ret (results_row_tmp rfl _ _ w.heap.size 24 _ (0, 0) _ rfl (laid_box x1 0 0 none 0 0) Try.underlying24 rfl size24) rfl ⟨below_box hVb _ _ _, .inl ⟨HN.out, rfl⟩⟩
  | succ n ih =>
    intro l p w hl hn hp
    have hpo0 : ¬ (p : Int) < 0 := by omega
    cases l with
    | nil =>
      have HN : Hid (pa (n + 1) ([] : List Nat) = none) := rfl
      have hml : p = s.size := by
        have := congrArg List.length hl
        rw [List.length_drop, nb_len] at this
        simp at this
        omega
      have hpo1 : (s.size : Int) ≤ (p : Int) := by omega
      clear hml hl hp ih
      go_enter Try.func42, Try.ntmps42
      go_upto_region 1 with fail
      have hVb : Below w.heap.size w (w.alloc (.cells #[.int .i64 0, .int .i64 0, .slice none 0 0] 24)) := (Below.refl _ w).alloc (Nat.le_refl _) _
      have x1 := heap_alloc_new w (.cells #[.int .i64 0, .int .i64 0, .slice none 0 0] 24)
      have HV : Hid ((w.alloc (.cells #[.int .i64 0, .int .i64 0, .slice none 0 0] 24)).heap.size = w.heap.size + 1) := (by show _ = _; simp)
      generalize hV : w.alloc (.cells #[.int .i64 0, .int .i64 0, .slice none 0 0] 24) = V at *
      clear hV
      have i0 := cell_of_row _ _ 0 _ _ _ x1
      have i1 := cell_of_row _ _ 1 _ _ _ x1
      have i2 := cell_of_row _ _ 2 _ _ _ x1
      have f0 := frozen_of_row _ _ 0 _ 24 x1
      have f1 := frozen_of_row _ _ 1 _ 24 x1
      have f2 := frozen_of_row _ _ 2 _ 24 x1
      go_wp2_with fail
      exact bodyPost_ret (results_row_tmp rfl _ _ w.heap.size 24 _ (0, 0) _ rfl (laid_box x1 0 0 none 0 0) Try.underlying24 rfl size24) rfl ⟨below_box hVb _ _ _, .inl ⟨HN.out, rfl⟩⟩
    | cons c l =>
      obtain ⟨hpl, hc, hl1⟩ := nb_at hl
      have hpo1 : ¬ (s.size : Int) ≤ (p : Int) := by omega
      have hpo2 : (p : Int) < (s.size : Int) := by omega
      have hc256 : c < 256 := by rw [← hc hpl]; exact UInt8.toNat_lt _
      have HL1 : Hid ((nb s).drop (p + 1) = l) := hl1
      have HL : Hid ((nb s).drop p = c :: l) := hl
      rw [List.length_cons] at hn
      clear hl hl1
      go_enter Try.func42, Try.ntmps42
      go_upto_region 1 with fail
      have hVb : Below w.heap.size w (w.alloc (.cells #[.int .i64 0, .int .i64 0, .slice none 0 0] 24)) := (Below.refl _ w).alloc (Nat.le_refl _) _
      have x1 := heap_alloc_new w (.cells #[.int .i64 0, .int .i64 0, .slice none 0 0] 24)
      have HV : Hid ((w.alloc (.cells #[.int .i64 0, .int .i64 0, .slice none 0 0] 24)).heap.size = w.heap.size + 1) := (by show _ = _; simp)
      generalize hV : w.alloc (.cells #[.int .i64 0, .int .i64 0, .slice none 0 0] 24) = V at *
      clear hV
      by_cases h97 : 97 ≤ c ∧ c ≤ 106
      · have HN : Hid (pa (n + 1) (c :: l) = some (bs ((c : Int) - 97), l)) := by show _ = _; rw [pa, if_pos h97]
        have hc1 : (97 : Int) ≤ (c : Int) := by omega
        have hc2 : (c : Int) ≤ 106 := by omega
        have hw1 : IntKind.i64.wrap (c : Int) = (c : Int) := wrap_id (by omega) (by omega)
        have i0 := cell_of_row _ _ 0 _ _ _ x1
        have i1 := cell_of_row _ _ 1 _ _ _ x1
        have i2 := cell_of_row _ _ 2 _ _ _ x1
        have f0 := frozen_of_row _ _ 0 _ 24 x1
        have f1 := frozen_of_row _ _ 1 _ 24 x1
        have f2 := frozen_of_row _ _ 2 _ 24 x1
        go_wp2_with fail
        refine bodyPost_ret (results_row_tmp rfl _ _ w.heap.size 24 _ (0, 0) _ rfl (laid_box x1 1 ((c : Int) - 97) none 0 0) Try.underlying24 rfl size24) rfl ⟨below_box hVb _ _ _, .inr ⟨bs ((c : Int) - 97), l, none, 0, p + 1, HN.out, by omega, HL1.out, rfl, ?_⟩⟩
        exact ⟨by unfold i64B bs; dsimp only; omega, by unfold i64B bs; dsimp only; omega, Nat.zero_le _, .inl rfl⟩
      · by_cases h40 : c = 40
        · subst h40
          have K1 := fun W => ih l (p + 1) W HL1.out (by omega) (by omega)
          have HIH : Hid (∀ (l : List Nat) (p : Nat) (w : World), (nb s).drop p = l → l.length ≤ n → p ≤ s.size → Calls Try.prog 42 #[.string s, .int .i64 (p : Int)] w fun e w' => PaQ n (pa n l) s w e w') := fun l p w h1 h2 h3 => ih l p w h1 h2 h3
          have hpa : ((p + 1 : Nat) : Int) = (p : Int) + 1 := by omega
          rw [hpa] at K1
          clear ih hpa h97 HL
          have K1 := K1 V
          go_upto_region 8 with (go_at_call 42; (with_reducible refine K1.mono ?_); rintro e1 w1 ⟨hb1, hq1⟩; clear K1; rcases hq1 with ⟨hp1, rfl⟩ | ⟨a, r1, a1, c1, m, hp1, hm, hr1, rfl, hT1⟩)
          · have HN : Hid (pa (n + 1) (40 :: l) = none) := by show _ = _; rw [pa, if_neg (by omega), if_neg (by simp), hp1]
            have h1n : (-1 : Int) < 0 := by omega
            have hbn : Below w1.heap.size w1 (w1.alloc (.cells #[.int .i64 0, .int .i64 0, .slice none 0 0] 24)) := (Below.refl _ w1).alloc (Nat.le_refl _) _
            have hb2 := hb1.trans (hbn.mono hb1.size)
            have x1 := (hb2.block _ (lt_of_get x1)).trans x1
            have hB2 := hVb.trans (hb2.mono hVb.size)
            generalize hV : w1.alloc (.cells #[.int .i64 0, .int .i64 0, .slice none 0 0] 24) = W2 at *
            clear hV
            have i0 := cell_of_row _ _ 0 _ _ _ x1
            have i1 := cell_of_row _ _ 1 _ _ _ x1
            have i2 := cell_of_row _ _ 2 _ _ _ x1
            have f0 := frozen_of_row _ _ 0 _ 24 x1
            have f1 := frozen_of_row _ _ 1 _ 24 x1
            have f2 := frozen_of_row _ _ 2 _ 24 x1
            go_wp2_with fail
            exact bodyPost_ret (results_row_tmp rfl _ _ w.heap.size 24 _ (0, 0) _ rfl (laid_box x1 0 0 none 0 0) Try.underlying24 rfl size24) rfl ⟨below_box hB2 _ _ _, .inl ⟨HN.out, rfl⟩⟩
          · have HP1 : Hid (pa n l = some (a, r1)) := hp1
            have HR1 : Hid ((nb s).drop m = r1) := hr1
            have hbn : Below w1.heap.size w1 (w1.alloc (.cells #[.int .i64 a.kind, .int .i64 a.n, .slice a1 a.kids.length c1] 24)) := (Below.refl _ w1).alloc (Nat.le_refl _) _
            have x4 := heap_alloc_new w1 (.cells #[.int .i64 a.kind, .int .i64 a.n, .slice a1 a.kids.length c1] 24)
            have hb2 := hb1.trans (hbn.mono hb1.size)
            have x1 := (hb2.block _ (lt_of_get x1)).trans x1
            have hB2 := hVb.trans (hb2.mono hVb.size)
            have HT1 : Hid (TyP (fun g => V.heap.size ≤ g) (w1.alloc (.cells #[.int .i64 a.kind, .int .i64 a.n, .slice a1 a.kids.length c1] 24)) n a a1 c1) := hT1.below hbn
            have HB4 : Hid (V.heap.size ≤ w1.heap.size) := hb1.size
            clear hp1 hr1 hT1 hb1 hbn
            generalize hV : w1.alloc (.cells #[.int .i64 a.kind, .int .i64 a.n, .slice a1 a.kids.length c1] 24) = W2 at *
            clear hV
            generalize w1.heap.size = B4 at *
            have hm0 : ¬ (m : Int) < 0 := by omega
            cases r1 with
            | nil =>
              have HN : Hid (pa (n + 1) (40 :: l) = none) := by show _ = _; rw [pa, if_neg (by omega), if_neg (by simp), HP1.out]
              have hml : m = s.size := by
                have := congrArg List.length HR1.out
                rw [List.length_drop, nb_len] at this
                simp at this
                omega
              have hm1 : (s.size : Int) ≤ (m : Int) := by omega
              clear hml
              have i0 := cell_of_row _ _ 0 _ _ _ x1
              have i1 := cell_of_row _ _ 1 _ _ _ x1
              have i2 := cell_of_row _ _ 2 _ _ _ x1
              have f0 := frozen_of_row _ _ 0 _ 24 x1
              have f1 := frozen_of_row _ _ 1 _ 24 x1
              have f2 := frozen_of_row _ _ 2 _ 24 x1
              go_wp2_with fail
              exact bodyPost_ret (results_row_tmp rfl _ _ w.heap.size 24 _ (0, 0) _ rfl (laid_box x1 0 0 none 0 0) Try.underlying24 rfl size24) rfl ⟨below_box hB2 _ _ _, .inl ⟨HN.out, rfl⟩⟩
            | cons d l2 =>
              obtain ⟨hml, hcm, hl2⟩ := nb_at HR1.out
              have hm1 : ¬ (s.size : Int) ≤ (m : Int) := by omega
              have hm2 : (m : Int) < (s.size : Int) := by omega
              have HL2 : Hid ((nb s).drop (m + 1) = l2) := hl2
              have HLE : Hid (l2.length ≤ n) := by
                show _ ≤ _
                have := (pa_inv _ _ _ _ HP1.out).2
                have := congrArg List.length this
                rw [List.length_append, List.length_cons] at this
                omega
              clear hl2
              by_cases hd : d ≠ 47 ∧ d ≠ 92
              · have HN : Hid (pa (n + 1) (40 :: l) = none) := by show _ = _; rw [pa, if_neg (by omega), if_neg (by simp), HP1.out]; dsimp only; rw [if_pos hd]
                have d47 : ((d : Int) != 47) = true := by simp; omega
                have d92 : ((d : Int) != 92) = true := by simp; omega
                clear hd
                have i0 := cell_of_row _ _ 0 _ _ _ x1
                have i1 := cell_of_row _ _ 1 _ _ _ x1
                have i2 := cell_of_row _ _ 2 _ _ _ x1
                have f0 := frozen_of_row _ _ 0 _ 24 x1
                have f1 := frozen_of_row _ _ 1 _ 24 x1
                have f2 := frozen_of_row _ _ 2 _ 24 x1
                go_wp2_with fail
                exact bodyPost_ret (results_row_tmp rfl _ _ w.heap.size 24 _ (0, 0) _ rfl (laid_box x1 0 0 none 0 0) Try.underlying24 rfl size24) rfl ⟨below_box hB2 _ _ _, .inl ⟨HN.out, rfl⟩⟩
              · have HD : Hid (¬ (d ≠ 47 ∧ d ≠ 92)) := hd
                have K2 := HIH.out l2 (m + 1) W2 HL2.out HLE.out (by omega)
                have hpa : ((m + 1 : Nat) : Int) = (m : Int) + 1 := by omega
                rw [hpa] at K2
                clear hpa HIH hd
                obtain ⟨kd, hkd⟩ : ∃ kd : Int, kd = if d = 92 then 3 else 2 := ⟨_, rfl⟩
                rcases (show d = 47 ∨ d = 92 by have := HD.out; omega) with rfl | rfl
                · obtain rfl : kd = 2 := by rw [hkd]; rfl
                  clear hkd
                  go_upto_region 11 with (go_at_call 42; (with_reducible refine K2.mono ?_); rintro e2 w3 ⟨hb3, hq2⟩; clear K2; rcases hq2 with ⟨hp2, rfl⟩ | ⟨b, r2, a2, c2, q, hp2, hq, hr2, rfl, hT2⟩)
                  · have HN : Hid (pa (n + 1) (40 :: l) = none) := by show _ = _; rw [pa, if_neg (by omega), if_neg (by simp), HP1.out]; dsimp only; rw [if_neg HD.out, hp2]
                    have h1n : (-1 : Int) < 0 := by omega
                    have hbn : Below w3.heap.size w3 (w3.alloc (.cells #[.int .i64 0, .int .i64 0, .slice none 0 0] 24)) := (Below.refl _ w3).alloc (Nat.le_refl _) _
                    have hb4 := hb3.trans (hbn.mono hb3.size)
                    have x1 := (hb4.block _ (lt_of_get x1)).trans x1
                    have hB4 := hB2.trans (hb4.mono hB2.size)
                    generalize hV : w3.alloc (.cells #[.int .i64 0, .int .i64 0, .slice none 0 0] 24) = W4 at *
                    clear hV
                    have i0 := cell_of_row _ _ 0 _ _ _ x1
                    have i1 := cell_of_row _ _ 1 _ _ _ x1
                    have i2 := cell_of_row _ _ 2 _ _ _ x1
                    have f0 := frozen_of_row _ _ 0 _ 24 x1
                    have f1 := frozen_of_row _ _ 1 _ 24 x1
                    have f2 := frozen_of_row _ _ 2 _ 24 x1
                    go_wp2_with fail
                    exact bodyPost_ret (results_row_tmp rfl _ _ w.heap.size 24 _ (0, 0) _ rfl (laid_box x1 0 0 none 0 0) Try.underlying24 rfl size24) rfl ⟨below_box hB4 _ _ _, .inl ⟨HN.out, rfl⟩⟩
                  · have HP2 : Hid (pa n l2 = some (b, r2)) := hp2
                    have HR2 : Hid ((nb s).drop q = r2) := hr2
                    have hbn : Below w3.heap.size w3 (w3.alloc (.cells #[.int .i64 b.kind, .int .i64 b.n, .slice a2 b.kids.length c2] 24)) := (Below.refl _ w3).alloc (Nat.le_refl _) _
                    have x7 := heap_alloc_new w3 (.cells #[.int .i64 b.kind, .int .i64 b.n, .slice a2 b.kids.length c2] 24)
                    have hb4 := hb3.trans (hbn.mono hb3.size)
                    have x1 := (hb4.block _ (lt_of_get x1)).trans x1
                    have x4 := (hb4.block _ (lt_of_get x4)).trans x4
                    have hB4 := hB2.trans (hb4.mono hB2.size)
                    have HT1 : Hid (TyP (fun g => V.heap.size ≤ g) (w3.alloc (.cells #[.int .i64 b.kind, .int .i64 b.n, .slice a2 b.kids.length c2] 24)) n a a1 c1) := HT1.out.below hb4
                    have HT2 : Hid (TyP (fun g => V.heap.size ≤ g) (w3.alloc (.cells #[.int .i64 b.kind, .int .i64 b.n, .slice a2 b.kids.length c2] 24)) n b a2 c2) := (hT2.below hbn).keep (Nat.le_refl _) (fun g _ hP => ⟨by have hP' : W2.heap.size ≤ g := hP; have := hb2.size; omega, rfl⟩)
                    have HB7 : Hid (V.heap.size ≤ w3.heap.size) := Nat.le_trans hb2.size hb3.size
                    have HB8 : Hid (V.heap.size ≤ (w3.alloc (.cells #[.int .i64 b.kind, .int .i64 b.n, .slice a2 b.kids.length c2] 24)).heap.size) := Nat.le_trans hb2.size hb4.size
                    clear hp2 hr2 hT2 hb3 hbn hb4
                    generalize hV : w3.alloc (.cells #[.int .i64 b.kind, .int .i64 b.n, .slice a2 b.kids.length c2] 24) = W4 at *
                    clear hV
                    generalize w3.heap.size = B7 at *
                    have hq0 : ¬ (q : Int) < 0 := by omega
                    cases r2 with
                    | nil =>
                      have HN : Hid (pa (n + 1) (40 :: l) = none) := by show _ = _; rw [pa, if_neg (by omega), if_neg (by simp), HP1.out]; dsimp only; rw [if_neg HD.out, HP2.out]
                      have hml : q = s.size := by
                        have := congrArg List.length HR2.out
                        rw [List.length_drop, nb_len] at this
                        simp at this
                        omega
                      have hm1 : (s.size : Int) ≤ (q : Int) := by omega
                      clear hml
                      have i0 := cell_of_row _ _ 0 _ _ _ x1
                      have i1 := cell_of_row _ _ 1 _ _ _ x1
                      have i2 := cell_of_row _ _ 2 _ _ _ x1
                      have f0 := frozen_of_row _ _ 0 _ 24 x1
                      have f1 := frozen_of_row _ _ 1 _ 24 x1
                      have f2 := frozen_of_row _ _ 2 _ 24 x1
                      go_wp2_with fail
                      exact bodyPost_ret (results_row_tmp rfl _ _ w.heap.size 24 _ (0, 0) _ rfl (laid_box x1 0 0 none 0 0) Try.underlying24 rfl size24) rfl ⟨below_box hB4 _ _ _, .inl ⟨HN.out, rfl⟩⟩
                    | cons e l3 =>
                      obtain ⟨hql, hcq, hl3⟩ := nb_at HR2.out
                      have hq1 : ¬ (s.size : Int) ≤ (q : Int) := by omega
                      have hq2 : (q : Int) < (s.size : Int) := by omega
                      have HL3 : Hid ((nb s).drop (q + 1) = l3) := hl3
                      clear hl3
                      by_cases he : e = 41
                      · subst he
                        have HN : Hid (pa (n + 1) (40 :: l) = some (ov a b, l3)) := by show _ = _; rw [pa, if_neg (by omega), if_neg (by simp), HP1.out]; dsimp only; rw [if_neg HD.out, HP2.out]; rfl
                        have p0 := cell_of_row _ _ 0 _ _ _ x4
                        have p1 := cell_of_row _ _ 1 _ _ _ x4
                        have p2 := cell_of_row _ _ 2 _ _ _ x4
                        have q0 := cell_of_row _ _ 0 _ _ _ x7
                        have q1 := cell_of_row _ _ 1 _ _ _ x7
                        have q2 := cell_of_row _ _ 2 _ _ _ x7
                        have hba : Below W4.heap.size W4 (W4.alloc (.cells #[.int .i64 a.kind, .int .i64 a.n, .slice a1 a.kids.length c1, .int .i64 b.kind, .int .i64 b.n, .slice a2 b.kids.length c2] 24)) := (Below.refl _ W4).alloc (Nat.le_refl _) _
                        have x6 := heap_alloc_new W4 (.cells #[.int .i64 a.kind, .int .i64 a.n, .slice a1 a.kids.length c1, .int .i64 b.kind, .int .i64 b.n, .slice a2 b.kids.length c2] 24)
                        have xU := (hba.block _ (lt_of_get x1)).trans x1
                        have i0 := cell_of_row _ _ 0 _ _ _ xU
                        have i1 := cell_of_row _ _ 1 _ _ _ xU
                        have i2 := cell_of_row _ _ 2 _ _ _ xU
                        have f0 := frozen_of_row _ _ 0 _ 24 xU
                        have f1 := frozen_of_row _ _ 1 _ 24 xU
                        have f2 := frozen_of_row _ _ 2 _ 24 xU
                        go_wp2_with fail
                        refine bodyPost_ret (results_row_tmp rfl _ _ w.heap.size 24 _ (0, 0) _ rfl (laid_box xU 2 0 (some ⟨W4.heap.size, 0, none⟩) 2 2) Try.underlying24 rfl size24) rfl ⟨below_box (hB4.trans (hba.mono hB4.size)) _ _ _, .inr ⟨ov a b, l3, some ⟨W4.heap.size, 0, none⟩, 2, q + 1, HN.out, by omega, HL3.out, rfl, ?_⟩⟩
                        exact kids_laid (ov a b) a b rfl (by unfold i64B ov; dsimp only; omega) (by unfold i64B ov; dsimp only; omega) (by have := HV.out; have := HB8.out; omega) x6 ((HT1.out.below hba).keep (Nat.le_refl _) (fun g _ hP => ⟨by have hP' : V.heap.size ≤ g := hP; have := HV.out; omega, rfl⟩)) ((HT2.out.below hba).keep (Nat.le_refl _) (fun g _ hP => ⟨by have hP' : V.heap.size ≤ g := hP; have := HV.out; omega, rfl⟩)) _ _ _
                      · have HN : Hid (pa (n + 1) (40 :: l) = none) := by show _ = _; rw [pa, if_neg (by omega), if_neg (by simp), HP1.out]; dsimp only; rw [if_neg HD.out, HP2.out]; dsimp only; rw [if_pos he]
                        have e41 : ((e : Int) != 41) = true := by simp; omega
                        clear he
                        have i0 := cell_of_row _ _ 0 _ _ _ x1
                        have i1 := cell_of_row _ _ 1 _ _ _ x1
                        have i2 := cell_of_row _ _ 2 _ _ _ x1
                        have f0 := frozen_of_row _ _ 0 _ 24 x1
                        have f1 := frozen_of_row _ _ 1 _ 24 x1
                        have f2 := frozen_of_row _ _ 2 _ 24 x1
                        go_wp2_with fail
                        exact bodyPost_ret (results_row_tmp rfl _ _ w.heap.size 24 _ (0, 0) _ rfl (laid_box x1 0 0 none 0 0) Try.underlying24 rfl size24) rfl ⟨below_box hB4 _ _ _, .inl ⟨HN.out, rfl⟩⟩
                · obtain rfl : kd = 3 := by rw [hkd]; rfl
                  clear hkd
                  go_upto_region 11 with (go_at_call 42; (with_reducible refine K2.mono ?_); rintro e2 w3 ⟨hb3, hq2⟩; clear K2; rcases hq2 with ⟨hp2, rfl⟩ | ⟨b, r2, a2, c2, q, hp2, hq, hr2, rfl, hT2⟩)
                  · have HN : Hid (pa (n + 1) (40 :: l) = none) := by show _ = _; rw [pa, if_neg (by omega), if_neg (by simp), HP1.out]; dsimp only; rw [if_neg HD.out, hp2]
                    have h1n : (-1 : Int) < 0 := by omega
                    have hbn : Below w3.heap.size w3 (w3.alloc (.cells #[.int .i64 0, .int .i64 0, .slice none 0 0] 24)) := (Below.refl _ w3).alloc (Nat.le_refl _) _
                    have hb4 := hb3.trans (hbn.mono hb3.size)
                    have x1 := (hb4.block _ (lt_of_get x1)).trans x1
                    have hB4 := hB2.trans (hb4.mono hB2.size)
                    generalize hV : w3.alloc (.cells #[.int .i64 0, .int .i64 0, .slice none 0 0] 24) = W4 at *
                    clear hV
                    have i0 := cell_of_row _ _ 0 _ _ _ x1
                    have i1 := cell_of_row _ _ 1 _ _ _ x1
                    have i2 := cell_of_row _ _ 2 _ _ _ x1
                    have f0 := frozen_of_row _ _ 0 _ 24 x1
                    have f1 := frozen_of_row _ _ 1 _ 24 x1
                    have f2 := frozen_of_row _ _ 2 _ 24 x1
                    go_wp2_with fail
                    exact bodyPost_ret (results_row_tmp rfl _ _ w.heap.size 24 _ (0, 0) _ rfl (laid_box x1 0 0 none 0 0) Try.underlying24 rfl size24) rfl ⟨below_box hB4 _ _ _, .inl ⟨HN.out, rfl⟩⟩
                  · have HP2 : Hid (pa n l2 = some (b, r2)) := hp2
                    have HR2 : Hid ((nb s).drop q = r2) := hr2
                    have hbn : Below w3.heap.size w3 (w3.alloc (.cells #[.int .i64 b.kind, .int .i64 b.n, .slice a2 b.kids.length c2] 24)) := (Below.refl _ w3).alloc (Nat.le_refl _) _
                    have x7 := heap_alloc_new w3 (.cells #[.int .i64 b.kind, .int .i64 b.n, .slice a2 b.kids.length c2] 24)
                    have hb4 := hb3.trans (hbn.mono hb3.size)
                    have x1 := (hb4.block _ (lt_of_get x1)).trans x1
                    have x4 := (hb4.block _ (lt_of_get x4)).trans x4
                    have hB4 := hB2.trans (hb4.mono hB2.size)
                    have HT1 : Hid (TyP (fun g => V.heap.size ≤ g) (w3.alloc (.cells #[.int .i64 b.kind, .int .i64 b.n, .slice a2 b.kids.length c2] 24)) n a a1 c1) := HT1.out.below hb4
                    have HT2 : Hid (TyP (fun g => V.heap.size ≤ g) (w3.alloc (.cells #[.int .i64 b.kind, .int .i64 b.n, .slice a2 b.kids.length c2] 24)) n b a2 c2) := (hT2.below hbn).keep (Nat.le_refl _) (fun g _ hP => ⟨by have hP' : W2.heap.size ≤ g := hP; have := hb2.size; omega, rfl⟩)
                    have HB7 : Hid (V.heap.size ≤ w3.heap.size) := Nat.le_trans hb2.size hb3.size
                    have HB8 : Hid (V.heap.size ≤ (w3.alloc (.cells #[.int .i64 b.kind, .int .i64 b.n, .slice a2 b.kids.length c2] 24)).heap.size) := Nat.le_trans hb2.size hb4.size
                    clear hp2 hr2 hT2 hb3 hbn hb4
                    generalize hV : w3.alloc (.cells #[.int .i64 b.kind, .int .i64 b.n, .slice a2 b.kids.length c2] 24) = W4 at *
                    clear hV
                    generalize w3.heap.size = B7 at *
                    have hq0 : ¬ (q : Int) < 0 := by omega
                    cases r2 with
                    | nil =>
                      have HN : Hid (pa (n + 1) (40 :: l) = none) := by show _ = _; rw [pa, if_neg (by omega), if_neg (by simp), HP1.out]; dsimp only; rw [if_neg HD.out, HP2.out]
                      have hml : q = s.size := by
                        have := congrArg List.length HR2.out
                        rw [List.length_drop, nb_len] at this
                        simp at this
                        omega
                      have hm1 : (s.size : Int) ≤ (q : Int) := by omega
                      clear hml
                      have i0 := cell_of_row _ _ 0 _ _ _ x1
                      have i1 := cell_of_row _ _ 1 _ _ _ x1
                      have i2 := cell_of_row _ _ 2 _ _ _ x1
                      have f0 := frozen_of_row _ _ 0 _ 24 x1
                      have f1 := frozen_of_row _ _ 1 _ 24 x1
                      have f2 := frozen_of_row _ _ 2 _ 24 x1
                      go_wp2_with fail
                      exact bodyPost_ret (results_row_tmp rfl _ _ w.heap.size 24 _ (0, 0) _ rfl (laid_box x1 0 0 none 0 0) Try.underlying24 rfl size24) rfl ⟨below_box hB4 _ _ _, .inl ⟨HN.out, rfl⟩⟩
                    | cons e l3 =>
                      obtain ⟨hql, hcq, hl3⟩ := nb_at HR2.out
                      have hq1 : ¬ (s.size : Int) ≤ (q : Int) := by omega
                      have hq2 : (q : Int) < (s.size : Int) := by omega
                      have HL3 : Hid ((nb s).drop (q + 1) = l3) := hl3
                      clear hl3
                      by_cases he : e = 41
                      · subst he
                        have HN : Hid (pa (n + 1) (40 :: l) = some (un a b, l3)) := by show _ = _; rw [pa, if_neg (by omega), if_neg (by simp), HP1.out]; dsimp only; rw [if_neg HD.out, HP2.out]; rfl
                        have p0 := cell_of_row _ _ 0 _ _ _ x4
                        have p1 := cell_of_row _ _ 1 _ _ _ x4
                        have p2 := cell_of_row _ _ 2 _ _ _ x4
                        have q0 := cell_of_row _ _ 0 _ _ _ x7
                        have q1 := cell_of_row _ _ 1 _ _ _ x7
                        have q2 := cell_of_row _ _ 2 _ _ _ x7
                        have hba : Below W4.heap.size W4 (W4.alloc (.cells #[.int .i64 a.kind, .int .i64 a.n, .slice a1 a.kids.length c1, .int .i64 b.kind, .int .i64 b.n, .slice a2 b.kids.length c2] 24)) := (Below.refl _ W4).alloc (Nat.le_refl _) _
                        have x6 := heap_alloc_new W4 (.cells #[.int .i64 a.kind, .int .i64 a.n, .slice a1 a.kids.length c1, .int .i64 b.kind, .int .i64 b.n, .slice a2 b.kids.length c2] 24)
                        have xU := (hba.block _ (lt_of_get x1)).trans x1
                        have i0 := cell_of_row _ _ 0 _ _ _ xU
                        have i1 := cell_of_row _ _ 1 _ _ _ xU
                        have i2 := cell_of_row _ _ 2 _ _ _ xU
                        have f0 := frozen_of_row _ _ 0 _ 24 xU
                        have f1 := frozen_of_row _ _ 1 _ 24 xU
                        have f2 := frozen_of_row _ _ 2 _ 24 xU
                        go_wp2_with fail
                        refine bodyPost_ret (results_row_tmp rfl _ _ w.heap.size 24 _ (0, 0) _ rfl (laid_box xU 3 0 (some ⟨W4.heap.size, 0, none⟩) 2 2) Try.underlying24 rfl size24) rfl ⟨below_box (hB4.trans (hba.mono hB4.size)) _ _ _, .inr ⟨un a b, l3, some ⟨W4.heap.size, 0, none⟩, 2, q + 1, HN.out, by omega, HL3.out, rfl, ?_⟩⟩
                        exact kids_laid (un a b) a b rfl (by unfold i64B un; dsimp only; omega) (by unfold i64B un; dsimp only; omega) (by have := HV.out; have := HB8.out; omega) x6 ((HT1.out.below hba).keep (Nat.le_refl _) (fun g _ hP => ⟨by have hP' : V.heap.size ≤ g := hP; have := HV.out; omega, rfl⟩)) ((HT2.out.below hba).keep (Nat.le_refl _) (fun g _ hP => ⟨by have hP' : V.heap.size ≤ g := hP; have := HV.out; omega, rfl⟩)) _ _ _
                      · have HN : Hid (pa (n + 1) (40 :: l) = none) := by show _ = _; rw [pa, if_neg (by omega), if_neg (by simp), HP1.out]; dsimp only; rw [if_neg HD.out, HP2.out]; dsimp only; rw [if_pos he]
                        have e41 : ((e : Int) != 41) = true := by simp; omega
                        clear he
                        have i0 := cell_of_row _ _ 0 _ _ _ x1
                        have i1 := cell_of_row _ _ 1 _ _ _ x1
                        have i2 := cell_of_row _ _ 2 _ _ _ x1
                        have f0 := frozen_of_row _ _ 0 _ 24 x1
                        have f1 := frozen_of_row _ _ 1 _ 24 x1
                        have f2 := frozen_of_row _ _ 2 _ 24 x1
                        go_wp2_with fail
                        exact bodyPost_ret (results_row_tmp rfl _ _ w.heap.size 24 _ (0, 0) _ rfl (laid_box x1 0 0 none 0 0) Try.underlying24 rfl size24) rfl ⟨below_box hB4 _ _ _, .inl ⟨HN.out, rfl⟩⟩
        · have HN : Hid (pa (n + 1) (c :: l) = none) := by show _ = _; rw [pa, if_neg h97, if_pos h40]
          have b40 : ((c : Int) != 40) = true := by simp; omega
          by_cases hc1 : (97 : Int) ≤ (c : Int)
          · have hc2 : ¬ (c : Int) ≤ 106 := by omega
            have i0 := cell_of_row _ _ 0 _ _ _ x1
            have i1 := cell_of_row _ _ 1 _ _ _ x1
            have i2 := cell_of_row _ _ 2 _ _ _ x1
            have f0 := frozen_of_row _ _ 0 _ 24 x1
            have f1 := frozen_of_row _ _ 1 _ 24 x1
            have f2 := frozen_of_row _ _ 2 _ 24 x1
            go_wp2_with fail
            exact bodyPost_ret (results_row_tmp rfl _ _ w.heap.size 24 _ (0, 0) _ rfl (laid_box x1 0 0 none 0 0) Try.underlying24 rfl size24) rfl ⟨below_box hVb _ _ _, .inl ⟨HN.out, rfl⟩⟩
          · skip
            have i0 := cell_of_row _ _ 0 _ _ _ x1
            have i1 := cell_of_row _ _ 1 _ _ _ x1
            have i2 := cell_of_row _ _ 2 _ _ _ x1
            have f0 := frozen_of_row _ _ 0 _ 24 x1
            have f1 := frozen_of_row _ _ 1 _ 24 x1
            have f2 := frozen_of_row _ _ 2 _ 24 x1
            go_wp2_with fail
            exact bodyPost_ret (results_row_tmp rfl _ _ w.heap.size 24 _ (0, 0) _ rfl (laid_box x1 0 0 none 0 0) Try.underlying24 rfl size24) rfl ⟨below_box hVb _ _ _, .inl ⟨HN.out, rfl⟩⟩
end Go.Proofs.Ytbmgkgoghgdbhaa.Te
