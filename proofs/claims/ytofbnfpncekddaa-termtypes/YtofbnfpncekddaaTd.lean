/- What is wrong with a term: isNoType, wrongWith, termWrong, nest.checkEach and nest.Check of terms, both Checks. No conditions. -/
import Derived.Test.YtofbnfpncekddaaTc
namespace Go.Proofs.Ytofbnfpncekddaa.Te
open Go.RowKit

def noB (y : Ty) : Bool := decide (y.kind = 0) && decide (y.n = 0) && decide (y.kids.length = 0)
/-- what is wrong with a term, but for those in it -/
def wt1 (t : Tm) : Int := if t.kind < 1 ∨ 4 < t.kind then 4 else if t.kids.length ≠ (t.kind - 2).toNat then 1 else if t.n < 0 ∨ (2 < t.kind ∧ 0 < t.n) ∨ (t.kind ≠ 3 ∧ noB t.ty = false) then 3 else if t.kind = 3 then ck t.ty else 0
/-- what is wrong with a term -/
def wtm (t : Tm) : Int := if wt1 t ≠ 0 then wt1 t else fz (t.kids.map wtm)
termination_by SizeOf.sizeOf t
decreasing_by exact Tm.lt_kids ‹_›
theorem wtm_bad {t : Tm} (h : wt1 t ≠ 0) : wtm t = wt1 t := by rw [wtm, if_pos h]
theorem wtm_ok {t : Tm} (h : wt1 t = 0) : wtm t = fz (t.kids.map wtm) := by rw [wtm, if_neg (by simp [h])]
def ckm (t : Tm) : Int := if 400 < szm t then 7 else wtm t
theorem wt_kind {t : Tm} (h : t.kind < 1 ∨ 4 < t.kind) : wt1 t = 4 := by unfold wt1; rw [if_pos h]
theorem wt_form {t : Tm} (h : ¬ (t.kind < 1 ∨ 4 < t.kind)) (h1 : t.kids.length ≠ (t.kind - 2).toNat) : wt1 t = 1 := by unfold wt1; rw [if_neg h, if_pos h1]
theorem wt_range {t : Tm} (h : ¬ (t.kind < 1 ∨ 4 < t.kind)) (h1 : t.kids.length = (t.kind - 2).toNat) (h2 : t.n < 0 ∨ (2 < t.kind ∧ 0 < t.n) ∨ (t.kind ≠ 3 ∧ noB t.ty = false)) : wt1 t = 3 := by unfold wt1; rw [if_neg h, if_neg (by simp [h1]), if_pos h2]
theorem wt_fn {t : Tm} (h : t.kind = 3) (h1 : t.kids.length = 1) (h2 : t.n = 0) : wt1 t = ck t.ty := by unfold wt1; rw [if_neg (by omega), if_neg (by rw [h, h1]; decide), if_neg (by simp [h, h2]), if_pos h]
theorem wt_fine {t : Tm} (h : ¬ (t.kind < 1 ∨ 4 < t.kind)) (h3 : t.kind ≠ 3) (h1 : t.kids.length = (t.kind - 2).toNat) (h2 : 0 ≤ t.n) (h4 : 2 < t.kind → t.n = 0) (h5 : noB t.ty = true) : wt1 t = 0 := by
  unfold wt1
  rw [if_neg h, if_neg (by simp [h1]), if_neg (by rw [h5]; simp; omega), if_neg h3]
theorem noB_false {y : Ty} (h : noB y = false) : y.kind ≠ 0 ∨ (y.kind = 0 ∧ y.n ≠ 0) ∨ (y.kind = 0 ∧ y.n = 0 ∧ y.kids.length ≠ 0) := by
  unfold noB at h
  by_cases h1 : y.kind = 0
  · by_cases h2 : y.n = 0
    · by_cases h3 : y.kids.length = 0
      · rw [decide_eq_true h1, decide_eq_true h2, decide_eq_true h3] at h; cases h
      · exact .inr (.inr ⟨h1, h2, h3⟩)
    · exact .inr (.inl ⟨h1, h2⟩)
  · exact .inl h1
theorem noB_true {y : Ty} (h : noB y = true) : y.kind = 0 ∧ y.n = 0 ∧ y.kids.length = 0 := by
  unfold noB at h
  simpa [Bool.and_eq_true, and_assoc] using h
theorem noty_any (y : Ty) (b : Option Addr) (e0 : Nat) (w : World) : Calls Try.prog 36 #[vty y b e0] w fun e w' => e = .returned (.bool (noB y)) ∧ Below w.heap.size w w' := by
  obtain ⟨k, n, ks⟩ := y
  unfold vty
  have hfin : ∀ o, Below w.heap.size w (w.alloc o) := fun o => (Below.refl w.heap.size w).alloc (Nat.le_refl _) o
  cases hb : noB ⟨k, n, ks⟩
  · rcases noB_false hb with h | ⟨h, h'⟩ | ⟨h, h', h''⟩
    · have b1 : (k == 0) = false := by simp; exact h
      clear hb h
      go_enter Try.func36, Try.ntmps36
      go_wp2
      go_ret
      exact ⟨rfl, hfin _⟩
    · dsimp only at h h'
      subst h
      have b1 : (n == 0) = false := by simp; exact h'
      clear hb h'
      go_enter Try.func36, Try.ntmps36
      go_wp2
      go_ret
      exact ⟨rfl, hfin _⟩
    · dsimp only at h h' h''
      subst h h'
      obtain ⟨l, hl⟩ : ∃ l, ks.length = l := ⟨_, rfl⟩
      dsimp only
      rw [hl] at h'' ⊢
      have b1 : ((l : Int) == 0) = false := by simp; omega
      clear hb h'' hl
      go_enter Try.func36, Try.ntmps36
      go_wp2
      go_ret
      exact ⟨rfl, hfin _⟩
  · obtain ⟨h, h', h''⟩ := noB_true hb
    dsimp only at h h' h''
    dsimp only
    subst h h'
    rw [h'']
    clear hb h''
    go_enter Try.func36, Try.ntmps36
    go_wp2
    go_ret
    exact ⟨rfl, hfin _⟩
set_option maxHeartbeats 8000000 in
theorem wrong1m_any (t : Tm) (b : Option Addr) (e0 : Nat) (a : Option Addr) (c : Nat) (w : World) (hf : t.kids.length ≤ 140737488355328) (hy : ∃ d, TyAt w d t.ty b e0) : Calls Try.prog 20 #[vtm t b e0 a c] w fun e w' => e = .returned (.int .i64 (wt1 t)) ∧ Below w.heap.size w w' := by
  obtain ⟨R, hR⟩ : ∃ R, wt1 t = R := ⟨_, rfl⟩
  rw [hR]
  have HR0 : Hid (wt1 t = R) := hR
  obtain ⟨k, n, y, ks⟩ := t
  have K36 := fun w => noty_any y b e0 w
  have K10 : ∀ W', Below w.heap.size w W' → Calls Try.prog 10 #[vty y b e0] W' fun e w' => e = .returned (.int .i64 (ck y)) ∧ Below W'.heap.size W' w' := fun W' hW => by
    obtain ⟨d, hd⟩ := hy
    exact check_any d y b e0 W' (hd.below hW)
  unfold vty at K36 K10
  unfold vtm
  dsimp only at hf ⊢
  obtain ⟨W0, hW0⟩ : ∃ W0, w.alloc (.cells #[.int .i64 k, .int .i64 n, .int .i64 y.kind, .int .i64 y.n, .slice b y.kids.length e0, .slice a ks.length c] 27) = W0 := ⟨_, rfl⟩
  have hb0 : Below w.heap.size w W0 := hW0 ▸ (Below.refl w.heap.size w).alloc (Nat.le_refl _) _
  have hbx : W0.heap[w.heap.size]? = some (.cells #[.int .i64 k, .int .i64 n, .int .i64 y.kind, .int .i64 y.n, .slice b y.kids.length e0, .slice a ks.length c] 27 (0, 0)) := hW0 ▸ heap_alloc_new _ _
  have hsz : w.heap.size < W0.heap.size := hW0 ▸ (by simp)
  have HW0 : Hid (w.alloc (.cells #[.int .i64 k, .int .i64 n, .int .i64 y.kind, .int .i64 y.n, .slice b y.kids.length e0, .slice a ks.length c] 27) = W0) := hW0
  have RB : Hid (∀ W', Below W0.heap.size W0 W' → W'.cell? ⟨w.heap.size, 0, none⟩ = some (.int .i64 k) ∧ W'.cell? ⟨w.heap.size, 1, none⟩ = some (.int .i64 n) ∧ W'.cell? ⟨w.heap.size, 2, none⟩ = some (.int .i64 y.kind) ∧ W'.cell? ⟨w.heap.size, 3, none⟩ = some (.int .i64 y.n) ∧ W'.cell? ⟨w.heap.size, 4, none⟩ = some (.slice b y.kids.length e0) ∧ W'.cell? ⟨w.heap.size, 5, none⟩ = some (.slice a ks.length c)) := fun W' hW => ⟨(hW.cell (p := ⟨w.heap.size, 0, none⟩) hsz).trans (cell_of_row _ _ 0 _ 27 (0, 0) hbx), (hW.cell (p := ⟨w.heap.size, 1, none⟩) hsz).trans (cell_of_row _ _ 1 _ 27 (0, 0) hbx), (hW.cell (p := ⟨w.heap.size, 2, none⟩) hsz).trans (cell_of_row _ _ 2 _ 27 (0, 0) hbx), (hW.cell (p := ⟨w.heap.size, 3, none⟩) hsz).trans (cell_of_row _ _ 3 _ 27 (0, 0) hbx), (hW.cell (p := ⟨w.heap.size, 4, none⟩) hsz).trans (cell_of_row _ _ 4 _ 27 (0, 0) hbx), (hW.cell (p := ⟨w.heap.size, 5, none⟩) hsz).trans (cell_of_row _ _ 5 _ 27 (0, 0) hbx)⟩
  have hfin : ∀ {w1 : World}, Below W0.heap.size W0 w1 → Below w.heap.size w w1 := fun h => hb0.trans (h.mono hb0.size)
  have hbA : ∀ o, Below w.heap.size w (w.alloc o) := fun o => (Below.refl _ w).alloc (Nat.le_refl _) o
  clear hW0 hR hy hbx hsz
  by_cases hk : k < 1 ∨ 4 < k
  · have HR : Hid (R = 4) := HR0.out.symm.trans (wt_kind hk)
    have b1 : (k == 1) = false := by simp; omega
    have b2 : (k == 2) = false := by simp; omega
    have b3 : (k == 3) = false := by simp; omega
    have b4 : (k == 4) = false := by simp; omega
    clear hk K36 K10
    go_enter Try.func20, Try.ntmps20
    go_wp2
    go_ret
    exact ⟨by rw [HR.out]; rfl, by rw [HW0.out]; exact hb0⟩
  obtain ⟨nb, hnb⟩ : ∃ nb, noB y = nb := ⟨_, rfl⟩
  rw [hnb] at K36
  have hk4 : k = 1 ∨ k = 2 ∨ k = 3 ∨ k = 4 := by omega
  clear hk
  rcases hk4 with rfl | rfl | rfl | rfl
  · by_cases hl : ks.length = 0
    · by_cases h2 : n < 0
      · have HR : Hid (R = 3) := HR0.out.symm.trans (wt_range (by dsimp only; omega) (by rw [hl]; rfl) (.inl h2))
        have bl : (((ks.length : Nat) : Int) != 0) = false := by rw [hl]; rfl
        clear hl K36 K10
        go_enter Try.func20, Try.ntmps20
        go_wp2
        go_ret
        exact ⟨by rw [HR.out]; rfl, by rw [HW0.out]; exact hb0⟩
      by_cases h3 : 0 < n
      · cases nb
        · have HR : Hid (R = 3) := HR0.out.symm.trans (wt_range (by dsimp only; omega) (by rw [hl]; rfl) (.inr (.inr ⟨by dsimp only; omega, hnb⟩)))
          have bl : (((ks.length : Nat) : Int) != 0) = false := by rw [hl]; rfl
          clear hl K10
          go_enter Try.func20, Try.ntmps20
          go_wp2_with (go_at_call 36; (with_reducible refine (K36 _).mono ?_); rintro e w1 ⟨rfl, hb1⟩; rw [HW0.out] at hb1; have z := RB.out _ hb1; obtain ⟨z0, z1, z2, z3, z4, z5⟩ := z)
          go_ret
          exact ⟨by rw [HR.out]; rfl, hb0.trans (hb1.mono hb0.size)⟩
        · have HR : Hid (R = 0) := HR0.out.symm.trans (wt_fine (by dsimp only; omega) (by dsimp only; omega) (by rw [hl]; rfl) (by dsimp only; omega) (by dsimp only; omega) hnb)
          have bl : (((ks.length : Nat) : Int) != 0) = false := by rw [hl]; rfl
          clear hl K10
          go_enter Try.func20, Try.ntmps20
          go_wp2_with (go_at_call 36; (with_reducible refine (K36 _).mono ?_); rintro e w1 ⟨rfl, hb1⟩; rw [HW0.out] at hb1; have z := RB.out _ hb1; obtain ⟨z0, z1, z2, z3, z4, z5⟩ := z)
          go_ret
          exact ⟨by rw [HR.out]; rfl, hb0.trans (hb1.mono hb0.size)⟩
      · cases nb
        · have HR : Hid (R = 3) := HR0.out.symm.trans (wt_range (by dsimp only; omega) (by rw [hl]; rfl) (.inr (.inr ⟨by dsimp only; omega, hnb⟩)))
          have bl : (((ks.length : Nat) : Int) != 0) = false := by rw [hl]; rfl
          clear hl K10
          go_enter Try.func20, Try.ntmps20
          go_wp2_with (go_at_call 36; (with_reducible refine (K36 _).mono ?_); rintro e w1 ⟨rfl, hb1⟩; rw [HW0.out] at hb1; have z := RB.out _ hb1; obtain ⟨z0, z1, z2, z3, z4, z5⟩ := z)
          go_ret
          exact ⟨by rw [HR.out]; rfl, hb0.trans (hb1.mono hb0.size)⟩
        · have HR : Hid (R = 0) := HR0.out.symm.trans (wt_fine (by dsimp only; omega) (by dsimp only; omega) (by rw [hl]; rfl) (by dsimp only; omega) (by dsimp only; omega) hnb)
          have bl : (((ks.length : Nat) : Int) != 0) = false := by rw [hl]; rfl
          clear hl K10
          go_enter Try.func20, Try.ntmps20
          go_wp2_with (go_at_call 36; (with_reducible refine (K36 _).mono ?_); rintro e w1 ⟨rfl, hb1⟩; rw [HW0.out] at hb1; have z := RB.out _ hb1; obtain ⟨z0, z1, z2, z3, z4, z5⟩ := z)
          go_ret
          exact ⟨by rw [HR.out]; rfl, hb0.trans (hb1.mono hb0.size)⟩
    · have HR : Hid (R = 1) := HR0.out.symm.trans (wt_form (by dsimp only; omega) (by dsimp only; exact hl))
      have bl : (((ks.length : Nat) : Int) != 0) = true := bne_iff_ne.2 (by omega)
      clear hl K36 K10
      go_enter Try.func20, Try.ntmps20
      go_wp2
      go_ret
      exact ⟨by rw [HR.out]; rfl, by rw [HW0.out]; exact hb0⟩
  · by_cases hl : ks.length = 0
    · by_cases h2 : n < 0
      · have HR : Hid (R = 3) := HR0.out.symm.trans (wt_range (by dsimp only; omega) (by rw [hl]; rfl) (.inl h2))
        have bl : (((ks.length : Nat) : Int) != 0) = false := by rw [hl]; rfl
        clear hl K36 K10
        go_enter Try.func20, Try.ntmps20
        go_wp2
        go_ret
        exact ⟨by rw [HR.out]; rfl, by rw [HW0.out]; exact hb0⟩
      by_cases h3 : 0 < n
      · cases nb
        · have HR : Hid (R = 3) := HR0.out.symm.trans (wt_range (by dsimp only; omega) (by rw [hl]; rfl) (.inr (.inr ⟨by dsimp only; omega, hnb⟩)))
          have bl : (((ks.length : Nat) : Int) != 0) = false := by rw [hl]; rfl
          clear hl K10
          go_enter Try.func20, Try.ntmps20
          go_wp2_with (go_at_call 36; (with_reducible refine (K36 _).mono ?_); rintro e w1 ⟨rfl, hb1⟩; rw [HW0.out] at hb1; have z := RB.out _ hb1; obtain ⟨z0, z1, z2, z3, z4, z5⟩ := z)
          go_ret
          exact ⟨by rw [HR.out]; rfl, hb0.trans (hb1.mono hb0.size)⟩
        · have HR : Hid (R = 0) := HR0.out.symm.trans (wt_fine (by dsimp only; omega) (by dsimp only; omega) (by rw [hl]; rfl) (by dsimp only; omega) (by dsimp only; omega) hnb)
          have bl : (((ks.length : Nat) : Int) != 0) = false := by rw [hl]; rfl
          clear hl K10
          go_enter Try.func20, Try.ntmps20
          go_wp2_with (go_at_call 36; (with_reducible refine (K36 _).mono ?_); rintro e w1 ⟨rfl, hb1⟩; rw [HW0.out] at hb1; have z := RB.out _ hb1; obtain ⟨z0, z1, z2, z3, z4, z5⟩ := z)
          go_ret
          exact ⟨by rw [HR.out]; rfl, hb0.trans (hb1.mono hb0.size)⟩
      · cases nb
        · have HR : Hid (R = 3) := HR0.out.symm.trans (wt_range (by dsimp only; omega) (by rw [hl]; rfl) (.inr (.inr ⟨by dsimp only; omega, hnb⟩)))
          have bl : (((ks.length : Nat) : Int) != 0) = false := by rw [hl]; rfl
          clear hl K10
          go_enter Try.func20, Try.ntmps20
          go_wp2_with (go_at_call 36; (with_reducible refine (K36 _).mono ?_); rintro e w1 ⟨rfl, hb1⟩; rw [HW0.out] at hb1; have z := RB.out _ hb1; obtain ⟨z0, z1, z2, z3, z4, z5⟩ := z)
          go_ret
          exact ⟨by rw [HR.out]; rfl, hb0.trans (hb1.mono hb0.size)⟩
        · have HR : Hid (R = 0) := HR0.out.symm.trans (wt_fine (by dsimp only; omega) (by dsimp only; omega) (by rw [hl]; rfl) (by dsimp only; omega) (by dsimp only; omega) hnb)
          have bl : (((ks.length : Nat) : Int) != 0) = false := by rw [hl]; rfl
          clear hl K10
          go_enter Try.func20, Try.ntmps20
          go_wp2_with (go_at_call 36; (with_reducible refine (K36 _).mono ?_); rintro e w1 ⟨rfl, hb1⟩; rw [HW0.out] at hb1; have z := RB.out _ hb1; obtain ⟨z0, z1, z2, z3, z4, z5⟩ := z)
          go_ret
          exact ⟨by rw [HR.out]; rfl, hb0.trans (hb1.mono hb0.size)⟩
    · have HR : Hid (R = 1) := HR0.out.symm.trans (wt_form (by dsimp only; omega) (by dsimp only; exact hl))
      have bl : (((ks.length : Nat) : Int) != 0) = true := bne_iff_ne.2 (by omega)
      clear hl K36 K10
      go_enter Try.func20, Try.ntmps20
      go_wp2
      go_ret
      exact ⟨by rw [HR.out]; rfl, by rw [HW0.out]; exact hb0⟩
  · by_cases hl : ks.length = 1
    · by_cases h2 : n < 0
      · have HR : Hid (R = 3) := HR0.out.symm.trans (wt_range (by dsimp only; omega) (by rw [hl]; rfl) (.inl h2))
        have bl : (((ks.length : Nat) : Int) != 1) = false := by rw [hl]; rfl
        clear hl K36 K10
        go_enter Try.func20, Try.ntmps20
        go_wp2
        go_ret
        exact ⟨by rw [HR.out]; rfl, by rw [HW0.out]; exact hb0⟩
      by_cases h3 : 0 < n
      · have HR : Hid (R = 3) := HR0.out.symm.trans (wt_range (by dsimp only; omega) (by rw [hl]; rfl) (.inr (.inl ⟨by dsimp only; omega, h3⟩)))
        have bl : (((ks.length : Nat) : Int) != 1) = false := by rw [hl]; rfl
        clear hl K36 K10
        go_enter Try.func20, Try.ntmps20
        go_wp2
        go_ret
        exact ⟨by rw [HR.out]; rfl, by rw [HW0.out]; exact hb0⟩
      have e0n : n = 0 := by omega
      subst e0n
      have HR : Hid (R = ck y) := HR0.out.symm.trans (wt_fn rfl hl rfl)
      have bl : (((ks.length : Nat) : Int) != 1) = false := by rw [hl]; rfl
      clear hl K36
      go_enter Try.func20, Try.ntmps20
      go_wp2_with (go_at_call 10; (with_reducible refine (K10 _ (hbA _)).mono ?_); rintro e w1 ⟨rfl, hb1⟩; rw [HW0.out] at hb1)
      go_ret
      exact ⟨by rw [HR.out]; rfl, hb0.trans (hb1.mono hb0.size)⟩
    · have HR : Hid (R = 1) := HR0.out.symm.trans (wt_form (by dsimp only; omega) (by dsimp only; exact hl))
      have bl : (((ks.length : Nat) : Int) != 1) = true := bne_iff_ne.2 (by omega)
      clear hl K36 K10
      go_enter Try.func20, Try.ntmps20
      go_wp2
      go_ret
      exact ⟨by rw [HR.out]; rfl, by rw [HW0.out]; exact hb0⟩
  · by_cases hl : ks.length = 2
    · by_cases h2 : n < 0
      · have HR : Hid (R = 3) := HR0.out.symm.trans (wt_range (by dsimp only; omega) (by rw [hl]; rfl) (.inl h2))
        have bl : (((ks.length : Nat) : Int) != 2) = false := by rw [hl]; rfl
        clear hl K36 K10
        go_enter Try.func20, Try.ntmps20
        go_wp2
        go_ret
        exact ⟨by rw [HR.out]; rfl, by rw [HW0.out]; exact hb0⟩
      by_cases h3 : 0 < n
      · have HR : Hid (R = 3) := HR0.out.symm.trans (wt_range (by dsimp only; omega) (by rw [hl]; rfl) (.inr (.inl ⟨by dsimp only; omega, h3⟩)))
        have bl : (((ks.length : Nat) : Int) != 2) = false := by rw [hl]; rfl
        clear hl K36 K10
        go_enter Try.func20, Try.ntmps20
        go_wp2
        go_ret
        exact ⟨by rw [HR.out]; rfl, by rw [HW0.out]; exact hb0⟩
      have e0n : n = 0 := by omega
      subst e0n
      cases nb
      · have HR : Hid (R = 3) := HR0.out.symm.trans (wt_range (by dsimp only; omega) (by rw [hl]; rfl) (.inr (.inr ⟨by dsimp only; omega, hnb⟩)))
        have bl : (((ks.length : Nat) : Int) != 2) = false := by rw [hl]; rfl
        clear hl K10
        go_enter Try.func20, Try.ntmps20
        go_wp2_with (go_at_call 36; (with_reducible refine (K36 _).mono ?_); rintro e w1 ⟨rfl, hb1⟩; rw [HW0.out] at hb1; have z := RB.out _ hb1; obtain ⟨z0, z1, z2, z3, z4, z5⟩ := z)
        go_ret
        exact ⟨by rw [HR.out]; rfl, hb0.trans (hb1.mono hb0.size)⟩
      · have HR : Hid (R = 0) := HR0.out.symm.trans (wt_fine (by dsimp only; omega) (by dsimp only; omega) (by rw [hl]; rfl) (by dsimp only; omega) (by dsimp only; omega) hnb)
        have bl : (((ks.length : Nat) : Int) != 2) = false := by rw [hl]; rfl
        clear hl K10
        go_enter Try.func20, Try.ntmps20
        go_wp2_with (go_at_call 36; (with_reducible refine (K36 _).mono ?_); rintro e w1 ⟨rfl, hb1⟩; rw [HW0.out] at hb1; have z := RB.out _ hb1; obtain ⟨z0, z1, z2, z3, z4, z5⟩ := z)
        go_ret
        exact ⟨by rw [HR.out]; rfl, hb0.trans (hb1.mono hb0.size)⟩
    · have HR : Hid (R = 1) := HR0.out.symm.trans (wt_form (by dsimp only; omega) (by dsimp only; exact hl))
      have bl : (((ks.length : Nat) : Int) != 2) = true := bne_iff_ne.2 (by omega)
      clear hl K36 K10
      go_enter Try.func20, Try.ntmps20
      go_wp2
      go_ret
      exact ⟨by rw [HR.out]; rfl, by rw [HW0.out]; exact hb0⟩
end Go.Proofs.Ytofbnfpncekddaa.Te
