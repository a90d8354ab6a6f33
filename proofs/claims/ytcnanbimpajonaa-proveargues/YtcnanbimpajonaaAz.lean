/- Against and Argue: what they hand back. No conditions but that the premises lie in memory. -/
import Derived.Test.YtcnanbimpajonaaAy
import Derived.Test.YtcnanbimpajonaaPk
namespace Go.Proofs.Ytcnanbimpajonaa.Az
open Go.RowKit Cl Cf Cs Ce Hd He Ag Kp Nd Au Ri Pn Pq Pk Ay

theorem check_ok {ps : List C} {c : C} (h : checkAllP ps c = 0) : ps.length ≤ 20 ∧ (∀ p ∈ ps, okC p = true) ∧ okC c = true := by
  unfold checkAllP at h
  by_cases h1 : 20 < ps.length
  · rw [if_pos h1] at h; cases h
  · rw [if_neg h1] at h
    by_cases h2 : ckAll ps = 0
    · rw [if_pos h2] at h
      refine ⟨by omega, ?_, ?_⟩
      · unfold ckAll at h2
        cases h3 : ps.all okC with
        | true => exact List.all_eq_true.1 h3
        | false => rw [h3] at h2; cases h2
      · unfold ckC at h
        cases h3 : okC c with
        | true => rfl
        | false => rw [h3] at h; cases h
    · rw [if_neg h2] at h
      exact absurd h h2

/-- what Against hands back -/
def Told3 (ps : List C) (c : C) (e : Ending) (w' : World) : Prop :=
  (againstB ps c = false ∧ e = .returned (.tuple #[.slice none 0 0, .bool false, .int .i64 0])) ∨ (againstB ps c = true ∧ ∃ a n k, e = .returned (.tuple #[.slice a n k, .bool true, .int .i64 0]) ∧ IsI w' (.slice a n k) (worldL ps c))

set_option maxHeartbeats 4000000 in
set_option maxRecDepth 100000 in
theorem against_ok (ps : List C) (c : C) (vp : Value) (w : World) (hp : IsC w vp ps) (h : checkAllP ps c = 0) :
    Calls Try.prog 6 #[vp, vc c] w fun e w' => Told3 ps c e w' ∧ Below w.heap.size w w' := by
  obtain ⟨h1, h2, h3⟩ := check_ok h
  have hb0 : ∀ o, Below w.heap.size w (w.alloc o) := fun o => (Below.refl _ w).alloc (Nat.le_refl _) o
  have hb1 : ∀ o W, Below (w.alloc o).heap.size (w.alloc o) W → Below w.heap.size w W := fun o W hW => (hb0 o).trans (hW.mono (hb0 o).size)
  have k16 := fun W (hW : Below w.heap.size w W) => checkAll_any vp ps c W (IsC.below hp hW)
  have k20 := fun W (hW : Below w.heap.size w W) => against_any ps c vp W (IsC.below hp hW) h2 h3 h1
  rw [h] at k16
  obtain ⟨_, ap, kp, hv, _, _⟩ := hp
  subst hv
  cases ha : againstB ps c with
  | false =>
    have k20' : ∀ W (_ : Below w.heap.size w W), Calls Try.prog 20 #[.slice ap ps.length kp, vc c] W fun e w' => e = .returned (.tuple #[.slice none 0 0, .bool false]) ∧ Below W.heap.size W w' := fun W hW => (k20 W hW).mono fun e w' ⟨ht, hb⟩ => by
      rcases ht with ⟨_, e1⟩ | ⟨h1, _⟩
      · exact ⟨e1, hb⟩
      · rw [ha] at h1; cases h1
    have HA : Hid _ := ha
    obtain ⟨c0, c1, c2⟩ := c
    unfold vc at k16 k20' ⊢
    dsimp only at k16 k20' ⊢
    clear h h1 h2 h3 k20 ha
    go_enter Try.func6, Try.ntmps6
    go_wp2_with (first | (go_at_call 16; refine (k16 _ (hb0 _)).mono ?_; rintro e w2 ⟨rfl, hb2⟩; have H2 : Hid (Below w.heap.size w w2) := hb1 _ _ hb2; have g := (hb2.block w.heap.size (by simp)).trans (heap_alloc_new w _); have r0 := cell_of_row _ _ 0 _ 24 (0, 0) g; have r1 := cell_of_row _ _ 1 _ 24 (0, 0) g; have r2 := cell_of_row _ _ 2 _ 24 (0, 0) g; dsimp at r0 r1 r2; clear hb2 k16 g) | (go_at_call 20; refine (k20' _ H2.out).mono ?_; rintro e w3 ⟨rfl, hb3⟩; have H3 : Hid (Below w.heap.size w w3) := H2.out.trans (hb3.mono H2.out.size); clear hb3 k20'))
    go_ret3
    exact ⟨.inl ⟨HA.out, rfl⟩, H3.out⟩
  | true =>
    have k20' : ∀ W (_ : Below w.heap.size w W), Calls Try.prog 20 #[.slice ap ps.length kp, vc c] W fun e w' => ∃ a n k, e = .returned (.tuple #[.slice a n k, .bool true]) ∧ IsI w' (.slice a n k) (worldL ps c) ∧ Below W.heap.size W w' := fun W hW => (k20 W hW).mono fun e w' ⟨ht, hb⟩ => by
      rcases ht with ⟨h1, _⟩ | ⟨_, v, e1, hI⟩
      · rw [ha] at h1; cases h1
      · obtain ⟨_, a, k, hv, _⟩ := id hI
        subst hv
        exact ⟨a, _, k, e1, hI, hb⟩
    have HA : Hid _ := ha
    obtain ⟨c0, c1, c2⟩ := c
    unfold vc at k16 k20' ⊢
    dsimp only at k16 k20' ⊢
    clear h h1 h2 h3 k20 ha
    go_enter Try.func6, Try.ntmps6
    go_wp2_with (first | (go_at_call 16; refine (k16 _ (hb0 _)).mono ?_; rintro e w2 ⟨rfl, hb2⟩; have H2 : Hid (Below w.heap.size w w2) := hb1 _ _ hb2; have g := (hb2.block w.heap.size (by simp)).trans (heap_alloc_new w _); have r0 := cell_of_row _ _ 0 _ 24 (0, 0) g; have r1 := cell_of_row _ _ 1 _ 24 (0, 0) g; have r2 := cell_of_row _ _ 2 _ 24 (0, 0) g; dsimp at r0 r1 r2; clear hb2 k16 g) | (go_at_call 20; refine (k20' _ H2.out).mono ?_; rintro e w3 ⟨a, n, k, rfl, hI, hb3⟩; have HI : Hid _ := hI; have H3 : Hid (Below w.heap.size w w3) := H2.out.trans (hb3.mono H2.out.size); clear hb3 hI k20'))
    go_ret3
    exact ⟨.inr ⟨HA.out, a, n, k, rfl, HI.out⟩, H3.out⟩

set_option maxHeartbeats 4000000 in
set_option maxRecDepth 100000 in
theorem against_bad (ps : List C) (c : C) (vp : Value) (w : World) (hp : IsC w vp ps) (h : checkAllP ps c ≠ 0) :
    Calls Try.prog 6 #[vp, vc c] w fun e w' => e = .returned (.tuple #[.slice none 0 0, .bool false, .int .i64 (checkAllP ps c)]) ∧ Below w.heap.size w w' := by
  have hb0 : ∀ o, Below w.heap.size w (w.alloc o) := fun o => (Below.refl _ w).alloc (Nat.le_refl _) o
  have k16 := fun W (hW : Below w.heap.size w W) => checkAll_any vp ps c W (IsC.below hp hW)
  obtain ⟨x, hx⟩ : ∃ x, checkAllP ps c = x := ⟨_, rfl⟩
  rw [hx] at h k16 ⊢
  have d : (x != 0) = true := by simpa using h
  obtain ⟨_, ap, kp, hv, _, _⟩ := hp
  subst hv
  obtain ⟨c0, c1, c2⟩ := c
  unfold vc at k16 ⊢
  dsimp only at k16 ⊢
  clear hx h
  go_enter Try.func6, Try.ntmps6
  go_wp2_with (go_at_call 16; refine (k16 _ (hb0 _)).mono ?_; rintro e w2 ⟨rfl, hb2⟩; have H2 : Hid (Below w.heap.size w w2) := (hb0 _).trans (hb2.mono (hb0 _).size); clear hb2 k16)
  go_ret3
  exact ⟨rfl, H2.out⟩
set_option maxHeartbeats 4000000 in
set_option maxRecDepth 100000 in
theorem argue_bad (ps : List C) (c : C) (vp : Value) (w : World) (hp : IsC w vp ps) (h : checkAllP ps c ≠ 0) :
    Calls Try.prog 5 #[vp, vc c] w fun e w' => e = .returned (.tuple #[.slice none 0 0, .bool false, .int .i64 (checkAllP ps c)]) ∧ Below w.heap.size w w' := by
  have hb0 : ∀ o, Below w.heap.size w (w.alloc o) := fun o => (Below.refl _ w).alloc (Nat.le_refl _) o
  have k16 := fun W (hW : Below w.heap.size w W) => checkAll_any vp ps c W (IsC.below hp hW)
  obtain ⟨x, hx⟩ : ∃ x, checkAllP ps c = x := ⟨_, rfl⟩
  rw [hx] at h k16 ⊢
  have d : (x != 0) = true := by simpa using h
  obtain ⟨_, ap, kp, hv, _, _⟩ := hp
  subst hv
  obtain ⟨c0, c1, c2⟩ := c
  unfold vc at k16 ⊢
  dsimp only at k16 ⊢
  clear hx h
  go_enter Try.func5, Try.ntmps5
  go_wp2_with (go_at_call 16; refine (k16 _ (hb0 _)).mono ?_; rintro e w2 ⟨rfl, hb2⟩; have H2 : Hid (Below w.heap.size w w2) := (hb0 _).trans (hb2.mono (hb0 _).size); clear hb2 k16)
  go_ret3
  exact ⟨rfl, H2.out⟩

/-- right lines, few, that end with the goal, as they lie -/
def Lines (ps : List C) (g : C) (w : World) (v : Value) : Prop :=
  ∃ (Z : List (Ln × Value)) (a : Option Addr) (k : Nat), v = .slice a Z.length k ∧ Z.length ≤ k ∧ IsL w v Z ∧ Z.length ≤ 288 ∧ (∀ z ∈ Z, okC z.1.2.1 = true ∧ z.1.2.2.length ≤ 2) ∧ (∀ m (h : m < Z.length), soundL ps ((Z.map Prod.fst).take m) (Z[m]).1 = true) ∧ ∃ K z, Z = K ++ [z] ∧ z.1.2.1 = g
/-- what Argue hands back -/
def Argued3 (ps : List C) (g : C) (e : Ending) (w' : World) : Prop :=
  (againstB ps g = true ∧ e = .returned (.tuple #[.slice none 0 0, .bool false, .int .i64 0])) ∨ (againstB ps g = false ∧ (∃ L, GoodL ps L ∧ In L g) ∧ ∃ v, e = .returned (.tuple #[v, .bool true, .int .i64 0]) ∧ Lines ps g w' v)
end Go.Proofs.Ytcnanbimpajonaa.Az
