/- fill's tables in plain words: what is right at a place, what the next place leaves as it is. No program text; no conditions. -/
import Derived.Test.YtpolnkdbebjpnaaNb
import Derived.Test.YtpolnkdbebjpnaaPe
namespace Go.Proofs.Ytpolnkdbebjpnaa.Hd
open Go.RowKit

/-- a pair of numbers is put at a place -/
def up2 (C : Nat → Int) (f e a b : Nat) (x y : Int) : Nat → Int := upC (upC C (ix f e a b) x) (ix f e a b + 1) y
theorem up2_val (C : Nat → Int) (f e a b : Nat) (x y : Int) : up2 C f e a b x y (ix f e a b) = x := by
  unfold up2 upC
  rw [if_neg (by omega), if_pos rfl]
theorem up2_at (C : Nat → Int) (f e a b : Nat) (x y : Int) : up2 C f e a b x y (ix f e a b + 1) = y := by
  unfold up2 upC
  rw [if_pos rfl]
/-- places within the tables -/
def inT (f e a b : Nat) : Prop := f < 2 ∧ e < 2 ∧ a < 13 ∧ b < 13
theorem up2_ne (C : Nat → Int) {f e a b f' e' a' b' : Nat} (x y : Int) (h : inT f e a b) (h' : inT f' e' a' b') (hne : ¬ (f' = f ∧ e' = e ∧ a' = a ∧ b' = b)) : up2 C f e a b x y (ix f' e' a' b') = C (ix f' e' a' b') ∧ up2 C f e a b x y (ix f' e' a' b' + 1) = C (ix f' e' a' b' + 1) := by
  obtain ⟨h1, h2, h3, h4⟩ := h
  obtain ⟨k1, k2, k3, k4⟩ := h'
  unfold up2 upC ix
  constructor
  · rw [if_neg (by omega), if_neg (by omega)]
  · rw [if_neg (by omega), if_neg (by omega)]
theorem Pz.set2 {W : World} {p : Nat} {C : Nat → Int} (h : Pz W p C) (f e a b : Nat) (x y : Int) (hi : inT f e a b) : Pz ((W.setCell ⟨p, ix f e a b, none⟩ (.int .i64 x)).setCell ⟨p, ix f e a b + 1, none⟩ (.int .i64 y)) p (up2 C f e a b x y) := by
  obtain ⟨h1, h2, h3, h4⟩ := hi
  have hl := ix_lt h1 h2 h3 h4
  exact (h.set _ _ (by omega)).set _ _ hl
/-- end 0 is right at a place -/
structure Ok0 (s : Nat → Nat → Int) (C : Nat → Int) (a b : Nat) : Prop where
  bx : ∃ P : Nat, a ≤ P ∧ P < b ∧ C (ix 0 0 a b + 1) = (P : Int) ∧ C (ix 0 0 a b) = C (ix 1 0 a P) + C (ix 1 1 (P + 1) b) + s a b
  bm : ∀ p, a ≤ p → p < b → C (ix 1 0 a p) + C (ix 1 1 (p + 1) b) + s a b ≤ C (ix 0 0 a b)
  wx : ∃ c : Nat, a < c ∧ c ≤ b ∧ C (ix 1 0 a b + 1) = (c : Int) ∧ C (ix 1 0 a b) = C (ix 0 0 a c) + C (ix 1 0 c b)
  wm : ∀ c, a < c → c ≤ b → C (ix 0 0 a c) + C (ix 1 0 c b) ≤ C (ix 1 0 a b)
/-- end 1 is right at a place -/
structure Ok1 (s : Nat → Nat → Int) (C : Nat → Int) (a b : Nat) : Prop where
  bx : ∃ P : Nat, a ≤ P ∧ P < b ∧ C (ix 0 1 a b + 1) = (P : Int) ∧ C (ix 0 1 a b) = C (ix 1 0 a P) + C (ix 1 1 (P + 1) b) + s b a
  bm : ∀ p, a ≤ p → p < b → C (ix 1 0 a p) + C (ix 1 1 (p + 1) b) + s b a ≤ C (ix 0 1 a b)
  wx : ∃ c : Nat, a ≤ c ∧ c < b ∧ C (ix 1 1 a b + 1) = (c : Int) ∧ C (ix 1 1 a b) = C (ix 1 1 a c) + C (ix 0 1 c b)
  wm : ∀ c, a ≤ c → c < b → C (ix 1 1 a c) + C (ix 0 1 c b) ≤ C (ix 1 1 a b)
/-- the tables read the same within a piece -/
def Eqv (C C' : Nat → Int) (a b : Nat) : Prop := ∀ f e a' b', f < 2 → e < 2 → a ≤ a' → a' ≤ b' → b' ≤ b → C' (ix f e a' b') = C (ix f e a' b') ∧ C' (ix f e a' b' + 1) = C (ix f e a' b' + 1)
theorem Ok0.eqv {s : Nat → Nat → Int} {C C' : Nat → Int} {a b : Nat} (h : Ok0 s C a b) (he : Eqv C C' a b) (hab : a < b) : Ok0 s C' a b := by
  obtain ⟨⟨P, p1, p2, p3, p4⟩, h2, ⟨c, c1, c2, c3, c4⟩, h4⟩ := h
  have e1 := he 0 0 a b (by decide) (by decide) (Nat.le_refl _) (by omega) (Nat.le_refl _)
  have e2 := he 1 0 a b (by decide) (by decide) (Nat.le_refl _) (by omega) (Nat.le_refl _)
  refine ⟨⟨P, p1, p2, by rw [e1.2, p3], ?_⟩, fun p h1 h3 => ?_, ⟨c, c1, c2, by rw [e2.2, c3], ?_⟩, fun c h1 h3 => ?_⟩
  · rw [e1.1, p4, (he 1 0 a P (by decide) (by decide) (by omega) (by omega) (by omega)).1, (he 1 1 (P + 1) b (by decide) (by decide) (by omega) (by omega) (by omega)).1]
  · rw [e1.1, (he 1 0 a p (by decide) (by decide) (by omega) (by omega) (by omega)).1, (he 1 1 (p + 1) b (by decide) (by decide) (by omega) (by omega) (by omega)).1]
    exact h2 p h1 h3
  · rw [e2.1, c4, (he 0 0 a c (by decide) (by decide) (by omega) (by omega) (by omega)).1, (he 1 0 c b (by decide) (by decide) (by omega) (by omega) (by omega)).1]
  · rw [e2.1, (he 0 0 a c (by decide) (by decide) (by omega) (by omega) (by omega)).1, (he 1 0 c b (by decide) (by decide) (by omega) (by omega) (by omega)).1]
    exact h4 c h1 h3
theorem Ok1.eqv {s : Nat → Nat → Int} {C C' : Nat → Int} {a b : Nat} (h : Ok1 s C a b) (he : Eqv C C' a b) (hab : a < b) : Ok1 s C' a b := by
  obtain ⟨⟨P, p1, p2, p3, p4⟩, h2, ⟨c, c1, c2, c3, c4⟩, h4⟩ := h
  have e1 := he 0 1 a b (by decide) (by decide) (Nat.le_refl _) (by omega) (Nat.le_refl _)
  have e2 := he 1 1 a b (by decide) (by decide) (Nat.le_refl _) (by omega) (Nat.le_refl _)
  refine ⟨⟨P, p1, p2, by rw [e1.2, p3], ?_⟩, fun p h1 h3 => ?_, ⟨c, c1, c2, by rw [e2.2, c3], ?_⟩, fun c h1 h3 => ?_⟩
  · rw [e1.1, p4, (he 1 0 a P (by decide) (by decide) (by omega) (by omega) (by omega)).1, (he 1 1 (P + 1) b (by decide) (by decide) (by omega) (by omega) (by omega)).1]
  · rw [e1.1, (he 1 0 a p (by decide) (by decide) (by omega) (by omega) (by omega)).1, (he 1 1 (p + 1) b (by decide) (by decide) (by omega) (by omega) (by omega)).1]
    exact h2 p h1 h3
  · rw [e2.1, c4, (he 1 1 a c (by decide) (by decide) (by omega) (by omega) (by omega)).1, (he 0 1 c b (by decide) (by decide) (by omega) (by omega) (by omega)).1]
  · rw [e2.1, (he 1 1 a c (by decide) (by decide) (by omega) (by omega) (by omega)).1, (he 0 1 c b (by decide) (by decide) (by omega) (by omega) (by omega)).1]
    exact h4 c h1 h3
/-- the numbers' size: a piece is worth no more than its words -/
def Bd (C : Nat → Int) : Prop := ∀ f e a b, inT f e a b → (-(1000000 * ((b - a : Nat) : Int)) ≤ C (ix f e a b) ∧ C (ix f e a b) ≤ 1000000 * ((b - a : Nat) : Int)) ∧ 0 ≤ C (ix f e a b + 1) ∧ C (ix f e a b + 1) ≤ 12
theorem Bd.cs {C : Nat → Int} (h : Bd C) : Cs C := fun i hi => by
  have h1 := h (i / 676) ((i % 676) / 338) ((i % 338) / 26) ((i % 26) / 2) ⟨by omega, by omega, by omega, by omega⟩
  have hd : ((i % 26) / 2 - (i % 338) / 26 : Nat) ≤ 12 := by omega
  rcases Nat.mod_two_eq_zero_or_one i with e | e
  · have e2 : ix (i / 676) ((i % 676) / 338) ((i % 338) / 26) ((i % 26) / 2) = i := by unfold ix; omega
    rw [e2] at h1
    omega
  · have e2 : ix (i / 676) ((i % 676) / 338) ((i % 338) / 26) ((i % 26) / 2) + 1 = i := by unfold ix; omega
    rw [e2] at h1
    omega
theorem Bd.up2 {C : Nat → Int} (h : Bd C) {f e a b : Nat} {x : Int} {P : Nat} (hi : inT f e a b) (hx : -(1000000 * ((b - a : Nat) : Int)) ≤ x ∧ x ≤ 1000000 * ((b - a : Nat) : Int)) (hP : P ≤ 12) : Bd (up2 C f e a b x (P : Int)) := fun f' e' a' b' h' => by
  by_cases hne : f' = f ∧ e' = e ∧ a' = a ∧ b' = b
  · obtain ⟨rfl, rfl, rfl, rfl⟩ := hne
    rw [up2_val, up2_at]
    exact ⟨hx, by omega, by omega⟩
  · rw [(up2_ne C x (P : Int) hi h' hne).1, (up2_ne C x (P : Int) hi h' hne).2]
    exact h f' e' a' b' h'
/-- a place is filled: all else is as it was -/
structure Ft (s : Nat → Nat → Int) (a b : Nat) (C C' : Nat → Int) : Prop where
  old : ∀ f e a' b', inT f e a' b' → ¬ (a' = a ∧ b' = b) → C' (ix f e a' b') = C (ix f e a' b') ∧ C' (ix f e a' b' + 1) = C (ix f e a' b' + 1)
  z : Ok0 s C' a b
  o : 1 ≤ a → Ok1 s C' a b
  bd : Bd C'
section
variable {s : Nat → Nat → Int} {C : Nat → Int} {a b : Nat}
/-- behind the bow that hangs on its left end -/
theorem bow_bd (h : Bd C) {e : Nat} (he : e < 2) {P : Nat} {y : Int} (hab : a < b) (hb : b < 13) (h1 : a ≤ P) (h2 : P < b) (hy : -1000000 ≤ y ∧ y ≤ 1000000) : Bd (up2 C 0 e a b (C (ix 1 0 a P) + C (ix 1 1 (P + 1) b) + y) (P : Int)) := by
  refine h.up2 ⟨by decide, he, by omega, hb⟩ ?_ (by omega)
  have k1 := (h 1 0 a P ⟨by decide, by decide, by omega, by omega⟩).1
  have k2 := (h 1 1 (P + 1) b ⟨by decide, by decide, by omega, by omega⟩).1
  omega
theorem who_bd (h : Bd C) {e f1 f2 e1 e2 : Nat} (he : e < 2) (hf1 : f1 < 2) (hf2 : f2 < 2) (he1 : e1 < 2) (he2 : e2 < 2) {c : Nat} (hab : a < b) (hb : b < 13) (h1 : a ≤ c) (h2 : c ≤ b) : Bd (up2 C 1 e a b (C (ix f1 e1 a c) + C (ix f2 e2 c b)) (c : Int)) := by
  refine h.up2 ⟨by decide, he, by omega, hb⟩ ?_ (by omega)
  have k1 := (h f1 e1 a c ⟨hf1, he1, by omega, by omega⟩).1
  have k2 := (h f2 e2 c b ⟨hf2, he2, by omega, by omega⟩).1
  omega
/-- the two stores of end 0 -/
theorem fill0 (hbd : Bd C) (hab : a < b) (hb : b < 13) {P c : Nat} (hP1 : a ≤ P) (hP2 : P < b) (hPm : ∀ p, a ≤ p → p ≤ b - 1 → C (ix 1 0 a p) + C (ix 1 1 (p + 1) b) ≤ C (ix 1 0 a P) + C (ix 1 1 (P + 1) b)) {C1 : Nat → Int} (hC1 : C1 = up2 C 0 0 a b (C (ix 1 0 a P) + C (ix 1 1 (P + 1) b) + s a b) (P : Int))
    (hc1 : a < c) (hc2 : c ≤ b) (hcm : ∀ x, a + 1 ≤ x → x ≤ b → C1 (ix 0 0 a x) + C1 (ix 1 0 x b) ≤ C1 (ix 0 0 a c) + C1 (ix 1 0 c b)) (hy : -1000000 ≤ s a b ∧ s a b ≤ 1000000) {C2 : Nat → Int} (hC2 : C2 = up2 C1 1 0 a b (C1 (ix 0 0 a c) + C1 (ix 1 0 c b)) (c : Int)) :
    (∀ f e a' b', inT f e a' b' → ¬ (e = 0 ∧ a' = a ∧ b' = b) → C2 (ix f e a' b') = C (ix f e a' b') ∧ C2 (ix f e a' b' + 1) = C (ix f e a' b' + 1)) ∧ Ok0 s C2 a b ∧ Bd C2 := by
  have i0 : inT 0 0 a b := ⟨by decide, by decide, by omega, hb⟩
  have i1 : inT 1 0 a b := ⟨by decide, by decide, by omega, hb⟩
  have o1 : ∀ f e a' b', inT f e a' b' → ¬ (f = 0 ∧ e = 0 ∧ a' = a ∧ b' = b) → C1 (ix f e a' b') = C (ix f e a' b') ∧ C1 (ix f e a' b' + 1) = C (ix f e a' b' + 1) := fun f e a' b' h h2 => by rw [hC1]; exact up2_ne C _ _ i0 h h2
  have o2 : ∀ f e a' b', inT f e a' b' → ¬ (f = 1 ∧ e = 0 ∧ a' = a ∧ b' = b) → C2 (ix f e a' b') = C1 (ix f e a' b') ∧ C2 (ix f e a' b' + 1) = C1 (ix f e a' b' + 1) := fun f e a' b' h h2 => by rw [hC2]; exact up2_ne C1 _ _ i1 h h2
  have v1 : C1 (ix 0 0 a b) = C (ix 1 0 a P) + C (ix 1 1 (P + 1) b) + s a b ∧ C1 (ix 0 0 a b + 1) = (P : Int) := by rw [hC1]; exact ⟨up2_val _ _ _ _ _ _ _, up2_at _ _ _ _ _ _ _⟩
  have v2 : C2 (ix 1 0 a b) = C1 (ix 0 0 a c) + C1 (ix 1 0 c b) ∧ C2 (ix 1 0 a b + 1) = (c : Int) := by rw [hC2]; exact ⟨up2_val _ _ _ _ _ _ _, up2_at _ _ _ _ _ _ _⟩
  have q1 : ∀ p, a ≤ p → p < b → C2 (ix 1 0 a p) = C (ix 1 0 a p) ∧ C2 (ix 1 1 (p + 1) b) = C (ix 1 1 (p + 1) b) := fun p h1 h2 => by
    rw [(o2 1 0 a p ⟨by decide, by decide, by omega, by omega⟩ (by omega)).1, (o1 1 0 a p ⟨by decide, by decide, by omega, by omega⟩ (by omega)).1, (o2 1 1 (p + 1) b ⟨by decide, by decide, by omega, by omega⟩ (by omega)).1, (o1 1 1 (p + 1) b ⟨by decide, by decide, by omega, by omega⟩ (by omega)).1]
    exact ⟨rfl, rfl⟩
  have q0 := o2 0 0 a b i0 (by omega)
  have q2 : ∀ x, a < x → x ≤ b → C2 (ix 0 0 a x) = C1 (ix 0 0 a x) ∧ C2 (ix 1 0 x b) = C1 (ix 1 0 x b) := fun x h1 h2 => ⟨(o2 0 0 a x ⟨by decide, by decide, by omega, by omega⟩ (by omega)).1, (o2 1 0 x b ⟨by decide, by decide, by omega, by omega⟩ (by omega)).1⟩
  refine ⟨fun f e a' b' h h2 => ?_, ⟨⟨P, hP1, hP2, by rw [q0.2, v1.2], by rw [q0.1, v1.1, (q1 P hP1 hP2).1, (q1 P hP1 hP2).2]⟩, fun p h1 h2 => ?_, ⟨c, hc1, hc2, v2.2, by rw [v2.1, (q2 c hc1 hc2).1, (q2 c hc1 hc2).2]⟩, fun x h1 h2 => ?_⟩, ?_⟩
  · rw [(o2 f e a' b' h (by omega)).1, (o2 f e a' b' h (by omega)).2]
    exact o1 f e a' b' h (by omega)
  · rw [q0.1, v1.1, (q1 p h1 h2).1, (q1 p h1 h2).2]
    have := hPm p h1 (by omega)
    omega
  · rw [(q2 x h1 h2).1, (q2 x h1 h2).2, v2.1]
    exact hcm x h1 h2
  · have hb1 : Bd C1 := by rw [hC1]; exact bow_bd hbd (by decide) hab hb hP1 hP2 hy
    rw [hC2]
    exact who_bd hb1 (by decide) (by decide) (by decide) (by decide) (by decide) hab hb (by omega) hc2
/-- the two stores of end 1 -/
theorem fill1 (hbd : Bd C) (hab : a < b) (hb : b < 13) {P c : Nat} (hP1 : a ≤ P) (hP2 : P < b) (hPm : ∀ p, a ≤ p → p ≤ b - 1 → C (ix 1 0 a p) + C (ix 1 1 (p + 1) b) ≤ C (ix 1 0 a P) + C (ix 1 1 (P + 1) b)) {C1 : Nat → Int} (hC1 : C1 = up2 C 0 1 a b (C (ix 1 0 a P) + C (ix 1 1 (P + 1) b) + s b a) (P : Int))
    (hc1 : a ≤ c) (hc2 : c < b) (hcm : ∀ x, a ≤ x → x ≤ b - 1 → C1 (ix 1 1 a x) + C1 (ix 0 1 x b) ≤ C1 (ix 1 1 a c) + C1 (ix 0 1 c b)) (hy : -1000000 ≤ s b a ∧ s b a ≤ 1000000) {C2 : Nat → Int} (hC2 : C2 = up2 C1 1 1 a b (C1 (ix 1 1 a c) + C1 (ix 0 1 c b)) (c : Int)) :
    (∀ f e a' b', inT f e a' b' → ¬ (e = 1 ∧ a' = a ∧ b' = b) → C2 (ix f e a' b') = C (ix f e a' b') ∧ C2 (ix f e a' b' + 1) = C (ix f e a' b' + 1)) ∧ Ok1 s C2 a b ∧ Bd C2 := by
  have i0 : inT 0 1 a b := ⟨by decide, by decide, by omega, hb⟩
  have i1 : inT 1 1 a b := ⟨by decide, by decide, by omega, hb⟩
  have o1 : ∀ f e a' b', inT f e a' b' → ¬ (f = 0 ∧ e = 1 ∧ a' = a ∧ b' = b) → C1 (ix f e a' b') = C (ix f e a' b') ∧ C1 (ix f e a' b' + 1) = C (ix f e a' b' + 1) := fun f e a' b' h h2 => by rw [hC1]; exact up2_ne C _ _ i0 h h2
  have o2 : ∀ f e a' b', inT f e a' b' → ¬ (f = 1 ∧ e = 1 ∧ a' = a ∧ b' = b) → C2 (ix f e a' b') = C1 (ix f e a' b') ∧ C2 (ix f e a' b' + 1) = C1 (ix f e a' b' + 1) := fun f e a' b' h h2 => by rw [hC2]; exact up2_ne C1 _ _ i1 h h2
  have v1 : C1 (ix 0 1 a b) = C (ix 1 0 a P) + C (ix 1 1 (P + 1) b) + s b a ∧ C1 (ix 0 1 a b + 1) = (P : Int) := by rw [hC1]; exact ⟨up2_val _ _ _ _ _ _ _, up2_at _ _ _ _ _ _ _⟩
  have v2 : C2 (ix 1 1 a b) = C1 (ix 1 1 a c) + C1 (ix 0 1 c b) ∧ C2 (ix 1 1 a b + 1) = (c : Int) := by rw [hC2]; exact ⟨up2_val _ _ _ _ _ _ _, up2_at _ _ _ _ _ _ _⟩
  have q1 : ∀ p, a ≤ p → p < b → C2 (ix 1 0 a p) = C (ix 1 0 a p) ∧ C2 (ix 1 1 (p + 1) b) = C (ix 1 1 (p + 1) b) := fun p h1 h2 => by
    rw [(o2 1 0 a p ⟨by decide, by decide, by omega, by omega⟩ (by omega)).1, (o1 1 0 a p ⟨by decide, by decide, by omega, by omega⟩ (by omega)).1, (o2 1 1 (p + 1) b ⟨by decide, by decide, by omega, by omega⟩ (by omega)).1, (o1 1 1 (p + 1) b ⟨by decide, by decide, by omega, by omega⟩ (by omega)).1]
    exact ⟨rfl, rfl⟩
  have q0 := o2 0 1 a b i0 (by omega)
  have q2 : ∀ x, a ≤ x → x < b → C2 (ix 1 1 a x) = C1 (ix 1 1 a x) ∧ C2 (ix 0 1 x b) = C1 (ix 0 1 x b) := fun x h1 h2 => ⟨(o2 1 1 a x ⟨by decide, by decide, by omega, by omega⟩ (by omega)).1, (o2 0 1 x b ⟨by decide, by decide, by omega, by omega⟩ (by omega)).1⟩
  refine ⟨fun f e a' b' h h2 => ?_, ⟨⟨P, hP1, hP2, by rw [q0.2, v1.2], by rw [q0.1, v1.1, (q1 P hP1 hP2).1, (q1 P hP1 hP2).2]⟩, fun p h1 h2 => ?_, ⟨c, hc1, hc2, v2.2, by rw [v2.1, (q2 c hc1 hc2).1, (q2 c hc1 hc2).2]⟩, fun x h1 h2 => ?_⟩, ?_⟩
  · rw [(o2 f e a' b' h (by omega)).1, (o2 f e a' b' h (by omega)).2]
    exact o1 f e a' b' h (by omega)
  · rw [q0.1, v1.1, (q1 p h1 h2).1, (q1 p h1 h2).2]
    have := hPm p h1 (by omega)
    omega
  · rw [(q2 x h1 h2).1, (q2 x h1 h2).2, v2.1]
    exact hcm x h1 (by omega)
  · have hb1 : Bd C1 := by rw [hC1]; exact bow_bd hbd (by decide) hab hb hP1 hP2 hy
    rw [hC2]
    exact who_bd hb1 (by decide) (by decide) (by decide) (by decide) (by decide) hab hb hc1 (by omega)
/-- where the tables are right so far: all pieces shorter than L, and of those that are so long the ones from before F -/
structure Tf (s : Nat → Nat → Int) (n L F : Nat) (C : Nat → Int) : Prop where
  z : ∀ a b, a < b → b ≤ n → (b - a < L ∨ (b - a = L ∧ a < F)) → Ok0 s C a b ∧ (1 ≤ a → Ok1 s C a b)
  d : ∀ e a, e < 2 → a ≤ n → C (ix 1 e a a) = 0
  bd : Bd C
theorem Tf.step {n L F : Nat} {C' : Nat → Int} (h : Tf s n L F C) (hn : n < 13) (hL : 1 ≤ L) (hF : F + L ≤ n) (hf : Ft s F (F + L) C C') : Tf s n L (F + 1) C' := by
  refine ⟨fun a b h1 h2 h3 => ?_, fun e a h1 h2 => ?_, hf.bd⟩
  · by_cases e : a = F ∧ b = F + L
    · obtain ⟨rfl, rfl⟩ := e
      exact ⟨hf.z, hf.o⟩
    · have hk := h.z a b h1 h2 (by omega)
      have hE : Eqv C C' a b := fun f e a' b' q1 q2 q3 q4 q5 => hf.old f e a' b' ⟨q1, q2, by omega, by omega⟩ (by omega)
      exact ⟨hk.1.eqv hE h1, fun h4 => (hk.2 h4).eqv hE h1⟩
  · rw [(hf.old 1 e a a ⟨by decide, h1, by omega, by omega⟩ (by omega)).1]
    exact h.d e a h1 h2
theorem Tf.next {n L F : Nat} (h : Tf s n L F C) (hF : n < F + L) : Tf s n (L + 1) 0 C := ⟨fun a b h1 h2 h3 => h.z a b h1 h2 (by omega), h.d, h.bd⟩
end
end Go.Proofs.Ytpolnkdbebjpnaa.Hd
