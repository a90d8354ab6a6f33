/- The type of a term, in plain words. No conditions. -/
import Derived.Test.YtofbnfpncekddaaTf
namespace Go.Proofs.Ytofbnfpncekddaa.Te
open Go.RowKit

/-- are they the same? -/
def eqT (t u : Ty) : Bool := t.kind == u.kind && t.n == u.n && t.kids.length == u.kids.length && (t.kids.attach.zip u.kids).all fun p => eqT p.1.1 p.2
termination_by SizeOf.sizeOf t
decreasing_by exact Ty.lt_kids p.1.2
theorem eqT_iff : ∀ (s : Nat) (t u : Ty), SizeOf.sizeOf t ≤ s → (eqT t u = true ↔ t = u) := by
  intro s
  induction s with
  | zero =>
    intro t u h
    obtain ⟨k, n, ks⟩ := t
    simp at h
  | succ s ih =>
    intro t u h
    rw [eqT]
    obtain ⟨k, n, ks⟩ := t
    obtain ⟨k', n', ks'⟩ := u
    simp only [Bool.and_eq_true, beq_iff_eq, List.all_eq_true]
    constructor
    · rintro ⟨⟨⟨rfl, rfl⟩, hl⟩, hall⟩
      have : ks = ks' := by
        refine List.ext_getElem hl (fun i h1 h2 => ?_)
        have hz : i < (ks.attach.zip ks').length := by simp; omega
        have hm := hall _ (List.getElem_mem hz)
        simp only [List.getElem_zip, List.getElem_attach] at hm
        have hlt := Ty.lt_kids (t := ⟨k, n, ks⟩) (List.getElem_mem h1)
        exact (ih ks[i] ks'[i] (by omega)).1 hm
      rw [this]
    · intro e
      obtain ⟨rfl, rfl, rfl⟩ := Ty.mk.inj e
      refine ⟨⟨⟨rfl, rfl⟩, rfl⟩, fun p hp => ?_⟩
      obtain ⟨i, hi, rfl⟩ := List.getElem_of_mem hp
      simp only [List.getElem_zip, List.getElem_attach]
      have h1 : i < ks.length := by simp at hi; exact hi
      have hlt := Ty.lt_kids (t := ⟨k, n, ks⟩) (List.getElem_mem h1)
      exact (ih ks[i] ks[i] (by omega)).2 rfl
theorem eqT_same (t u : Ty) : eqT t u = true ↔ t = u := eqT_iff _ t u (Nat.le_refl _)

def noTy : Ty := ⟨0, 0, []⟩
/-- the type of a term, or what is wrong; those of the functions around it, the next one last -/
def tyOf (t : Tm) (ar cons : List Ty) : Int × Ty :=
  if t.kind = 1 then (match ar.reverse[t.n.toNat]? with
    | some y => (0, y)
    | none => (8, noTy))
  else if t.kind = 2 then (match cons[t.n.toNat]? with
    | some y => (0, y)
    | none => (8, noTy))
  else if t.kind = 3 then (match _ht : t.kids with
    | [x] => if (tyOf x (ar ++ [t.ty]) cons).1 ≠ 0 then ((tyOf x (ar ++ [t.ty]) cons).1, noTy) else if 60 < sz ⟨2, 0, [t.ty, (tyOf x (ar ++ [t.ty]) cons).2]⟩ then (7, noTy) else (0, ⟨2, 0, [t.ty, (tyOf x (ar ++ [t.ty]) cons).2]⟩)
    | _ => (0, noTy))
  else (match _ht : t.kids with
    | [f, x] => if (tyOf f ar cons).1 ≠ 0 then ((tyOf f ar cons).1, noTy) else if (tyOf x ar cons).1 ≠ 0 then ((tyOf x ar cons).1, noTy) else
      if (tyOf f ar cons).2.kind = 2 then (match (tyOf f ar cons).2.kids with
        | [p, q] => if eqT p (tyOf x ar cons).2 = true then (0, q) else (9, noTy)
        | _ => (9, noTy)) else (9, noTy)
    | _ => (0, noTy))
termination_by SizeOf.sizeOf t
decreasing_by all_goals (refine Tm.lt_kids ?_; rw [_ht]; simp)
/-- a type that is right -/
structure Good (y : Ty) : Prop where
  wr : Te.wr y = 0
  sz : sz y ≤ 60
theorem good_ck {y : Ty} (h : ck y = 0) : Good y := by
  unfold ck at h
  split at h
  · cases h
  · exact ⟨h, by omega⟩
theorem fz_all : ∀ {l : List Int}, fz l = 0 → ∀ x ∈ l, x = 0
  | [], _, x, hx => by cases hx
  | a :: l, h, x, hx => by
    unfold fz at h
    rw [List.find?_cons] at h
    by_cases ha : a = 0
    · simp only [ha, ne_eq, not_true_eq_false, decide_false] at h
      rcases List.mem_cons.1 hx with rfl | hx
      · exact ha
      · exact fz_all (l := l) h x hx
    · simp [ha] at h
theorem good_node {y : Ty} (h : Good y) : w1 y.kind y.n y.kids.length = 0 ∧ ∀ x ∈ y.kids, Good x := by
  have h0 : w1 y.kind y.n y.kids.length = 0 := by
    cases hd : decide (w1 y.kind y.n y.kids.length = 0)
    · have := of_decide_eq_false hd
      have h1 := h.wr
      rw [wr_bad this] at h1
      exact h1
    · exact of_decide_eq_true hd
  refine ⟨h0, fun x hx => ?_⟩
  have h1 := h.wr
  rw [wr_ok h0] at h1
  obtain ⟨j, hj, rfl⟩ := List.getElem_of_mem hx
  refine ⟨fz_all h1 _ (List.mem_map.2 ⟨_, List.getElem_mem hj, rfl⟩), ?_⟩
  have h2 := ps_succ hj
  have h3 := ps_le y (j + 1)
  have := h.sz
  omega
theorem good_two {y : Ty} (h : Good y) (hk : y.kind = 2) : ∃ p q, y.kids = [p, q] ∧ Good p ∧ Good q := by
  obtain ⟨h0, hg⟩ := good_node h
  unfold w1 at h0
  rw [if_neg (by omega), if_pos hk] at h0
  split at h0
  · cases h0
  · rename_i hl
    have hl : y.kids.length = 2 := Decidable.of_not_not hl
    match hy : y.kids, hl with
    | [p, q], _ => exact ⟨p, q, rfl, hg p (by rw [hy]; simp), hg q (by rw [hy]; simp)⟩
theorem good_fn {p q : Ty} (hp : Good p) (hq : Good q) (hs : ¬ 60 < sz ⟨2, 0, [p, q]⟩) : Good ⟨2, 0, [p, q]⟩ := by
  refine ⟨?_, by omega⟩
  rw [wr_ok (by rfl)]
  refine fz_zero (fun x hx => ?_)
  simp at hx
  rcases hx with rfl | rfl
  · exact hp.wr
  · exact hq.wr
/-- a term that is right has right ones in it -/
theorem right_node {t : Tm} (h : wtm t = 0) : wt1 t = 0 ∧ ∀ x ∈ t.kids, wtm x = 0 := by
  have h0 : wt1 t = 0 := by
    cases hd : decide (wt1 t = 0)
    · have := of_decide_eq_false hd
      rw [wtm_bad this] at h
      exact h
    · exact of_decide_eq_true hd
  refine ⟨h0, fun x hx => ?_⟩
  rw [wtm_ok h0] at h
  exact fz_all h _ (List.mem_map.2 ⟨x, hx, rfl⟩)
/-- what a right term is like -/
theorem right_cases {t : Tm} (h : wtm t = 0) : (t.kind = 1 ∧ t.kids = [] ∧ 0 ≤ t.n) ∨ (t.kind = 2 ∧ t.kids = [] ∧ 0 ≤ t.n) ∨ (t.kind = 3 ∧ ∃ x, t.kids = [x] ∧ wtm x = 0 ∧ Good t.ty) ∨ (t.kind = 4 ∧ ∃ f x, t.kids = [f, x] ∧ wtm f = 0 ∧ wtm x = 0) := by
  obtain ⟨h0, hk⟩ := right_node h
  unfold wt1 at h0
  split at h0
  · cases h0
  · rename_i q1
    split at h0
    · cases h0
    · rename_i q2
      have q2 : t.kids.length = (t.kind - 2).toNat := Decidable.of_not_not q2
      split at h0
      · cases h0
      · rename_i q3
        have hc : t.kind = 1 ∨ t.kind = 2 ∨ t.kind = 3 ∨ t.kind = 4 := by omega
        rcases hc with c | c | c | c
        · rw [c] at q2
          exact .inl ⟨c, List.length_eq_zero_iff.1 q2, by omega⟩
        · rw [c] at q2
          exact .inr (.inl ⟨c, List.length_eq_zero_iff.1 q2, by omega⟩)
        · rw [c] at q2
          rw [if_pos c] at h0
          match hy : t.kids, q2 with
          | [x], _ => exact .inr (.inr (.inl ⟨c, x, rfl, hk x (by rw [hy]; simp), good_ck h0⟩))
        · rw [c] at q2
          match hy : t.kids, q2 with
          | [f, x], _ => exact .inr (.inr (.inr ⟨c, f, x, rfl, hk f (by rw [hy]; simp), hk x (by rw [hy]; simp)⟩))
theorem ty_fn {n : Int} {y : Ty} {x : Tm} (ar cons : List Ty) : tyOf ⟨3, n, y, [x]⟩ ar cons = if (tyOf x (ar ++ [y]) cons).1 ≠ 0 then ((tyOf x (ar ++ [y]) cons).1, noTy) else if 60 < sz ⟨2, 0, [y, (tyOf x (ar ++ [y]) cons).2]⟩ then (7, noTy) else (0, ⟨2, 0, [y, (tyOf x (ar ++ [y]) cons).2]⟩) := by
  rw [tyOf]
  simp
theorem ty_app {n : Int} {y : Ty} {f x : Tm} (ar cons : List Ty) : tyOf ⟨4, n, y, [f, x]⟩ ar cons = if (tyOf f ar cons).1 ≠ 0 then ((tyOf f ar cons).1, noTy) else if (tyOf x ar cons).1 ≠ 0 then ((tyOf x ar cons).1, noTy) else
      if (tyOf f ar cons).2.kind = 2 then (match (tyOf f ar cons).2.kids with
        | [p, q] => if eqT p (tyOf x ar cons).2 = true then (0, q) else (9, noTy)
        | _ => (9, noTy)) else (9, noTy) := by
  rw [tyOf]
  simp
theorem tyOf_good : ∀ (s : Nat) (t : Tm) (ar cons : List Ty), SizeOf.sizeOf t ≤ s → wtm t = 0 → (∀ y ∈ ar, Good y) → (∀ y ∈ cons, Good y) → (tyOf t ar cons).1 = 0 → Good (tyOf t ar cons).2 := by
  intro s
  induction s with
  | zero =>
    intro t _ _ h
    obtain ⟨k, n, y, ks⟩ := t
    simp at h
  | succ s ih =>
    intro t ar cons hs hw ha hc h
    rcases right_cases hw with ⟨hk, _, _⟩ | ⟨hk, _, _⟩ | ⟨hk, x, hx, hwx, hy⟩ | ⟨hk, f, x, hx, hwf, hwx⟩
    · rw [tyOf, if_pos hk] at h ⊢
      cases hr : ar.reverse[t.n.toNat]? with
      | none => rw [hr] at h; cases h
      | some y => exact ha y (by rw [← List.mem_reverse]; exact List.mem_of_getElem? hr)
    · rw [tyOf, if_neg (by omega), if_pos hk] at h ⊢
      cases hr : cons[t.n.toNat]? with
      | none => rw [hr] at h; cases h
      | some y => exact hc y (List.mem_of_getElem? hr)
    · have hlt := Tm.lt_kids (t := t) (x := x) (by rw [hx]; simp)
      obtain ⟨k, n, y, ks⟩ := t
      dsimp only at hk hx hy
      subst hk hx
      rw [ty_fn] at h ⊢
      split at h
      · rename_i q; exact absurd h q
      · rename_i q
        rw [if_neg q]
        split at h
        · cases h
        · rename_i q2
          rw [if_neg q2]
          refine good_fn hy (ih x _ _ (by omega) hwx (fun z hz => ?_) hc (Decidable.of_not_not q)) q2
          rcases List.mem_append.1 hz with hz | hz
          · exact ha z hz
          · simp at hz; rw [hz]; exact hy
    · have hltf := Tm.lt_kids (t := t) (x := f) (by rw [hx]; simp)
      obtain ⟨k, n, y, ks⟩ := t
      dsimp only at hk hx
      subst hk hx
      rw [ty_app] at h ⊢
      split at h
      · rename_i q; exact absurd h q
      · rename_i q
        rw [if_neg q]
        split at h
        · rename_i q2; exact absurd h q2
        · rename_i q2
          rw [if_neg q2]
          split at h
          · rename_i q3
            rw [if_pos q3]
            have hf := ih f ar cons (by omega) hwf ha hc (Decidable.of_not_not q)
            obtain ⟨p, r, hpr, _, hr⟩ := good_two hf q3
            rw [hpr] at h ⊢
            dsimp only at h ⊢
            split at h
            · rename_i q4; rw [if_pos q4]; exact hr
            · cases h
          · cases h
end Go.Proofs.Ytofbnfpncekddaa.Te
