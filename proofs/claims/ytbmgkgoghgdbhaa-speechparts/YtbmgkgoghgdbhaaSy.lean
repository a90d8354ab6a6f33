/- What has a right proof, with cuts or without, can be proved (PLAIN); the law's own sequent. No conditions. -/
import Derived.Test.YtbmgkgoghgdbhaaSxM
namespace Go.Proofs.Ytbmgkgoghgdbhaa.Te
open Go.RowKit

theorem E_same (k : Int) : E [bs k] (bs k) := by
  have := E_bs (EH_same k)
  exact this
theorem begun_E : E [bs 0, ov (un (bs 0) (bs 1)) (bs 0), bs 0] (bs 1) := by
  have h0 : E [bs 0] (bs 0) := E_same _
  have h1 : E [bs 1] (bs 1) := E_same _
  have h2 : E ([] ++ [bs 0] ++ un (bs 0) (bs 1) :: []) (bs 1) := E_unl (by simp) h0 h1
  have h3 : E ([bs 0] ++ ov (un (bs 0) (bs 1)) (bs 0) :: [bs 0] ++ []) (bs 1) := E_ovl (by simp) h0 h2
  exact h3
/-- all parts of a proof are right -/
def Gpf (p : Pf) : Prop := (∀ t ∈ p.left, Gp t) ∧ Gp p.goal ∧ ∀ x : {y // y ∈ p.kids}, Gpf x.1
termination_by SizeOf.sizeOf p
decreasing_by exact Pf.lt_kids x.2
theorem Gpf.kid {p : Pf} (h : Gpf p) {x : Pf} (hx : x ∈ p.kids) : Gpf x := by
  rw [Gpf] at h
  exact h.2.2 ⟨x, hx⟩
theorem Gpf.here {p : Pf} (h : Gpf p) : (∀ t ∈ p.left, Gp t) ∧ Gp p.goal := by
  rw [Gpf] at h
  exact ⟨h.1, h.2.1⟩
/-- where a step of two cuts the list -/
theorem three (l : List Ty) (i m : Nat) : l = l.take i ++ (l.drop i).take m ++ l.drop (i + m) := by
  rw [← List.drop_drop, List.append_assoc, List.take_append_drop, List.take_append_drop]
theorem bef2_inv {p : Pf} {ss : List (List Ty × Ty)} (hs : p.step = 4 ∨ p.step = 5 ∨ p.step = 6) (h : bef2 p = some ss) : ∃ i m : Nat, 1 ≤ m ∧ i + m ≤ p.left.length ∧
    ((p.step = 4 ∧ ∃ t, (p.left.take i).getLast? = some t ∧ t.kind = 2 ∧ ss = [((p.left.drop i).take m, waT t), ((p.left.take i).dropLast ++ [isT t] ++ p.left.drop (i + m), p.goal)]) ∨
     (p.step = 5 ∧ ∃ t B, p.left.drop (i + m) = t :: B ∧ t.kind = 3 ∧ ss = [((p.left.drop i).take m, waT t), (p.left.take i ++ [isT t] ++ B, p.goal)]) ∨
     (p.step = 6 ∧ ∃ k ks, p.kids = k :: ks ∧ ss = [((p.left.drop i).take m, k.goal), (p.left.take i ++ [k.goal] ++ p.left.drop (i + m), p.goal)])) := by
  unfold bef2 at h
  by_cases hb : p.ix < 0 ∨ p.n < 1 ∨ (p.left.length : Int) < p.ix ∨ (p.left.length : Int) - p.ix < p.n
  · rw [if_pos hb] at h; cases h
  rw [if_neg hb] at h
  refine ⟨p.ix.toNat, p.n.toNat, by omega, by omega, ?_⟩
  by_cases h4 : p.step = 4
  · rw [if_pos h4] at h
    refine .inl ⟨h4, ?_⟩
    cases hl : (p.left.take p.ix.toNat).getLast? with
    | none => rw [hl] at h; cases h
    | some t =>
      rw [hl] at h
      dsimp only at h
      by_cases hk : t.kind = 2
      · rw [if_pos hk] at h
        exact ⟨t, rfl, hk, (Option.some.inj h).symm⟩
      · rw [if_neg hk] at h; cases h
  rw [if_neg h4] at h
  by_cases h5 : p.step = 5
  · rw [if_pos h5] at h
    refine .inr (.inl ⟨h5, ?_⟩)
    cases hl : p.left.drop (p.ix.toNat + p.n.toNat) with
    | nil => rw [hl] at h; cases h
    | cons t B =>
      rw [hl] at h
      dsimp only at h
      by_cases hk : t.kind = 3
      · rw [if_pos hk] at h
        exact ⟨t, B, rfl, hk, (Option.some.inj h).symm⟩
      · rw [if_neg hk] at h; cases h
  rw [if_neg h5] at h
  have h6 : p.step = 6 := by omega
  refine .inr (.inr ⟨h6, ?_⟩)
  cases hl : p.kids with
  | nil => rw [hl] at h; cases h
  | cons k ks =>
    rw [hl] at h
    exact ⟨k, ks, rfl, (Option.some.inj h).symm⟩
theorem gp_two {t : Ty} (h : Gp t) (hk : t.kind = 2) : t = ov (isT t) (waT t) := by
  rcases gp_cases h with ⟨_, h, _⟩ | ⟨x, y, h, _⟩ | ⟨_, _, h, _⟩
  · rw [h] at hk; simp [bs] at hk
  · rw [h]; rfl
  · rw [h] at hk; simp [un] at hk
theorem gp_three {t : Ty} (h : Gp t) (hk : t.kind = 3) : t = un (waT t) (isT t) := by
  rcases gp_cases h with ⟨_, h, _⟩ | ⟨x, y, h, _⟩ | ⟨_, _, h, _⟩
  · rw [h] at hk; simp [bs] at hk
  · rw [h] at hk; simp [ov] at hk
  · rw [h]; rfl
theorem sub_ne {l : List Ty} {i m : Nat} (h1 : 1 ≤ m) (h2 : i + m ≤ l.length) : (l.drop i).take m ≠ [] := by
  intro e
  have := congrArg List.length e
  rw [List.length_take, List.length_drop, List.length_nil] at this
  omega
theorem rt_E : ∀ (s : Nat) (p : Pf), SizeOf.sizeOf p ≤ s → Rt p → Gpf p → E p.left p.goal := by
  intro s
  induction s with
  | zero => intro p h; obtain ⟨_, _, _, _, _, _⟩ := p; simp at h
  | succ s ih =>
    intro p hp hr hg
    rw [Rt] at hr
    obtain ⟨ss, hb, hl, hk⟩ := hr
    have hgh := hg.here
    have kid : ∀ j (h : j < p.kids.length) (h' : j < ss.length), E ss[j].1 ss[j].2 := fun j h h' => by
      obtain ⟨e1, e2, hr⟩ := hk j h h'
      have hm := List.getElem_mem h
      have := ih p.kids[j] (by have := Pf.lt_kids hm; omega) hr (hg.kid hm)
      rw [e1, e2] at this
      exact this
    by_cases hs : p.step = 4 ∨ p.step = 5 ∨ p.step = 6
    · rw [bef_two hs] at hb
      obtain ⟨i, m, h1, h2, hc⟩ := bef2_inv hs hb
      have hne := sub_ne h1 h2
      have h3 := three p.left i m
      rcases hc with ⟨_, t, ht, hk2, rfl⟩ | ⟨_, t, B, ht, hk3, rfl⟩ | ⟨_, k, ks, hkk, rfl⟩
      · have e0 := kid 0 (by rw [hl]; simp) (by simp)
        have e1 := kid 1 (by rw [hl]; simp) (by simp)
        simp only [List.getElem_cons_zero, List.getElem_cons_succ] at e0 e1
        obtain ⟨A, hA⟩ : ∃ A, p.left.take i = A ++ [t] := by
          have := List.getLast?_eq_some_iff.1 ht
          exact this
        have htm : t ∈ p.left := List.mem_of_mem_take (by rw [hA]; simp)
        rw [hA, List.dropLast_concat] at e1
        have := E_ovl hne e0 (by simpa using e1)
        rw [← gp_two (hgh.1 t htm) hk2] at this
        rw [h3, hA]
        simpa using this
      · have e0 := kid 0 (by rw [hl]; simp) (by simp)
        have e1 := kid 1 (by rw [hl]; simp) (by simp)
        simp only [List.getElem_cons_zero, List.getElem_cons_succ] at e0 e1
        have htm : t ∈ p.left := List.mem_of_mem_drop (by rw [ht]; simp)
        have := E_unl hne e0 (by simpa using e1)
        rw [← gp_three (hgh.1 t htm) hk3] at this
        rw [h3, ht]
        exact this
      · have e0 := kid 0 (by rw [hl]; simp) (by simp)
        have e1 := kid 1 (by rw [hl]; simp) (by simp)
        simp only [List.getElem_cons_zero, List.getElem_cons_succ] at e0 e1
        have hkg := (hg.kid (x := k) (by rw [hkk]; simp)).here.2
        have := E_cut hkg hne e0 (by simpa using e1)
        rw [h3]
        exact this
    · unfold bef at hb
      rw [if_neg hs] at hb
      by_cases h0 : p.ix ≠ 0 ∨ p.n ≠ 0 ∨ p.left = []
      · rw [if_pos h0] at hb; cases hb
      rw [if_neg h0] at hb
      by_cases h1 : p.step = 1
      · rw [if_pos h1] at hb
        by_cases h2 : p.left = [p.goal]
        · rw [h2]; exact E_id hgh.2
        · rw [if_neg h2] at hb; cases hb
      rw [if_neg h1] at hb
      by_cases h2 : p.step = 2 ∧ p.goal.kind = 2
      · rw [if_pos h2] at hb
        obtain rfl := Option.some.inj hb
        have e0 := kid 0 (by rw [hl]; simp) (by simp)
        simp only [List.getElem_cons_zero] at e0
        rw [gp_two hgh.2 h2.2]
        exact E_ov (by simpa using e0)
      rw [if_neg h2] at hb
      by_cases h3 : p.step = 3 ∧ p.goal.kind = 3
      · rw [if_pos h3] at hb
        obtain rfl := Option.some.inj hb
        have e0 := kid 0 (by rw [hl]; simp) (by simp)
        simp only [List.getElem_cons_zero] at e0
        rw [gp_three hgh.2 h3.2]
        exact E_un (by simpa using e0)
      rw [if_neg h3] at hb
      cases hb
end Go.Proofs.Ytbmgkgoghgdbhaa.Te
