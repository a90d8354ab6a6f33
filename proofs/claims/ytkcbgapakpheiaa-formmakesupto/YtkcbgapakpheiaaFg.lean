/- In plain words: a form of a right lexicon is what its changes make, one behind the other: none is too long on the way. No conditions. -/
import Derived.Test.YtkcbgapakpheiaaFp
namespace Go.Proofs.Ytkcbgapakpheiaa.Fg
open Sd Md Aq Ls Lx Ly Lz Fo Mk Tk Rd Fp

def runC (l : List Ch) (t : List Int) : List Int := l.foldl (fun t c => change c t) t
theorem chg_len (c : Ch) (h1 : 1 ≤ c.frm.length) (h2 : c.to.length ≤ 2) (n : Nat) : ∀ out text, (chg c n out text).length ≤ out.length + 2 * text.length := by
  induction n with
  | zero => intro out text; simp only [chg]; omega
  | succ n ih =>
    intro out text
    cases text with
    | nil => simp only [chg]; omega
    | cons x rest =>
      unfold chg
      split
      · have := ih (out ++ c.to) ((x :: rest).drop c.frm.length)
        simp only [List.length_append, List.length_drop, List.length_cons] at this ⊢
        omega
      · have := ih (out ++ [x]) rest
        simp only [List.length_append, List.length_cons, List.length_nil] at this ⊢
        omega
theorem change_len {c : Ch} (h : check c = 0) (t : List Int) : (change c t).length ≤ 2 * t.length := by
  have g := good_of h
  have := chg_len c g.f1 g.t2 t.length [] t
  simpa [change] using this
theorem allGo_run (l : List Ch) : ∀ t : List Int, (∀ c, c ∈ l → check c = 0) → t.length * 2 ^ l.length ≤ 120 → allGo l t = some (runC l t) := by
  induction l with
  | nil => intro t _ _; rfl
  | cons c l ih =>
    intro t hc hl
    have h1 : 1 ≤ 2 ^ l.length := Nat.one_le_two_pow
    rw [List.length_cons, Nat.pow_succ] at hl
    have h2 : t.length * 2 ≤ 120 := Nat.le_trans (by rw [← Nat.mul_assoc] at hl; exact Nat.le_trans (Nat.mul_le_mul_right 2 (Nat.le_mul_of_pos_right t.length h1)) hl) (Nat.le_refl _)
    have hcl := change_len (hc c (by simp)) t
    unfold allGo
    rw [if_neg (by omega), ih (change c t) (fun d hd => hc d (List.mem_cons_of_mem _ hd)) (Nat.le_trans (Nat.mul_le_mul_right _ hcl) (by rw [Nat.mul_comm 2, Nat.mul_assoc, Nat.mul_comm 2]; exact hl))]
    rfl
theorem firstE_of {l : List Ch} (h : ∀ c, c ∈ l → check c = 0) : firstE l = 0 := by
  induction l with
  | nil => rfl
  | cons c l ih =>
    unfold firstE
    rw [if_pos (h c (by simp))]
    exact ih fun d hd => h d (List.mem_cons_of_mem _ hd)
theorem right_of {y : VX} (h : checkX y.lex = 0) : firstX y.k (chs y.xs) = 0 ∧ y.xs.length ≤ 3 ∧ 1 ≤ y.k ∧ y.k ≤ 4 := by
  unfold checkX at h
  split at h
  · omega
  · rename_i h1
    simp only [Lex.manyB, VX.lex, Bool.or_eq_true, not_or, decide_eq_true_eq, List.length_map, chs_length] at h1
    split at h
    · omega
    · split at h
      · omega
      · obtain ⟨⟨⟨_, h3⟩, h4⟩, h5⟩ := h1
        exact ⟨h, by omega, Int.not_lt.1 (fun hh => h4 (decide_eq_true hh)), Int.not_lt.1 (fun hh => h5 (decide_eq_true hh))⟩
theorem form_run {y : VX} (h : checkX y.lex = 0) (s : VSt) (c : VCe) (hs : s ∈ y.sts) (hc : c ∈ y.ces) : formX (chs y.xs) s.2 c.2 = runC (chs y.xs) (c.2.bef ++ s.2.form ++ c.2.beh) := by
  obtain ⟨hf, hl3, hk1, hk4⟩ := right_of h
  have hall := firstX_all hf
  obtain ⟨p1, p2, _⟩ := parts_of h
  obtain ⟨l1, l2⟩ := lens_of h
  have L1 := l1 s hs
  have L2 := l2 c hc
  have hlen : (c.2.bef ++ s.2.form ++ c.2.beh).length ≤ 15 := by simp only [List.length_append]; omega
  have hfine : Fine y.k (c.2.bef ++ s.2.form ++ c.2.beh) := ((p2 c hc).1.app (p1 s hs)).app (p2 c hc).2
  have hhead : y.k ≤ headK (chs y.xs) := by
    cases e : chs y.xs with
    | nil => simp only [headK]; omega
    | cons d l =>
      have := (hall d (by rw [e]; simp)).2
      simp only [headK]
      omega
  have hck : checks (chs y.xs) = 0 := by
    unfold checks
    rw [if_neg (by rw [chs_length]; omega), if_pos (firstE_of fun c hc => (hall c hc).1)]
    have : otherK (chs y.xs) = false := by
      unfold otherK
      rw [List.any_eq_false]
      intro c hc
      have e1 := (hall c hc).2
      cases e : chs y.xs with
      | nil => rw [e] at hc; cases hc
      | cons d l =>
        have e2 := (hall d (by rw [e]; simp)).2
        simp [headK, e1, e2]
    rw [this]
    rfl
  have hte : textE (headK (chs y.xs)) (c.2.bef ++ s.2.form ++ c.2.beh) = 0 := by
    unfold textE
    rw [if_neg (by omega)]
    have : (c.2.bef ++ s.2.form ++ c.2.beh).any (bad (headK (chs y.xs))) = false := by
      rw [List.any_eq_false]
      intro x hx
      have := hfine x hx
      simp only [bad, Bool.or_eq_false_iff, decide_eq_false_iff_not] at this
      simp only [bad, Bool.or_eq_true, decide_eq_true_eq]
      omega
    rw [this]
    rfl
  have hp : 2 ^ (chs y.xs).length ≤ 8 := by
    have e8 : (8 : Nat) = 2 ^ 3 := rfl
    rw [e8]
    exact Nat.pow_le_pow_right (by omega) (by rw [chs_length]; exact hl3)
  have hgo := allGo_run (chs y.xs) (c.2.bef ++ s.2.form ++ c.2.beh) (fun c hc => (hall c hc).1) (Nat.le_trans (Nat.mul_le_mul hlen hp) (Nat.le_refl _))
  unfold formX allR
  rw [if_pos ⟨hck, hte⟩, hgo]
  rfl
theorem runC_len (l : List Ch) : ∀ t : List Int, (∀ c, c ∈ l → check c = 0) → (runC l t).length ≤ t.length * 2 ^ l.length := by
  induction l with
  | nil => intro t _; simp [runC]
  | cons c l ih =>
    intro t hc
    have hcl := change_len (hc c (by simp)) t
    have := ih (change c t) fun d hd => hc d (List.mem_cons_of_mem _ hd)
    rw [List.length_cons, Nat.pow_succ]
    refine Nat.le_trans this (Nat.le_trans (Nat.mul_le_mul_right _ hcl) ?_)
    rw [Nat.mul_comm 2, Nat.mul_assoc, Nat.mul_comm 2]
    exact Nat.le_refl _
theorem form_len {y : VX} (h : checkX y.lex = 0) (s : VSt) (c : VCe) (hs : s ∈ y.sts) (hc : c ∈ y.ces) : (formX (chs y.xs) s.2 c.2).length ≤ 120 := by
  rw [form_run h s c hs hc]
  obtain ⟨hf, hl3, _, _⟩ := right_of h
  obtain ⟨l1, l2⟩ := lens_of h
  have L1 := l1 s hs
  have L2 := l2 c hc
  have hlen : (c.2.bef ++ s.2.form ++ c.2.beh).length ≤ 15 := by simp only [List.length_append]; omega
  have hp : 2 ^ (chs y.xs).length ≤ 8 := by
    have e8 : (8 : Nat) = 2 ^ 3 := rfl
    rw [e8]
    exact Nat.pow_le_pow_right (by omega) (by rw [chs_length]; exact hl3)
  exact Nat.le_trans (runC_len _ _ fun c hc => (firstX_all hf c hc).1) (Nat.mul_le_mul hlen hp)
end Go.Proofs.Ytkcbgapakpheiaa.Fg
