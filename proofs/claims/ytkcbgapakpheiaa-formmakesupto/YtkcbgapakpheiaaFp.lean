/- In plain words: a form that Make makes has symbols of the lexicon's kinds alone. No conditions. -/
import Derived.Test.YtkcbgapakpheiaaRd
namespace Go.Proofs.Ytkcbgapakpheiaa.Fp
open Sd Md Aq Ls Lx Lz Fo Mk Tk Rd

def Fine (k : Int) (l : List Int) : Prop := ∀ x, x ∈ l → bad k x = false
theorem Fine.app {k : Int} {a b : List Int} (ha : Fine k a) (hb : Fine k b) : Fine k (a ++ b) := fun x hx => by
  rcases List.mem_append.1 hx with h | h
  · exact ha x h
  · exact hb x h
theorem fine_of {k : Int} {l : List Int} (h : l.any (bad k) = false) : Fine k l := fun x hx => by
  have := List.any_eq_false.1 h x hx
  simpa using this
theorem Fine.out {k : Int} {l : List Int} (h : Fine k l) : l.any (bad k) = false := by
  rw [List.any_eq_false]
  intro x hx
  rw [h x hx]
  simp
theorem chg_fine {k : Int} (c : Ch) (ht : Fine k c.to) (n : Nat) : ∀ out text, Fine k out → Fine k text → Fine k (chg c n out text) := by
  induction n with
  | zero => intro out text ho _; exact ho
  | succ n ih =>
    intro out text ho hx
    cases text with
    | nil => exact ho
    | cons x rest =>
      unfold chg
      split
      · exact ih _ _ (ho.app ht) (fun y hy => hx y (List.mem_of_mem_drop hy))
      · exact ih _ _ (ho.app (fun y hy => hx y (by simp only [List.mem_singleton] at hy; rw [hy]; simp))) (fun y hy => hx y (List.mem_cons_of_mem _ hy))
theorem change_fine {k : Int} (c : Ch) (ht : Fine k c.to) (text : List Int) (h : Fine k text) : Fine k (change c text) := chg_fine c ht _ _ _ (fun _ h => by cases h) h
theorem allGo_fine {k : Int} (l : List Ch) (hl : ∀ c, c ∈ l → Fine k c.to) : ∀ text r, Fine k text → allGo l text = some r → Fine k r := by
  induction l with
  | nil => intro text r h e; cases e; exact h
  | cons c l ih =>
    intro text r h e
    unfold allGo at e
    split at e
    · cases e
    · exact ih (fun c hc => hl c (List.mem_cons_of_mem _ hc)) _ _ (change_fine c (hl c (by simp)) text h) e
theorem allR_fine {k : Int} (l : List Ch) (hl : ∀ c, c ∈ l → Fine k c.to) (text : List Int) (h : Fine k text) : Fine k (allR l text) := by
  unfold allR
  split
  · cases e : allGo l text with
    | none => intro x hx; cases hx
    | some r => exact allGo_fine l hl text r h e
  · intro x hx
    cases hx
theorem to_fine {c : Ch} (h : check c = 0) : Fine c.kinds c.to := by
  unfold check at h
  split at h
  · omega
  · split at h
    · omega
    · split at h
      · omega
      · rename_i h3
        simp only [Ch.farB, Bool.or_eq_true, not_or, Bool.not_eq_true] at h3
        exact fine_of h3.1.2
theorem firstX_all {k : Int} {l : List Ch} (h : firstX k l = 0) : ∀ c, c ∈ l → check c = 0 ∧ c.kinds = k := by
  induction l with
  | nil => intro c hc; cases hc
  | cons a l ih =>
    unfold firstX at h
    split at h
    · rename_i h1
      intro c hc
      rcases List.mem_cons.1 hc with rfl | hc
      · unfold oneX at h1
        split at h1
        · rename_i h2
          split at h1
          · rename_i h3
            exact ⟨h2, h3⟩
          · omega
        · rename_i h2
          exact absurd h1 h2
      · exact ih h c hc
    · rename_i h1
      exact absurd h h1
theorem parts_of {y : VX} (h : checkX y.lex = 0) : (∀ s, s ∈ y.sts → Fine y.k s.2.form) ∧ (∀ c, c ∈ y.ces → Fine y.k c.2.bef ∧ Fine y.k c.2.beh) ∧ ∀ c, c ∈ chs y.xs → Fine y.k c.to := by
  unfold checkX at h
  split at h
  · omega
  · split at h
    · omega
    · split at h
      · omega
      · rename_i h3
        simp only [Lex.farB, VX.lex, Bool.or_eq_true, not_or, List.any_eq_true, not_exists, not_and, List.mem_map] at h3
        refine ⟨fun s hs => ?_, fun c hc => ?_, fun c hc => ?_⟩
        · have := h3.1 s.2 ⟨s, hs, rfl⟩
          simp only [stFar, Bool.or_eq_true, not_or, Bool.not_eq_true] at this
          exact fine_of this.2
        · have := h3.2 c.2 ⟨c, hc, rfl⟩
          simp only [ceFar, Bool.or_eq_true, not_or, Bool.not_eq_true] at this
          exact ⟨fine_of this.1.2, fine_of this.2⟩
        · obtain ⟨h1, h2⟩ := firstX_all h c hc
          have h2' : c.kinds = y.k := h2
          rw [← h2']
          exact to_fine h1
theorem form_fine {y : VX} (h : checkX y.lex = 0) (s : Ly.VSt) (c : Ly.VCe) (hs : s ∈ y.sts) (hc : c ∈ y.ces) : Fine y.k (formX (chs y.xs) s.2 c.2) := by
  obtain ⟨h1, h2, h3⟩ := parts_of h
  exact allR_fine _ h3 _ (((h2 c hc).1.app (h1 s hs)).app (h2 c hc).2)
theorem fit_mem {y : VX} {s c : Int} {a : Ly.VSt} {b : Ly.VCe} (h : fitX y s c = some (a, b)) : ∃ i j : Nat, s = i ∧ c = j ∧ y.sts[i]? = some a ∧ y.ces[j]? = some b ∧ a.2.cls = b.2.cls := by
  unfold fitX at h
  split at h
  · cases h
  · rename_i h1
    split at h
    · rename_i a' b' e1 e2
      split at h
      · rename_i hcl
        simp only [Option.some.injEq, Prod.mk.injEq] at h
        obtain ⟨rfl, rfl⟩ := h
        exact ⟨s.toNat, c.toNat, by omega, by omega, e1, e2, hcl⟩
      · cases h
    · cases h
/-- what Make makes can be read -/
theorem make_read {y : VX} {s c : Int} (h : makeE y s c = 0) (hl : ¬ 60 < (makeR y s c).length) : readE y (makeR y s c) = 0 := by
  by_cases hck : checkX y.lex = 0
  · have e1 : makeE y s c = if (fitX y s c).isSome then 0 else 5 := if_pos hck
    rw [e1] at h
    cases e : fitX y s c with
    | none => rw [e] at h; simp at h
    | some p =>
      obtain ⟨a, b⟩ := p
      obtain ⟨i, j, _, _, ha, hb, _⟩ := fit_mem e
      have e2 : makeR y s c = formX (chs y.xs) a.2 b.2 := by unfold makeR; rw [if_pos hck, e]
      have hf := form_fine hck a b (List.mem_of_getElem? ha) (List.mem_of_getElem? hb)
      unfold readE
      rw [if_pos hck, if_neg hl, e2, hf.out]
      rfl
  · have e1 : makeE y s c = checkX y.lex := if_neg hck
    exact absurd (e1.symm.trans h) hck
end Go.Proofs.Ytkcbgapakpheiaa.Fp
