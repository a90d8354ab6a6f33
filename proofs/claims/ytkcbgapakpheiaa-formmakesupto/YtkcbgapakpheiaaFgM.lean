/- In plain words: a form that Make makes has symbols of the lexicon's kinds alone. No conditions. -/
import Derived.Test.YtkcbgapakpheiaaRd
namespace Go.Proofs.Ytkcbgapakpheiaa.Fp
open Sd Md Aq Ls Lx Lz Fo Mk Tk Rd

def Fine (k : Int) (l : List Int) : Prop := ∀ x, x ∈ l → bad k x = false
theorem Fine.app {k : Int} {a b : List Int} (ha : Fine k a) (hb : Fine k b) : Fine k (a ++ b) := fun x hx => by
  rcases List.mem_append.1 hx with h | h
  · exact ha x h
  · exact hb x h
theorem fine_of {k : Int} {l : List Int} (h : l.any (bad k) = false) : Fine k l := fun x hx => by
  have := List.any_eq_false.1 h x hx
  simpa using this
theorem Fine.out {k : Int} {l : List Int} (h : Fine k l) : l.any (bad k) = false := by
  rw [List.any_eq_false]
  intro x hx
  rw [h x hx]
  simp
theorem chg_fine {k : Int} (c : Ch) (ht : Fine k c.to) (n : Nat) : ∀ out text, Fine k out → Fine k text → Fine k (chg c n out text) := by
  induction n with
  | zero => intro out text ho _; exact ho
  | succ n ih =>
    intro out text ho hx
    cases text with
    | nil => exact ho
    | cons x rest =>
      unfold chg
      split
      · exact ih _ _ (ho.app ht) (fun y hy => hx y (List.mem_of_mem_drop hy))
      · exact ih _ _ (ho.app (fun y hy => hx y (by simp only [List.mem_singleton] at hy; rw [hy]; simp))) (fun y hy => hx y (List.mem_cons_of_mem _ hy))
theorem change_fine {k : Int} (c : Ch) (ht : Fine k c.to) (text : List Int) (h : Fine k text) : Fine k (change c text) := chg_fine c ht _ _ _ (fun _ h => by cases h) h
theorem allGo_fine {k : Int} (l : List Ch) (hl : ∀ c, c ∈ l → Fine k c.to) : ∀ text r, Fine k text → allGo l text = some r → Fine k r := by
  induction l with
  | nil => intro text r h e; cases e; exact h
  | cons c l ih =>
    intro text r h e
    unfold allGo at e
    split at e
    · cases e
    · exact ih (fun c hc => hl c (List.mem_cons_of_mem _ hc)) _ _ (change_fine c (hl c (by simp)) text h) e
theorem allR_fine {k : Int} (l : List Ch) (hl : ∀ c, c ∈ l → Fine k c.to) (text : List Int) (h : Fine k text) : Fine k (allR l text) := by
  unfold allR
  split
  · cases e : allGo l text with
    | none => intro x hx; cases hx
    | some r => exact allGo_fine l hl text r h e
  · intro x hx
    cases hx
theorem to_fine {c : Ch} (h : check c = 0) : Fine c.kinds c.to := by
  unfold check at h
  split at h
  · omega
  · split at h
    · omega
    · split at h
      · omega
      · rename_i h3
        simp only [Ch.farB, Bool.or_eq_true, not_or, Bool.not_eq_true] at h3
        exact fine_of h3.1.2
theorem firstX_all {k : Int} {l : List Ch} (h : firstX k l = 0) : ∀ c, c ∈ l → check c = 0 ∧ c.kinds = k := by
  induction l with
  | nil => intro c hc; cases hc
  | cons a l ih =>
    unfold firstX at h
    split at h
    · rename_i h1
      intro c hc
      rcases List.mem_cons.1 hc with rfl | hc
      · unfold oneX at h1
        split at h1
        · rename_i h2
          split at h1
          · rename_i h3
            exact ⟨h2, h3⟩
          · omega
        · rename_i h2
          exact absurd h1 h2
      · exact ih h c hc
    · rename_i h1
      exact absurd h h1
theorem parts_of {y : VX} (h : checkX y.lex = 0) : (∀ s, s ∈ y.sts → Fine y.k s.2.form) ∧ (∀ c, c ∈ y.ces → Fine y.k c.2.bef ∧ Fine y.k c.2.beh) ∧ ∀ c, c ∈ chs y.xs → Fine y.k c.to := by
  unfold checkX at h
  split at h
  · omega
  · split at h
    · omega
    · split at h
      · omega
      · rename_i h3
        simp only [Lex.farB, VX.lex, Bool.or_eq_true, not_or, List.any_eq_true, not_exists, not_and, List.mem_map] at h3
        refine ⟨fun s hs => ?_, fun c hc => ?_, fun c hc => ?_⟩
        · have := h3.1 s.2 ⟨s, hs, rfl⟩
          simp only [stFar, Bool.or_eq_true, not_or, Bool.not_eq_true] at this
          exact fine_of this.2
        · have := h3.2 c.2 ⟨c, hc, rfl⟩
          simp only [ceFar, Bool.or_eq_true, not_or, Bool.not_eq_true] at this
          exact ⟨fine_of this.1.2, fine_of this.2⟩
        · obtain ⟨h1, h2⟩ := firstX_all h c hc
          have h2' : c.kinds = y.k := h2
          rw [← h2']
          exact to_fine h1
theorem form_fine {y : VX} (h : checkX y.lex = 0) (s : Ly.VSt) (c : Ly.VCe) (hs : s ∈ y.sts) (hc : c ∈ y.ces) : Fine y.k (formX (chs y.xs) s.2 c.2) := by
  obtain ⟨h1, h2, h3⟩ := parts_of h
  exact allR_fine _ h3 _ (((h2 c hc).1.app (h1 s hs)).app (h2 c hc).2)
theorem fit_mem {y : VX} {s c : Int} {a : Ly.VSt} {b : Ly.VCe} (h : fitX y s c = some (a, b)) : ∃ i j : Nat, s = i ∧ c = j ∧ y.sts[i]? = some a ∧ y.ces[j]? = some b ∧ a.2.cls = b.2.cls := by
  unfold fitX at h
  split at h
  · cases h
  · rename_i h1
    split at h
    · rename_i a' b' e1 e2
      split at h
      · rename_i hcl
        simp only [Option.some.injEq, Prod.mk.injEq] at h
        obtain ⟨rfl, rfl⟩ := h
        exact ⟨s.toNat, c.toNat, by omega, by omega, e1, e2, hcl⟩
      · cases h
    · cases h
/-- what Make makes can be read -/
theorem make_read {y : VX} {s c : Int} (h : makeE y s c = 0) (hl : ¬ 60 < (makeR y s c).length) : readE y (makeR y s c) = 0 := by
  by_cases hck : checkX y.lex = 0
  · have e1 : makeE y s c = if (fitX y s c).isSome then 0 else 5 := if_pos hck
    rw [e1] at h
    cases e : fitX y s c with
    | none => rw [e] at h; simp at h
    | some p =>
      obtain ⟨a, b⟩ := p
      obtain ⟨i, j, _, _, ha, hb, _⟩ := fit_mem e
      have e2 : makeR y s c = formX (chs y.xs) a.2 b.2 := by unfold makeR; rw [if_pos hck, e]
      have hf := form_fine hck a b (List.mem_of_getElem? ha) (List.mem_of_getElem? hb)
      unfold readE
      rw [if_pos hck, if_neg hl, e2, hf.out]
      rfl
  · have e1 : makeE y s c = checkX y.lex := if_neg hck
    exact absurd (e1.symm.trans h) hck
end Go.Proofs.Ytkcbgapakpheiaa.Fp
/- In plain words: which readings Read finds. No conditions. -/
namespace Go.Proofs.Ytkcbgapakpheiaa.Fq
open Sd Md Aq Ls Lx Lz Fo Mk Tk Rd Fp

theorem cells_mem (h : List Ch) (s : St) (i : Nat) (l : List Ly.VCe) : ∀ (k : Nat) (x : Nat × Nat × List Int), x ∈ cellsX h s i k l ↔ ∃ (j : Nat) (b : Ly.VCe), l[j]? = some b ∧ s.cls = b.2.cls ∧ x = (i, k + j, formX h s b.2) := by
  induction l with
  | nil => intro k x; simp [cellsX]
  | cons c l ih =>
    intro k x
    unfold cellsX
    rw [List.mem_append, ih]
    constructor
    · rintro (hx | ⟨j, b, h1, h2, h3⟩)
      · split at hx
        · rename_i hc
          simp only [List.mem_singleton] at hx
          exact ⟨0, c, rfl, hc, hx⟩
        · cases hx
      · exact ⟨j + 1, b, h1, h2, by rw [h3, Nat.add_right_comm]; rfl⟩
    · rintro ⟨j, b, h1, h2, h3⟩
      cases j with
      | zero =>
        simp only [List.getElem?_cons_zero, Option.some.injEq] at h1
        subst h1
        left
        rw [if_pos h2, List.mem_singleton]
        exact h3
      | succ j => exact .inr ⟨j, b, by simpa using h1, h2, by rw [h3, Nat.add_right_comm]; rfl⟩
theorem stems_mem (h : List Ch) (ces : List Ly.VCe) (l : List Ly.VSt) : ∀ (i : Nat) (x : Nat × Nat × List Int), x ∈ stemsX h ces i l ↔ ∃ (j : Nat) (a : Ly.VSt), l[j]? = some a ∧ x ∈ cellsX h a.2 (i + j) 0 ces := by
  induction l with
  | nil => intro i x; simp [stemsX]
  | cons c l ih =>
    intro i x
    unfold stemsX
    rw [List.mem_append, ih]
    constructor
    · rintro (hx | ⟨j, a, h1, h2⟩)
      · exact ⟨0, c, rfl, hx⟩
      · exact ⟨j + 1, a, h1, by rw [Nat.add_right_comm] at h2; exact h2⟩
    · rintro ⟨j, a, h1, h2⟩
      cases j with
      | zero =>
        simp only [List.getElem?_cons_zero, Option.some.injEq] at h1
        subst h1
        exact .inl h2
      | succ j => exact .inr ⟨j, a, by simpa using h1, by rw [Nat.add_right_comm]; exact h2⟩
theorem told_mem (y : VX) (x : Nat × Nat × List Int) : x ∈ toldX y ↔ ∃ a b, y.sts[x.1]? = some a ∧ y.ces[x.2.1]? = some b ∧ a.2.cls = b.2.cls ∧ x.2.2 = formX (chs y.xs) a.2 b.2 := by
  unfold toldX
  rw [stems_mem]
  constructor
  · rintro ⟨i, a, h1, h2⟩
    obtain ⟨j, b, h3, h4, h5⟩ := (cells_mem _ _ _ _ _ _).1 h2
    rw [h5]
    simp only [Nat.zero_add]
    exact ⟨a, b, h1, h3, h4, rfl⟩
  · rintro ⟨a, b, h1, h2, h3, h4⟩
    refine ⟨x.1, a, h1, (cells_mem _ _ _ _ _ _).2 ⟨x.2.1, b, h2, h3, ?_⟩⟩
    rw [← h4, Nat.zero_add, Nat.zero_add]
theorem hits_mem (y : VX) (form : List Int) (p : Nat × Nat) : p ∈ hits form (toldX y) ↔ ∃ a b, y.sts[p.1]? = some a ∧ y.ces[p.2]? = some b ∧ a.2.cls = b.2.cls ∧ formX (chs y.xs) a.2 b.2 = form := by
  unfold hits
  rw [List.mem_map]
  constructor
  · rintro ⟨x, hx, rfl⟩
    obtain ⟨h1, h2⟩ := List.mem_filter.1 hx
    obtain ⟨a, b, h3, h4, h5, h6⟩ := (told_mem y x).1 h1
    exact ⟨a, b, h3, h4, h5, by rw [← h6]; exact eq_of_beq h2⟩
  · rintro ⟨a, b, h1, h2, h3, h4⟩
    refine ⟨(p.1, p.2, form), List.mem_filter.2 ⟨(told_mem y _).2 ⟨a, b, h1, h2, h3, h4.symm⟩, by simp⟩, rfl⟩
theorem fit_some {y : VX} {i j : Nat} {a : Ly.VSt} {b : Ly.VCe} (h1 : y.sts[i]? = some a) (h2 : y.ces[j]? = some b) (h3 : a.2.cls = b.2.cls) : fitX y i j = some (a, b) := by
  have l1 := (List.getElem?_eq_some_iff.1 h1).1
  have l2 := (List.getElem?_eq_some_iff.1 h2).1
  unfold fitX
  rw [if_neg (by omega), Int.toNat_natCast, Int.toNat_natCast, h1, h2]
  exact if_pos h3
/-- each reading is made again -/
theorem hit_made {y : VX} {form : List Int} (hck : checkX y.lex = 0) {p : Nat × Nat} (h : p ∈ hits form (toldX y)) : makeE y p.1 p.2 = 0 ∧ makeR y p.1 p.2 = form := by
  obtain ⟨a, b, h1, h2, h3, h4⟩ := (hits_mem y form p).1 h
  have e := fit_some h1 h2 h3
  unfold makeE makeR
  rw [if_pos hck, if_pos hck, e]
  exact ⟨rfl, h4⟩
/-- what was made is among them -/
theorem made_hit {y : VX} {s c : Int} (h : makeE y s c = 0) : ∃ i j : Nat, s = i ∧ c = j ∧ (i, j) ∈ hits (makeR y s c) (toldX y) := by
  by_cases hck : checkX y.lex = 0
  · have e1 : makeE y s c = if (fitX y s c).isSome then 0 else 5 := if_pos hck
    rw [e1] at h
    cases e : fitX y s c with
    | none => rw [e] at h; simp at h
    | some p =>
      obtain ⟨a, b⟩ := p
      obtain ⟨i, j, hi, hj, ha, hb, hcl⟩ := fit_mem e
      refine ⟨i, j, hi, hj, (hits_mem y _ _).2 ⟨a, b, ha, hb, hcl, ?_⟩⟩
      unfold makeR
      rw [if_pos hck, e]
  · have e1 : makeE y s c = checkX y.lex := if_neg hck
    exact absurd (e1.symm.trans h) hck
end Go.Proofs.Ytkcbgapakpheiaa.Fq
/- In plain words: a form of a right lexicon is what its changes make, one behind the other: none is too long on the way. No conditions. -/
namespace Go.Proofs.Ytkcbgapakpheiaa.Fg
open Sd Md Aq Ls Lx Ly Lz Fo Mk Tk Rd Fp

def runC (l : List Ch) (t : List Int) : List Int := l.foldl (fun t c => change c t) t
theorem chg_len (c : Ch) (h1 : 1 ≤ c.frm.length) (h2 : c.to.length ≤ 2) (n : Nat) : ∀ out text, (chg c n out text).length ≤ out.length + 2 * text.length := by
  induction n with
  | zero => intro out text; simp only [chg]; omega
  | succ n ih =>
    intro out text
    cases text with
    | nil => simp only [chg]; omega
    | cons x rest =>
      unfold chg
      split
      · have := ih (out ++ c.to) ((x :: rest).drop c.frm.length)
        simp only [List.length_append, List.length_drop, List.length_cons] at this ⊢
        omega
      · have := ih (out ++ [x]) rest
        simp only [List.length_append, List.length_cons, List.length_nil] at this ⊢
        omega
theorem change_len {c : Ch} (h : check c = 0) (t : List Int) : (change c t).length ≤ 2 * t.length := by
  have g := good_of h
  have := chg_len c g.f1 g.t2 t.length [] t
  simpa [change] using this
theorem allGo_run (l : List Ch) : ∀ t : List Int, (∀ c, c ∈ l → check c = 0) → t.length * 2 ^ l.length ≤ 120 → allGo l t = some (runC l t) := by
  induction l with
  | nil => intro t _ _; rfl
  | cons c l ih =>
    intro t hc hl
    have h1 : 1 ≤ 2 ^ l.length := Nat.one_le_two_pow
    rw [List.length_cons, Nat.pow_succ] at hl
    have h2 : t.length * 2 ≤ 120 := Nat.le_trans (by rw [← Nat.mul_assoc] at hl; exact Nat.le_trans (Nat.mul_le_mul_right 2 (Nat.le_mul_of_pos_right t.length h1)) hl) (Nat.le_refl _)
    have hcl := change_len (hc c (by simp)) t
    unfold allGo
    rw [if_neg (by omega), ih (change c t) (fun d hd => hc d (List.mem_cons_of_mem _ hd)) (Nat.le_trans (Nat.mul_le_mul_right _ hcl) (by rw [Nat.mul_comm 2, Nat.mul_assoc, Nat.mul_comm 2]; exact hl))]
    rfl
theorem firstE_of {l : List Ch} (h : ∀ c, c ∈ l → check c = 0) : firstE l = 0 := by
  induction l with
  | nil => rfl
  | cons c l ih =>
    unfold firstE
    rw [if_pos (h c (by simp))]
    exact ih fun d hd => h d (List.mem_cons_of_mem _ hd)
theorem right_of {y : VX} (h : checkX y.lex = 0) : firstX y.k (chs y.xs) = 0 ∧ y.xs.length ≤ 3 ∧ 1 ≤ y.k ∧ y.k ≤ 4 := by
  unfold checkX at h
  split at h
  · omega
  · rename_i h1
    simp only [Lex.manyB, VX.lex, Bool.or_eq_true, not_or, decide_eq_true_eq, List.length_map, chs_length] at h1
    split at h
    · omega
    · split at h
      · omega
      · obtain ⟨⟨⟨_, h3⟩, h4⟩, h5⟩ := h1
        exact ⟨h, by omega, Int.not_lt.1 (fun hh => h4 (decide_eq_true hh)), Int.not_lt.1 (fun hh => h5 (decide_eq_true hh))⟩
theorem form_run {y : VX} (h : checkX y.lex = 0) (s : VSt) (c : VCe) (hs : s ∈ y.sts) (hc : c ∈ y.ces) : formX (chs y.xs) s.2 c.2 = runC (chs y.xs) (c.2.bef ++ s.2.form ++ c.2.beh) := by
  obtain ⟨hf, hl3, hk1, hk4⟩ := right_of h
  have hall := firstX_all hf
  obtain ⟨p1, p2, _⟩ := parts_of h
  obtain ⟨l1, l2⟩ := lens_of h
  have L1 := l1 s hs
  have L2 := l2 c hc
  have hlen : (c.2.bef ++ s.2.form ++ c.2.beh).length ≤ 15 := by simp only [List.length_append]; omega
  have hfine : Fine y.k (c.2.bef ++ s.2.form ++ c.2.beh) := ((p2 c hc).1.app (p1 s hs)).app (p2 c hc).2
  have hhead : y.k ≤ headK (chs y.xs) := by
    cases e : chs y.xs with
    | nil => simp only [headK]; omega
    | cons d l =>
      have := (hall d (by rw [e]; simp)).2
      simp only [headK]
      omega
  have hck : checks (chs y.xs) = 0 := by
    unfold checks
    rw [if_neg (by rw [chs_length]; omega), if_pos (firstE_of fun c hc => (hall c hc).1)]
    have : otherK (chs y.xs) = false := by
      unfold otherK
      rw [List.any_eq_false]
      intro c hc
      have e1 := (hall c hc).2
      cases e : chs y.xs with
      | nil => rw [e] at hc; cases hc
      | cons d l =>
        have e2 := (hall d (by rw [e]; simp)).2
        simp [headK, e1, e2]
    rw [this]
    rfl
  have hte : textE (headK (chs y.xs)) (c.2.bef ++ s.2.form ++ c.2.beh) = 0 := by
    unfold textE
    rw [if_neg (by omega)]
    have : (c.2.bef ++ s.2.form ++ c.2.beh).any (bad (headK (chs y.xs))) = false := by
      rw [List.any_eq_false]
      intro x hx
      have := hfine x hx
      simp only [bad, Bool.or_eq_false_iff, decide_eq_false_iff_not] at this
      simp only [bad, Bool.or_eq_true, decide_eq_true_eq]
      omega
    rw [this]
    rfl
  have hp : 2 ^ (chs y.xs).length ≤ 8 := by
    have e8 : (8 : Nat) = 2 ^ 3 := rfl
    rw [e8]
    exact Nat.pow_le_pow_right (by omega) (by rw [chs_length]; exact hl3)
  have hgo := allGo_run (chs y.xs) (c.2.bef ++ s.2.form ++ c.2.beh) (fun c hc => (hall c hc).1) (Nat.le_trans (Nat.mul_le_mul hlen hp) (Nat.le_refl _))
  unfold formX allR
  rw [if_pos ⟨hck, hte⟩, hgo]
  rfl
theorem runC_len (l : List Ch) : ∀ t : List Int, (∀ c, c ∈ l → check c = 0) → (runC l t).length ≤ t.length * 2 ^ l.length := by
  induction l with
  | nil => intro t _; simp [runC]
  | cons c l ih =>
    intro t hc
    have hcl := change_len (hc c (by simp)) t
    have := ih (change c t) fun d hd => hc d (List.mem_cons_of_mem _ hd)
    rw [List.length_cons, Nat.pow_succ]
    refine Nat.le_trans this (Nat.le_trans (Nat.mul_le_mul_right _ hcl) ?_)
    rw [Nat.mul_comm 2, Nat.mul_assoc, Nat.mul_comm 2]
    exact Nat.le_refl _
theorem form_len {y : VX} (h : checkX y.lex = 0) (s : VSt) (c : VCe) (hs : s ∈ y.sts) (hc : c ∈ y.ces) : (formX (chs y.xs) s.2 c.2).length ≤ 120 := by
  rw [form_run h s c hs hc]
  obtain ⟨hf, hl3, _, _⟩ := right_of h
  obtain ⟨l1, l2⟩ := lens_of h
  have L1 := l1 s hs
  have L2 := l2 c hc
  have hlen : (c.2.bef ++ s.2.form ++ c.2.beh).length ≤ 15 := by simp only [List.length_append]; omega
  have hp : 2 ^ (chs y.xs).length ≤ 8 := by
    have e8 : (8 : Nat) = 2 ^ 3 := rfl
    rw [e8]
    exact Nat.pow_le_pow_right (by omega) (by rw [chs_length]; exact hl3)
  exact Nat.le_trans (runC_len _ _ fun c hc => (firstX_all hf c hc).1) (Nat.mul_le_mul hlen hp)
end Go.Proofs.Ytkcbgapakpheiaa.Fg
