/- In plain words: which readings Read finds. No conditions. -/
import Derived.Test.YtkcbgapakpheiaaFp
namespace Go.Proofs.Ytkcbgapakpheiaa.Fq
open Sd Md Aq Ls Lx Lz Fo Mk Tk Rd Fp

theorem cells_mem (h : List Ch) (s : St) (i : Nat) (l : List Ly.VCe) : ∀ (k : Nat) (x : Nat × Nat × List Int), x ∈ cellsX h s i k l ↔ ∃ (j : Nat) (b : Ly.VCe), l[j]? = some b ∧ s.cls = b.2.cls ∧ x = (i, k + j, formX h s b.2) := by
  induction l with
  | nil => intro k x; simp [cellsX]
  | cons c l ih =>
    intro k x
    unfold cellsX
    rw [List.mem_append, ih]
    constructor
    · rintro (hx | ⟨j, b, h1, h2, h3⟩)
      · split at hx
        · rename_i hc
          simp only [List.mem_singleton] at hx
          exact ⟨0, c, rfl, hc, hx⟩
        · cases hx
      · exact ⟨j + 1, b, h1, h2, by rw [h3, Nat.add_right_comm]; rfl⟩
    · rintro ⟨j, b, h1, h2, h3⟩
      cases j with
      | zero =>
        simp only [List.getElem?_cons_zero, Option.some.injEq] at h1
        subst h1
        left
        rw [if_pos h2, List.mem_singleton]
        exact h3
      | succ j => exact .inr ⟨j, b, by simpa using h1, h2, by rw [h3, Nat.add_right_comm]; rfl⟩
theorem stems_mem (h : List Ch) (ces : List Ly.VCe) (l : List Ly.VSt) : ∀ (i : Nat) (x : Nat × Nat × List Int), x ∈ stemsX h ces i l ↔ ∃ (j : Nat) (a : Ly.VSt), l[j]? = some a ∧ x ∈ cellsX h a.2 (i + j) 0 ces := by
  induction l with
  | nil => intro i x; simp [stemsX]
  | cons c l ih =>
    intro i x
    unfold stemsX
    rw [List.mem_append, ih]
    constructor
    · rintro (hx | ⟨j, a, h1, h2⟩)
      · exact ⟨0, c, rfl, hx⟩
      · exact ⟨j + 1, a, h1, by rw [Nat.add_right_comm] at h2; exact h2⟩
    · rintro ⟨j, a, h1, h2⟩
      cases j with
      | zero =>
        simp only [List.getElem?_cons_zero, Option.some.injEq] at h1
        subst h1
        exact .inl h2
      | succ j => exact .inr ⟨j, a, by simpa using h1, by rw [Nat.add_right_comm]; exact h2⟩
theorem told_mem (y : VX) (x : Nat × Nat × List Int) : x ∈ toldX y ↔ ∃ a b, y.sts[x.1]? = some a ∧ y.ces[x.2.1]? = some b ∧ a.2.cls = b.2.cls ∧ x.2.2 = formX (chs y.xs) a.2 b.2 := by
  unfold toldX
  rw [stems_mem]
  constructor
  · rintro ⟨i, a, h1, h2⟩
    obtain ⟨j, b, h3, h4, h5⟩ := (cells_mem _ _ _ _ _ _).1 h2
    rw [h5]
    simp only [Nat.zero_add]
    exact ⟨a, b, h1, h3, h4, rfl⟩
  · rintro ⟨a, b, h1, h2, h3, h4⟩
    refine ⟨x.1, a, h1, (cells_mem _ _ _ _ _ _).2 ⟨x.2.1, b, h2, h3, ?_⟩⟩
    rw [← h4, Nat.zero_add, Nat.zero_add]
theorem hits_mem (y : VX) (form : List Int) (p : Nat × Nat) : p ∈ hits form (toldX y) ↔ ∃ a b, y.sts[p.1]? = some a ∧ y.ces[p.2]? = some b ∧ a.2.cls = b.2.cls ∧ formX (chs y.xs) a.2 b.2 = form := by
  unfold hits
  rw [List.mem_map]
  constructor
  · rintro ⟨x, hx, rfl⟩
    obtain ⟨h1, h2⟩ := List.mem_filter.1 hx
    obtain ⟨a, b, h3, h4, h5, h6⟩ := (told_mem y x).1 h1
    exact ⟨a, b, h3, h4, h5, by rw [← h6]; exact eq_of_beq h2⟩
  · rintro ⟨a, b, h1, h2, h3, h4⟩
    refine ⟨(p.1, p.2, form), List.mem_filter.2 ⟨(told_mem y _).2 ⟨a, b, h1, h2, h3, h4.symm⟩, by simp⟩, rfl⟩
theorem fit_some {y : VX} {i j : Nat} {a : Ly.VSt} {b : Ly.VCe} (h1 : y.sts[i]? = some a) (h2 : y.ces[j]? = some b) (h3 : a.2.cls = b.2.cls) : fitX y i j = some (a, b) := by
  have l1 := (List.getElem?_eq_some_iff.1 h1).1
  have l2 := (List.getElem?_eq_some_iff.1 h2).1
  unfold fitX
  rw [if_neg (by omega), Int.toNat_natCast, Int.toNat_natCast, h1, h2]
  exact if_pos h3
/-- each reading is made again -/
theorem hit_made {y : VX} {form : List Int} (hck : checkX y.lex = 0) {p : Nat × Nat} (h : p ∈ hits form (toldX y)) : makeE y p.1 p.2 = 0 ∧ makeR y p.1 p.2 = form := by
  obtain ⟨a, b, h1, h2, h3, h4⟩ := (hits_mem y form p).1 h
  have e := fit_some h1 h2 h3
  unfold makeE makeR
  rw [if_pos hck, if_pos hck, e]
  exact ⟨rfl, h4⟩
/-- what was made is among them -/
theorem made_hit {y : VX} {s c : Int} (h : makeE y s c = 0) : ∃ i j : Nat, s = i ∧ c = j ∧ (i, j) ∈ hits (makeR y s c) (toldX y) := by
  by_cases hck : checkX y.lex = 0
  · have e1 : makeE y s c = if (fitX y s c).isSome then 0 else 5 := if_pos hck
    rw [e1] at h
    cases e : fitX y s c with
    | none => rw [e] at h; simp at h
    | some p =>
      obtain ⟨a, b⟩ := p
      obtain ⟨i, j, hi, hj, ha, hb, hcl⟩ := fit_mem e
      refine ⟨i, j, hi, hj, (hits_mem y _ _).2 ⟨a, b, ha, hb, hcl, ?_⟩⟩
      unfold makeR
      rw [if_pos hck, e]
  · have e1 : makeE y s c = checkX y.lex := if_neg hck
    exact absurd (e1.symm.trans h) hck
end Go.Proofs.Ytkcbgapakpheiaa.Fq
