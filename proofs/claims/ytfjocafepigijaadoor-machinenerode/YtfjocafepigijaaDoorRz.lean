/- What Cost must answer, in plain words; that there is just one such answer; and that a row of least costs gives it. No conditions. -/
import Derived.Test.YtfjocafepigijaaDoorSy
import Derived.Test.YtfjocafepigijaaDoorNwM
import Derived.Test.YtfjocafepigijaaDoorTdM
namespace Go.Proofs.YtfjocafepigijaaDoor.Rz
open Mv Wk Sy Wd Wg Nw

theorem checkP_ex (m : M) : ∃ x, checkP m x := by
  cases h1 : sizeB m with
  | false => exact ⟨7, .inl ⟨h1, rfl⟩⟩
  | true =>
    by_cases h2 : ∃ k, ∃ h : k < m.arcs.length, arcB m.st m.arcs[k] = false
    · exact ⟨3, .inr (.inl ⟨h1, h2, rfl⟩)⟩
    · have h2' : ∀ k (h : k < m.arcs.length), arcB m.st m.arcs[k] = true := fun k h => by
        cases e : arcB m.st m.arcs[k] with
        | true => rfl
        | false => exact absurd ⟨k, h, e⟩ h2
      by_cases h3 : ∃ k, ∃ h : k < m.fins.length, finB m.st m.fins[k] = false
      · exact ⟨3, .inr (.inr (.inl ⟨h1, h2', h3, rfl⟩))⟩
      · have h3' : ∀ k (h : k < m.fins.length), finB m.st m.fins[k] = true := fun k h => by
          cases e : finB m.st m.fins[k] with
          | true => rfl
          | false => exact absurd ⟨k, h, e⟩ h3
        by_cases h4 : onceK m m.fins.length
        · exact ⟨0, .inr (.inr (.inr (.inr ⟨h1, h2', h3', h4, rfl⟩)))⟩
        · exact ⟨6, .inr (.inr (.inr (.inl ⟨h1, h2', h3', h4, rfl⟩)))⟩
theorem checkP_ok {m : M} (h : checkP m 0) : sizeB m = true ∧ (∀ k (h : k < m.arcs.length), arcB m.st m.arcs[k] = true) ∧ (∀ k (h : k < m.fins.length), finB m.st m.fins[k] = true) := by
  rcases h with ⟨_, e⟩ | ⟨_, _, e⟩ | ⟨_, _, _, e⟩ | ⟨_, _, _, _, e⟩ | ⟨a, b, c, _, _⟩
  · omega
  · omega
  · omega
  · omega
  · exact ⟨a, b, c⟩
/-- the least cost of a walk that ends; none: there is none -/
def IsC (m : M) (inn out : List Int) : Option Nat → Prop
  | none => ∀ y (hy : y < m.fins.length), ∀ f c : Nat, (m.fins[y]).1 = (f : Int) → ¬ Wk.Reach m inn out true f inn.length out.length c
  | some v => (∃ y, ∃ hy : y < m.fins.length, ∃ f c : Nat, (m.fins[y]).1 = (f : Int) ∧ Wk.Reach m inn out true f inn.length out.length c ∧ (v : Int) = c + (m.fins[y]).2) ∧ ∀ y (hy : y < m.fins.length), ∀ f c : Nat, (m.fins[y]).1 = (f : Int) → Wk.Reach m inn out true f inn.length out.length c → (v : Int) ≤ c + (m.fins[y]).2
theorem IsC.one {m : M} {inn out : List Int} {a b : Option Nat} (h : IsC m inn out a) (h' : IsC m inn out b) : a = b := by
  cases a with
  | none =>
    cases b with
    | none => rfl
    | some v => obtain ⟨⟨y, hy, f, c, e, r, _⟩, _⟩ := h'; exact absurd r (h y hy f c e)
  | some u =>
    cases b with
    | none => obtain ⟨⟨y, hy, f, c, e, r, _⟩, _⟩ := h; exact absurd r (h' y hy f c e)
    | some v =>
      obtain ⟨⟨y, hy, f, c, e, r, ev⟩, hl⟩ := h
      obtain ⟨⟨y', hy', f', c', e', r', ev'⟩, hl'⟩ := h'
      have q1 := hl y' hy' f' c' e' r'
      have q2 := hl' y hy f c e r
      congr 1
      omega
theorem isC_prog {S : Nat} {A : List Arc} {fins : List (Int × Int)} {inn out : List Int} {R : List Nat} {v : Nat} (hfin : ∀ k (h : k < fins.length), finB (S : Int) fins[k] = true) (hg : Fine ⟨(S : Int), A, fins⟩ inn out S inn.length out.length R) (hb : Bd S (inn.length + out.length + 1) ≤ 1000000000000) (hl : Lf fins R fins.length v) :
    (v = far ∧ IsC ⟨(S : Int), A, fins⟩ inn out none) ∨ (v < far ∧ IsC ⟨(S : Int), A, fins⟩ inn out (some v)) := by
  have hfar : 1000000000000 + 1000000 < far := by unfold far; omega
  have key : ∀ y (hy : y < fins.length), ∀ f c : Nat, (fins[y]).1 = (f : Int) → Wk.Reach ⟨(S : Int), A, fins⟩ inn out true f inn.length out.length c → (v : Int) ≤ c + (fins[y]).2 ∧ v < far := by
    intro y hy f c e hR
    have h1 := hg.low f c hR
    have h2 := hl.low y hy hy f e h1.2
    have h3 := hg.top2 f h1.2
    have h4 := hfin y hy
    unfold finB at h4
    simp only [decide_eq_true_eq] at h4
    constructor
    · omega
    · omega
  by_cases hv : v < far
  · refine .inr ⟨hv, ?_, fun y hy f c e hR => (key y hy f c e hR).1⟩
    obtain ⟨y, hy, f, e, hd, ev⟩ := hl.real hv
    have h4 := hfin y hy
    unfold finB at h4
    simp only [decide_eq_true_eq] at h4
    exact ⟨y, hy, f, cv R f, e, hg.row.real f (by omega) hd, ev⟩
  · exact .inl ⟨Nat.le_antisymm hl.top (Nat.not_lt.1 hv), fun y hy f c e hR => hv (key y hy f c e hR).2⟩
/-- the answer -/
def Res (m : M) (inn out : List Int) (c : Int) (ok : Bool) (e : Int) : Prop :=
  (checkP m e ∧ e ≠ 0 ∧ c = 0 ∧ ok = false) ∨ (checkP m 0 ∧ jn inn out = e ∧ e ≠ 0 ∧ c = 0 ∧ ok = false) ∨
  (checkP m 0 ∧ jn inn out = 0 ∧ e = 0 ∧ ((IsC m inn out none ∧ c = 0 ∧ ok = false) ∨ ∃ v : Nat, IsC m inn out (some v) ∧ c = (v : Int) ∧ ok = true))
theorem Res.one {m : M} {inn out : List Int} {c c' : Int} {ok ok' : Bool} {e e' : Int} (h : Res m inn out c ok e) (h' : Res m inn out c' ok' e') : c = c' ∧ ok = ok' ∧ e = e' := by
  rcases h with ⟨a, b, r, s⟩ | ⟨a, j, b, r, s⟩ | ⟨a, j, b, r⟩ <;> rcases h' with ⟨a', b', r', s'⟩ | ⟨a', j', b', r', s'⟩ | ⟨a', j', b', r'⟩
  · exact ⟨by rw [r, r'], by rw [s, s'], checkP_one a a'⟩
  · exact absurd (checkP_one a a') b
  · exact absurd (checkP_one a a') b
  · exact absurd (checkP_one a' a) b'
  · exact ⟨by rw [r, r'], by rw [s, s'], by rw [← j, ← j']⟩
  · exact absurd (j.symm.trans j') b
  · exact absurd (checkP_one a' a) b'
  · exact absurd (j'.symm.trans j) b'
  · rcases r with ⟨i, rc, ro⟩ | ⟨v, i, rc, ro⟩ <;> rcases r' with ⟨i', rc', ro'⟩ | ⟨v', i', rc', ro'⟩
    · exact ⟨by rw [rc, rc'], by rw [ro, ro'], by rw [b, b']⟩
    · exact absurd (i.one i') (by simp)
    · exact absurd (i.one i') (by simp)
    · have := i.one i'
      simp only [Option.some.injEq] at this
      exact ⟨by rw [rc, rc', this], by rw [ro, ro'], by rw [b, b']⟩
theorem jn_long {a b : List Int} (h : 60 < a.length ∨ 60 < b.length) : jn a b = 2 := by
  unfold jn
  rw [if_pos]
  rcases h with h | h
  · exact .inl (by unfold flt; rw [if_pos h])
  · exact .inr (by unfold flt; rw [if_pos h])
theorem jn_bad {a b : List Int} (h1 : ¬ 60 < a.length) (h2 : ¬ 60 < b.length) (h : allS a = false ∨ allS b = false) : jn a b = 3 := by
  unfold jn flt
  rw [if_neg h1, if_neg h2]
  cases ha : allS a <;> cases hb : allS b <;> simp_all
theorem jn_ok {a b : List Int} (h1 : ¬ 60 < a.length) (h2 : ¬ 60 < b.length) (ha : allS a = true) (hb : allS b = true) : jn a b = 0 := by
  unfold jn flt
  rw [if_neg h1, if_neg h2, ha, hb]
  simp
theorem allS_mem {l : List Int} (h : allS l = true) : ∀ s ∈ l, 1 ≤ s ∧ s ≤ 60 := fun s hs => by
  have := List.all_eq_true.1 h s hs
  unfold okS at this
  simpa using this
theorem few_ok {m : M} (h : fewB m = true) : m.st ≤ 40 ∧ m.arcs.length ≤ 120 ∧ m.fins.length ≤ 40 := by
  unfold fewB at h
  simp only [decide_eq_true_eq] at h
  omega
theorem size_ok {m : M} (h : sizeB m = true) : 1 ≤ m.st := by
  unfold sizeB at h
  simp only [decide_eq_true_eq] at h
  exact h.1
end Go.Proofs.YtfjocafepigijaaDoor.Rz
