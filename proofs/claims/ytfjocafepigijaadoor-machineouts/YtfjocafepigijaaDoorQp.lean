/- The queue's entries in plain words: what is moved about stays what it was but for its order. No conditions. -/
import Derived.Test.YtfjocafepigijaaDoorWk4
namespace Go.Proofs.YtfjocafepigijaaDoor.Qp
open Go.RowKit Mv

theorem fcs_set (l : List (Int × Int)) (k : Nat) (a b : Int) : ((fcs l).set (k * 2) (.int .i64 a)).set (k * 2 + 1) (.int .i64 b) = fcs (l.set k (a, b)) := by
  induction l generalizing k with
  | nil => simp [fcs]
  | cons x l ih =>
    cases k with
    | zero => simp [fcs, fc]
    | succ k =>
      have e : (k + 1) * 2 = k * 2 + 1 + 1 := by omega
      have := ih k
      rw [e]
      have e2 : ∀ m : List (Int × Int), fcs (x :: m) = .int .i64 x.1 :: .int .i64 x.2 :: fcs m := fun m => rfl
      simp only [e2, List.set_cons_succ, ← this]

/-- a thing moved from one place to another, and another one laid where it was -/
theorem set_swap (l : List (Int × Int)) (i j : Nat) (e : Int × Int) (hi : i < l.length) (hj : j < l.length) (hne : i ≠ j) : ((l.set i l[j]).set j e).Perm (l.set i e) := by
  rw [List.perm_iff_count]
  intro b
  have h1 : (l.set i l[j]).count b = l.count b - (if l[i] == b then 1 else 0) + (if l[j] == b then 1 else 0) := by rw [List.count_set hi]
  have h2 : (l.set i e).count b = l.count b - (if l[i] == b then 1 else 0) + (if e == b then 1 else 0) := by rw [List.count_set hi]
  have hj' : j < (l.set i l[j]).length := by simpa using hj
  have h3 : ((l.set i l[j]).set j e).count b = (l.set i l[j]).count b - (if (l.set i l[j])[j] == b then 1 else 0) + (if e == b then 1 else 0) := by rw [List.count_set hj']
  have h4 : (l.set i l[j])[j] = l[j] := List.getElem_set_ne hne _
  rw [h3, h4, h1, h2]
  have hp : (if l[i] == b then 1 else 0) ≤ l.count b := by
    split
    · rename_i h
      have : b = l[i] := by simpa using (beq_iff_eq.1 h).symm
      exact List.count_pos_iff.2 (this ▸ List.getElem_mem hi)
    · omega
  generalize (if l[i] == b then 1 else 0) = x at *
  generalize (if l[j] == b then 1 else 0) = y at *
  generalize (if e == b then 1 else 0) = z at *
  omega
theorem wrap_idx {k n : Nat} (h : k < n) (hn : n ≤ 1000000000000) : ∃ m2 k1 k2 : Nat, k1 = 2 * k + 1 ∧ k2 = 2 * k + 2 ∧ wrap64 (2 * (k : Int)) = (m2 : Int) ∧ wrap64 ((m2 : Int) + 1) = (k1 : Int) ∧ wrap64 ((k1 : Int) + 1) = (k2 : Int) ∧ IntKind.i64.wrap ((k1 : Int) + 1) = (k2 : Int) := by
  refine ⟨2 * k, 2 * k + 1, 2 * k + 2, rfl, rfl, ?_, ?_, ?_, ?_⟩
  · unfold wrap64; omega
  · unfold wrap64; omega
  · unfold wrap64; omega
  · rw [IntKind.wrap_i64]; omega
end Go.Proofs.YtfjocafepigijaaDoor.Qp
