/- Plain facts on the pieces of a text, and the program's grows. No conditions. -/
import Derived.Test.YtglfaibihckhnaaKindsR
namespace Go.Proofs.Ytglfaibihckhnaa.Pc
open Go.RowKit Uni Kinds

/-- a new piece of one unit: kind, place, bytes -/
def newP (u : Nat × Nat × Int) : Int × Nat × Nat := (kind u.2.2, u.1, u.2.1)
def mergesB (p : Int × Nat × Nat) (u : Nat × Nat × Int) : Bool := decide (p.1 = kind u.2.2 ∧ kind u.2.2 < 4)
def addP (acc : List (Int × Nat × Nat)) (u : Nat × Nat × Int) : List (Int × Nat × Nat) :=
  match acc.getLast? with
  | some p => if mergesB p u then acc.dropLast ++ [(p.1, p.2.1, p.2.2 + u.2.1)] else acc ++ [newP u]
  | none => acc ++ [newP u]
def pieces (s : ByteArray) : List (Int × Nat × Nat) := (units s).foldl addP []

theorem addP_nil (u : Nat × Nat × Int) : addP [] u = [newP u] := rfl
theorem addP_yes (a : List (Int × Nat × Nat)) (p : Int × Nat × Nat) (u : Nat × Nat × Int) (h : mergesB p u = true) : addP (a ++ [p]) u = a ++ [(p.1, p.2.1, p.2.2 + u.2.1)] := by
  unfold addP
  simp [h]
theorem addP_no (a : List (Int × Nat × Nat)) (p : Int × Nat × Nat) (u : Nat × Nat × Int) (h : mergesB p u = false) : addP (a ++ [p]) u = a ++ [p] ++ [newP u] := by
  unfold addP
  simp [h]
def lens (l : List (Int × Nat × Nat)) : Nat := (l.map fun p => p.2.2).sum
theorem lens_append (a b : List (Int × Nat × Nat)) : lens (a ++ b) = lens a + lens b := by simp [lens]
theorem lens_one (p : Int × Nat × Nat) : lens [p] = p.2.2 := by simp [lens]
theorem addP_lens (acc : List (Int × Nat × Nat)) (u : Nat × Nat × Int) : lens (addP acc u) = lens acc + u.2.1 := by
  rcases List.eq_nil_or_concat acc with rfl | ⟨a, p, rfl⟩
  · rw [addP_nil, lens_one]; simp [lens, newP]
  · cases h : mergesB p u with
    | true => rw [List.concat_eq_append, addP_yes a p u h, lens_append, lens_append, lens_one, lens_one]; simp only; omega
    | false => rw [List.concat_eq_append, addP_no a p u h, lens_append, lens_append, lens_one, lens_one]; simp [newP]
theorem addP_length (acc : List (Int × Nat × Nat)) (u : Nat × Nat × Int) : (addP acc u).length ≤ acc.length + 1 := by
  rcases List.eq_nil_or_concat acc with rfl | ⟨a, p, rfl⟩
  · rw [addP_nil]; simp
  · cases h : mergesB p u with
    | true => rw [List.concat_eq_append, addP_yes a p u h]; simp
    | false => rw [List.concat_eq_append, addP_no a p u h]; simp

/-- a piece's three cells -/
def pc (p : Int × Nat × Nat) : List Value := [.int .i64 p.1, .int .i64 p.2.1, .int .i64 p.2.2]
def pcs (l : List (Int × Nat × Nat)) : List Value := l.flatMap pc
theorem pcs_length (l : List (Int × Nat × Nat)) : (pcs l).length = l.length * 3 := by
  induction l with
  | nil => rfl
  | cons a l ih => simp [pcs, pc] at ih ⊢; omega
theorem pcs_snoc (l : List (Int × Nat × Nat)) (p : Int × Nat × Nat) : pcs (l ++ [p]) = pcs l ++ pc p := by simp [pcs]
theorem pcs_at (l : List (Int × Nat × Nat)) (k : Nat) (h : k < l.length) : (pcs l)[k * 3]? = some (.int .i64 (l[k]).1) ∧ (pcs l)[k * 3 + 1]? = some (.int .i64 (l[k]).2.1) ∧ (pcs l)[k * 3 + 2]? = some (.int .i64 (l[k]).2.2) := by
  induction l generalizing k with
  | nil => simp at h
  | cons a l ih =>
    cases k with
    | zero => simp [pcs, pc]
    | succ k =>
      have := ih k (by simpa using h)
      have e : ∀ j, (pcs (a :: l))[(k + 1) * 3 + j]? = (pcs l)[k * 3 + j]? := by
        intro j
        have : (k + 1) * 3 + j = (k * 3 + j) + 3 := by omega
        rw [this]
        simp [pcs, pc]
      exact ⟨(e 0).trans this.1, (e 1).trans this.2.1, (e 2).trans this.2.2⟩
theorem pc_one (u : Int × Nat × Nat) : ∀ x ∈ pc u, x.oneCell' = true := by
  intro x hx
  simp [pc] at hx
  rcases hx with rfl | rfl | rfl <;> rfl

def growsB (k : Int) : Bool := decide (k < 4)
theorem grows_any (k : Int) (w : World) (h0 : 1 ≤ k) (h1 : k ≤ 5) : Calls Try.prog 41 #[.int .i64 k] w fun e w' => e = .returned (.bool (growsB k)) ∧ w' = w := by
  by_cases e4 : k = 4
  · subst e4
    go_enter Try.func41, Try.ntmps41
    go_wp2
    go_ret
    exact ⟨rfl, rfl⟩
  by_cases e5 : k = 5
  · subst e5
    go_enter Try.func41, Try.ntmps41
    go_wp2
    go_ret
    exact ⟨rfl, rfl⟩
  have q4 : (k != 4) = true := by simpa using e4
  have q5 : (k != 5) = true := by simpa using e5
  have e : growsB k = true := by unfold growsB; rw [decide_eq_true_eq]; omega
  rw [e]
  clear e e4 e5 h0 h1
  go_enter Try.func41, Try.ntmps41
  go_wp2
  go_ret
  exact ⟨rfl, rfl⟩
end Go.Proofs.Ytglfaibihckhnaa.Pc
