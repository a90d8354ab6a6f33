/- Couples of machines in plain words: the arcs that lead on from a pair; they are those of the machine of pairs; how many there are. No program text. -/
import Derived.Test.YtfjocafepigijaaDoorTa
import Derived.Test.YtfjocafepigijaaDoorAt
import Derived.Test.YtfjocafepigijaaDoorRc
namespace Go.Proofs.YtfjocafepigijaaDoor.Cu
open Mv Wk Bw Th Am Ra

/-- of the second machine: the arcs of a state that read a symbol -/
def gr (R : Nat → List A5) (q : Nat) (s : Int) : List A5 := (R q).filter fun y => y.2.2.1 == s
def fA (SB k : Nat) (x : A5) : A5 := ((k : Int), x.2.1 * (SB : Int) + ((k % SB : Nat) : Int), x.2.2.1, 0, x.2.2.2.2)
def fX (SB k : Nat) (x y : A5) : A5 := ((k : Int), x.2.1 * (SB : Int) + y.2.1, x.2.2.1, y.2.2.2.1, x.2.2.2.2 + y.2.2.2.2)
def fB (SB k : Nat) (y : A5) : A5 := ((k : Int), ((k / SB : Nat) : Int) * (SB : Int) + y.2.1, 0, y.2.2.2.1, y.2.2.2.2)
def onX (R : Nat → List A5) (SB k : Nat) (x : A5) : List A5 := if x.2.2.2.1 = 0 then [fA SB k x] else (gr R (k % SB) x.2.2.2.1).map (fX SB k x)
/-- the arcs that lead on from a pair -/
def arcsP (F R : Nat → List A5) (SB k : Nat) : List A5 := (F (k / SB)).flatMap (onX R SB k) ++ (gr R (k % SB) 0).map (fB SB k)
/-- what is right about a list of arcs -/
def Okl (S : Nat) (A : List A5) : Prop := ∀ x ∈ A, ∃ f t : Nat, x.1 = (f : Int) ∧ x.2.1 = (t : Int) ∧ f < S ∧ t < S
/-- a sum over numbers -/
def sm (n : Nat) (h : Nat → Nat) : Nat := ((List.range n).map h).sum
theorem sm_up (n : Nat) (h : Nat → Nat) : sm (n + 1) h = sm n h + h n := by unfold sm; rw [List.range_succ]; simp
theorem sm_add (n : Nat) (h g : Nat → Nat) : sm n (fun k => h k + g k) = sm n h + sm n g := by
  induction n with
  | zero => rfl
  | succ n ih => rw [sm_up, sm_up, sm_up, ih]; omega
theorem sm_le {n : Nat} {h g : Nat → Nat} (hl : ∀ k, k < n → h k ≤ g k) : sm n h ≤ sm n g := by
  induction n with
  | zero => exact Nat.le_refl _
  | succ n ih => rw [sm_up, sm_up]; have := ih (fun k hk => hl k (by omega)); have := hl n (by omega); omega
theorem sm_eq {n : Nat} {h g : Nat → Nat} (hl : ∀ k, k < n → h k = g k) : sm n h = sm n g := Nat.le_antisymm (sm_le fun k hk => Nat.le_of_eq (hl k hk)) (sm_le fun k hk => Nat.le_of_eq (hl k hk).symm)
theorem sm_zero {n : Nat} {h : Nat → Nat} (hl : ∀ k, k < n → h k = 0) : sm n h = 0 := by
  induction n with
  | zero => rfl
  | succ n ih => rw [sm_up, ih (fun k hk => hl k (by omega)), hl n (by omega)]
theorem sm_one (n : Nat) : sm n (fun _ => 1) = n := by
  induction n with
  | zero => rfl
  | succ n ih => rw [sm_up, ih]
end Go.Proofs.YtfjocafepigijaaDoor.Cu
