/- Plain facts for MachineThrough: a table of least costs of the machine of pairs. Conditions: the machines are right. -/
import Derived.Test.YtfjocafepigijaaDoorWk4
import Derived.Test.YtfjocafepigijaaDoorTa
namespace Go.Proofs.YtfjocafepigijaaDoor.Wk
open Mv Bw

/-- a table that is on its way: what it has is the cost of a walk -/
structure InvP (m : M) (inn out : List Int) (told : Bool) (S : Nat) (B : List Nat) : Prop where
  len : B.length = S * (inn.length + 1) * cols out told
  top : ∀ q, val B q ≤ dear
  zero : val B 0 = 0
  real : ∀ s i j, s < S → i < inn.length + 1 → j < cols out told → val B (idx (inn.length + 1) (cols out told) s i j) < dear → Reach m inn out told s i j (val B (idx (inn.length + 1) (cols out told) s i j))
  small : ∀ q, val B q < dear → val B q ≤ 2000000 * cnt B

def arcP (st : Int) (a : Int × Int × Int × Int × Int) : Bool :=
  decide (0 ≤ a.1 ∧ a.1 < st ∧ 0 ≤ a.2.1 ∧ a.2.1 < st ∧ 0 ≤ a.2.2.2.2 ∧ a.2.2.2.2 ≤ 2000000)
def finQ (st : Int) (f : Int × Int) : Bool := decide (0 ≤ f.1 ∧ f.1 < st ∧ 0 ≤ f.2 ∧ f.2 ≤ 2000000)
/-- a right machine of S states -/
def RightP (m : M) (S : Nat) : Prop := m.st = (S : Int) ∧ 0 < S ∧ ∀ x (h : x < m.arcs.length), arcP m.st m.arcs[x] = true

/-- how far a pass has come: D: which arcs at which places have been looked at -/
def Pas (inn out : List Int) (B0 : List Nat) (ag : Bool) (B : List Nat) (D : A5 → Nat → Nat → Prop) : Prop := (ag = false → B = B0 ∧ ∀ e i j, D e i j → Rel inn out true B e i j) ∧ (ag = true → B.sum < B0.sum)
end Go.Proofs.YtfjocafepigijaaDoor.Wk
