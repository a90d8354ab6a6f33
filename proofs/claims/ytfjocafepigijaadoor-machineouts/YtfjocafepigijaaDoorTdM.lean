/- Plain facts for MachineThrough: a table of least costs of the machine of pairs. Conditions: the machines are right. -/
import Derived.Test.YtfjocafepigijaaDoorWk4M
import Derived.Test.YtfjocafepigijaaDoorTaM
import Derived.Test.YtfjocafepigijaaDoorCRM
namespace Go.Proofs.YtfjocafepigijaaDoor.Wk
open Mv Bw

/-- a table that is on its way: what it has is the cost of a walk -/
structure InvP (m : M) (inn out : List Int) (told : Bool) (S : Nat) (B : List Nat) : Prop where
  len : B.length = S * (inn.length + 1) * cols out told
  top : ∀ q, val B q ≤ dear
  zero : val B 0 = 0
  real : ∀ s i j, s < S → i < inn.length + 1 → j < cols out told → val B (idx (inn.length + 1) (cols out told) s i j) < dear → Reach m inn out told s i j (val B (idx (inn.length + 1) (cols out told) s i j))
  small : ∀ q, val B q < dear → val B q ≤ 2000000 * cnt B

def arcP (st : Int) (a : Int × Int × Int × Int × Int) : Bool :=
  decide (0 ≤ a.1 ∧ a.1 < st ∧ 0 ≤ a.2.1 ∧ a.2.1 < st ∧ 0 ≤ a.2.2.2.2 ∧ a.2.2.2.2 ≤ 2000000)
def finQ (st : Int) (f : Int × Int) : Bool := decide (0 ≤ f.1 ∧ f.1 < st ∧ 0 ≤ f.2 ∧ f.2 ≤ 2000000)
/-- a right machine of S states -/
def RightP (m : M) (S : Nat) : Prop := m.st = (S : Int) ∧ 0 < S ∧ ∀ x (h : x < m.arcs.length), arcP m.st m.arcs[x] = true

/-- how far a pass has come: D: which arcs at which places have been looked at -/
def Pas (inn out : List Int) (B0 : List Nat) (ag : Bool) (B : List Nat) (D : A5 → Nat → Nat → Prop) : Prop := (ag = false → B = B0 ∧ ∀ e i j, D e i j → Rel inn out true B e i j) ∧ (ag = true → B.sum < B0.sum)
end Go.Proofs.YtfjocafepigijaaDoor.Wk
/- The document's ThroughCost: its two inner functions, and how all lies. Conditions: numbers are small. -/
namespace Go.Proofs.YtfjocafepigijaaDoor.Tc
open Go.RowKit Mv Wk Bw Th CR

end Go.Proofs.YtfjocafepigijaaDoor.Tc
/- The document's ThroughCost: how all lies while it runs, and what one look at an arc of pairs does to the table. No conditions. -/
namespace Go.Proofs.YtfjocafepigijaaDoor.Tc
open Go.RowKit Mv Wk Bw Th CR

/-- how all lies -/
structure Tt (w wr : World) (ra rb : Array Value) (n k N : Nat) (B : List Nat) (ag : Bool) : Prop where
  bel : Below w.heap.size w wr
  x4 : wr.heap[w.heap.size]? = some (.cells ra 25 (0, 0))
  x5 : wr.heap[w.heap.size + 1]? = some (.cells rb 25 (0, 0))
  x9 : wr.heap[w.heap.size + 2]? = some (.cells #[.int .i64 (n : Int)] 3 (0, 0))
  x10 : wr.heap[w.heap.size + 3]? = some (.cells #[.int .i64 (k : Int)] 3 (0, 0))
  tab : wr.ownsRow (w.heap.size + 4) 3 1 (.slice (some ⟨w.heap.size + 4, 0, none⟩) N N) N (nc B)
  x11 : wr.heap[w.heap.size + 5]? = some (.cells #[.slice (some ⟨w.heap.size + 4, 0, none⟩) N N] 26 (0, 0))
  x14 : wr.heap[w.heap.size + 6]? = some (.cells #[.bool ag] 4 (0, 0))
  len : B.length = N
theorem lt_get {w : World} {g : Nat} {o : Obj} (h : w.heap[g]? = some o) : g < w.heap.size := (Array.getElem?_eq_some_iff.1 h).1
end Go.Proofs.YtfjocafepigijaaDoor.Tc
