/- The document's ThroughCost: it is the least cost of the machine of pairs. Conditions: the machines are right and small, the texts short. -/
import Derived.Test.YtfjocafepigijaaDoorTm
import Derived.Deep.RegionHeld
import Derived.Deep.CutRange
import Derived.Deep.QuietTactic
namespace Go.Proofs.YtfjocafepigijaaDoor.Tc
open Go.RowKit Mv Wk Bw Th CR

/-- how all lies before the two inner functions are made -/
structure Ts (w wr : World) (ra rb : Array Value) (n k N : Nat) (B : List Nat) : Prop where
  bel : Below w.heap.size w wr
  x4 : wr.heap[w.heap.size]? = some (.cells ra 25 (0, 0))
  x5 : wr.heap[w.heap.size + 1]? = some (.cells rb 25 (0, 0))
  x9 : wr.heap[w.heap.size + 2]? = some (.cells #[.int .i64 (n : Int)] 3 (0, 0))
  x10 : wr.heap[w.heap.size + 3]? = some (.cells #[.int .i64 (k : Int)] 3 (0, 0))
  tab : wr.ownsRow (w.heap.size + 4) 3 1 (.slice (some ⟨w.heap.size + 4, 0, none⟩) N N) N (nc B)
  x11 : wr.heap[w.heap.size + 5]? = some (.cells #[.slice (some ⟨w.heap.size + 4, 0, none⟩) N N] 26 (0, 0))
  size : wr.heap.size = w.heap.size + 6
  len : B.length = N
def FinRow (w : World) (ab : Option Addr) (l : List (Int × Int)) : Prop := l.length = 0 ∨ ∃ bb off, ab = some ⟨bb, off, none⟩ ∧ bb < w.heap.size ∧ ∀ j u, (fcs l)[j]? = some u → w.cell? ⟨bb, off + j, none⟩ = some u
/-- the least end among those that were looked at -/
structure LstM (pre all : List (Int × Int)) (inn out : List Int) (B : List Nat) (v : Nat) : Prop where
  top : v ≤ dear
  low : ∀ f ∈ pre, ∀ s : Nat, f.1 = (s : Int) → val B (idx (inn.length + 1) (out.length + 1) s inn.length out.length) < dear → (v : Int) ≤ val B (idx (inn.length + 1) (out.length + 1) s inn.length out.length) + f.2
  real : v < dear → ∃ f ∈ all, ∃ s : Nat, f.1 = (s : Int) ∧ val B (idx (inn.length + 1) (out.length + 1) s inn.length out.length) < dear ∧ (v : Int) = val B (idx (inn.length + 1) (out.length + 1) s inn.length out.length) + f.2
/-- what the ends know -/
structure EnvF (SA SB : Nat) (a b : M) : Prop where
  hlA : a.fins.length ≤ 40
  hlB : b.fins.length ≤ 40
  finA : ∀ y (h : y < a.fins.length), ∃ s x : Nat, a.fins[y] = ((s : Int), (x : Int)) ∧ s < SA ∧ x ≤ 1000000
  finB : ∀ y (h : y < b.fins.length), ∃ s x : Nat, b.fins[y] = ((s : Int), (x : Int)) ∧ s < SB ∧ x ≤ 1000000
end Go.Proofs.YtfjocafepigijaaDoor.Tc
