/- cheapest: each arc once, for its least cost. Conditions: the arcs' numbers have 64 bits, and there are not too many. -/
import Derived.Test.YtfjocafepigijaaDoorAq
import Derived.Test.YtfjocafepigijaaDoorMc
import Derived.Laws.Rows
namespace Go.Proofs.YtfjocafepigijaaDoor.Am
open Go.RowKit Mv Qp Sk Po Ps Wd Se Mp St Cm Nm Nx

def chP (A : List Arc) : List Arc := A.foldl putP []
/-- how far the round has come -/
structure Ch0 (w wr : World) (A : List Arc) (y : Nat) (r0 r1 : Array Value) : Prop where
  below : Below w.heap.size w wr
  size : w.heap.size + 3 ≤ wr.heap.size
  box : wr.heap[w.heap.size]? = some (.cells r0 25 (0, 0))
  res : wr.heap[w.heap.size + 1]? = some (.cells r1 25 (0, 0))
  lst : (y = 0 ∧ wr.heap[w.heap.size + 2]? = some (.cells #[.slice none 0 0, .map none] 132 (0, 0))) ∨ (0 < y ∧ ∃ mb va, Al w.heap.size wr (w.heap.size + 2) mb (chP (A.take y)) va ∧ w.heap.size + 3 ≤ mb ∧ ∀ b, va.ownBlock = some b → w.heap.size + 3 ≤ b)
end Go.Proofs.YtfjocafepigijaaDoor.Am
