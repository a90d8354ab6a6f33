/- The document's ThroughCost: how all lies while it runs, and what one look at an arc of pairs does to the table. No conditions. -/
import Derived.Test.YtfjocafepigijaaDoorTc
namespace Go.Proofs.YtfjocafepigijaaDoor.Tc
open Go.RowKit Mv Wk Bw Th CR

/-- how all lies -/
structure Tt (w wr : World) (ra rb : Array Value) (n k N : Nat) (B : List Nat) (ag : Bool) : Prop where
  bel : Below w.heap.size w wr
  x4 : wr.heap[w.heap.size]? = some (.cells ra 25 (0, 0))
  x5 : wr.heap[w.heap.size + 1]? = some (.cells rb 25 (0, 0))
  x9 : wr.heap[w.heap.size + 2]? = some (.cells #[.int .i64 (n : Int)] 3 (0, 0))
  x10 : wr.heap[w.heap.size + 3]? = some (.cells #[.int .i64 (k : Int)] 3 (0, 0))
  tab : wr.ownsRow (w.heap.size + 4) 3 1 (.slice (some ⟨w.heap.size + 4, 0, none⟩) N N) N (nc B)
  x11 : wr.heap[w.heap.size + 5]? = some (.cells #[.slice (some ⟨w.heap.size + 4, 0, none⟩) N N] 26 (0, 0))
  x14 : wr.heap[w.heap.size + 6]? = some (.cells #[.bool ag] 4 (0, 0))
  len : B.length = N
theorem lt_get {w : World} {g : Nat} {o : Obj} (h : w.heap[g]? = some o) : g < w.heap.size := (Array.getElem?_eq_some_iff.1 h).1
end Go.Proofs.YtfjocafepigijaaDoor.Tc
