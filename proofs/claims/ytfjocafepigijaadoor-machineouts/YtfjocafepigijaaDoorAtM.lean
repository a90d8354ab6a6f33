/- checkBoth. No conditions. -/
import Derived.Test.YtfjocafepigijaaDoorRzM
import Derived.Laws.ResultCell
import Derived.Laws.Rows
namespace Go.Proofs.YtfjocafepigijaaDoor.Mc
open Go.RowKit Mv Wk Sy Rz

theorem box3 {w wr : World} {a b c : Value} (h : Below (w.alloc (.cells #[a, b, c] 25)).heap.size (w.alloc (.cells #[a, b, c] 25)) wr) : wr.cell? ⟨w.heap.size, 0, none⟩ = some a ∧ wr.cell? ⟨w.heap.size, 1, none⟩ = some b ∧ wr.cell? ⟨w.heap.size, 2, none⟩ = some c := by
  have hl : w.heap.size < (w.alloc (.cells #[a, b, c] 25)).heap.size := by simp
  have hn := heap_alloc_new w (.cells #[a, b, c] 25)
  exact ⟨(h.cell (p := ⟨w.heap.size, 0, none⟩) hl).trans (cell_of_row _ _ 0 _ 25 (0, 0) hn), (h.cell (p := ⟨w.heap.size, 1, none⟩) hl).trans (cell_of_row _ _ 1 _ 25 (0, 0) hn), (h.cell (p := ⟨w.heap.size, 2, none⟩) hl).trans (cell_of_row _ _ 2 _ 25 (0, 0) hn)⟩
def both (x y : Int) : Int := if x = 0 then y else x
end Go.Proofs.YtfjocafepigijaaDoor.Mc
/- cheapest: each arc once, for its least cost. Conditions: the arcs' numbers have 64 bits, and there are not too many. -/
namespace Go.Proofs.YtfjocafepigijaaDoor.Am
open Go.RowKit Mv Qp Sk Po Ps Wd Se Mp St Cm Nm Nx

def chP (A : List Arc) : List Arc := A.foldl putP []
/-- how far the round has come -/
structure Ch0 (w wr : World) (A : List Arc) (y : Nat) (r0 r1 : Array Value) : Prop where
  below : Below w.heap.size w wr
  size : w.heap.size + 3 ≤ wr.heap.size
  box : wr.heap[w.heap.size]? = some (.cells r0 25 (0, 0))
  res : wr.heap[w.heap.size + 1]? = some (.cells r1 25 (0, 0))
  lst : (y = 0 ∧ wr.heap[w.heap.size + 2]? = some (.cells #[.slice none 0 0, .map none] 132 (0, 0))) ∨ (0 < y ∧ ∃ mb va, Al w.heap.size wr (w.heap.size + 2) mb (chP (A.take y)) va ∧ w.heap.size + 3 ≤ mb ∧ ∀ b, va.ownBlock = some b → w.heap.size + 3 ≤ b)
end Go.Proofs.YtfjocafepigijaaDoor.Am
/- What cheapest leaves: arcs of the machine, and of each name one that costs no more. No conditions. -/
namespace Go.Proofs.YtfjocafepigijaaDoor.Am
open Go.RowKit Mv Qp Sk Po Ps Wd Se Mp St Cm Nm Nx

end Go.Proofs.YtfjocafepigijaaDoor.Am
