/- couple.arcs: a function that hands on the arcs of a pair. Conditions: few states. -/
import Derived.Test.YtfjocafepigijaaDoorHb
import Derived.Test.YtfjocafepigijaaDoorZa
namespace Go.Proofs.YtfjocafepigijaaDoor.Cu
open Go.RowKit Mv Set Qp Sk Po Ps Wd Se Mp St Cm Nm Nx Ra Am Pa Tc
open CR (nc)

/-- what the function has captured -/
structure Bx (w : World) (bC bp bk bq C p k q : Nat) : Prop where
  c : w.heap[bC]? = some (.cells #[.pointer (some ⟨C, 0, none⟩)] 71 (0, 0))
  p : w.heap[bp]? = some (.cells #[.int .i64 (p : Int)] 3 (0, 0))
  k : w.heap[bk]? = some (.cells #[.int .i64 (k : Int)] 3 (0, 0))
  q : w.heap[bq]? = some (.cells #[.int .i64 (q : Int)] 3 (0, 0))
end Go.Proofs.YtfjocafepigijaaDoor.Cu
