/- light: what it answers. No conditions. -/
import Derived.Test.YtfjocafepigijaaDoorMc
namespace Go.Proofs.YtfjocafepigijaaDoor.Mc
open Go.RowKit Mv Wk Sy Rz

/-- a small machine with small weights -/
def lightP (m : M) : Bool := decide (m.st ≤ 20) && decide (m.arcs.length ≤ 40) && m.arcs.all (fun x => decide (x.2.2.2.2 ≤ 500000)) && m.fins.all (fun f => decide (f.2 ≤ 500000))
end Go.Proofs.YtfjocafepigijaaDoor.Mc
