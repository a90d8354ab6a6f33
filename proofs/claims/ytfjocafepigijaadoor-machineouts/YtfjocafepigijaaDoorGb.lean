/- newCouple: the arcs of the second machine by what they read. Conditions: few states, few arcs of each. -/
import Derived.Test.YtfjocafepigijaaDoorGa
namespace Go.Proofs.YtfjocafepigijaaDoor.Cu
open Go.RowKit Mv Qp Sk Po Ps Wd Se Mp St Cm Nm Nx Ra Am Tc
open CR (nc)

end Go.Proofs.YtfjocafepigijaaDoor.Cu
