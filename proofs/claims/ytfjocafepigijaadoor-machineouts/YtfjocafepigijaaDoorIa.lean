/- couple.arcs: a function that hands on the arcs of a pair. Conditions: few states. -/
import Derived.Test.YtfjocafepigijaaDoorIa0
namespace Go.Proofs.YtfjocafepigijaaDoor.Cu
open Go.RowKit Mv Set Qp Sk Po Ps Wd Se Mp St Cm Nm Nx Ra Am Pa Tc
open CR (nc)

end Go.Proofs.YtfjocafepigijaaDoor.Cu
