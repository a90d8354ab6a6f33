/- What cheapest leaves: arcs of the machine, and of each name one that costs no more. No conditions. -/
import Derived.Test.YtfjocafepigijaaDoorAr
namespace Go.Proofs.YtfjocafepigijaaDoor.Am
open Go.RowKit Mv Qp Sk Po Ps Wd Se Mp St Cm Nm Nx

end Go.Proofs.YtfjocafepigijaaDoor.Am
