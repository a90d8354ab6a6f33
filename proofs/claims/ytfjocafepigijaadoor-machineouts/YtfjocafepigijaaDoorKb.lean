/- usefulPairs: the first pair, and those through which a walk can go. Conditions: right and small machines. -/
import Derived.Test.YtfjocafepigijaaDoorKa
import Derived.Test.YtfjocafepigijaaDoorGb
import Derived.Test.YtfjocafepigijaaDoorJf
namespace Go.Proofs.YtfjocafepigijaaDoor.Cu
open Go.RowKit Mv Set Qp Sk Po Ps Wd Se Mp St Cm Nm Nx Ra Am Pa Tc
open CR (nc)

end Go.Proofs.YtfjocafepigijaaDoor.Cu
