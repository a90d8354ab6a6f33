/- reach's visit, where the pairs of a set are allowed. Conditions: the pair's number lies in both sets. -/
import Derived.Test.YtfjocafepigijaaDoorRd
namespace Go.Proofs.YtfjocafepigijaaDoor.Pa
open Go.RowKit Mv Set Po Ps Cm Am

end Go.Proofs.YtfjocafepigijaaDoor.Pa
