/- Same: of any two lists. Condition: the first is not longer than 61. -/
import Derived.Test.YtfjocafepigijaaDoorSy
namespace Go.Proofs.YtfjocafepigijaaDoor.Sm
open Go.RowKit Mv Sy

end Go.Proofs.YtfjocafepigijaaDoor.Sm
