/- The document's ThroughCost: its two inner functions, and how all lies. Conditions: numbers are small. -/
import Derived.Test.YtfjocafepigijaaDoorTb
import Derived.Test.YtfjocafepigijaaDoorCR
namespace Go.Proofs.YtfjocafepigijaaDoor.Tc
open Go.RowKit Mv Wk Bw Th CR

end Go.Proofs.YtfjocafepigijaaDoor.Tc
