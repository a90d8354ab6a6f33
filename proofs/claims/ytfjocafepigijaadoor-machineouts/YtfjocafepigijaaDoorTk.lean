/- The document's ThroughCost: a round over the arcs of the first machine. Conditions: numbers are small. -/
import Derived.Test.YtfjocafepigijaaDoorTh0
import Derived.Deep.LoopGhost
import Derived.Deep.QuietTactic
import Derived.BigQuiet
import Derived.Deep.RegionHeld
import Derived.Deep.CutRange
import Derived.Deep.RegionHeld3
namespace Go.Proofs.YtfjocafepigijaaDoor.Tc
open Go.RowKit Mv Wk Bw Th CR

noncomputable def bodyX : Code := ((Tryd.f16.body.map loops).getD []).getD 4 .skip
end Go.Proofs.YtfjocafepigijaaDoor.Tc
