/- groupOf, has, usefulPairs' all, visit. Conditions: the numbers lie in their rows. -/
import Derived.Test.YtfjocafepigijaaDoorCkP2M
import Derived.Laws.ResultCell
import Derived.Deep.LoopGhost
import Derived.Deep.QuietTactic
import Derived.BigQuiet
import Derived.Deep.RegionHeld
import Derived.Deep.CutRange
namespace Go.Proofs.YtfjocafepigijaaDoor.Pa
open Go.RowKit Mv Set

end Go.Proofs.YtfjocafepigijaaDoor.Pa
