/- put (63): a set more in a front, and whether one of its nodes needs nothing. Conditions: as in spread; at most 100,000 sets. -/
import Derived.Test.YtfjocafepigijaaDoorUlM
import Derived.Test.YtfjocafepigijaaDoorUm
import Derived.Sort.CutIn
import Derived.BigFrameIn
namespace Go.Proofs.YtfjocafepigijaaDoor.Ot
open Go.RowKit Go.Shelf Mv Sy Po Ps Cm Pa Am Wd St Ra Set Rf Tz Za
attribute [local go_sem] Oper.semAt_some

theorem inf77 : (Tryd.prog.info? 77).map (fun i => (i.zero, i.size, i.bytes)) = some (some (.slice none 0 0), 1, 24) := by kernel_rfl
end Go.Proofs.YtfjocafepigijaaDoor.Ot
