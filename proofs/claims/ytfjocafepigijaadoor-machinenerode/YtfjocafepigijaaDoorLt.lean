/- Through: right machines that are few. Conditions: these; the library's table lies as its text lays it. -/
import Derived.Test.YtfjocafepigijaaDoorUdM
import Derived.Test.YtfjocafepigijaaDoorZa
import Derived.Test.YtfjocafepigijaaDoorRf
import Derived.OrdersHeld
import Derived.OwnWalkIn
import Derived.OrdersIn
import Derived.Deep.QuietTactic
import Derived.BigQuiet
import Derived.Sort.CutIn
import Derived.Test.YtfjocafepigijaaDoorRbM
import Derived.Test.YtfjocafepigijaaDoorMc
import Derived.Laws.Rows
import Derived.Test.YtfjocafepigijaaDoorCfM
import Derived.RangeFuncLeaves
import Derived.Test.YtfjocafepigijaaDoorNwM
import Derived.Test.YtfjocafepigijaaDoorTdM
import Derived.Deep.LoopGhost
import Derived.Deep.RegionHeld
import Derived.Deep.CutRange
import Derived.Deep.RegionHeld3
import Derived.Test.YtfjocafepigijaaDoorOhM
import Derived.Test.YtfjocafepigijaaDoorCaM
import Derived.Test.YtfjocafepigijaaDoorRi
import Derived.Test.YtfjocafepigijaaDoorZb
namespace Go.Proofs.YtfjocafepigijaaDoor.Cu
open Go.RowKit Mv Set Qp Sk Po Ps Wd Se Mp St Cm Nm Nx Ra Am Pa Tc Mc
open CR (nc)

theorem wf_int {i : Int} (h1 : 0 ≤ i) (h2 : i ≤ 1000000) : W64 i := by
  obtain ⟨k, rfl⟩ : ∃ k : Nat, i = (k : Int) := ⟨i.toNat, by omega⟩
  exact Na.wf_small k (by omega)
end Go.Proofs.YtfjocafepigijaaDoor.Cu
