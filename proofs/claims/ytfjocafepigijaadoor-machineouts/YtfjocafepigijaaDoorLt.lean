/- Through: right machines that are few. Conditions: these; the library's table lies as its text lays it. -/
import Derived.Test.YtfjocafepigijaaDoorYb
import Derived.Test.YtfjocafepigijaaDoorKb
import Derived.Test.YtfjocafepigijaaDoorJb
import Derived.Test.YtfjocafepigijaaDoorMr
namespace Go.Proofs.YtfjocafepigijaaDoor.Cu
open Go.RowKit Mv Set Qp Sk Po Ps Wd Se Mp St Cm Nm Nx Ra Am Pa Tc Mc
open CR (nc)

/-- how Through ends -/
def ThQ (a b : M) (SA SB : Nat) (w' : World) (e : Ending) : Prop := ∃ U W, Usf a b SA SB U W ∧ ((checkP (thM a b SA SB U (Ls U (SA * SB))) 0 ∧ ∃ v, e = .returned (.tuple #[v, .int .i64 0]) ∧ IsM w' v (thM a b SA SB U (Ls U (SA * SB)))) ∨ (checkP (thM a b SA SB U (Ls U (SA * SB))) 3 ∧ ¬ (lightP a = true ∧ lightP b = true) ∧ e = .returned (.tuple #[.agg #[.int .i64 0, .slice none 0 0, .slice none 0 0], .int .i64 3])))
end Go.Proofs.YtfjocafepigijaaDoor.Cu
