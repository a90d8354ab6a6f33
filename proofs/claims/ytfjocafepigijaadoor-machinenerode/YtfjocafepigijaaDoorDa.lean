/- The document's Closed (97): a set with all to which one comes reading nothing. Condition: the machine is right. -/
import Derived.Test.YtfjocafepigijaaDoorCfM
import Derived.Deep.QuietTactic
import Derived.BigQuiet
import Derived.Deep.Cut
import Derived.Deep.LoopGhost
namespace Go.Proofs.YtfjocafepigijaaDoor.Su
open Go.RowKit Mv Po Ps Cm

/-- how many are not in the set -/
def outs (l : List Bool) : Nat := l.count false
theorem outs_set : ∀ {l : List Bool} {t : Nat}, l[t]? = some false → outs (l.set t true) < outs l
  | [], t, h => by simp at h
  | b :: l, 0, h => by
    simp at h
    subst h
    simp [outs]
  | b :: l, t + 1, h => by
    have ih := outs_set (l := l) (t := t) (by simpa using h)
    unfold outs at ih ⊢
    rw [List.set_cons_succ, List.count_cons, List.count_cons]
    omega
end Go.Proofs.YtfjocafepigijaaDoor.Su
