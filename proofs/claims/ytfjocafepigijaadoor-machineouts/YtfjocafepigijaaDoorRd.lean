/- reach's visit: a pair is met, where every pair is allowed. Conditions: the pair's number lies in the set. -/
import Derived.Test.YtfjocafepigijaaDoorPv
import Derived.Test.YtfjocafepigijaaDoorTe
namespace Go.Proofs.YtfjocafepigijaaDoor.Pa
open Go.RowKit Mv Set Po Ps Cm Am

def cN (ws : List Nat) (P cnt : Nat) : Nat := if mem ws P then cnt else cnt + 1
def tN (ws : List Nat) (P : Nat) (T : List Nat) : List Nat := if mem ws P then T else T ++ [P]
end Go.Proofs.YtfjocafepigijaaDoor.Pa
