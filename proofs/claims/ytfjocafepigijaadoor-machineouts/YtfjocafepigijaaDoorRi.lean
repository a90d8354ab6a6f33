/- A region that draws its order, inside a round of a range over a function: out of the plain laws on all orders. -/
import Derived.Test.YtfjocafepigijaaDoorRgM
import Derived.OrdersHeld
import Derived.OwnWalkIn
import Derived.OrdersIn
import Derived.Deep.RegionHeld3
namespace Go.Proofs.YtfjocafepigijaaDoor.Rii
open Go.RowKit

variable {l n : Nat} {P : Program} {ops : Array Oper} {Q : Exit → Act → World → Prop} {md : Region.Mode}

/-- operations that are no defer -/
def Mild (ops : Array Oper) : Prop := ∀ (i : Nat) (o : Oper), ops[i]? = some o → ∀ c, o.op ≠ .defer c

def noDefer (o : Oper) : Bool := match o.op with
  | .defer _ => false
  | _ => true
end Go.Proofs.YtfjocafepigijaaDoor.Rii
