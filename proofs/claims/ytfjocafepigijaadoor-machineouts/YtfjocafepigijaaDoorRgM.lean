/- couple.arcs: a function that hands on the arcs of a pair. Conditions: few states. -/
import Derived.Test.YtfjocafepigijaaDoorRyM
import Derived.Test.YtfjocafepigijaaDoorRdM
import Derived.OrdersHeld
import Derived.OwnWalkIn
import Derived.OrdersIn
import Derived.Deep.RegionHeld3
namespace Go.Proofs.YtfjocafepigijaaDoor.Cu
open Go.RowKit Mv Set Qp Sk Po Ps Wd Se Mp St Cm Nm Nx Ra Am Pa Tc
open CR (nc)

end Go.Proofs.YtfjocafepigijaaDoor.Cu
/- A region that draws its order, inside a round of a range over a function: out of the plain laws on all orders. -/
namespace Go.Proofs.YtfjocafepigijaaDoor.Rii
open Go.RowKit

variable {l n : Nat} {P : Program} {ops : Array Oper} {Q : Exit → Act → World → Prop} {md : Region.Mode}

/-- operations that are no defer -/
def Mild (ops : Array Oper) : Prop := ∀ (i : Nat) (o : Oper), ops[i]? = some o → ∀ c, o.op ≠ .defer c

def noDefer (o : Oper) : Bool := match o.op with
  | .defer _ => false
  | _ => true
end Go.Proofs.YtfjocafepigijaaDoor.Rii
/- A range over a function, as in Rf, by a body that may turn its own loop variable's box. -/
namespace Go.Proofs.YtfjocafepigijaaDoor.Rf
open Go.RowKit

/-- what lay ahead of the round lies as it lay, but for what is one's own -/
structure KeptTo (n0 : Nat) (O O' : Nat → Prop) (A B : World) : Prop where
  os : B.os = A.os
  tape : B.tape = A.tape
  output : B.output = A.output
  size : A.heap.size ≤ B.heap.size
  block : ∀ k, k < n0 → ¬ O k → ¬ O' k ∧ B.heap[k]? = A.heap[k]?
/-- how a round ends -/
def Ends3 (n0 : Nat) (O : Nat → Prop) (A : World) (p : (Nat → Prop) → World → Prop) : Exit → Act → World → Prop
  | .normal, _, B => ∃ O', KeptTo n0 O O' A B ∧ p O' B
  | .ret, _, _ => False
  | .exit _, _, _ => False
  | .goto _, _, _ => False
  | .panic _, _, _ => False
  | .outgrown, _, _ => False

variable {F : Fence} {n : Nat} {P : Program}

end Go.Proofs.YtfjocafepigijaaDoor.Rf
