/- A range over a function, as in Rf, by a body that may turn its own loop variable's box. -/
import Derived.Test.YtfjocafepigijaaDoorRf
namespace Go.Proofs.YtfjocafepigijaaDoor.Rf
open Go.RowKit

/-- what lay ahead of the round lies as it lay, but for what is one's own -/
structure KeptTo (n0 : Nat) (O O' : Nat → Prop) (A B : World) : Prop where
  os : B.os = A.os
  tape : B.tape = A.tape
  output : B.output = A.output
  size : A.heap.size ≤ B.heap.size
  block : ∀ k, k < n0 → ¬ O k → ¬ O' k ∧ B.heap[k]? = A.heap[k]?
/-- how a round ends -/
def Ends3 (n0 : Nat) (O : Nat → Prop) (A : World) (p : (Nat → Prop) → World → Prop) : Exit → Act → World → Prop
  | .normal, _, B => ∃ O', KeptTo n0 O O' A B ∧ p O' B
  | .ret, _, _ => False
  | .exit _, _, _ => False
  | .goto _, _, _ => False
  | .panic _, _, _ => False
  | .outgrown, _, _ => False

variable {F : Fence} {n : Nat} {P : Program}

end Go.Proofs.YtfjocafepigijaaDoor.Rf
