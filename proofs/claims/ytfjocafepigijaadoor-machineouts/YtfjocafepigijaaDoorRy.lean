/- A region that draws its order whose last two operations wait for all others: the others by the plain laws, the last two inside the fence (a call of a loop's yield among them). -/
import Derived.Test.YtfjocafepigijaaDoorRgM
import Derived.OrdersHeld
import Derived.OwnWalkIn
import Derived.OrdersIn
namespace Go.Proofs.YtfjocafepigijaaDoor.Ry
open Go.RowKit

variable {n : Nat} {P : Program} {Q : Exit → Act → World → Prop}
/-- a region that comes to its end, and how -/
def Fin (N : Act → World → Prop) (e : Exit) (a : Act) (w : World) : Prop := e = .normal ∧ N a w
def aft (ops : Array Oper) (j : Nat) : List Edge := (ops[j]?.map (·.after.toList)).getD []
def rd (ops : Array Oper) (l : List Bool) (i : Nat) : Bool := !l.getD i true && ((ops[i]?).map (·.after.all fun e => !Region.binds .any e || l.getD e.on false)).getD false
def Good (ops : Array Oper) (l : List Bool) : Prop := ∀ i, l.getD i false = true → ∀ e ∈ aft ops i, Region.binds .any e = true → l.getD e.on false = true
/-- whoever is waited for stands ahead; each of the first m is waited for by a later one, and the last by the one ahead of him; no guards, nothing deferred -/
def low (ops : Array Oper) (m : Nat) : Bool := (List.range m).all fun i => (aft ops i).all fun e => decide (e.on < i)
def cov (ops : Array Oper) (m : Nat) : Bool := (List.range m).all fun i => (List.range (m + 1)).any fun j => decide (i < j) && (aft ops j).any fun e => Region.binds .any e && decide (e.on = i)
def last (ops : Array Oper) (m : Nat) : Bool := (aft ops (m + 1)).any fun e => Region.binds .any e && decide (e.on = m)
def mild (ops : Array Oper) (m : Nat) : Bool := (List.range m).all fun i => match ops[i]? with
  | some o => o.guard.isNone && (match o.op with
    | .defer _ => false
    | _ => true)
  | none => false
end Go.Proofs.YtfjocafepigijaaDoor.Ry
