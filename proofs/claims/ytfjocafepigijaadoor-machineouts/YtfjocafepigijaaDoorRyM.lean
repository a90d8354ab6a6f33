/- reach: all pairs that one comes to. Conditions: few states, few arcs; no more pairs than may be. -/
import Derived.Test.YtfjocafepigijaaDoorZaM
import Derived.Test.YtfjocafepigijaaDoorRdM
import Derived.OrdersHeld
import Derived.OwnWalkIn
import Derived.OrdersIn
namespace Go.Proofs.YtfjocafepigijaaDoor.Cu
open Go.RowKit Mv Set Qp Sk Po Ps Wd Se Mp St Cm Nm Nx Ra Am Pa Tc
open CR (nc)

structure R1p (w wx : World) (C Fb bS n : Nat) (fv vm : Value) (ws : List Nat) : Prop where
  row : wx.heap[Fb]? = some (.cells #[vm, .int .i64 0, .slice none 0 0] 183 (0, 0))
  set : IsSet wx w.heap.size vm n ws
  emp : ∀ k, mem ws k = false
  xC : wx.heap[w.heap.size]? = some (.cells #[.pointer (some ⟨C, 0, none⟩)] 71 (0, 0))
  xA : wx.heap[w.heap.size + 1]? = some (.cells #[fv] 114 (0, 0))
  xS : wx.heap[bS]? = some (.cells #[.pointer (some ⟨Fb, 0, none⟩)] 181 (0, 0))
  fge : w.heap.size ≤ Fb
  below : Below w.heap.size w wx
end Go.Proofs.YtfjocafepigijaaDoor.Cu
/- couple.arcs: a function that hands on the arcs of a pair. Conditions: few states. -/
namespace Go.Proofs.YtfjocafepigijaaDoor.Cu
open Go.RowKit Mv Set Qp Sk Po Ps Wd Se Mp St Cm Nm Nx Ra Am Pa Tc
open CR (nc)

/-- what the function has captured -/
structure Bx (w : World) (bC bp bk bq C p k q : Nat) : Prop where
  c : w.heap[bC]? = some (.cells #[.pointer (some ⟨C, 0, none⟩)] 71 (0, 0))
  p : w.heap[bp]? = some (.cells #[.int .i64 (p : Int)] 3 (0, 0))
  k : w.heap[bk]? = some (.cells #[.int .i64 (k : Int)] 3 (0, 0))
  q : w.heap[bq]? = some (.cells #[.int .i64 (q : Int)] 3 (0, 0))
end Go.Proofs.YtfjocafepigijaaDoor.Cu
/- A region that draws its order whose last two operations wait for all others: the others by the plain laws, the last two inside the fence (a call of a loop's yield among them). -/
namespace Go.Proofs.YtfjocafepigijaaDoor.Ry
open Go.RowKit

variable {n : Nat} {P : Program} {Q : Exit → Act → World → Prop}
/-- a region that comes to its end, and how -/
def Fin (N : Act → World → Prop) (e : Exit) (a : Act) (w : World) : Prop := e = .normal ∧ N a w
def aft (ops : Array Oper) (j : Nat) : List Edge := (ops[j]?.map (·.after.toList)).getD []
def rd (ops : Array Oper) (l : List Bool) (i : Nat) : Bool := !l.getD i true && ((ops[i]?).map (·.after.all fun e => !Region.binds .any e || l.getD e.on false)).getD false
def Good (ops : Array Oper) (l : List Bool) : Prop := ∀ i, l.getD i false = true → ∀ e ∈ aft ops i, Region.binds .any e = true → l.getD e.on false = true
/-- whoever is waited for stands ahead; each of the first m is waited for by a later one, and the last by the one ahead of him; no guards, nothing deferred -/
def low (ops : Array Oper) (m : Nat) : Bool := (List.range m).all fun i => (aft ops i).all fun e => decide (e.on < i)
def cov (ops : Array Oper) (m : Nat) : Bool := (List.range m).all fun i => (List.range (m + 1)).any fun j => decide (i < j) && (aft ops j).any fun e => Region.binds .any e && decide (e.on = i)
def last (ops : Array Oper) (m : Nat) : Bool := (aft ops (m + 1)).any fun e => Region.binds .any e && decide (e.on = m)
def mild (ops : Array Oper) (m : Nat) : Bool := (List.range m).all fun i => match ops[i]? with
  | some o => o.guard.isNone && (match o.op with
    | .defer _ => false
    | _ => true)
  | none => false
end Go.Proofs.YtfjocafepigijaaDoor.Ry
