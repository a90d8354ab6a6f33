/- jointArcs in plain words: the arcs between useful pairs, renumbered; a list of arcs that may be new; marks of loops that are over. No conditions. -/
import Derived.Test.YtfjocafepigijaaDoorIa0
import Derived.Test.YtfjocafepigijaaDoorAt
import Derived.Test.YtfjocafepigijaaDoorNa
import Derived.RangeFuncLeaves
namespace Go.Proofs.YtfjocafepigijaaDoor.Cu
open Go.RowKit Mv Set Qp Sk Po Ps Wd Se Mp St Cm Nm Nx Ra Am Pa Tc

/-- an arc between useful pairs, by their numbers -/
def jm (U : Nat → Bool) (L : List Nat) (i : Nat) (e : Arc) : List Arc := bif U e.2.1.toNat then [((i : Int), ((L.idxOf e.2.1.toNat : Nat) : Int), e.2.2)] else []
def jl (U : Nat → Bool) (A : Nat → List Arc) (L : List Nat) (n : Nat) : List Arc := (List.range n).flatMap fun i => (A (L.getD i 0)).flatMap (jm U L i)
/-- which numbers have been written down -/
def nmG (L : List Nat) (i : Nat) (k : Nat) : Option Nat := if k ∈ L.take i then some (L.idxOf k) else none
/-- a list of arcs that has none yet, or some; O: what is its own -/
def Lst (base : Nat) (w : World) (Lb : Nat) (A : List Arc) (O : Nat → Prop) : Prop := (A = [] ∧ w.heap[Lb]? = some (.cells #[.slice none 0 0, .map none] 132 (0, 0)) ∧ O = fun b => b = Lb) ∨ ∃ mb va, Al base w Lb mb A va ∧ Lb < mb ∧ O = Am.Own Lb mb va
/-- marks of loops that are over -/
def mks (rs : List Nat) : List Deferred := rs.map fun r => { target := .collected r, args := #[] }
end Go.Proofs.YtfjocafepigijaaDoor.Cu
