/- A list of arcs that has each name once, for its least cost: how it lies, one arc more. No conditions. -/
import Derived.Test.YtfjocafepigijaaDoorAm
import Derived.Test.YtfjocafepigijaaDoorRa
namespace Go.Proofs.YtfjocafepigijaaDoor.Am
open Go.RowKit Mv Qp Sk Po Ps Wd Se Mp St Cm Nm Nx

/-- where a name stands -/
def pos (A : List Arc) (n : Nam) : Option Nat := A.findIdx? (fun a => nam a == n)
def chp (x : Int) (a : Arc) : Arc := (a.1, a.2.1, a.2.2.1, a.2.2.2.1, if a.2.2.2.2 ≤ x then a.2.2.2.2 else x)
def low (A : List Arc) (i : Nat) (x : Int) : List Arc := A.modify i (chp x)
def putP (A : List Arc) (a : Arc) : List Arc := match pos A (nam a) with | none => A ++ [a] | some i => low A i a.2.2.2.2
structure Al (base : Nat) (w : World) (Lb mb : Nat) (A : List Arc) (va : Value) : Prop where
  row : w.heap[Lb]? = some (.cells #[va, .map (some mb)] 132 (0, 0))
  arcs : w.ownsRow base 64 5 va A.length (acs A)
  mp : IsAm w mb A.length (pos A)
theorem lt_at {w : World} {g : Nat} {o : Obj} (h : w.heap[g]? = some o) : g < w.heap.size := (Array.getElem?_eq_some_iff.1 h).1
/-- the blocks that a put may change -/
def Own (Lb mb : Nat) (va : Value) (b : Nat) : Prop := b = Lb ∨ b = mb ∨ va.ownBlock = some b
end Go.Proofs.YtfjocafepigijaaDoor.Am
