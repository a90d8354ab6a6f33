/- What is right about rows of right arcs. No program text. -/
import Derived.Test.YtfjocafepigijaaDoorIb
namespace Go.Proofs.YtfjocafepigijaaDoor.Cu
open Go.RowKit Mv Wk Bw Th Am Ra Mp Wd

def Rgt (S : Nat) (A : List Arc) : Prop := ∀ a ∈ A, arcB (S : Int) a = true
/-- the pairs where both end -/
def en (SB : Nat) (f g : Int × Int) : Nat := f.1.toNat * SB + g.1.toNat
def eL (SB : Nat) (fa fb : List (Int × Int)) (i : Nat) : List Nat := (fa.take i).flatMap fun f => fb.map (en SB f)
end Go.Proofs.YtfjocafepigijaaDoor.Cu
