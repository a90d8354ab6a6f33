/- endCosts: what it costs to end in each state. Conditions: few states; the ends are right. -/
import Derived.Test.YtfjocafepigijaaDoorNw
import Derived.Test.YtfjocafepigijaaDoorAp
import Derived.Test.YtfjocafepigijaaDoorTe
namespace Go.Proofs.YtfjocafepigijaaDoor.Ec
open Go.RowKit Mv Wk Po Wd Se St Wg Nw
open CR (nc)

/-- the costs to end; the last word for a state stands -/
def endP (S : Nat) (F : List (Int × Int)) : List Nat := F.foldl (fun R f => R.set f.1.toNat f.2.toNat) (List.replicate S far)
structure Er (w wr : World) (C S : Nat) (R : List Nat) : Prop where
  row : wr.ownsRow (w.heap.size + 1) 3 1 (.slice (some ⟨C, 0, none⟩) S S) S (nc R)
  len : R.length = S
  bel : Below w.heap.size w wr
end Go.Proofs.YtfjocafepigijaaDoor.Ec
