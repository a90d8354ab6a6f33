/- jointFinals: where both machines end. Conditions: few states; the ends are right; the pairs are pairs. -/
import Derived.Test.YtfjocafepigijaaDoorEc
import Derived.Test.YtfjocafepigijaaDoorPv
namespace Go.Proofs.YtfjocafepigijaaDoor.Jf
open Go.RowKit Mv Wk Po Wd Se St Wg Nw Am
open CR (nc)

def jf1 (Ea Eb : List Nat) (SB : Nat) (L : List Nat) (i : Nat) : List (Int × Int) := if cv Ea (L.getD i 0 / SB) ≠ far ∧ cv Eb (L.getD i 0 % SB) ≠ far then [((i : Int), ((cv Ea (L.getD i 0 / SB) + cv Eb (L.getD i 0 % SB) : Nat) : Int))] else []
def jfP (Ea Eb : List Nat) (SB : Nat) (L : List Nat) (n : Nat) : List (Int × Int) := (List.range n).flatMap (jf1 Ea Eb SB L)
end Go.Proofs.YtfjocafepigijaaDoor.Jf
