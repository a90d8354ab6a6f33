/- What the law MachineThrough knows of Through, of the cost of a walk through both machines, and of right. Conditions: as each says. -/
import Derived.Test.YtfjocafepigijaaDoorLt
import Derived.Test.YtfjocafepigijaaDoorTn
import Derived.Test.YtfjocafepigijaaDoorMl
namespace Go.Proofs.YtfjocafepigijaaDoor.Cu
open Go.RowKit Mv Wd Mp Ra Am Tc Mc Wk Sy Rz Th
open CR (nc)

/-- Through makes what right calls right -/
def Mk (a b : M) (va vb vi vo : Value) (w : World) (z want : Int) : Prop := ∀ W, Below w.heap.size w W → Calls Tryd.prog 17 #[va, vb] W fun e W' => ∃ (n : Int) (a1 : Option Addr) (n1 k1 : Nat) (a2 : Option Addr) (n2 k2 : Nat) (g : Int), e = .returned (.tuple #[.agg #[.int .i64 n, .slice a1 n1 k1, .slice a2 n2 k2], .int .i64 g]) ∧ (∀ W2, Below W'.heap.size W' W2 → ∀ sm : Bool, (sm = true → lightP a = true ∧ lightP b = true) → Calls Tryd.prog 18 #[.agg #[.int .i64 n, .slice a1 n1 k1, .slice a2 n2 k2], .int .i64 g, .int .i64 z, .bool sm, vi, vo, .int .i64 want] W2 fun r w' => r = .returned (.bool true) ∧ Below W2.heap.size W2 w') ∧ Below W.heap.size W W'
end Go.Proofs.YtfjocafepigijaaDoor.Cu
