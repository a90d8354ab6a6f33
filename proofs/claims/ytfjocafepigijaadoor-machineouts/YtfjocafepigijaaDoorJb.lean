/- jointArcs: the arcs between useful pairs. Conditions: few states, few arcs. -/
import Derived.Test.YtfjocafepigijaaDoorIb
import Derived.Test.YtfjocafepigijaaDoorIa
import Derived.Test.YtfjocafepigijaaDoorJl
import Derived.Test.YtfjocafepigijaaDoorRi
import Derived.Test.YtfjocafepigijaaDoorRg
import Derived.Test.YtfjocafepigijaaDoorZb
namespace Go.Proofs.YtfjocafepigijaaDoor.Cu
open Go.RowKit Go.Shelf Mv Set Qp Sk Po Ps Wd Se Mp St Cm Nm Nx Ra Am Pa Tc Rf Na Rii
open CR (nc)
attribute [local go_sem] Oper.semAt_some

/-- what does not turn while the arcs are put together -/
structure Jc (w wr : World) (v : Value) (L : List Nat) (i : Nat) : Prop where
  x4 : wr.heap[w.heap.size]? = some (.cells #[v] 77 (0, 0))
  x6 : wr.heap[w.heap.size + 1]? = some (.cells #[.slice none 0 0] 22 (0, 0))
  x7 : wr.heap[w.heap.size + 3]? = some (.cells #[.map (some (w.heap.size + 2))] 138 (0, 0))
  nm : IsNm wr (w.heap.size + 2) i (nmG L i)
  below : Below w.heap.size w wr
/-- what holds between two rounds -/
def InvJ (base : Nat) (V : World) (Lb : Nat) (X0 : Nat → Prop) (J0 : List Arc) (f : Arc → List Arc) (pre : List Arc) (O : Nat → Prop) (A : World) : Prop := Lst base A Lb (chP (J0 ++ pre.flatMap f)) O ∧ Kp X0 V A ∧ ∀ k, O k → X0 k ∨ V.heap.size + 2 ≤ k
end Go.Proofs.YtfjocafepigijaaDoor.Cu
