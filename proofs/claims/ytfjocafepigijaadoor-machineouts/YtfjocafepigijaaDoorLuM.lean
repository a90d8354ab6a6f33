/- jointArcs: the arcs between useful pairs. Conditions: few states, few arcs. -/
import Derived.Test.YtfjocafepigijaaDoorKbM
import Derived.Test.YtfjocafepigijaaDoorIaM
import Derived.Test.YtfjocafepigijaaDoorRi
import Derived.Test.YtfjocafepigijaaDoorRgM
import Derived.Test.YtfjocafepigijaaDoorZb
import Derived.Test.YtfjocafepigijaaDoorMrM
import Derived.Test.YtfjocafepigijaaDoorTnM
namespace Go.Proofs.YtfjocafepigijaaDoor.Cu
open Go.RowKit Go.Shelf Mv Set Qp Sk Po Ps Wd Se Mp St Cm Nm Nx Ra Am Pa Tc Rf Na Rii
open CR (nc)
attribute [local go_sem] Oper.semAt_some

/-- what does not turn while the arcs are put together -/
structure Jc (w wr : World) (v : Value) (L : List Nat) (i : Nat) : Prop where
  x4 : wr.heap[w.heap.size]? = some (.cells #[v] 77 (0, 0))
  x6 : wr.heap[w.heap.size + 1]? = some (.cells #[.slice none 0 0] 22 (0, 0))
  x7 : wr.heap[w.heap.size + 3]? = some (.cells #[.map (some (w.heap.size + 2))] 138 (0, 0))
  nm : IsNm wr (w.heap.size + 2) i (nmG L i)
  below : Below w.heap.size w wr
/-- what holds between two rounds -/
def InvJ (base : Nat) (V : World) (Lb : Nat) (X0 : Nat → Prop) (J0 : List Arc) (f : Arc → List Arc) (pre : List Arc) (O : Nat → Prop) (A : World) : Prop := Lst base A Lb (chP (J0 ++ pre.flatMap f)) O ∧ Kp X0 V A ∧ ∀ k, O k → X0 k ∨ V.heap.size + 2 ≤ k
end Go.Proofs.YtfjocafepigijaaDoor.Cu
/- Through: right machines that are few. Conditions: these; the library's table lies as its text lays it. -/
namespace Go.Proofs.YtfjocafepigijaaDoor.Cu
open Go.RowKit Mv Set Qp Sk Po Ps Wd Se Mp St Cm Nm Nx Ra Am Pa Tc Mc
open CR (nc)

/-- how Through ends -/
def ThQ (a b : M) (SA SB : Nat) (w' : World) (e : Ending) : Prop := ∃ U W, Usf a b SA SB U W ∧ ((checkP (thM a b SA SB U (Ls U (SA * SB))) 0 ∧ ∃ v, e = .returned (.tuple #[v, .int .i64 0]) ∧ IsM w' v (thM a b SA SB U (Ls U (SA * SB)))) ∨ (checkP (thM a b SA SB U (Ls U (SA * SB))) 3 ∧ ¬ (lightP a = true ∧ lightP b = true) ∧ e = .returned (.tuple #[.agg #[.int .i64 0, .slice none 0 0, .slice none 0 0], .int .i64 3])))
end Go.Proofs.YtfjocafepigijaaDoor.Cu
/- What the law MachineThrough knows of Through, of the cost of a walk through both machines, and of right. Conditions: as each says. -/
namespace Go.Proofs.YtfjocafepigijaaDoor.Cu
open Go.RowKit Mv Wd Mp Ra Am Tc Mc Wk Sy Rz Th
open CR (nc)

/-- Through makes what right calls right -/
def Mk (a b : M) (va vb vi vo : Value) (w : World) (z want : Int) : Prop := ∀ W, Below w.heap.size w W → Calls Tryd.prog 17 #[va, vb] W fun e W' => ∃ (n : Int) (a1 : Option Addr) (n1 k1 : Nat) (a2 : Option Addr) (n2 k2 : Nat) (g : Int), e = .returned (.tuple #[.agg #[.int .i64 n, .slice a1 n1 k1, .slice a2 n2 k2], .int .i64 g]) ∧ (∀ W2, Below W'.heap.size W' W2 → ∀ sm : Bool, (sm = true → lightP a = true ∧ lightP b = true) → Calls Tryd.prog 18 #[.agg #[.int .i64 n, .slice a1 n1 k1, .slice a2 n2 k2], .int .i64 g, .int .i64 z, .bool sm, vi, vo, .int .i64 want] W2 fun r w' => r = .returned (.bool true) ∧ Below W2.heap.size W2 w') ∧ Below W.heap.size W W'
end Go.Proofs.YtfjocafepigijaaDoor.Cu
