/- The function that couple.arcs hands back: it hands on all arcs that lead on from a pair. Conditions: few states, few arcs, costs in their bounds. -/
import Derived.Test.YtfjocafepigijaaDoorIa0
import Derived.Test.YtfjocafepigijaaDoorRy
import Derived.Deep.QuietTactic
import Derived.BigQuiet
import Derived.Sort.CutIn
namespace Go.Proofs.YtfjocafepigijaaDoor.Cu
open Go.RowKit Go.Shelf Mv Set Qp Sk Po Ps Wd Se Mp St Cm Nm Nx Ra Am Pa Tc Rf
open CR (nc)
attribute [local go_sem] Oper.semAt_some

def encA (x : Arc) : Array Value := #[.agg #[.int .i64 x.1, .int .i64 x.2.1, .int .i64 x.2.2.1, .int .i64 x.2.2.2.1, .int .i64 x.2.2.2.2]]
/-- what is right about the rows of a couple -/
def FOk (SA : Nat) (F : Nat → List Arc) : Prop := ∀ p, p < SA → (F p).length ≤ 120 ∧ ∀ x ∈ F p, ∃ t s u : Nat, x.2.1 = (t : Int) ∧ t < SA ∧ x.2.2.2.1 = (s : Int) ∧ s ≤ 60 ∧ x.2.2.2.2 = (u : Int) ∧ u ≤ 1000000
def ROk (SB : Nat) (R : Nat → List Arc) : Prop := ∀ q, q < SB → (R q).length ≤ 120 ∧ ∀ y ∈ R q, ∃ t u : Nat, y.2.1 = (t : Int) ∧ t < SB ∧ y.2.2.2.2 = (u : Int) ∧ u ≤ 1000000
end Go.Proofs.YtfjocafepigijaaDoor.Cu
