/- The function that couple.arcs hands back: it hands on all arcs that lead on from a pair. Conditions: few states, few arcs, costs in their bounds. -/
import Derived.Test.YtfjocafepigijaaDoorIaM
import Derived.Test.YtfjocafepigijaaDoorRy
import Derived.Deep.QuietTactic
import Derived.BigQuiet
import Derived.Sort.CutIn
import Derived.Test.YtfjocafepigijaaDoorVeM
import Derived.Test.YtfjocafepigijaaDoorMrM
import Derived.Test.YtfjocafepigijaaDoorGbM
namespace Go.Proofs.YtfjocafepigijaaDoor.Cu
open Go.RowKit Go.Shelf Mv Set Qp Sk Po Ps Wd Se Mp St Cm Nm Nx Ra Am Pa Tc Rf
open CR (nc)
attribute [local go_sem] Oper.semAt_some

def encA (x : Arc) : Array Value := #[.agg #[.int .i64 x.1, .int .i64 x.2.1, .int .i64 x.2.2.1, .int .i64 x.2.2.2.1, .int .i64 x.2.2.2.2]]
/-- what is right about the rows of a couple -/
def FOk (SA : Nat) (F : Nat → List Arc) : Prop := ∀ p, p < SA → (F p).length ≤ 120 ∧ ∀ x ∈ F p, ∃ t s u : Nat, x.2.1 = (t : Int) ∧ t < SA ∧ x.2.2.2.1 = (s : Int) ∧ s ≤ 60 ∧ x.2.2.2.2 = (u : Int) ∧ u ≤ 1000000
def ROk (SB : Nat) (R : Nat → List Arc) : Prop := ∀ q, q < SB → (R q).length ≤ 120 ∧ ∀ y ∈ R q, ∃ t u : Nat, y.2.1 = (t : Int) ∧ t < SB ∧ y.2.2.2.2 = (u : Int) ∧ u ≤ 1000000
end Go.Proofs.YtfjocafepigijaaDoor.Cu
/- What is right about rows of right arcs. No program text. -/
namespace Go.Proofs.YtfjocafepigijaaDoor.Cu
open Go.RowKit Mv Wk Bw Th Am Ra Mp Wd

def Rgt (S : Nat) (A : List Arc) : Prop := ∀ a ∈ A, arcB (S : Int) a = true
/-- the pairs where both end -/
def en (SB : Nat) (f g : Int × Int) : Nat := f.1.toNat * SB + g.1.toNat
def eL (SB : Nat) (fa fb : List (Int × Int)) (i : Nat) : List Nat := (fa.take i).flatMap fun f => fb.map (en SB f)
end Go.Proofs.YtfjocafepigijaaDoor.Cu
/- What Through makes, in plain words: it has the pairs that matter, and costs what the machine of pairs costs; it is right, but for costs that are too great. No program text. -/
namespace Go.Proofs.YtfjocafepigijaaDoor.Cu
open Mv Wk Bw Th Am Ra Wd Mp Mc

/-- right ends -/
def Fgt (S : Nat) (F : List (Int × Int)) : Prop := ∀ f ∈ F, finB (S : Int) f = true
def Onc (F : List (Int × Int)) : Prop := ∀ f ∈ F, ∀ g ∈ F, f.1 = g.1 → f = g
/-- what Through makes -/
def thA (a b : M) (SB : Nat) (U : Nat → Bool) (L : List Nat) : List Arc := chP (jl U (arcsP (rws (fun a => a) (chP a.arcs)) (rws (fun a => a) (chP b.arcs)) SB) L L.length)
def thM (a b : M) (SA SB : Nat) (U : Nat → Bool) (L : List Nat) : M := ⟨(L.length : Int), thA a b SB U L, Jf.jfP (Ec.endP SA a.fins) (Ec.endP SB b.fins) SB L L.length⟩
/-- what is known of the pairs that are useful -/
structure Usf (a b : M) (SA SB : Nat) (U W : Nat → Bool) : Prop where
  hA : Rgt SA a.arcs
  hB : Rgt SB b.arcs
  hFA : Fgt SA a.fins
  hFB : Fgt SB b.fins
  oA : Onc a.fins
  oB : Onc b.fins
  pA : 0 < SA
  pB : 0 < SB
  zero : U 0 = true
  ends : ∀ k ∈ eL SB a.fins b.fins a.fins.length, W k = true
  back : ∀ k, W k = true → ∀ k' : Nat, (∃ e ∈ arcsP (rws tn a.arcs) (rws tn b.arcs) SB k, e.2.1 = (k' : Int)) → W k' = true
  on : ∀ k, U k = true → ∀ k' : Nat, (∃ e ∈ arcsP (rws (fun a => a) (chP a.arcs)) (rws (fun a => a) (chP b.arcs)) SB k, e.2.1 = (k' : Int)) → W k' = true → U k' = true
def Ls (U : Nat → Bool) (n : Nat) : List Nat := (List.range n).filter U
end Go.Proofs.YtfjocafepigijaaDoor.Cu
/- usefulPairs: the first pair, and those through which a walk can go. Conditions: right and small machines. -/
namespace Go.Proofs.YtfjocafepigijaaDoor.Cu
open Go.RowKit Mv Set Qp Sk Po Ps Wd Se Mp St Cm Nm Nx Ra Am Pa Tc
open CR (nc)

end Go.Proofs.YtfjocafepigijaaDoor.Cu
