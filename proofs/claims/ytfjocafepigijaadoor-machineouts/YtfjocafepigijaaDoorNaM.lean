/- The function that couple.arcs hands back: it hands on all arcs that lead on from a pair. Conditions: few states, few arcs, costs in their bounds. -/
import Derived.Test.YtfjocafepigijaaDoorRyM
import Derived.Deep.QuietTactic
import Derived.BigQuiet
import Derived.Sort.CutIn
import Derived.Test.YtfjocafepigijaaDoorAmM
namespace Go.Proofs.YtfjocafepigijaaDoor.Cu
open Go.RowKit Go.Shelf Mv Set Qp Sk Po Ps Wd Se Mp St Cm Nm Nx Ra Am Pa Tc Rf
open CR (nc)
attribute [local go_sem] Oper.semAt_some

def encA (x : Arc) : Array Value := #[.agg #[.int .i64 x.1, .int .i64 x.2.1, .int .i64 x.2.2.1, .int .i64 x.2.2.2.1, .int .i64 x.2.2.2.2]]
/-- what is right about the rows of a couple -/
def FOk (SA : Nat) (F : Nat → List Arc) : Prop := ∀ p, p < SA → (F p).length ≤ 120 ∧ ∀ x ∈ F p, ∃ t s u : Nat, x.2.1 = (t : Int) ∧ t < SA ∧ x.2.2.2.1 = (s : Int) ∧ s ≤ 60 ∧ x.2.2.2.2 = (u : Int) ∧ u ≤ 1000000
def ROk (SB : Nat) (R : Nat → List Arc) : Prop := ∀ q, q < SB → (R q).length ≤ 120 ∧ ∀ y ∈ R q, ∃ t u : Nat, y.2.1 = (t : Int) ∧ t < SB ∧ y.2.2.2.2 = (u : Int) ∧ u ≤ 1000000
end Go.Proofs.YtfjocafepigijaaDoor.Cu
/- What is right about rows of right arcs. No program text. -/
namespace Go.Proofs.YtfjocafepigijaaDoor.Cu
open Go.RowKit Mv Wk Bw Th Am Ra Mp Wd

def Rgt (S : Nat) (A : List Arc) : Prop := ∀ a ∈ A, arcB (S : Int) a = true
/-- the pairs where both end -/
def en (SB : Nat) (f g : Int × Int) : Nat := f.1.toNat * SB + g.1.toNat
def eL (SB : Nat) (fa fb : List (Int × Int)) (i : Nat) : List Nat := (fa.take i).flatMap fun f => fb.map (en SB f)
end Go.Proofs.YtfjocafepigijaaDoor.Cu
/- The map from pairs to their numbers. Condition: the pairs' numbers are small. -/
namespace Go.Proofs.YtfjocafepigijaaDoor.Na
open Go.RowKit Mv Po Se Wd Mp Am
open Go.WideMaps Go.WideElems
open Go.Maps (Keyed)

/-- block b is a map that has G at each number -/
def IsNm (w : World) (b n : Nat) (G : Nat → Option Nat) : Prop :=
  ∃ D : DataW Value, w.ownsMap Tryd.prog 3 El b n D ∧ ∀ a : Nat, a ≤ 1000000 → ∀ z, D.atKey (.int .i64 (a : Int)) z = (match G a with | some c => .held (.int .i64 (c : Int)) | none => z)
end Go.Proofs.YtfjocafepigijaaDoor.Na
