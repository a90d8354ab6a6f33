/- The document's ThroughCost: the rounds over the places of both texts. Conditions: numbers are small. -/
import Derived.Test.YtfjocafepigijaaDoorTk
import Derived.Test.YtfjocafepigijaaDoorTl
import Derived.Deep.LoopGhost
import Derived.Deep.QuietTactic
import Derived.BigQuiet
import Derived.Deep.RegionHeld
import Derived.Deep.CutRange
import Derived.Deep.RegionHeld3
namespace Go.Proofs.YtfjocafepigijaaDoor.Tc
open Go.RowKit Mv Wk Bw Th CR

noncomputable def bodyJJ : Code := ((Tryd.f16.body.map loops).getD []).getD 3 .skip
noncomputable def bodyII : Code := ((Tryd.f16.body.map loops).getD []).getD 2 .skip
def DJ (D0 : A5 → Nat → Nat → Prop) (l : List A5) (i1 : Nat) (e : A5) (i j n : Nat) : Prop := D0 e i j ∨ (i = i1 ∧ j < n ∧ e ∈ l)
def DI (l : List A5) (k : Nat) (e : A5) (i j n : Nat) : Prop := i < n ∧ j < k ∧ e ∈ l
/-- what all rounds know -/
structure EnvI (SA SB N : Nat) (a b : M) (inn out : List Int) (ai ao : Option Addr) (w : World) : Prop where
  hA : SA ≤ 40
  hB : SB ≤ 40
  hn : inn.length ≤ 8
  hk : out.length ≤ 8
  hlA : a.arcs.length ≤ 120
  hlB : b.arcs.length ≤ 120
  hN : N = SA * SB * (inn.length + 1) * (out.length + 1)
  arcA : ∀ y (h : y < a.arcs.length), ∃ t t2 yw : Nat, ∃ I O : Int, a.arcs[y] = ((t : Int), (t2 : Int), I, O, (yw : Int)) ∧ t < SA ∧ t2 < SA ∧ yw ≤ 1000000 ∧ 0 ≤ I ∧ 0 ≤ O
  arcB : ∀ y (h : y < b.arcs.length), ∃ t t2 yw : Nat, ∃ I O : Int, b.arcs[y] = ((t : Int), (t2 : Int), I, O, (yw : Int)) ∧ t < SB ∧ t2 < SB ∧ yw ≤ 1000000 ∧ 0 ≤ I ∧ 0 ≤ O
  li : NumRow w ai inn
  lo : NumRow w ao out
end Go.Proofs.YtfjocafepigijaaDoor.Tc
