/- The document's ThroughCost: a round over the states of the first machine. Conditions: numbers are small. -/
import Derived.Test.YtfjocafepigijaaDoorTe
import Derived.Deep.LoopGhost
import Derived.Deep.QuietTactic
import Derived.BigQuiet
import Derived.Deep.RegionHeld
import Derived.Deep.CutRange
import Derived.Deep.RegionHeld3
namespace Go.Proofs.YtfjocafepigijaaDoor.Tc
open Go.RowKit Mv Wk Bw Th CR

noncomputable def bodyS : Code := ((Tryd.f16.body.map loops).getD []).getD 8 .skip
structure EnvS (SA SB N : Nat) (a b : M) (inn out : List Int) (i1 j1 w1 t t2 y : Nat) (O0 : Int) : Prop where
  hA : SA ≤ 40
  hB : SB ≤ 40
  hn : inn.length ≤ 8
  hk : out.length ≤ 8
  hi : i1 < inn.length + 1
  hj : j1 < out.length + 1
  hw : w1 < out.length + 1
  ht : t < SB
  ht2 : t2 < SB
  hy : y ≤ 1000000
  hN : N = SA * SB * (inn.length + 1) * (out.length + 1)
  mem : ∀ s, s < SA → eB SB ((t : Int), (t2 : Int), 0, O0, (y : Int)) s ∈ (prM a b SA SB).arcs
  mv : ∀ s, Wk.Move inn out true (eB SB ((t : Int), (t2 : Int), 0, O0, (y : Int)) s) i1 j1 i1 w1
end Go.Proofs.YtfjocafepigijaaDoor.Tc
