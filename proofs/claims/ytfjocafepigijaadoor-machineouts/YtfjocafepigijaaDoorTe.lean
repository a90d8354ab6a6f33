/- The document's ThroughCost: a round over the states of the second machine. Conditions: numbers are small. -/
import Derived.Test.YtfjocafepigijaaDoorTd
import Derived.Deep.LoopGhost
import Derived.Deep.QuietTactic
import Derived.BigQuiet
import Derived.Deep.RegionHeld
import Derived.Deep.CutRange
import Derived.Deep.RegionHeld3
namespace Go.Proofs.YtfjocafepigijaaDoor.Tc
open Go.RowKit Mv Wk Bw Th CR

noncomputable def bodyT : Code := ((Tryd.f16.body.map loops).getD []).getD 5 .skip
/-- what a round knows that the walk need not see -/
structure EnvT (SA SB N : Nat) (a b : M) (inn out : List Int) (i1 j1 r1 s s2 x : Nat) (I0 : Int) : Prop where
  hA : SA ≤ 40
  hB : SB ≤ 40
  hn : inn.length ≤ 8
  hk : out.length ≤ 8
  hi : i1 < inn.length + 1
  hj : j1 < out.length + 1
  hr : r1 < inn.length + 1
  hs : s < SA
  hs2 : s2 < SA
  hx : x ≤ 1000000
  hN : N = SA * SB * (inn.length + 1) * (out.length + 1)
  mem : ∀ t, t < SB → eA SB ((s : Int), (s2 : Int), I0, 0, (x : Int)) t ∈ (prM a b SA SB).arcs
  mv : ∀ t, Wk.Move inn out true (eA SB ((s : Int), (s2 : Int), I0, 0, (x : Int)) t) i1 j1 r1 j1
end Go.Proofs.YtfjocafepigijaaDoor.Tc
