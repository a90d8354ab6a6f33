/- The document's ThroughCost: a round over the arcs of the second machine, at an arc of the first one that writes. Conditions: numbers are small. -/
import Derived.Test.YtfjocafepigijaaDoorTf
import Derived.Deep.LoopGhost
import Derived.Deep.QuietTactic
import Derived.BigQuiet
import Derived.Deep.RegionHeld
import Derived.Deep.CutRange
import Derived.Deep.RegionHeld3
namespace Go.Proofs.YtfjocafepigijaaDoor.Tc
open Go.RowKit Mv Wk Bw Th CR

noncomputable def bodyY : Code := ((Tryd.f16.body.map loops).getD []).getD 6 .skip
structure EnvY (SA SB N : Nat) (a b : M) (inn out : List Int) (ao : Option Addr) (w : World) (i1 j1 r1 s s2 x : Nat) (I0 O0 : Int) : Prop where
  hA : SA ≤ 40
  hB : SB ≤ 40
  hn : inn.length ≤ 8
  hk : out.length ≤ 8
  hl : b.arcs.length ≤ 120
  hi : i1 < inn.length + 1
  hj : j1 < out.length + 1
  hr : r1 < inn.length + 1
  hs : s < SA
  hs2 : s2 < SA
  hx : x ≤ 1000000
  hN : N = SA * SB * (inn.length + 1) * (out.length + 1)
  arc : ∀ y (h : y < b.arcs.length), ∃ t t2 yw : Nat, ∃ I O : Int, b.arcs[y] = ((t : Int), (t2 : Int), I, O, (yw : Int)) ∧ t < SB ∧ t2 < SB ∧ yw ≤ 1000000 ∧ 0 ≤ O
  mem : ∀ g ∈ b.arcs, g.2.2.1 = O0 → eX SB ((s : Int), (s2 : Int), I0, O0, (x : Int)) g ∈ (prM a b SA SB).arcs
  mv : (I0 = 0 ∧ r1 = i1) ∨ (0 < I0 ∧ inn[i1]? = some I0 ∧ r1 = i1 + 1)
  lo : out.length = 0 ∨ ∃ bo oo, ao = some ⟨bo, oo, none⟩ ∧ bo < w.heap.size ∧ ∀ j u, (out.map (Value.int .i64))[j]? = some u → w.cell? ⟨bo, oo + j, none⟩ = some u
end Go.Proofs.YtfjocafepigijaaDoor.Tc
