/- Plain facts for ThroughCost's rounds: which arcs of pairs have been looked at. No program text. -/
import Derived.Test.YtfjocafepigijaaDoorTg
namespace Go.Proofs.YtfjocafepigijaaDoor.Tc
open Go.RowKit Mv Wk Bw Th CR

/-- what has been looked at: D0, and at this place the arcs of the first n -/
def DX (D0 : A5 → Nat → Nat → Prop) (l : List A5) (g : A5 → List A5) (i1 j1 : Nat) (e : A5) (i j n : Nat) : Prop := D0 e i j ∨ (i = i1 ∧ j = j1 ∧ e ∈ (l.take n).flatMap g)
/-- what has been looked at, a row of arcs more -/
def DM (D0 : A5 → Nat → Nat → Prop) (f : Nat → A5) (i1 j1 : Nat) (e : A5) (i j n : Nat) : Prop := D0 e i j ∨ (i = i1 ∧ j = j1 ∧ e ∈ (List.range n).map f)
/-- where a row of arcs lies -/
def ArcRow (w : World) (ab : Option Addr) (l : List A5) : Prop := l.length = 0 ∨ ∃ bb off, ab = some ⟨bb, off, none⟩ ∧ bb < w.heap.size ∧ ∀ j u, (acs l)[j]? = some u → w.cell? ⟨bb, off + j, none⟩ = some u
def NumRow (w : World) (ao : Option Addr) (l : List Int) : Prop := l.length = 0 ∨ ∃ bo oo, ao = some ⟨bo, oo, none⟩ ∧ bo < w.heap.size ∧ ∀ j u, (l.map (Value.int .i64))[j]? = some u → w.cell? ⟨bo, oo + j, none⟩ = some u
/-- a round's facts that the walk need not see -/
structure EnvX (SA SB N : Nat) (a b : M) (inn out : List Int) (ai ao : Option Addr) (w : World) (i1 j1 : Nat) : Prop where
  hA : SA ≤ 40
  hB : SB ≤ 40
  hn : inn.length ≤ 8
  hk : out.length ≤ 8
  hlA : a.arcs.length ≤ 120
  hlB : b.arcs.length ≤ 120
  hi : i1 < inn.length + 1
  hj : j1 < out.length + 1
  hN : N = SA * SB * (inn.length + 1) * (out.length + 1)
  arcA : ∀ y (h : y < a.arcs.length), ∃ t t2 yw : Nat, ∃ I O : Int, a.arcs[y] = ((t : Int), (t2 : Int), I, O, (yw : Int)) ∧ t < SA ∧ t2 < SA ∧ yw ≤ 1000000 ∧ 0 ≤ I ∧ 0 ≤ O
  arcB : ∀ y (h : y < b.arcs.length), ∃ t t2 yw : Nat, ∃ I O : Int, b.arcs[y] = ((t : Int), (t2 : Int), I, O, (yw : Int)) ∧ t < SB ∧ t2 < SB ∧ yw ≤ 1000000 ∧ 0 ≤ I ∧ 0 ≤ O
  li : NumRow w ai inn
  lo : NumRow w ao out
end Go.Proofs.YtfjocafepigijaaDoor.Tc
