/- The document's ThroughCost: a round over the states of the second machine. Conditions: numbers are small. -/
import Derived.Test.YtfjocafepigijaaDoorTdM
import Derived.Deep.LoopGhost
import Derived.Deep.QuietTactic
import Derived.BigQuiet
import Derived.Deep.RegionHeld
import Derived.Deep.CutRange
import Derived.Deep.RegionHeld3
namespace Go.Proofs.YtfjocafepigijaaDoor.Tc
open Go.RowKit Mv Wk Bw Th CR

noncomputable def bodyT : Code := ((Tryd.f16.body.map loops).getD []).getD 5 .skip
/-- what a round knows that the walk need not see -/
structure EnvT (SA SB N : Nat) (a b : M) (inn out : List Int) (i1 j1 r1 s s2 x : Nat) (I0 : Int) : Prop where
  hA : SA ≤ 40
  hB : SB ≤ 40
  hn : inn.length ≤ 8
  hk : out.length ≤ 8
  hi : i1 < inn.length + 1
  hj : j1 < out.length + 1
  hr : r1 < inn.length + 1
  hs : s < SA
  hs2 : s2 < SA
  hx : x ≤ 1000000
  hN : N = SA * SB * (inn.length + 1) * (out.length + 1)
  mem : ∀ t, t < SB → eA SB ((s : Int), (s2 : Int), I0, 0, (x : Int)) t ∈ (prM a b SA SB).arcs
  mv : ∀ t, Wk.Move inn out true (eA SB ((s : Int), (s2 : Int), I0, 0, (x : Int)) t) i1 j1 r1 j1
end Go.Proofs.YtfjocafepigijaaDoor.Tc
/- The document's ThroughCost: a round over the states of the first machine. Conditions: numbers are small. -/
namespace Go.Proofs.YtfjocafepigijaaDoor.Tc
open Go.RowKit Mv Wk Bw Th CR

noncomputable def bodyS : Code := ((Tryd.f16.body.map loops).getD []).getD 8 .skip
structure EnvS (SA SB N : Nat) (a b : M) (inn out : List Int) (i1 j1 w1 t t2 y : Nat) (O0 : Int) : Prop where
  hA : SA ≤ 40
  hB : SB ≤ 40
  hn : inn.length ≤ 8
  hk : out.length ≤ 8
  hi : i1 < inn.length + 1
  hj : j1 < out.length + 1
  hw : w1 < out.length + 1
  ht : t < SB
  ht2 : t2 < SB
  hy : y ≤ 1000000
  hN : N = SA * SB * (inn.length + 1) * (out.length + 1)
  mem : ∀ s, s < SA → eB SB ((t : Int), (t2 : Int), 0, O0, (y : Int)) s ∈ (prM a b SA SB).arcs
  mv : ∀ s, Wk.Move inn out true (eB SB ((t : Int), (t2 : Int), 0, O0, (y : Int)) s) i1 j1 i1 w1
end Go.Proofs.YtfjocafepigijaaDoor.Tc
/- The document's ThroughCost: a round over the arcs of the second machine, at an arc of the first one that writes. Conditions: numbers are small. -/
namespace Go.Proofs.YtfjocafepigijaaDoor.Tc
open Go.RowKit Mv Wk Bw Th CR

noncomputable def bodyY : Code := ((Tryd.f16.body.map loops).getD []).getD 6 .skip
structure EnvY (SA SB N : Nat) (a b : M) (inn out : List Int) (ao : Option Addr) (w : World) (i1 j1 r1 s s2 x : Nat) (I0 O0 : Int) : Prop where
  hA : SA ≤ 40
  hB : SB ≤ 40
  hn : inn.length ≤ 8
  hk : out.length ≤ 8
  hl : b.arcs.length ≤ 120
  hi : i1 < inn.length + 1
  hj : j1 < out.length + 1
  hr : r1 < inn.length + 1
  hs : s < SA
  hs2 : s2 < SA
  hx : x ≤ 1000000
  hN : N = SA * SB * (inn.length + 1) * (out.length + 1)
  arc : ∀ y (h : y < b.arcs.length), ∃ t t2 yw : Nat, ∃ I O : Int, b.arcs[y] = ((t : Int), (t2 : Int), I, O, (yw : Int)) ∧ t < SB ∧ t2 < SB ∧ yw ≤ 1000000 ∧ 0 ≤ O
  mem : ∀ g ∈ b.arcs, g.2.2.1 = O0 → eX SB ((s : Int), (s2 : Int), I0, O0, (x : Int)) g ∈ (prM a b SA SB).arcs
  mv : (I0 = 0 ∧ r1 = i1) ∨ (0 < I0 ∧ inn[i1]? = some I0 ∧ r1 = i1 + 1)
  lo : out.length = 0 ∨ ∃ bo oo, ao = some ⟨bo, oo, none⟩ ∧ bo < w.heap.size ∧ ∀ j u, (out.map (Value.int .i64))[j]? = some u → w.cell? ⟨bo, oo + j, none⟩ = some u
end Go.Proofs.YtfjocafepigijaaDoor.Tc
/- Plain facts for ThroughCost's rounds: which arcs of pairs have been looked at. No program text. -/
namespace Go.Proofs.YtfjocafepigijaaDoor.Tc
open Go.RowKit Mv Wk Bw Th CR

/-- what has been looked at: D0, and at this place the arcs of the first n -/
def DX (D0 : A5 → Nat → Nat → Prop) (l : List A5) (g : A5 → List A5) (i1 j1 : Nat) (e : A5) (i j n : Nat) : Prop := D0 e i j ∨ (i = i1 ∧ j = j1 ∧ e ∈ (l.take n).flatMap g)
/-- what has been looked at, a row of arcs more -/
def DM (D0 : A5 → Nat → Nat → Prop) (f : Nat → A5) (i1 j1 : Nat) (e : A5) (i j n : Nat) : Prop := D0 e i j ∨ (i = i1 ∧ j = j1 ∧ e ∈ (List.range n).map f)
/-- where a row of arcs lies -/
def ArcRow (w : World) (ab : Option Addr) (l : List A5) : Prop := l.length = 0 ∨ ∃ bb off, ab = some ⟨bb, off, none⟩ ∧ bb < w.heap.size ∧ ∀ j u, (acs l)[j]? = some u → w.cell? ⟨bb, off + j, none⟩ = some u
def NumRow (w : World) (ao : Option Addr) (l : List Int) : Prop := l.length = 0 ∨ ∃ bo oo, ao = some ⟨bo, oo, none⟩ ∧ bo < w.heap.size ∧ ∀ j u, (l.map (Value.int .i64))[j]? = some u → w.cell? ⟨bo, oo + j, none⟩ = some u
/-- a round's facts that the walk need not see -/
structure EnvX (SA SB N : Nat) (a b : M) (inn out : List Int) (ai ao : Option Addr) (w : World) (i1 j1 : Nat) : Prop where
  hA : SA ≤ 40
  hB : SB ≤ 40
  hn : inn.length ≤ 8
  hk : out.length ≤ 8
  hlA : a.arcs.length ≤ 120
  hlB : b.arcs.length ≤ 120
  hi : i1 < inn.length + 1
  hj : j1 < out.length + 1
  hN : N = SA * SB * (inn.length + 1) * (out.length + 1)
  arcA : ∀ y (h : y < a.arcs.length), ∃ t t2 yw : Nat, ∃ I O : Int, a.arcs[y] = ((t : Int), (t2 : Int), I, O, (yw : Int)) ∧ t < SA ∧ t2 < SA ∧ yw ≤ 1000000 ∧ 0 ≤ I ∧ 0 ≤ O
  arcB : ∀ y (h : y < b.arcs.length), ∃ t t2 yw : Nat, ∃ I O : Int, b.arcs[y] = ((t : Int), (t2 : Int), I, O, (yw : Int)) ∧ t < SB ∧ t2 < SB ∧ yw ≤ 1000000 ∧ 0 ≤ I ∧ 0 ≤ O
  li : NumRow w ai inn
  lo : NumRow w ao out
end Go.Proofs.YtfjocafepigijaaDoor.Tc
/- The document's ThroughCost: a round over the arcs of the first machine. Conditions: numbers are small. -/
namespace Go.Proofs.YtfjocafepigijaaDoor.Tc
open Go.RowKit Mv Wk Bw Th CR

noncomputable def bodyX : Code := ((Tryd.f16.body.map loops).getD []).getD 4 .skip
end Go.Proofs.YtfjocafepigijaaDoor.Tc
/- The document's ThroughCost: a round over the arcs of the second machine that read nothing. Conditions: numbers are small. -/
namespace Go.Proofs.YtfjocafepigijaaDoor.Tc
open Go.RowKit Mv Wk Bw Th CR

noncomputable def bodyB : Code := ((Tryd.f16.body.map loops).getD []).getD 7 .skip
end Go.Proofs.YtfjocafepigijaaDoor.Tc
/- The document's ThroughCost: the rounds over the places of both texts. Conditions: numbers are small. -/
namespace Go.Proofs.YtfjocafepigijaaDoor.Tc
open Go.RowKit Mv Wk Bw Th CR

noncomputable def bodyJJ : Code := ((Tryd.f16.body.map loops).getD []).getD 3 .skip
noncomputable def bodyII : Code := ((Tryd.f16.body.map loops).getD []).getD 2 .skip
def DJ (D0 : A5 → Nat → Nat → Prop) (l : List A5) (i1 : Nat) (e : A5) (i j n : Nat) : Prop := D0 e i j ∨ (i = i1 ∧ j < n ∧ e ∈ l)
def DI (l : List A5) (k : Nat) (e : A5) (i j n : Nat) : Prop := i < n ∧ j < k ∧ e ∈ l
/-- what all rounds know -/
structure EnvI (SA SB N : Nat) (a b : M) (inn out : List Int) (ai ao : Option Addr) (w : World) : Prop where
  hA : SA ≤ 40
  hB : SB ≤ 40
  hn : inn.length ≤ 8
  hk : out.length ≤ 8
  hlA : a.arcs.length ≤ 120
  hlB : b.arcs.length ≤ 120
  hN : N = SA * SB * (inn.length + 1) * (out.length + 1)
  arcA : ∀ y (h : y < a.arcs.length), ∃ t t2 yw : Nat, ∃ I O : Int, a.arcs[y] = ((t : Int), (t2 : Int), I, O, (yw : Int)) ∧ t < SA ∧ t2 < SA ∧ yw ≤ 1000000 ∧ 0 ≤ I ∧ 0 ≤ O
  arcB : ∀ y (h : y < b.arcs.length), ∃ t t2 yw : Nat, ∃ I O : Int, b.arcs[y] = ((t : Int), (t2 : Int), I, O, (yw : Int)) ∧ t < SB ∧ t2 < SB ∧ yw ≤ 1000000 ∧ 0 ≤ I ∧ 0 ≤ O
  li : NumRow w ai inn
  lo : NumRow w ao out
end Go.Proofs.YtfjocafepigijaaDoor.Tc
/- The document's ThroughCost: it is the least cost of the machine of pairs. Conditions: the machines are right and small, the texts short. -/
namespace Go.Proofs.YtfjocafepigijaaDoor.Tc
open Go.RowKit Mv Wk Bw Th CR

/-- how all lies before the two inner functions are made -/
structure Ts (w wr : World) (ra rb : Array Value) (n k N : Nat) (B : List Nat) : Prop where
  bel : Below w.heap.size w wr
  x4 : wr.heap[w.heap.size]? = some (.cells ra 25 (0, 0))
  x5 : wr.heap[w.heap.size + 1]? = some (.cells rb 25 (0, 0))
  x9 : wr.heap[w.heap.size + 2]? = some (.cells #[.int .i64 (n : Int)] 3 (0, 0))
  x10 : wr.heap[w.heap.size + 3]? = some (.cells #[.int .i64 (k : Int)] 3 (0, 0))
  tab : wr.ownsRow (w.heap.size + 4) 3 1 (.slice (some ⟨w.heap.size + 4, 0, none⟩) N N) N (nc B)
  x11 : wr.heap[w.heap.size + 5]? = some (.cells #[.slice (some ⟨w.heap.size + 4, 0, none⟩) N N] 26 (0, 0))
  size : wr.heap.size = w.heap.size + 6
  len : B.length = N
def FinRow (w : World) (ab : Option Addr) (l : List (Int × Int)) : Prop := l.length = 0 ∨ ∃ bb off, ab = some ⟨bb, off, none⟩ ∧ bb < w.heap.size ∧ ∀ j u, (fcs l)[j]? = some u → w.cell? ⟨bb, off + j, none⟩ = some u
/-- the least end among those that were looked at -/
structure LstM (pre all : List (Int × Int)) (inn out : List Int) (B : List Nat) (v : Nat) : Prop where
  top : v ≤ dear
  low : ∀ f ∈ pre, ∀ s : Nat, f.1 = (s : Int) → val B (idx (inn.length + 1) (out.length + 1) s inn.length out.length) < dear → (v : Int) ≤ val B (idx (inn.length + 1) (out.length + 1) s inn.length out.length) + f.2
  real : v < dear → ∃ f ∈ all, ∃ s : Nat, f.1 = (s : Int) ∧ val B (idx (inn.length + 1) (out.length + 1) s inn.length out.length) < dear ∧ (v : Int) = val B (idx (inn.length + 1) (out.length + 1) s inn.length out.length) + f.2
/-- what the ends know -/
structure EnvF (SA SB : Nat) (a b : M) : Prop where
  hlA : a.fins.length ≤ 40
  hlB : b.fins.length ≤ 40
  finA : ∀ y (h : y < a.fins.length), ∃ s x : Nat, a.fins[y] = ((s : Int), (x : Int)) ∧ s < SA ∧ x ≤ 1000000
  finB : ∀ y (h : y < b.fins.length), ∃ s x : Nat, b.fins[y] = ((s : Int), (x : Int)) ∧ s < SB ∧ x ≤ 1000000
end Go.Proofs.YtfjocafepigijaaDoor.Tc
