/- The document's ThroughCost: it is the least cost of the machine of pairs. Conditions: the machines are right and small, the texts short. -/
import Derived.Test.YtfjocafepigijaaDoorTmM
import Derived.Deep.RegionHeld
import Derived.Deep.CutRange
import Derived.Deep.QuietTactic
import Derived.Test.YtfjocafepigijaaDoorLtM
import Derived.Test.YtfjocafepigijaaDoorMlM
import Derived.Test.YtfjocafepigijaaDoorUxM
namespace Go.Proofs.YtfjocafepigijaaDoor.Tc
open Go.RowKit Mv Wk Bw Th CR

/-- how all lies before the two inner functions are made -/
structure Ts (w wr : World) (ra rb : Array Value) (n k N : Nat) (B : List Nat) : Prop where
  bel : Below w.heap.size w wr
  x4 : wr.heap[w.heap.size]? = some (.cells ra 25 (0, 0))
  x5 : wr.heap[w.heap.size + 1]? = some (.cells rb 25 (0, 0))
  x9 : wr.heap[w.heap.size + 2]? = some (.cells #[.int .i64 (n : Int)] 3 (0, 0))
  x10 : wr.heap[w.heap.size + 3]? = some (.cells #[.int .i64 (k : Int)] 3 (0, 0))
  tab : wr.ownsRow (w.heap.size + 4) 3 1 (.slice (some ⟨w.heap.size + 4, 0, none⟩) N N) N (nc B)
  x11 : wr.heap[w.heap.size + 5]? = some (.cells #[.slice (some ⟨w.heap.size + 4, 0, none⟩) N N] 26 (0, 0))
  size : wr.heap.size = w.heap.size + 6
  len : B.length = N
def FinRow (w : World) (ab : Option Addr) (l : List (Int × Int)) : Prop := l.length = 0 ∨ ∃ bb off, ab = some ⟨bb, off, none⟩ ∧ bb < w.heap.size ∧ ∀ j u, (fcs l)[j]? = some u → w.cell? ⟨bb, off + j, none⟩ = some u
/-- the least end among those that were looked at -/
structure LstM (pre all : List (Int × Int)) (inn out : List Int) (B : List Nat) (v : Nat) : Prop where
  top : v ≤ dear
  low : ∀ f ∈ pre, ∀ s : Nat, f.1 = (s : Int) → val B (idx (inn.length + 1) (out.length + 1) s inn.length out.length) < dear → (v : Int) ≤ val B (idx (inn.length + 1) (out.length + 1) s inn.length out.length) + f.2
  real : v < dear → ∃ f ∈ all, ∃ s : Nat, f.1 = (s : Int) ∧ val B (idx (inn.length + 1) (out.length + 1) s inn.length out.length) < dear ∧ (v : Int) = val B (idx (inn.length + 1) (out.length + 1) s inn.length out.length) + f.2
/-- what the ends know -/
structure EnvF (SA SB : Nat) (a b : M) : Prop where
  hlA : a.fins.length ≤ 40
  hlB : b.fins.length ≤ 40
  finA : ∀ y (h : y < a.fins.length), ∃ s x : Nat, a.fins[y] = ((s : Int), (x : Int)) ∧ s < SA ∧ x ≤ 1000000
  finB : ∀ y (h : y < b.fins.length), ∃ s x : Nat, b.fins[y] = ((s : Int), (x : Int)) ∧ s < SB ∧ x ≤ 1000000
end Go.Proofs.YtfjocafepigijaaDoor.Tc
/- What the law MachineThrough knows of Through, of the cost of a walk through both machines, and of right. Conditions: as each says. -/
namespace Go.Proofs.YtfjocafepigijaaDoor.Cu
open Go.RowKit Mv Wd Mp Ra Am Tc Mc Wk Sy Rz Th
open CR (nc)

/-- Through makes what right calls right -/
def Mk (a b : M) (va vb vi vo : Value) (w : World) (z want : Int) : Prop := ∀ W, Below w.heap.size w W → Calls Tryd.prog 17 #[va, vb] W fun e W' => ∃ (n : Int) (a1 : Option Addr) (n1 k1 : Nat) (a2 : Option Addr) (n2 k2 : Nat) (g : Int), e = .returned (.tuple #[.agg #[.int .i64 n, .slice a1 n1 k1, .slice a2 n2 k2], .int .i64 g]) ∧ (∀ W2, Below W'.heap.size W' W2 → ∀ sm : Bool, (sm = true → lightP a = true ∧ lightP b = true) → Calls Tryd.prog 18 #[.agg #[.int .i64 n, .slice a1 n1 k1, .slice a2 n2 k2], .int .i64 g, .int .i64 z, .bool sm, vi, vo, .int .i64 want] W2 fun r w' => r = .returned (.bool true) ∧ Below W2.heap.size W2 w') ∧ Below W.heap.size W W'
end Go.Proofs.YtfjocafepigijaaDoor.Cu
/- Outs (9) walked: what it refuses, and all that is written. Conditions: the machine is small. -/
namespace Go.Proofs.YtfjocafepigijaaDoor.Ot
open Go.RowKit Mv Sy Po Ps Cm Pa Am Wd St Ra Set

set_option maxHeartbeats 4000000 in
set_option maxRecDepth 100000 in
theorem outs_bad (m : M) (v vi : Value) (x : Int) (long : Int) (w : World) (hm : IsM w v m) (hx : checkP m x) (hne : x ≠ 0) :
    Calls Tryd.prog 9 #[v, vi, .int .i64 long] w fun e w' => e = .returned (.tuple #[.slice none 0 0, .int .i64 x]) ∧ Below w.heap.size w w' := by
  obtain ⟨va, vf, rfl, hra, hrf⟩ := id hm
  obtain ⟨_, aa, ca, rfl, _⟩ := hra
  obtain ⟨_, af, cf, rfl, _⟩ := hrf
  have hb := below_al w (.cells #[.int .i64 m.st, .slice aa m.arcs.length ca, .slice af m.fins.length cf] 25)
  have hrow := heap_alloc_new w (.cells #[.int .i64 m.st, .slice aa m.arcs.length ca, .slice af m.fins.length cf] 25)
  have K30 : Calls Tryd.prog 30 #[.agg #[.int .i64 m.st, .slice aa m.arcs.length ca, .slice af m.fins.length cf]] (w.alloc (.cells #[.int .i64 m.st, .slice aa m.arcs.length ca, .slice af m.fins.length cf] 25)) fun e w' => e = .returned (.int .i64 x) ∧ Below w.heap.size w w' := (CkP.check_any m _ _ (hm.below hb)).mono (fun e w' ⟨⟨y, h1, h2⟩, h3⟩ => ⟨by rw [h1, checkP_one h2 hx], hb.trans (h3.mono hb.size)⟩)
  have b0 := cell_of_row _ _ 0 _ _ _ hrow
  have b1 := cell_of_row _ _ 1 _ _ _ hrow
  have b2 := cell_of_row _ _ 2 _ _ _ hrow
  have hxe : (x != 0) = true := by simpa using hne
  have hxe2 : ¬ x = 0 := hne
  clear hm hx hb hrow hne
  go_enter Tryd.func9, Tryd.ntmps9
  go_upto_region 1 with fail
  generalize w.alloc (.cells #[.int .i64 m.st, .slice aa m.arcs.length ca, .slice af m.fins.length cf] 25) = V at *
  go_wp2_with (go_at_call 30; (with_reducible refine K30.mono ?_); clear K30; rintro e w1 ⟨rfl, hb1⟩; have HB1 : Hid (Below w.heap.size w w1) := hb1; clear hb1)
  go_ret2
  exact ⟨rfl, HB1.out⟩
set_option maxHeartbeats 4000000 in
set_option maxRecDepth 100000 in
theorem outs_long (m : M) (v : Value) (inn : List Int) (ai : Option Addr) (ci : Nat) (long : Int) (w : World) (hm : IsM w v m) (hx : checkP m 0) (hl : 60 < inn.length) (hb60 : inn.length ≤ 140737488355328) :
    Calls Tryd.prog 9 #[v, .slice ai inn.length ci, .int .i64 long] w fun e w' => e = .returned (.tuple #[.slice none 0 0, .int .i64 2]) ∧ Below w.heap.size w w' := by
  obtain ⟨va, vf, rfl, hra, hrf⟩ := id hm
  obtain ⟨_, aa, ca, rfl, _⟩ := hra
  obtain ⟨_, af, cf, rfl, _⟩ := hrf
  have hb := below_al w (.cells #[.int .i64 m.st, .slice aa m.arcs.length ca, .slice af m.fins.length cf] 25)
  have hrow := heap_alloc_new w (.cells #[.int .i64 m.st, .slice aa m.arcs.length ca, .slice af m.fins.length cf] 25)
  have K30 : Calls Tryd.prog 30 #[.agg #[.int .i64 m.st, .slice aa m.arcs.length ca, .slice af m.fins.length cf]] (w.alloc (.cells #[.int .i64 m.st, .slice aa m.arcs.length ca, .slice af m.fins.length cf] 25)) fun e w' => e = .returned (.int .i64 0) ∧ Below w.heap.size w w' := (CkP.check_any m _ _ (hm.below hb)).mono (fun e w' ⟨⟨y, h1, h2⟩, h3⟩ => ⟨by rw [h1, checkP_one h2 hx], hb.trans (h3.mono hb.size)⟩)
  have b0 := cell_of_row _ _ 0 _ _ _ hrow
  have b1 := cell_of_row _ _ 1 _ _ _ hrow
  have b2 := cell_of_row _ _ 2 _ _ _ hrow
  have hl' : (60 : Int) < (inn.length : Int) := by omega
  clear hm hx hb hrow
  go_enter Tryd.func9, Tryd.ntmps9
  go_upto_region 1 with fail
  generalize w.alloc (.cells #[.int .i64 m.st, .slice aa m.arcs.length ca, .slice af m.fins.length cf] 25) = V at *
  go_wp2_with (go_at_call 30; (with_reducible refine K30.mono ?_); clear K30; rintro e w1 ⟨rfl, hb1⟩; have HB1 : Hid (Below w.heap.size w w1) := hb1; clear hb1)
  go_ret2
  exact ⟨rfl, HB1.out⟩
set_option maxHeartbeats 4000000 in
set_option maxRecDepth 100000 in
theorem outs_far (m : M) (v : Value) (inn : List Int) (ai : Option Addr) (ci : Nat) (long : Int) (w : World) (hm : IsM w v m) (hx : checkP m 0) (hl : ¬ 60 < inn.length) (hw : CkP.wb long 0 8 = false) :
    Calls Tryd.prog 9 #[v, .slice ai inn.length ci, .int .i64 long] w fun e w' => e = .returned (.tuple #[.slice none 0 0, .int .i64 2]) ∧ Below w.heap.size w w' := by
  obtain ⟨va, vf, rfl, hra, hrf⟩ := id hm
  obtain ⟨_, aa, ca, rfl, _⟩ := hra
  obtain ⟨_, af, cf, rfl, _⟩ := hrf
  have hb := below_al w (.cells #[.int .i64 m.st, .slice aa m.arcs.length ca, .slice af m.fins.length cf] 25)
  have hrow := heap_alloc_new w (.cells #[.int .i64 m.st, .slice aa m.arcs.length ca, .slice af m.fins.length cf] 25)
  have K30 : Calls Tryd.prog 30 #[.agg #[.int .i64 m.st, .slice aa m.arcs.length ca, .slice af m.fins.length cf]] (w.alloc (.cells #[.int .i64 m.st, .slice aa m.arcs.length ca, .slice af m.fins.length cf] 25)) fun e w' => e = .returned (.int .i64 0) ∧ Below w.heap.size w w' := (CkP.check_any m _ _ (hm.below hb)).mono (fun e w' ⟨⟨y, h1, h2⟩, h3⟩ => ⟨by rw [h1, checkP_one h2 hx], hb.trans (h3.mono hb.size)⟩)
  have K31 : ∀ W, Calls Tryd.prog 31 #[.int .i64 long, .int .i64 0, .int .i64 8] W fun e w' => e = .returned (.bool false) ∧ w' = W := fun W => (CkP.within_any long 0 8 W).mono (fun e w' ⟨h1, h2⟩ => ⟨by rw [h1, hw], h2⟩)
  have b0 := cell_of_row _ _ 0 _ _ _ hrow
  have b1 := cell_of_row _ _ 1 _ _ _ hrow
  have b2 := cell_of_row _ _ 2 _ _ _ hrow
  have hl' : ¬ (60 : Int) < (inn.length : Int) := by omega
  clear hm hx hb hrow
  go_enter Tryd.func9, Tryd.ntmps9
  go_upto_region 1 with fail
  generalize w.alloc (.cells #[.int .i64 m.st, .slice aa m.arcs.length ca, .slice af m.fins.length cf] 25) = V at *
  go_wp2_with (first | (go_at_call 30; (with_reducible refine K30.mono ?_); clear K30; rintro e w1 ⟨rfl, hb1⟩; have HB1 : Hid (Below w.heap.size w w1) := hb1; clear hb1) | (go_at_call 31; (with_reducible refine (K31 _).mono ?_); rintro e w2 ⟨rfl, rfl⟩))
  go_ret2
  exact ⟨rfl, HB1.out⟩
end Go.Proofs.YtfjocafepigijaaDoor.Ot
