/- Outs (9) walked: what it refuses, and all that is written. Conditions: the machine is small. -/
import Derived.Test.YtfjocafepigijaaDoorUx
import Derived.Test.YtfjocafepigijaaDoorLu
namespace Go.Proofs.YtfjocafepigijaaDoor.Ot
open Go.RowKit Mv Sy Po Ps Cm Pa Am Wd St Ra Set

set_option maxHeartbeats 4000000 in
set_option maxRecDepth 100000 in
theorem outs_bad (m : M) (v vi : Value) (x : Int) (long : Int) (w : World) (hm : IsM w v m) (hx : checkP m x) (hne : x ≠ 0) :
    Calls Tryd.prog 9 #[v, vi, .int .i64 long] w fun e w' => e = .returned (.tuple #[.slice none 0 0, .int .i64 x]) ∧ Below w.heap.size w w' := by
  obtain ⟨va, vf, rfl, hra, hrf⟩ := id hm
  obtain ⟨_, aa, ca, rfl, _⟩ := hra
  obtain ⟨_, af, cf, rfl, _⟩ := hrf
  have hb := below_al w (.cells #[.int .i64 m.st, .slice aa m.arcs.length ca, .slice af m.fins.length cf] 25)
  have hrow := heap_alloc_new w (.cells #[.int .i64 m.st, .slice aa m.arcs.length ca, .slice af m.fins.length cf] 25)
  have K30 : Calls Tryd.prog 30 #[.agg #[.int .i64 m.st, .slice aa m.arcs.length ca, .slice af m.fins.length cf]] (w.alloc (.cells #[.int .i64 m.st, .slice aa m.arcs.length ca, .slice af m.fins.length cf] 25)) fun e w' => e = .returned (.int .i64 x) ∧ Below w.heap.size w w' := (CkP.check_any m _ _ (hm.below hb)).mono (fun e w' ⟨⟨y, h1, h2⟩, h3⟩ => ⟨by rw [h1, checkP_one h2 hx], hb.trans (h3.mono hb.size)⟩)
  have b0 := cell_of_row _ _ 0 _ _ _ hrow
  have b1 := cell_of_row _ _ 1 _ _ _ hrow
  have b2 := cell_of_row _ _ 2 _ _ _ hrow
  have hxe : (x != 0) = true := by simpa using hne
  have hxe2 : ¬ x = 0 := hne
  clear hm hx hb hrow hne
  go_enter Tryd.func9, Tryd.ntmps9
  go_upto_region 1 with fail
  generalize w.alloc (.cells #[.int .i64 m.st, .slice aa m.arcs.length ca, .slice af m.fins.length cf] 25) = V at *
  go_wp2_with (go_at_call 30; (with_reducible refine K30.mono ?_); clear K30; rintro e w1 ⟨rfl, hb1⟩; have HB1 : Hid (Below w.heap.size w w1) := hb1; clear hb1)
  go_ret2
  exact ⟨rfl, HB1.out⟩
set_option maxHeartbeats 4000000 in
set_option maxRecDepth 100000 in
theorem outs_long (m : M) (v : Value) (inn : List Int) (ai : Option Addr) (ci : Nat) (long : Int) (w : World) (hm : IsM w v m) (hx : checkP m 0) (hl : 60 < inn.length) (hb60 : inn.length ≤ 140737488355328) :
    Calls Tryd.prog 9 #[v, .slice ai inn.length ci, .int .i64 long] w fun e w' => e = .returned (.tuple #[.slice none 0 0, .int .i64 2]) ∧ Below w.heap.size w w' := by
  obtain ⟨va, vf, rfl, hra, hrf⟩ := id hm
  obtain ⟨_, aa, ca, rfl, _⟩ := hra
  obtain ⟨_, af, cf, rfl, _⟩ := hrf
  have hb := below_al w (.cells #[.int .i64 m.st, .slice aa m.arcs.length ca, .slice af m.fins.length cf] 25)
  have hrow := heap_alloc_new w (.cells #[.int .i64 m.st, .slice aa m.arcs.length ca, .slice af m.fins.length cf] 25)
  have K30 : Calls Tryd.prog 30 #[.agg #[.int .i64 m.st, .slice aa m.arcs.length ca, .slice af m.fins.length cf]] (w.alloc (.cells #[.int .i64 m.st, .slice aa m.arcs.length ca, .slice af m.fins.length cf] 25)) fun e w' => e = .returned (.int .i64 0) ∧ Below w.heap.size w w' := (CkP.check_any m _ _ (hm.below hb)).mono (fun e w' ⟨⟨y, h1, h2⟩, h3⟩ => ⟨by rw [h1, checkP_one h2 hx], hb.trans (h3.mono hb.size)⟩)
  have b0 := cell_of_row _ _ 0 _ _ _ hrow
  have b1 := cell_of_row _ _ 1 _ _ _ hrow
  have b2 := cell_of_row _ _ 2 _ _ _ hrow
  have hl' : (60 : Int) < (inn.length : Int) := by omega
  clear hm hx hb hrow
  go_enter Tryd.func9, Tryd.ntmps9
  go_upto_region 1 with fail
  generalize w.alloc (.cells #[.int .i64 m.st, .slice aa m.arcs.length ca, .slice af m.fins.length cf] 25) = V at *
  go_wp2_with (go_at_call 30; (with_reducible refine K30.mono ?_); clear K30; rintro e w1 ⟨rfl, hb1⟩; have HB1 : Hid (Below w.heap.size w w1) := hb1; clear hb1)
  go_ret2
  exact ⟨rfl, HB1.out⟩
set_option maxHeartbeats 4000000 in
set_option maxRecDepth 100000 in
theorem outs_far (m : M) (v : Value) (inn : List Int) (ai : Option Addr) (ci : Nat) (long : Int) (w : World) (hm : IsM w v m) (hx : checkP m 0) (hl : ¬ 60 < inn.length) (hw : CkP.wb long 0 8 = false) :
    Calls Tryd.prog 9 #[v, .slice ai inn.length ci, .int .i64 long] w fun e w' => e = .returned (.tuple #[.slice none 0 0, .int .i64 2]) ∧ Below w.heap.size w w' := by
  obtain ⟨va, vf, rfl, hra, hrf⟩ := id hm
  obtain ⟨_, aa, ca, rfl, _⟩ := hra
  obtain ⟨_, af, cf, rfl, _⟩ := hrf
  have hb := below_al w (.cells #[.int .i64 m.st, .slice aa m.arcs.length ca, .slice af m.fins.length cf] 25)
  have hrow := heap_alloc_new w (.cells #[.int .i64 m.st, .slice aa m.arcs.length ca, .slice af m.fins.length cf] 25)
  have K30 : Calls Tryd.prog 30 #[.agg #[.int .i64 m.st, .slice aa m.arcs.length ca, .slice af m.fins.length cf]] (w.alloc (.cells #[.int .i64 m.st, .slice aa m.arcs.length ca, .slice af m.fins.length cf] 25)) fun e w' => e = .returned (.int .i64 0) ∧ Below w.heap.size w w' := (CkP.check_any m _ _ (hm.below hb)).mono (fun e w' ⟨⟨y, h1, h2⟩, h3⟩ => ⟨by rw [h1, checkP_one h2 hx], hb.trans (h3.mono hb.size)⟩)
  have K31 : ∀ W, Calls Tryd.prog 31 #[.int .i64 long, .int .i64 0, .int .i64 8] W fun e w' => e = .returned (.bool false) ∧ w' = W := fun W => (CkP.within_any long 0 8 W).mono (fun e w' ⟨h1, h2⟩ => ⟨by rw [h1, hw], h2⟩)
  have b0 := cell_of_row _ _ 0 _ _ _ hrow
  have b1 := cell_of_row _ _ 1 _ _ _ hrow
  have b2 := cell_of_row _ _ 2 _ _ _ hrow
  have hl' : ¬ (60 : Int) < (inn.length : Int) := by omega
  clear hm hx hb hrow
  go_enter Tryd.func9, Tryd.ntmps9
  go_upto_region 1 with fail
  generalize w.alloc (.cells #[.int .i64 m.st, .slice aa m.arcs.length ca, .slice af m.fins.length cf] 25) = V at *
  go_wp2_with (first | (go_at_call 30; (with_reducible refine K30.mono ?_); clear K30; rintro e w1 ⟨rfl, hb1⟩; have HB1 : Hid (Below w.heap.size w w1) := hb1; clear hb1) | (go_at_call 31; (with_reducible refine (K31 _).mono ?_); rintro e w2 ⟨rfl, rfl⟩))
  go_ret2
  exact ⟨rfl, HB1.out⟩
end Go.Proofs.YtfjocafepigijaaDoor.Ot
