/- Outs (9) walked: what it refuses, and all that is written. Conditions: the machine is small. -/
import Derived.Test.YtfjocafepigijaaDoorUxM
import Derived.Test.YtfjocafepigijaaDoorLuM
import Derived.Test.YtfjocafepigijaaDoorVeM
namespace Go.Proofs.YtfjocafepigijaaDoor.Ot
open Go.RowKit Mv Sy Po Ps Cm Pa Am Wd St Ra Set

set_option maxHeartbeats 4000000 in
set_option maxRecDepth 100000 in
theorem outs_bad (m : M) (v vi : Value) (x : Int) (long : Int) (w : World) (hm : IsM w v m) (hx : checkP m x) (hne : x ≠ 0) :
    Calls Tryd.prog 9 #[v, vi, .int .i64 long] w fun e w' => e = .returned (.tuple #[.slice none 0 0, .int .i64 x]) ∧ Below w.heap.size w w' := by
  obtain ⟨va, vf, rfl, hra, hrf⟩ := id hm
  obtain ⟨_, aa, ca, rfl, _⟩ := hra
  obtain ⟨_, af, cf, rfl, _⟩ := hrf
  have hb := below_al w (.cells #[.int .i64 m.st, .slice aa m.arcs.length ca, .slice af m.fins.length cf] 25)
  have hrow := heap_alloc_new w (.cells #[.int .i64 m.st, .slice aa m.arcs.length ca, .slice af m.fins.length cf] 25)
  have K30 : Calls Tryd.prog 30 #[.agg #[.int .i64 m.st, .slice aa m.arcs.length ca, .slice af m.fins.length cf]] (w.alloc (.cells #[.int .i64 m.st, .slice aa m.arcs.length ca, .slice af m.fins.length cf] 25)) fun e w' => e = .returned (.int .i64 x) ∧ Below w.heap.size w w' := (CkP.check_any m _ _ (hm.below hb)).mono (fun e w' ⟨⟨y, h1, h2⟩, h3⟩ => ⟨by rw [h1, checkP_one h2 hx], hb.trans (h3.mono hb.size)⟩)
  have b0 := cell_of_row _ _ 0 _ _ _ hrow
  have b1 := cell_of_row _ _ 1 _ _ _ hrow
  have b2 := cell_of_row _ _ 2 _ _ _ hrow
  have hxe : (x != 0) = true := by simpa using hne
  have hxe2 : ¬ x = 0 := hne
  clear hm hx hb hrow hne
  go_enter Tryd.func9, Tryd.ntmps9
  go_upto_region 1 with fail
  generalize w.alloc (.cells #[.int .i64 m.st, .slice aa m.arcs.length ca, .slice af m.fins.length cf] 25) = V at *
  go_wp2_with (go_at_call 30; (with_reducible refine K30.mono ?_); clear K30; rintro e w1 ⟨rfl, hb1⟩; have HB1 : Hid (Below w.heap.size w w1) := hb1; clear hb1)
  go_ret2
  exact ⟨rfl, HB1.out⟩
set_option maxHeartbeats 4000000 in
set_option maxRecDepth 100000 in
theorem outs_long (m : M) (v : Value) (inn : List Int) (ai : Option Addr) (ci : Nat) (long : Int) (w : World) (hm : IsM w v m) (hx : checkP m 0) (hl : 60 < inn.length) (hb60 : inn.length ≤ 140737488355328) :
    Calls Tryd.prog 9 #[v, .slice ai inn.length ci, .int .i64 long] w fun e w' => e = .returned (.tuple #[.slice none 0 0, .int .i64 2]) ∧ Below w.heap.size w w' := by
  obtain ⟨va, vf, rfl, hra, hrf⟩ := id hm
  obtain ⟨_, aa, ca, rfl, _⟩ := hra
  obtain ⟨_, af, cf, rfl, _⟩ := hrf
  have hb := below_al w (.cells #[.int .i64 m.st, .slice aa m.arcs.length ca, .slice af m.fins.length cf] 25)
  have hrow := heap_alloc_new w (.cells #[.int .i64 m.st, .slice aa m.arcs.length ca, .slice af m.fins.length cf] 25)
  have K30 : Calls Tryd.prog 30 #[.agg #[.int .i64 m.st, .slice aa m.arcs.length ca, .slice af m.fins.length cf]] (w.alloc (.cells #[.int .i64 m.st, .slice aa m.arcs.length ca, .slice af m.fins.length cf] 25)) fun e w' => e = .returned (.int .i64 0) ∧ Below w.heap.size w w' := (CkP.check_any m _ _ (hm.below hb)).mono (fun e w' ⟨⟨y, h1, h2⟩, h3⟩ => ⟨by rw [h1, checkP_one h2 hx], hb.trans (h3.mono hb.size)⟩)
  have b0 := cell_of_row _ _ 0 _ _ _ hrow
  have b1 := cell_of_row _ _ 1 _ _ _ hrow
  have b2 := cell_of_row _ _ 2 _ _ _ hrow
  have hl' : (60 : Int) < (inn.length : Int) := by omega
  clear hm hx hb hrow
  go_enter Tryd.func9, Tryd.ntmps9
  go_upto_region 1 with fail
  generalize w.alloc (.cells #[.int .i64 m.st, .slice aa m.arcs.length ca, .slice af m.fins.length cf] 25) = V at *
  go_wp2_with (go_at_call 30; (with_reducible refine K30.mono ?_); clear K30; rintro e w1 ⟨rfl, hb1⟩; have HB1 : Hid (Below w.heap.size w w1) := hb1; clear hb1)
  go_ret2
  exact ⟨rfl, HB1.out⟩
set_option maxHeartbeats 4000000 in
set_option maxRecDepth 100000 in
theorem outs_far (m : M) (v : Value) (inn : List Int) (ai : Option Addr) (ci : Nat) (long : Int) (w : World) (hm : IsM w v m) (hx : checkP m 0) (hl : ¬ 60 < inn.length) (hw : CkP.wb long 0 8 = false) :
    Calls Tryd.prog 9 #[v, .slice ai inn.length ci, .int .i64 long] w fun e w' => e = .returned (.tuple #[.slice none 0 0, .int .i64 2]) ∧ Below w.heap.size w w' := by
  obtain ⟨va, vf, rfl, hra, hrf⟩ := id hm
  obtain ⟨_, aa, ca, rfl, _⟩ := hra
  obtain ⟨_, af, cf, rfl, _⟩ := hrf
  have hb := below_al w (.cells #[.int .i64 m.st, .slice aa m.arcs.length ca, .slice af m.fins.length cf] 25)
  have hrow := heap_alloc_new w (.cells #[.int .i64 m.st, .slice aa m.arcs.length ca, .slice af m.fins.length cf] 25)
  have K30 : Calls Tryd.prog 30 #[.agg #[.int .i64 m.st, .slice aa m.arcs.length ca, .slice af m.fins.length cf]] (w.alloc (.cells #[.int .i64 m.st, .slice aa m.arcs.length ca, .slice af m.fins.length cf] 25)) fun e w' => e = .returned (.int .i64 0) ∧ Below w.heap.size w w' := (CkP.check_any m _ _ (hm.below hb)).mono (fun e w' ⟨⟨y, h1, h2⟩, h3⟩ => ⟨by rw [h1, checkP_one h2 hx], hb.trans (h3.mono hb.size)⟩)
  have K31 : ∀ W, Calls Tryd.prog 31 #[.int .i64 long, .int .i64 0, .int .i64 8] W fun e w' => e = .returned (.bool false) ∧ w' = W := fun W => (CkP.within_any long 0 8 W).mono (fun e w' ⟨h1, h2⟩ => ⟨by rw [h1, hw], h2⟩)
  have b0 := cell_of_row _ _ 0 _ _ _ hrow
  have b1 := cell_of_row _ _ 1 _ _ _ hrow
  have b2 := cell_of_row _ _ 2 _ _ _ hrow
  have hl' : ¬ (60 : Int) < (inn.length : Int) := by omega
  clear hm hx hb hrow
  go_enter Tryd.func9, Tryd.ntmps9
  go_upto_region 1 with fail
  generalize w.alloc (.cells #[.int .i64 m.st, .slice aa m.arcs.length ca, .slice af m.fins.length cf] 25) = V at *
  go_wp2_with (first | (go_at_call 30; (with_reducible refine K30.mono ?_); clear K30; rintro e w1 ⟨rfl, hb1⟩; have HB1 : Hid (Below w.heap.size w w1) := hb1; clear hb1) | (go_at_call 31; (with_reducible refine (K31 _).mono ?_); rintro e w2 ⟨rfl, rfl⟩))
  go_ret2
  exact ⟨rfl, HB1.out⟩
end Go.Proofs.YtfjocafepigijaaDoor.Ot
/- Outs (9) walked where nothing is refused, or a symbol is. Conditions: the machine is small and right. -/
namespace Go.Proofs.YtfjocafepigijaaDoor.Ot
open Go.RowKit Mv Sy Po Ps Cm Pa Am Wd St Ra Set

/-- a small right machine, in plain words -/
structure Sml (m : M) (S : Nat) : Prop where
  st : m.st = (S : Int)
  rgt : Rgt S m.arcs
  out : ∀ a ∈ m.arcs, a.2.2.2.1 ≤ 60
  fin : ∀ f ∈ m.fins, (∃ s : Nat, f.1 = (s : Int) ∧ s < S) ∧ 0 ≤ f.2
  few : S ≤ 40 ∧ m.arcs.length ≤ 120 ∧ m.fins.length ≤ 40
theorem sml_of {m : M} (hx : checkP m 0) (hf : fewB m = true) : ∃ S, Sml m S := by
  obtain ⟨h1, h2, h3⟩ := Rz.checkP_ok hx
  have hs : 1 ≤ m.st := by unfold sizeB at h1; exact (of_decide_eq_true h1).1
  have hfb : m.st ≤ 40 ∧ (m.arcs.length : Int) ≤ 120 ∧ (m.fins.length : Int) ≤ 40 := by unfold fewB at hf; exact of_decide_eq_true hf
  refine ⟨m.st.toNat, by omega, ⟨by omega, fun a ha => ?_⟩, fun a ha => ?_, fun f hfm => ?_, by omega, by omega, by omega⟩
  · obtain ⟨k, hk, rfl⟩ := List.getElem_of_mem ha
    have h := h2 k hk
    unfold arcB at h
    have h := of_decide_eq_true h
    refine ⟨⟨(m.arcs[k]).1.toNat, by omega, by omega⟩, ⟨(m.arcs[k]).2.1.toNat, by omega, by omega⟩, by omega, by omega, by omega⟩
  · obtain ⟨k, hk, rfl⟩ := List.getElem_of_mem ha
    have h := h2 k hk
    unfold arcB at h
    have h := of_decide_eq_true h
    omega
  · obtain ⟨k, hk, rfl⟩ := List.getElem_of_mem hfm
    have h := h3 k hk
    unfold finB at h
    have h := of_decide_eq_true h
    exact ⟨⟨(m.fins[k]).1.toNat, by omega, by omega⟩, by omega⟩
/-- what is handed back, its two parts named -/
def TeP (E : Int → Nat → Nat → Prop) (F : List Nat) (L : Nat) (w : World) (vt : Value) (er : Int) (w' : World) : Prop :=
  Below w.heap.size w w' ∧ ((er = 0 ∧ ∃ told vals, w'.ownsRow w.heap.size 26 1 vt told.length vals ∧ Tls w' vals told ∧ OutP E F L false told) ∨ (er = 7 ∧ vt = .slice none 0 0 ∧ OutP E F L true []))
theorem TeQ.parts {E : Int → Nat → Nat → Prop} {F : List Nat} {L : Nat} {w w' : World} {e : Ending} (h : TeQ E F L w e w') : ∃ a n c er, e = .returned (.tuple #[.slice a n c, .int .i64 er]) ∧ TeP E F L w (.slice a n c) er w' := by
  obtain ⟨hb, ⟨vt, told, vals, rfl, h1, h2, h3⟩ | ⟨rfl, h3⟩⟩ := h
  · obtain ⟨a, c, rfl⟩ := oslice h1
    exact ⟨a, _, c, 0, rfl, hb, .inl ⟨rfl, told, vals, h1, h2, h3⟩⟩
  · exact ⟨none, 0, 0, 7, rfl, hb, .inr ⟨rfl, rfl, h3⟩⟩
theorem TeP.back {E : Int → Nat → Nat → Prop} {F : List Nat} {L : Nat} {w w4 w' : World} {vt : Value} {er : Int} (h : TeP E F L w4 vt er w') (hb : Below w.heap.size w w4) : TeQ E F L w (.returned (.tuple #[vt, .int .i64 er])) w' := by
  obtain ⟨h0, ⟨rfl, told, vals, h1, h2, h3⟩ | ⟨rfl, rfl, h3⟩⟩ := h
  · exact ⟨hb.trans (h0.mono hb.size), .inl ⟨vt, told, vals, rfl, own_low h1 hb.size, h2, h3⟩⟩
  · exact ⟨hb.trans (h0.mono hb.size), .inr ⟨rfl, h3⟩⟩
set_option maxHeartbeats 4000000 in
set_option maxRecDepth 100000 in
theorem outs_sym (m : M) (v : Value) (inn : List Int) (ai : Option Addr) (ci : Nat) (long : Int) (w : World) (hm : IsM w v m) (hx : checkP m 0) (hl : ¬ 60 < inn.length) (hw : CkP.wb long 0 8 = true) (hi : IsI w (.slice ai inn.length ci) inn) (hs : allS inn = false) :
    Calls Tryd.prog 9 #[v, .slice ai inn.length ci, .int .i64 long] w fun e w' => e = .returned (.tuple #[.slice none 0 0, .int .i64 3]) ∧ Below w.heap.size w w' := by
  obtain ⟨va, vf, rfl, hra, hrf⟩ := id hm
  obtain ⟨_, aa, ca, rfl, _⟩ := hra
  obtain ⟨_, af, cf, rfl, _⟩ := hrf
  have hb := below_al w (.cells #[.int .i64 m.st, .slice aa m.arcs.length ca, .slice af m.fins.length cf] 25)
  have hrow := heap_alloc_new w (.cells #[.int .i64 m.st, .slice aa m.arcs.length ca, .slice af m.fins.length cf] 25)
  have K30 : Calls Tryd.prog 30 #[.agg #[.int .i64 m.st, .slice aa m.arcs.length ca, .slice af m.fins.length cf]] (w.alloc (.cells #[.int .i64 m.st, .slice aa m.arcs.length ca, .slice af m.fins.length cf] 25)) fun e w' => e = .returned (.int .i64 0) ∧ Below w.heap.size w w' := (CkP.check_any m _ _ (hm.below hb)).mono (fun e w' ⟨⟨y, h1, h2⟩, h3⟩ => ⟨by rw [h1, checkP_one h2 hx], hb.trans (h3.mono hb.size)⟩)
  have K31 : ∀ W, Calls Tryd.prog 31 #[.int .i64 long, .int .i64 0, .int .i64 8] W fun e w' => e = .returned (.bool true) ∧ w' = W := fun W => (CkP.within_any long 0 8 W).mono (fun e w' ⟨h1, h2⟩ => ⟨by rw [h1, hw], h2⟩)
  have K32 : ∀ W, Below w.heap.size w W → Calls Tryd.prog 32 #[.slice ai inn.length ci] W fun e w' => e = .returned (.bool false) ∧ Below w.heap.size w w' := fun W hbw => (are_any inn _ W (hi.below hbw) (by omega)).mono (fun e w' ⟨h1, h2⟩ => ⟨by rw [h1, hs], hbw.trans (h2.mono hbw.size)⟩)
  have b0 := cell_of_row _ _ 0 _ _ _ hrow
  have b1 := cell_of_row _ _ 1 _ _ _ hrow
  have b2 := cell_of_row _ _ 2 _ _ _ hrow
  have hl' : ¬ (60 : Int) < (inn.length : Int) := by omega
  clear hm hx hb hrow hi hs hw
  go_enter Tryd.func9, Tryd.ntmps9
  go_upto_region 1 with fail
  generalize w.alloc (.cells #[.int .i64 m.st, .slice aa m.arcs.length ca, .slice af m.fins.length cf] 25) = V at *
  go_wp2_with (first | (go_at_call 30; (with_reducible refine K30.mono ?_); clear K30; rintro e w1 ⟨rfl, hb1⟩; have HB1 : Hid (Below w.heap.size w w1) := hb1; clear hb1) | (go_at_call 31; (with_reducible refine (K31 _).mono ?_); rintro e w2 ⟨rfl, rfl⟩) | (go_at_call 32; (with_reducible refine (K32 _ HB1.out).mono ?_); clear K32; rintro e w3 ⟨rfl, hb3⟩; have HB3 : Hid (Below w.heap.size w w3) := hb3; clear hb3))
  go_ret2
  exact ⟨rfl, HB3.out⟩
set_option maxHeartbeats 4000000 in
set_option maxRecDepth 100000 in
theorem outs_ok (m : M) (v : Value) (inn : List Int) (ai : Option Addr) (ci L S : Nat) (w : World) (hm : IsM w v m) (hx : checkP m 0) (hl : ¬ 60 < inn.length) (hL : L ≤ 8) (hi : IsI w (.slice ai inn.length ci) inn) (hs : allS inn = true) (hS : Sml m S) (hTab : TabAt 0 Lib.deBruijn64tab w) (h00 : 0 < w.heap.size) :
    Calls Tryd.prog 9 #[v, .slice ai inn.length ci, .int .i64 (L : Int)] w (TeQ (Eg S inn m.arcs) (fn S inn m.fins) L w) := by
  obtain ⟨va, vf, rfl, hra, hrf⟩ := id hm
  have HRA : Hid (Mv.Row w va 5 m.arcs.length (acs m.arcs)) := hra
  have HRF : Hid (Mv.Row w vf 2 m.fins.length (fcs m.fins)) := hrf
  obtain ⟨z1, aa, ca, rfl, z2⟩ := hra
  obtain ⟨z3, af, cf, rfl, z4⟩ := hrf
  have hb := below_al w (.cells #[.int .i64 m.st, .slice aa m.arcs.length ca, .slice af m.fins.length cf] 25)
  have hrow := heap_alloc_new w (.cells #[.int .i64 m.st, .slice aa m.arcs.length ca, .slice af m.fins.length cf] 25)
  have K30 : Calls Tryd.prog 30 #[.agg #[.int .i64 m.st, .slice aa m.arcs.length ca, .slice af m.fins.length cf]] (w.alloc (.cells #[.int .i64 m.st, .slice aa m.arcs.length ca, .slice af m.fins.length cf] 25)) fun e w' => e = .returned (.int .i64 0) ∧ Below w.heap.size w w' ∧ Below (w.alloc (.cells #[.int .i64 m.st, .slice aa m.arcs.length ca, .slice af m.fins.length cf] 25)).heap.size (w.alloc (.cells #[.int .i64 m.st, .slice aa m.arcs.length ca, .slice af m.fins.length cf] 25)) w' := (CkP.check_any m _ _ (hm.below hb)).mono (fun e w' ⟨⟨y, h1, h2⟩, h3⟩ => ⟨by rw [h1, checkP_one h2 hx], hb.trans (h3.mono hb.size), h3⟩)
  have hwb : CkP.wb (L : Int) 0 8 = true := by unfold CkP.wb; exact decide_eq_true (by omega)
  have K31 : ∀ W, Calls Tryd.prog 31 #[.int .i64 (L : Int), .int .i64 0, .int .i64 8] W fun e w' => e = .returned (.bool true) ∧ w' = W := fun W => (CkP.within_any (L : Int) 0 8 W).mono (fun e w' ⟨h1, h2⟩ => ⟨by rw [h1, hwb], h2⟩)
  have K32 : ∀ W, Below w.heap.size w W → Calls Tryd.prog 32 #[.slice ai inn.length ci] W fun e w' => e = .returned (.bool true) ∧ Below w.heap.size w w' ∧ Below W.heap.size W w' := fun W hbw => (are_any inn _ W (hi.below hbw) (by omega)).mono (fun e w' ⟨h1, h2⟩ => ⟨by rw [h1, hs], hbw.trans (h2.mono hbw.size), h2⟩)
  have K33 : ∀ W, Below w.heap.size w W → Calls Tryd.prog 33 #[.agg #[.int .i64 m.st, .slice aa m.arcs.length ca, .slice af m.fins.length cf], .slice ai inn.length ci, .int .i64 (L : Int)] W (TrQ W S L m.arcs m.fins ai ci inn) := fun W hbw => by
    rw [hS.st]
    exact track_any S L ci m.arcs m.fins _ _ ai inn W (HRA.out.below hbw) (HRF.out.below hbw) (hi.below hbw) hS.rgt (fun f hf => (hS.fin f hf).1) hS.few.1 hS.few.2.1 hS.few.2.2 (by omega) hL
  have HTB : Hid (TabAt 0 Lib.deBruijn64tab w ∧ 0 < w.heap.size ∧ Sml m S ∧ inn.length ≤ 60) := ⟨hTab, h00, hS, by omega⟩
  have b0 := cell_of_row _ _ 0 _ _ _ hrow
  have b1 := cell_of_row _ _ 1 _ _ _ hrow
  have b2 := cell_of_row _ _ 2 _ _ _ hrow
  have HRW : Hid ((w.alloc (.cells #[.int .i64 m.st, .slice aa m.arcs.length ca, .slice af m.fins.length cf] 25)).heap[w.heap.size]? = some (.cells #[.int .i64 m.st, .slice aa m.arcs.length ca, .slice af m.fins.length cf] 25 (0, 0))) := hrow
  have hl' : ¬ (60 : Int) < (inn.length : Int) := by omega
  clear hm hx hb hrow hi hs hwb hTab h00 hS z1 z2 z3 z4
  go_enter Tryd.func9, Tryd.ntmps9
  go_upto_region 1 with fail
  generalize w.alloc (.cells #[.int .i64 m.st, .slice aa m.arcs.length ca, .slice af m.fins.length cf] 25) = V at *
  obtain ⟨bx, hbx⟩ : ∃ bx, w.heap.size = bx := ⟨_, rfl⟩
  rw [hbx] at HRW b0 b1 b2
  rw [hbx]
  have HBX : Hid (w.heap.size = bx) := hbx
  clear hbx
  go_upto_region 8 with (first | (go_at_call 30; (with_reducible refine K30.mono ?_); clear K30; rintro e w1 ⟨rfl, hb1, hv1⟩; have HB1 : Hid (Below w.heap.size w w1 ∧ w1.heap[bx]? = some (.cells #[.int .i64 m.st, .slice aa m.arcs.length ca, .slice af m.fins.length cf] 25 (0, 0))) := ⟨hb1, (hv1.block bx (lt_at HRW.out)).trans HRW.out⟩; clear hb1 hv1) | (go_at_call 31; (with_reducible refine (K31 _).mono ?_); rintro e w2 ⟨rfl, rfl⟩) | (go_at_call 32; (with_reducible refine (K32 _ HB1.out.1).mono ?_); clear K32; rintro e w3 ⟨rfl, hb3, hw3⟩; have HB3 : Hid (Below w.heap.size w w3 ∧ w3.heap[bx]? = some (.cells #[.int .i64 m.st, .slice aa m.arcs.length ca, .slice af m.fins.length cf] 25 (0, 0))) := ⟨hb3, (hw3.block bx (lt_at HB1.out.2)).trans HB1.out.2⟩; clear hb3 hw3))
  clear b0 b1 b2
  have b0 := cell_of_row _ _ 0 _ _ _ HB3.out.2
  have b1 := cell_of_row _ _ 1 _ _ _ HB3.out.2
  have b2 := cell_of_row _ _ 2 _ _ _ HB3.out.2
  go_wp2_with (first | (go_at_call 33; (with_reducible refine (K33 _ HB3.out.1).mono ?_); clear K33; rintro e w4 ⟨T, sb, nb, cN, V4, N4, rfl, htr, hnd, hnl, hb4⟩; have K34 := tell_out w4.heap.size T S sb ci nb cN (S * (inn.length + 1)) L ai inn m.arcs V4 N4 (fn S inn m.fins) w4 htr ⟨HTB.out.2.2.1.rgt, HTB.out.2.2.1.out, HTB.out.2.2.1.few.2.1, HTB.out.2.2.1.few.1, HTB.out.2.2.2, rfl, hnd.step⟩ (Tz.tab_below HTB.out.1 HTB.out.2.1 (HB3.out.1.trans (hb4.mono HB3.out.1.size))) hnd hL; have K34 := K34.mono (fun e w' h => h.parts); have HB4 : Hid (Below w.heap.size w w4) := HB3.out.1.trans (hb4.mono HB3.out.1.size); clear htr hnd hnl hb4) | (go_at_call 34; (with_reducible refine K34.mono ?_); clear K34; rintro e w5 ⟨ta, tn, tc, er, rfl, h5⟩; have HT5 : Hid (TeP (Eg S inn m.arcs) (fn S inn m.fins) L w4 (.slice ta tn tc) er w5) := h5; clear h5))
  go_ret2
  exact HT5.out.back HB4.out
end Go.Proofs.YtfjocafepigijaaDoor.Ot
/- told (14): its flags and its list of symbols: how they lie. No conditions. -/
namespace Go.Proofs.YtfjocafepigijaaDoor.Ot
open Go.RowKit Mv Sy Po Ps Cm Pa Am Wd St Ra Set

theorem run_mk67 (W : World) : (Instr.makeSlice 67 (.int .i64 61) (.int .i64 61)).run Tryd.prog W = .ok (.slice (some ⟨W.heap.size, 0, none⟩) 61 61) (W.alloc (.cells (madeCells #[.bool false] 61) 4)) := by
  obtain ⟨i0, hi, hz0, hz1, hz2⟩ := info_parts inf4
  have hr := run_make (P := Tryd.prog) W 67 4 i0 (.bool false) Tryd.underlying67 hi hz0 .i64 .i64 61 61 (by omega) (Int.le_refl _) (by rw [hz2]; omega) (by omega)
  simp only [hz1, Nat.mul_one] at hr
  exact hr
/-- the flags and the list, when so many arcs were looked at -/
structure Fl (w wr : World) (bx fb : Nat) (mb : Array Value) (vs : Value) (fl : List Bool) (u : List Int) : Prop where
  box : wr.heap[bx]? = some (.cells mb 25 (0, 0))
  flags : wr.ownsRow w.heap.size 4 1 (.slice (some ⟨fb, 0, none⟩) 61 61) 61 (fl.map Value.bool)
  len : fl.length = 61
  is : ∀ c : Nat, c < 61 → fl[c]? = some (decide ((c : Int) ∈ u))
  row : wr.ownsRow w.heap.size 3 1 vs u.length (ints u)
  below : Below w.heap.size w wr
/-- a new symbol: its flag -/
theorem Fl.flag {w wr : World} {bx fb c : Nat} {mb : Array Value} {vs : Value} {fl : List Bool} {u : List Int} (h : Fl w wr bx fb mb vs fl u) (hc : c < 61) : ∃ fl' : List Bool, fl'.length = 61 ∧ (∀ d : Nat, d < 61 → fl'[d]? = some (decide ((d : Int) ∈ u ++ [(c : Int)]))) ∧ (wr.setCell ⟨fb, c, none⟩ (.bool true)).heap[bx]? = some (.cells mb 25 (0, 0)) ∧ (wr.setCell ⟨fb, c, none⟩ (.bool true)).ownsRow w.heap.size 4 1 (.slice (some ⟨fb, 0, none⟩) 61 61) 61 (fl'.map Value.bool) ∧ (wr.setCell ⟨fb, c, none⟩ (.bool true)).ownsRow w.heap.size 3 1 vs u.length (ints u) ∧ Below w.heap.size w (wr.setCell ⟨fb, c, none⟩ (.bool true)) := by
  have hk : Kp (fun b => b = fb) wr (wr.setCell ⟨fb, c, none⟩ (.bool true)) := (Kp.refl _ wr).setCell _ _ _ (fun _ => rfl)
  obtain ⟨d, hd⟩ := own_ty h.flags (k := fb) rfl
  have hge := (h.flags.lt fb rfl).1
  have hst := (h.flags.stored c (.bool true)).1
  refine ⟨fl.set c true, by rw [List.length_set]; exact h.len, fun e he => ?_, (hk.block _ (lt_at h.box) (fun e => by subst e; exact ty_ne h.box hd (by decide))).trans h.box, by rw [List.map_set]; exact hst, own_kp2 h.row hk (fun b hb e => by subst e; obtain ⟨d', hd'⟩ := own_ty h.row hb; exact ty_ne hd' hd (by decide)), ⟨hk.os.trans h.below.os, hk.tape.trans h.below.tape, hk.output.trans h.below.output, Nat.le_trans h.below.size hk.size, fun k hlt => (hk.block k (Nat.lt_of_lt_of_le hlt h.below.size) (fun e => by omega)).trans (h.below.block k hlt)⟩⟩
  by_cases ec : c = e
  · subst ec
    rw [List.getElem?_set_self (by rw [h.len]; exact hc)]
    simp
  · rw [List.getElem?_set_ne ec, h.is e he]
    have e2 : ¬ (e : Int) = (c : Int) := by omega
    simp [e2]
/-- and its place in the list -/
theorem Fl.sym {w wr w1 : World} {bx fb : Nat} {mb : Array Value} {vs v1 : Value} {fl' : List Bool} {u : List Int} {c : Int} (hl : fl'.length = 61) (his : ∀ d : Nat, d < 61 → fl'[d]? = some (decide ((d : Int) ∈ u ++ [c]))) (hbx : wr.heap[bx]? = some (.cells mb 25 (0, 0))) (hfl : wr.ownsRow w.heap.size 4 1 (.slice (some ⟨fb, 0, none⟩) 61 61) 61 (fl'.map Value.bool)) (hr : wr.ownsRow w.heap.size 3 1 vs u.length (ints u)) (hb : Below w.heap.size w wr)
    (ho : w1.ownsRow w.heap.size 3 1 v1 (u.length + 1) (ints u ++ [.int .i64 c])) (hg : wr.grownBy w1 vs.ownBlock) : Fl w w1 bx fb mb v1 fl' (u ++ [c]) := by
  have hk : Kp (fun b => vs.ownBlock = some b) wr w1 := (Kp.refl _ wr).grown hg (fun b hb _ => hb)
  have nt : ∀ {b : Nat} {d : Array Value} {ty : TypeId}, wr.heap[b]? = some (.cells d ty (0, 0)) → ty ≠ 3 → ¬ vs.ownBlock = some b := fun {b d ty} hb hne e => by
    obtain ⟨d', hd'⟩ := own_ty hr e; exact ty_ne hb hd' hne
  exact ⟨(hk.block _ (lt_at hbx) (nt hbx (by decide))).trans hbx, own_kp2 hfl hk (fun b hb1 => by obtain ⟨d, hd⟩ := own_ty hfl hb1; exact nt hd (by decide)), hl, his, by rw [List.length_append, show ints (u ++ [c]) = ints u ++ [.int .i64 c] by simp [ints]]; exact ho, hb.grown hg hb.size (fun b hb1 => (hr.lt _ hb1).1)⟩
end Go.Proofs.YtfjocafepigijaaDoor.Ot
/- told (14): the level at hand and the next one: how they lie, a text more. No conditions. -/
namespace Go.Proofs.YtfjocafepigijaaDoor.Ot
open Go.RowKit Mv Sy Po Ps Cm Pa Am Wd St Ra Set

/-- the symbols, the texts of the level at hand, those of the next one so far -/
structure Lq (w wr : World) (bx : Nat) (mb : Array Value) (vs vl vn : Value) (u : List Int) (lev nx : List (List Int)) (lvs nvs : List Value) : Prop where
  box : wr.heap[bx]? = some (.cells mb 25 (0, 0))
  syms : wr.ownsRow w.heap.size 3 1 vs u.length (ints u)
  lrow : wr.ownsRow w.heap.size 26 1 vl lev.length lvs
  ltl : Tls wr lvs lev
  nrow : wr.ownsRow w.heap.size 26 1 vn nx.length nvs
  ntl : Tls wr nvs nx
  apart : ∀ b, vn.ownBlock = some b → vl.ownBlock ≠ some b
  below : Below w.heap.size w wr
theorem Lq.laid {w wr w1 : World} {bx : Nat} {mb : Array Value} {vs vl vn : Value} {u : List Int} {lev nx : List (List Int)} {lvs nvs : List Value} (h : Lq w wr bx mb vs vl vn u lev nx lvs nvs) (hb : Below wr.heap.size wr w1) : Lq w w1 bx mb vs vl vn u lev nx lvs nvs :=
  ⟨(hb.block _ (lt_at h.box)).trans h.box, own_kp2 h.syms (kp_below hb (fun _ => False)) (fun _ _ => id), own_kp2 h.lrow (kp_below hb (fun _ => False)) (fun _ _ => id), h.ltl.kept (kp_below hb (fun _ => False)) (fun _ _ _ => id), own_kp2 h.nrow (kp_below hb (fun _ => False)) (fun _ _ => id), h.ntl.kept (kp_below hb (fun _ => False)) (fun _ _ _ => id), h.apart, h.below.trans (hb.mono h.below.size)⟩
/-- a text more in the next level -/
theorem Lq.more {w wr w1 : World} {bx : Nat} {mb : Array Value} {vs vl vn v1 tv : Value} {u t : List Int} {lev nx : List (List Int)} {lvs nvs : List Value} (h : Lq w wr bx mb vs vl vn u lev nx lvs nvs) (ho : w1.ownsRow w.heap.size 26 1 v1 (nx.length + 1) (nvs ++ [tv])) (hg : wr.grownBy w1 vn.ownBlock) (hl : v1.ownBlock = vn.ownBlock ∨ v1.ownBlock = some wr.heap.size) (ht : Tx wr tv t) : Lq w w1 bx mb vs vl v1 u lev (nx ++ [t]) lvs (nvs ++ [tv]) := by
  have hk : Kp (fun b => vn.ownBlock = some b) wr w1 := (Kp.refl _ wr).grown hg (fun b hb _ => hb)
  have nt : ∀ {b : Nat} {c : Array Value} {ty : TypeId}, wr.heap[b]? = some (.cells c ty (0, 0)) → ty ≠ 26 → ¬ vn.ownBlock = some b := fun {b c ty} hb hne e => by
    obtain ⟨d, hd⟩ := own_ty h.nrow e; exact ty_ne hb hd hne
  refine ⟨(hk.block _ (lt_at h.box) (nt h.box (by decide))).trans h.box, own_kp2 h.syms hk (fun b hb => by obtain ⟨d, hd⟩ := own_ty h.syms hb; exact nt hd (by decide)), own_kp2 h.lrow hk (fun b hb e => h.apart b e hb), h.ltl.kept hk (fun b cs hb => nt hb (by decide)), by rw [List.length_append]; exact ho, (h.ntl.kept hk (fun b cs hb => nt hb (by decide))).add (ht.kept hk (fun b cs hb => nt hb (by decide))), fun b hb => ?_, h.below.grown hg h.below.size (fun b hb => (h.nrow.lt _ hb).1)⟩
  rcases hl with hl | hl
  · rw [hl] at hb; exact h.apart b hb
  · rw [hl] at hb
    cases hb
    intro e
    have := (h.lrow.lt _ e).2
    omega
/-- the next level becomes the one at hand -/
theorem Lq.turn {w wr : World} {bx : Nat} {mb : Array Value} {vs vl vn : Value} {u : List Int} {lev nx : List (List Int)} {lvs nvs : List Value} (h : Lq w wr bx mb vs vl vn u lev nx lvs nvs) : Lq w wr bx mb vs vn (.slice none 0 0) u nx [] nvs [] :=
  ⟨h.box, h.syms, h.nrow, h.ntl, World.ownsRow_nil _ _ _ _, Tls.nil _, fun b hb => (by cases hb), h.below⟩
end Go.Proofs.YtfjocafepigijaaDoor.Ot
