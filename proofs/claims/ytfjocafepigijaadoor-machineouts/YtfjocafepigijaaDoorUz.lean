/- Outs (9) walked where nothing is refused, or a symbol is. Conditions: the machine is small and right. -/
import Derived.Test.YtfjocafepigijaaDoorUy
namespace Go.Proofs.YtfjocafepigijaaDoor.Ot
open Go.RowKit Mv Sy Po Ps Cm Pa Am Wd St Ra Set

/-- a small right machine, in plain words -/
structure Sml (m : M) (S : Nat) : Prop where
  st : m.st = (S : Int)
  rgt : Rgt S m.arcs
  out : ∀ a ∈ m.arcs, a.2.2.2.1 ≤ 60
  fin : ∀ f ∈ m.fins, (∃ s : Nat, f.1 = (s : Int) ∧ s < S) ∧ 0 ≤ f.2
  few : S ≤ 40 ∧ m.arcs.length ≤ 120 ∧ m.fins.length ≤ 40
theorem sml_of {m : M} (hx : checkP m 0) (hf : fewB m = true) : ∃ S, Sml m S := by
  obtain ⟨h1, h2, h3⟩ := Rz.checkP_ok hx
  have hs : 1 ≤ m.st := by unfold sizeB at h1; exact (of_decide_eq_true h1).1
  have hfb : m.st ≤ 40 ∧ (m.arcs.length : Int) ≤ 120 ∧ (m.fins.length : Int) ≤ 40 := by unfold fewB at hf; exact of_decide_eq_true hf
  refine ⟨m.st.toNat, by omega, ⟨by omega, fun a ha => ?_⟩, fun a ha => ?_, fun f hfm => ?_, by omega, by omega, by omega⟩
  · obtain ⟨k, hk, rfl⟩ := List.getElem_of_mem ha
    have h := h2 k hk
    unfold arcB at h
    have h := of_decide_eq_true h
    refine ⟨⟨(m.arcs[k]).1.toNat, by omega, by omega⟩, ⟨(m.arcs[k]).2.1.toNat, by omega, by omega⟩, by omega, by omega, by omega⟩
  · obtain ⟨k, hk, rfl⟩ := List.getElem_of_mem ha
    have h := h2 k hk
    unfold arcB at h
    have h := of_decide_eq_true h
    omega
  · obtain ⟨k, hk, rfl⟩ := List.getElem_of_mem hfm
    have h := h3 k hk
    unfold finB at h
    have h := of_decide_eq_true h
    exact ⟨⟨(m.fins[k]).1.toNat, by omega, by omega⟩, by omega⟩
/-- what is handed back, its two parts named -/
def TeP (E : Int → Nat → Nat → Prop) (F : List Nat) (L : Nat) (w : World) (vt : Value) (er : Int) (w' : World) : Prop :=
  Below w.heap.size w w' ∧ ((er = 0 ∧ ∃ told vals, w'.ownsRow w.heap.size 26 1 vt told.length vals ∧ Tls w' vals told ∧ OutP E F L false told) ∨ (er = 7 ∧ vt = .slice none 0 0 ∧ OutP E F L true []))
theorem TeQ.parts {E : Int → Nat → Nat → Prop} {F : List Nat} {L : Nat} {w w' : World} {e : Ending} (h : TeQ E F L w e w') : ∃ a n c er, e = .returned (.tuple #[.slice a n c, .int .i64 er]) ∧ TeP E F L w (.slice a n c) er w' := by
  obtain ⟨hb, ⟨vt, told, vals, rfl, h1, h2, h3⟩ | ⟨rfl, h3⟩⟩ := h
  · obtain ⟨a, c, rfl⟩ := oslice h1
    exact ⟨a, _, c, 0, rfl, hb, .inl ⟨rfl, told, vals, h1, h2, h3⟩⟩
  · exact ⟨none, 0, 0, 7, rfl, hb, .inr ⟨rfl, rfl, h3⟩⟩
theorem TeP.back {E : Int → Nat → Nat → Prop} {F : List Nat} {L : Nat} {w w4 w' : World} {vt : Value} {er : Int} (h : TeP E F L w4 vt er w') (hb : Below w.heap.size w w4) : TeQ E F L w (.returned (.tuple #[vt, .int .i64 er])) w' := by
  obtain ⟨h0, ⟨rfl, told, vals, h1, h2, h3⟩ | ⟨rfl, rfl, h3⟩⟩ := h
  · exact ⟨hb.trans (h0.mono hb.size), .inl ⟨vt, told, vals, rfl, own_low h1 hb.size, h2, h3⟩⟩
  · exact ⟨hb.trans (h0.mono hb.size), .inr ⟨rfl, h3⟩⟩
set_option maxHeartbeats 4000000 in
set_option maxRecDepth 100000 in
theorem outs_sym (m : M) (v : Value) (inn : List Int) (ai : Option Addr) (ci : Nat) (long : Int) (w : World) (hm : IsM w v m) (hx : checkP m 0) (hl : ¬ 60 < inn.length) (hw : CkP.wb long 0 8 = true) (hi : IsI w (.slice ai inn.length ci) inn) (hs : allS inn = false) :
    Calls Tryd.prog 9 #[v, .slice ai inn.length ci, .int .i64 long] w fun e w' => e = .returned (.tuple #[.slice none 0 0, .int .i64 3]) ∧ Below w.heap.size w w' := by
  obtain ⟨va, vf, rfl, hra, hrf⟩ := id hm
  obtain ⟨_, aa, ca, rfl, _⟩ := hra
  obtain ⟨_, af, cf, rfl, _⟩ := hrf
  have hb := below_al w (.cells #[.int .i64 m.st, .slice aa m.arcs.length ca, .slice af m.fins.length cf] 25)
  have hrow := heap_alloc_new w (.cells #[.int .i64 m.st, .slice aa m.arcs.length ca, .slice af m.fins.length cf] 25)
  have K30 : Calls Tryd.prog 30 #[.agg #[.int .i64 m.st, .slice aa m.arcs.length ca, .slice af m.fins.length cf]] (w.alloc (.cells #[.int .i64 m.st, .slice aa m.arcs.length ca, .slice af m.fins.length cf] 25)) fun e w' => e = .returned (.int .i64 0) ∧ Below w.heap.size w w' := (CkP.check_any m _ _ (hm.below hb)).mono (fun e w' ⟨⟨y, h1, h2⟩, h3⟩ => ⟨by rw [h1, checkP_one h2 hx], hb.trans (h3.mono hb.size)⟩)
  have K31 : ∀ W, Calls Tryd.prog 31 #[.int .i64 long, .int .i64 0, .int .i64 8] W fun e w' => e = .returned (.bool true) ∧ w' = W := fun W => (CkP.within_any long 0 8 W).mono (fun e w' ⟨h1, h2⟩ => ⟨by rw [h1, hw], h2⟩)
  have K32 : ∀ W, Below w.heap.size w W → Calls Tryd.prog 32 #[.slice ai inn.length ci] W fun e w' => e = .returned (.bool false) ∧ Below w.heap.size w w' := fun W hbw => (are_any inn _ W (hi.below hbw) (by omega)).mono (fun e w' ⟨h1, h2⟩ => ⟨by rw [h1, hs], hbw.trans (h2.mono hbw.size)⟩)
  have b0 := cell_of_row _ _ 0 _ _ _ hrow
  have b1 := cell_of_row _ _ 1 _ _ _ hrow
  have b2 := cell_of_row _ _ 2 _ _ _ hrow
  have hl' : ¬ (60 : Int) < (inn.length : Int) := by omega
  clear hm hx hb hrow hi hs hw
  go_enter Tryd.func9, Tryd.ntmps9
  go_upto_region 1 with fail
  generalize w.alloc (.cells #[.int .i64 m.st, .slice aa m.arcs.length ca, .slice af m.fins.length cf] 25) = V at *
  go_wp2_with (first | (go_at_call 30; (with_reducible refine K30.mono ?_); clear K30; rintro e w1 ⟨rfl, hb1⟩; have HB1 : Hid (Below w.heap.size w w1) := hb1; clear hb1) | (go_at_call 31; (with_reducible refine (K31 _).mono ?_); rintro e w2 ⟨rfl, rfl⟩) | (go_at_call 32; (with_reducible refine (K32 _ HB1.out).mono ?_); clear K32; rintro e w3 ⟨rfl, hb3⟩; have HB3 : Hid (Below w.heap.size w w3) := hb3; clear hb3))
  go_ret2
  exact ⟨rfl, HB3.out⟩
set_option maxHeartbeats 4000000 in
set_option maxRecDepth 100000 in
theorem outs_ok (m : M) (v : Value) (inn : List Int) (ai : Option Addr) (ci L S : Nat) (w : World) (hm : IsM w v m) (hx : checkP m 0) (hl : ¬ 60 < inn.length) (hL : L ≤ 8) (hi : IsI w (.slice ai inn.length ci) inn) (hs : allS inn = true) (hS : Sml m S) (hTab : TabAt 0 Lib.deBruijn64tab w) (h00 : 0 < w.heap.size) :
    Calls Tryd.prog 9 #[v, .slice ai inn.length ci, .int .i64 (L : Int)] w (TeQ (Eg S inn m.arcs) (fn S inn m.fins) L w) := by
  obtain ⟨va, vf, rfl, hra, hrf⟩ := id hm
  have HRA : Hid (Mv.Row w va 5 m.arcs.length (acs m.arcs)) := hra
  have HRF : Hid (Mv.Row w vf 2 m.fins.length (fcs m.fins)) := hrf
  obtain ⟨z1, aa, ca, rfl, z2⟩ := hra
  obtain ⟨z3, af, cf, rfl, z4⟩ := hrf
  have hb := below_al w (.cells #[.int .i64 m.st, .slice aa m.arcs.length ca, .slice af m.fins.length cf] 25)
  have hrow := heap_alloc_new w (.cells #[.int .i64 m.st, .slice aa m.arcs.length ca, .slice af m.fins.length cf] 25)
  have K30 : Calls Tryd.prog 30 #[.agg #[.int .i64 m.st, .slice aa m.arcs.length ca, .slice af m.fins.length cf]] (w.alloc (.cells #[.int .i64 m.st, .slice aa m.arcs.length ca, .slice af m.fins.length cf] 25)) fun e w' => e = .returned (.int .i64 0) ∧ Below w.heap.size w w' ∧ Below (w.alloc (.cells #[.int .i64 m.st, .slice aa m.arcs.length ca, .slice af m.fins.length cf] 25)).heap.size (w.alloc (.cells #[.int .i64 m.st, .slice aa m.arcs.length ca, .slice af m.fins.length cf] 25)) w' := (CkP.check_any m _ _ (hm.below hb)).mono (fun e w' ⟨⟨y, h1, h2⟩, h3⟩ => ⟨by rw [h1, checkP_one h2 hx], hb.trans (h3.mono hb.size), h3⟩)
  have hwb : CkP.wb (L : Int) 0 8 = true := by unfold CkP.wb; exact decide_eq_true (by omega)
  have K31 : ∀ W, Calls Tryd.prog 31 #[.int .i64 (L : Int), .int .i64 0, .int .i64 8] W fun e w' => e = .returned (.bool true) ∧ w' = W := fun W => (CkP.within_any (L : Int) 0 8 W).mono (fun e w' ⟨h1, h2⟩ => ⟨by rw [h1, hwb], h2⟩)
  have K32 : ∀ W, Below w.heap.size w W → Calls Tryd.prog 32 #[.slice ai inn.length ci] W fun e w' => e = .returned (.bool true) ∧ Below w.heap.size w w' ∧ Below W.heap.size W w' := fun W hbw => (are_any inn _ W (hi.below hbw) (by omega)).mono (fun e w' ⟨h1, h2⟩ => ⟨by rw [h1, hs], hbw.trans (h2.mono hbw.size), h2⟩)
  have K33 : ∀ W, Below w.heap.size w W → Calls Tryd.prog 33 #[.agg #[.int .i64 m.st, .slice aa m.arcs.length ca, .slice af m.fins.length cf], .slice ai inn.length ci, .int .i64 (L : Int)] W (TrQ W S L m.arcs m.fins ai ci inn) := fun W hbw => by
    rw [hS.st]
    exact track_any S L ci m.arcs m.fins _ _ ai inn W (HRA.out.below hbw) (HRF.out.below hbw) (hi.below hbw) hS.rgt (fun f hf => (hS.fin f hf).1) hS.few.1 hS.few.2.1 hS.few.2.2 (by omega) hL
  have HTB : Hid (TabAt 0 Lib.deBruijn64tab w ∧ 0 < w.heap.size ∧ Sml m S ∧ inn.length ≤ 60) := ⟨hTab, h00, hS, by omega⟩
  have b0 := cell_of_row _ _ 0 _ _ _ hrow
  have b1 := cell_of_row _ _ 1 _ _ _ hrow
  have b2 := cell_of_row _ _ 2 _ _ _ hrow
  have HRW : Hid ((w.alloc (.cells #[.int .i64 m.st, .slice aa m.arcs.length ca, .slice af m.fins.length cf] 25)).heap[w.heap.size]? = some (.cells #[.int .i64 m.st, .slice aa m.arcs.length ca, .slice af m.fins.length cf] 25 (0, 0))) := hrow
  have hl' : ¬ (60 : Int) < (inn.length : Int) := by omega
  clear hm hx hb hrow hi hs hwb hTab h00 hS z1 z2 z3 z4
  go_enter Tryd.func9, Tryd.ntmps9
  go_upto_region 1 with fail
  generalize w.alloc (.cells #[.int .i64 m.st, .slice aa m.arcs.length ca, .slice af m.fins.length cf] 25) = V at *
  obtain ⟨bx, hbx⟩ : ∃ bx, w.heap.size = bx := ⟨_, rfl⟩
  rw [hbx] at HRW b0 b1 b2
  rw [hbx]
  have HBX : Hid (w.heap.size = bx) := hbx
  clear hbx
  go_upto_region 8 with (first | (go_at_call 30; (with_reducible refine K30.mono ?_); clear K30; rintro e w1 ⟨rfl, hb1, hv1⟩; have HB1 : Hid (Below w.heap.size w w1 ∧ w1.heap[bx]? = some (.cells #[.int .i64 m.st, .slice aa m.arcs.length ca, .slice af m.fins.length cf] 25 (0, 0))) := ⟨hb1, (hv1.block bx (lt_at HRW.out)).trans HRW.out⟩; clear hb1 hv1) | (go_at_call 31; (with_reducible refine (K31 _).mono ?_); rintro e w2 ⟨rfl, rfl⟩) | (go_at_call 32; (with_reducible refine (K32 _ HB1.out.1).mono ?_); clear K32; rintro e w3 ⟨rfl, hb3, hw3⟩; have HB3 : Hid (Below w.heap.size w w3 ∧ w3.heap[bx]? = some (.cells #[.int .i64 m.st, .slice aa m.arcs.length ca, .slice af m.fins.length cf] 25 (0, 0))) := ⟨hb3, (hw3.block bx (lt_at HB1.out.2)).trans HB1.out.2⟩; clear hb3 hw3))
  clear b0 b1 b2
  have b0 := cell_of_row _ _ 0 _ _ _ HB3.out.2
  have b1 := cell_of_row _ _ 1 _ _ _ HB3.out.2
  have b2 := cell_of_row _ _ 2 _ _ _ HB3.out.2
  go_wp2_with (first | (go_at_call 33; (with_reducible refine (K33 _ HB3.out.1).mono ?_); clear K33; rintro e w4 ⟨T, sb, nb, cN, V4, N4, rfl, htr, hnd, hnl, hb4⟩; have K34 := tell_out w4.heap.size T S sb ci nb cN (S * (inn.length + 1)) L ai inn m.arcs V4 N4 (fn S inn m.fins) w4 htr ⟨HTB.out.2.2.1.rgt, HTB.out.2.2.1.out, HTB.out.2.2.1.few.2.1, HTB.out.2.2.1.few.1, HTB.out.2.2.2, rfl, hnd.step⟩ (Tz.tab_below HTB.out.1 HTB.out.2.1 (HB3.out.1.trans (hb4.mono HB3.out.1.size))) hnd hL; have K34 := K34.mono (fun e w' h => h.parts); have HB4 : Hid (Below w.heap.size w w4) := HB3.out.1.trans (hb4.mono HB3.out.1.size); clear htr hnd hnl hb4) | (go_at_call 34; (with_reducible refine K34.mono ?_); clear K34; rintro e w5 ⟨ta, tn, tc, er, rfl, h5⟩; have HT5 : Hid (TeP (Eg S inn m.arcs) (fn S inn m.fins) L w4 (.slice ta tn tc) er w5) := h5; clear h5))
  go_ret2
  exact HT5.out.back HB4.out
end Go.Proofs.YtfjocafepigijaaDoor.Ot
