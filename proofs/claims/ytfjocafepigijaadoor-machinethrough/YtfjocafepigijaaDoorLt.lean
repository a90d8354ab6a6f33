/- Through: right machines that are few. Conditions: these; the library's table lies as its text lays it. -/
import Derived.Test.YtfjocafepigijaaDoorSkM
import Derived.Test.YtfjocafepigijaaDoorYb
import Derived.Test.YtfjocafepigijaaDoorKb
import Derived.Test.YtfjocafepigijaaDoorJb
import Derived.Test.YtfjocafepigijaaDoorMr
namespace Go.Proofs.YtfjocafepigijaaDoor.Cu
open Go.RowKit Mv Set Qp Sk Po Ps Wd Se Mp St Cm Nm Nx Ra Am Pa Tc Mc
open CR (nc)

theorem wf_int {i : Int} (h1 : 0 ≤ i) (h2 : i ≤ 1000000) : W64 i := by
 obtain ⟨k, rfl⟩ : ∃ k : Nat, i = (k : Int) := ⟨i.toNat, by omega⟩
 exact Na.wf_small k (by omega)
theorem Rgt.ok4 {S : Nat} {A : List Arc} (h : Rgt S A) (hS : S ≤ 40) : ∀ a ∈ A, Ok4 (nam a) := fun a ha => by
 obtain ⟨f, t, i, o, u, rfl, h1, h2, h3, h4, h5⟩ := arc_nat (h a ha)
 exact ⟨wf_int (by dsimp only [nam]; omega) (by dsimp only [nam]; omega), wf_int (by dsimp only [nam]; omega) (by dsimp only [nam]; omega), wf_int (by dsimp only [nam]; omega) (by dsimp only [nam]; omega), wf_int (by dsimp only [nam]; omega) (by dsimp only [nam]; omega)⟩
/-- what owns a row of ends holds it; a box that lies before it may be turned -/
theorem frow_of_own {w : World} {base n F : Nat} {v : Value} {L : List (Int × Int)} (h : w.ownsRow base 66 2 v n (fcs L)) (hn : n = L.length) (hl : L.length ≤ 20000) (hF : F < base) (j : Nat) (u : Value) : Mv.Row (w.setCell ⟨F, j, none⟩ u) v 2 L.length (fcs L) := by
 subst hn
 obtain ⟨a, c, rfl⟩ := Am.own_slice h
 refine ⟨fcs_length L, a, c, rfl, by omega, ?_⟩
 rcases Nat.eq_zero_or_pos L.length with h0 | h0
 ·exact .inl h0
 ·obtain ⟨g, cap, e, hg1, hg2⟩ := own_some h h0
  cases e
  refine .inr ⟨g, 0, rfl, by simpa using hg2, fun i u' hu => ?_⟩
  have hj : i < (fcs L).length := by
   rcases Nat.lt_or_ge i (fcs L).length with hj | hj
   ·exact hj
   ·rw [List.getElem?_eq_none hj] at hu; cases hu
  rw [Nat.zero_add, cell_set_other _ _ _ _ (show g ≠ F by omega), h.cellAt i (by rw [fcs_length] at hj; omega)]
  exact hu
theorem below3 {w V : World} {P n : Nat} (h : Below n w V) (hP : n ≤ P) (u v x : Value) : Below n w (((V.setCell ⟨P, 0, none⟩ u).setCell ⟨P, 1, none⟩ v).setCell ⟨P, 2, none⟩ x) := ((h.setCell (p := ⟨P, 0, none⟩) hP _).setCell (p := ⟨P, 1, none⟩) hP _).setCell (p := ⟨P, 2, none⟩) hP _
theorem row_store3 {V : World} {P k n : Nat} {r : Value} {xs : List Value} (h : Mv.Row V r k n xs) (hP : V.heap[P]? = some (.cells #[.int .i64 0, .slice none 0 0, .slice none 0 0] 25 (0, 0))) (hx : n = 0 ∨ ∃ z, xs[1]? = some (.int .i64 z)) (u v x : Value) : Mv.Row (((V.setCell ⟨P, 0, none⟩ u).setCell ⟨P, 1, none⟩ v).setCell ⟨P, 2, none⟩ x) r k n xs := by
 obtain ⟨h1, a, c, rfl, h2, h3⟩ := h
 refine ⟨h1, a, c, rfl, h2, ?_⟩
 rcases h3 with h3 | ⟨b, off, rfl, h4, h5⟩
 ·exact .inl h3
 ·rcases hx with hx | ⟨z, hz⟩
  ·exact .inl hx
  have hb : b ≠ P := by
   rintro rfl
   have := h5 1 _ hz
   rcases off with _ | _ | off
   ·have e := cell_of_row _ _ 1 _ _ _ hP; simp at e this; rw [e] at this; cases this
   ·have e := cell_of_row _ _ 2 _ _ _ hP; simp at e this; rw [e] at this; cases this
   ·simp [World.cell?, hP] at this
  exact .inr ⟨b, off, rfl, by simpa using h4, fun j u' hu => by rw [cell_set_other _ _ _ _ hb, cell_set_other _ _ _ _ hb, cell_set_other _ _ _ _ hb]; exact h5 j u' hu⟩
theorem isM_store3 {V : World} {P : Nat} {r : Value} {m : M} (h : IsM V r m) (hP : V.heap[P]? = some (.cells #[.int .i64 0, .slice none 0 0, .slice none 0 0] 25 (0, 0))) (u v x : Value) : IsM (((V.setCell ⟨P, 0, none⟩ u).setCell ⟨P, 1, none⟩ v).setCell ⟨P, 2, none⟩ x) r m := by
 obtain ⟨va, vf, e, h1, h2⟩ := h
 refine ⟨va, vf, e, row_store3 h1 hP ?_ _ _ _, row_store3 h2 hP ?_ _ _ _⟩
 ·rcases Nat.eq_zero_or_pos m.arcs.length with h0 | h0
  ·exact .inl h0
  ·exact .inr ⟨_, by have := (acs_at m.arcs 0 h0).2.1; simpa using this⟩
 ·rcases Nat.eq_zero_or_pos m.fins.length with h0 | h0
  ·exact .inl h0
  ·exact .inr ⟨_, by have := (fcs_at m.fins 0 h0).2; simpa using this⟩
/-- how Through ends -/
def ThQ (a b : M) (SA SB : Nat) (w' : World) (e : Ending) : Prop := ∃ U W, Usf a b SA SB U W ∧ ((checkP (thM a b SA SB U (Ls U (SA * SB))) 0 ∧ ∃ v, e = .returned (.tuple #[v, .int .i64 0]) ∧ IsM w' v (thM a b SA SB U (Ls U (SA * SB)))) ∨ (checkP (thM a b SA SB U (Ls U (SA * SB))) 3 ∧ ¬ (lightP a = true ∧ lightP b = true) ∧ e = .returned (.tuple #[.agg #[.int .i64 0, .slice none 0 0, .slice none 0 0], .int .i64 3])))
set_option maxHeartbeats 8000000 in
set_option maxRecDepth 100000 in
theorem thr_ok (SA SB : Nat) (A B : List Arc) (fa fb : List (Int × Int)) (aa ab af bf : Option Addr) (ca cb cf df : Nat) (w : World) (HCA : Hid (checkP ⟨(SA : Int), A, fa⟩ 0)) (HCB : Hid (checkP ⟨(SB : Int), B, fb⟩ 0)) (h0A : 0 < SA) (h0B : 0 < SB) (hSA : SA ≤ 40) (hSB : SB ≤ 40)
  (HRA : Hid (Mv.Row w (.slice aa A.length ca) 5 A.length (acs A))) (HRB : Hid (Mv.Row w (.slice ab B.length cb) 5 B.length (acs B))) (HGA : Hid (Rgt SA A)) (HGB : Hid (Rgt SB B)) (hAl : A.length ≤ 120) (hBl : B.length ≤ 120)
  (HRFA : Hid (Mv.Row w (.slice af fa.length cf) 2 fa.length (fcs fa))) (HRFB : Hid (Mv.Row w (.slice bf fb.length df) 2 fb.length (fcs fb))) (HFA : Hid (∀ x (h : x < fa.length), finB (SA : Int) fa[x] = true)) (HFB : Hid (∀ x (h : x < fb.length), finB (SB : Int) fb[x] = true)) (HFA' : Hid (Fgt SA fa ∧ Fgt SB fb ∧ Onc fa ∧ Onc fb)) (hfal : fa.length ≤ 40) (hfbl : fb.length ≤ 40) (HTA : Hid (TabAt 0 Lib.deBruijn64tab w)) (hw0 : 0 < w.heap.size) :
  Calls Tryd.prog 17 #[.agg #[.int .i64 SA, .slice aa A.length ca, .slice af fa.length cf], .agg #[.int .i64 SB, .slice ab B.length cb, .slice bf fb.length df]] w fun e w' => ThQ ⟨(SA : Int), A, fa⟩ ⟨(SB : Int), B, fb⟩ SA SB w' e ∧ Below w.heap.size w w' := by
 have hs1 : (w.alloc (.cells #[.int .i64 SA, .slice aa A.length ca, .slice af fa.length cf] 25)).heap.size = w.heap.size + 1 := by simp
 have hs2 : ((w.alloc (.cells #[.int .i64 SA, .slice aa A.length ca, .slice af fa.length cf] 25)).alloc (.cells #[.int .i64 SB, .slice ab B.length cb, .slice bf fb.length df] 25)).heap.size = w.heap.size + 2 := by simp
 have hb1 : Below w.heap.size w (w.alloc (.cells #[.int .i64 SA, .slice aa A.length ca, .slice af fa.length cf] 25)) := (Below.refl _ w).alloc (Nat.le_refl _) _
 have hb2 := hb1.alloc (by rw [hs1]; omega) (.cells #[.int .i64 SB, .slice ab B.length cb, .slice bf fb.length df] 25)
 have hBV := hb2.alloc (by rw [hs2]; omega) (.cells #[.int .i64 0, .slice none 0 0, .slice none 0 0] 25)
 have x2 := (heap_alloc_old ((w.alloc (.cells #[.int .i64 SA, .slice aa A.length ca, .slice af fa.length cf] 25)).alloc (.cells #[.int .i64 SB, .slice ab B.length cb, .slice bf fb.length df] 25)) (.cells #[.int .i64 0, .slice none 0 0, .slice none 0 0] 25) (by rw [hs2]; omega)).trans ((heap_alloc_old (w.alloc (.cells #[.int .i64 SA, .slice aa A.length ca, .slice af fa.length cf] 25)) (.cells #[.int .i64 SB, .slice ab B.length cb, .slice bf fb.length df] 25) (by rw [hs1]; omega)).trans (heap_alloc_new w (.cells #[.int .i64 SA, .slice aa A.length ca, .slice af fa.length cf] 25)))
 have x3' := heap_alloc_new (w.alloc (.cells #[.int .i64 SA, .slice aa A.length ca, .slice af fa.length cf] 25)) (.cells #[.int .i64 SB, .slice ab B.length cb, .slice bf fb.length df] 25)
 rw [hs1] at x3'
 have x3 := (heap_alloc_old ((w.alloc (.cells #[.int .i64 SA, .slice aa A.length ca, .slice af fa.length cf] 25)).alloc (.cells #[.int .i64 SB, .slice ab B.length cb, .slice bf fb.length df] 25)) (.cells #[.int .i64 0, .slice none 0 0, .slice none 0 0] 25) (by rw [hs2]; omega)).trans x3'
 have x4 := heap_alloc_new ((w.alloc (.cells #[.int .i64 SA, .slice aa A.length ca, .slice af fa.length cf] 25)).alloc (.cells #[.int .i64 SB, .slice ab B.length cb, .slice bf fb.length df] 25)) (.cells #[.int .i64 0, .slice none 0 0, .slice none 0 0] 25)
 rw [hs2] at x4
 have KB := both_any ⟨(SA : Int), A, fa⟩ ⟨(SB : Int), B, fb⟩ (.agg #[.int .i64 SA, .slice aa A.length ca, .slice af fa.length cf]) (.agg #[.int .i64 SB, .slice ab B.length cb, .slice bf fb.length df]) 0 0 (((w.alloc (.cells #[.int .i64 SA, .slice aa A.length ca, .slice af fa.length cf] 25)).alloc (.cells #[.int .i64 SB, .slice ab B.length cb, .slice bf fb.length df] 25)).alloc (.cells #[.int .i64 0, .slice none 0 0, .slice none 0 0] 25)) ⟨_, _, rfl, HRA.out.below hBV, HRFA.out.below hBV⟩ ⟨_, _, rfl, HRB.out.below hBV, HRFB.out.below hBV⟩ HCA.out HCB.out
 rw [show both 0 0 = 0 from rfl] at KB
 go_enter Tryd.func17, Tryd.ntmps17
 go_upto_region 1 with fail
 clear hs1 hs2 hb1 hb2 x3'
 generalize hV : ((w.alloc (.cells #[.int .i64 SA, .slice aa A.length ca, .slice af fa.length cf] 25)).alloc (.cells #[.int .i64 SB, .slice ab B.length cb, .slice bf fb.length df] 25)).alloc (.cells #[.int .i64 0, .slice none 0 0, .slice none 0 0] 25) = V0 at *
 clear hV
 have a0 := cell_of_row _ _ 0 _ _ _ x2
 have a1 := cell_of_row _ _ 1 _ _ _ x2
 have a2 := cell_of_row _ _ 2 _ _ _ x2
 have b0 := cell_of_row _ _ 0 _ _ _ x3
 have b1 := cell_of_row _ _ 1 _ _ _ x3
 have b2 := cell_of_row _ _ 2 _ _ _ x3
 have HX0 : Hid (V0.heap[w.heap.size]? = some (.cells #[.int .i64 SA, .slice aa A.length ca, .slice af fa.length cf] 25 (0, 0)) ∧ V0.heap[w.heap.size + 1]? = some (.cells #[.int .i64 SB, .slice ab B.length cb, .slice bf fb.length df] 25 (0, 0)) ∧ V0.heap[w.heap.size + 2]? = some (.cells #[.int .i64 0, .slice none 0 0, .slice none 0 0] 25 (0, 0))) := ⟨x2, x3, x4⟩
 have HB0 : Hid (Below w.heap.size w V0) := hBV
 clear x2 x3 x4 hBV
 go_upto_region 4 with (go_at_call 37; (with_reducible refine KB.mono ?_); clear KB; rintro e1 VV ⟨rfl, hb1⟩; have HB1 : Hid (Below V0.heap.size V0 VV) := hb1; clear hb1)
 have x2 := (HB1.out.block _ (lt_at HX0.out.1)).trans HX0.out.1
 have x3 := (HB1.out.block _ (lt_at HX0.out.2.1)).trans HX0.out.2.1
 have x4 := (HB1.out.block _ (lt_at HX0.out.2.2)).trans HX0.out.2.2
 have HBV : Hid (Below w.heap.size w VV) := HB0.out.trans (HB1.out.mono HB0.out.size)
 clear a0 a1 a2 b0 b1 b2 HX0 HB0 HB1
 have HCE : Hid _ := fun (W : World) (hSw : W.heap[w.heap.size]? = some (.cells #[.int .i64 SA, .slice aa A.length ca, .slice af fa.length cf] 25 (0, 0)) ∧ W.heap[w.heap.size + 1]? = some (.cells #[.int .i64 SB, .slice ab B.length cb, .slice bf fb.length df] 25 (0, 0)) ∧ W.heap[w.heap.size + 2]? = some (.cells #[.int .i64 0, .slice none 0 0, .slice none 0 0] 25 (0, 0))) => (And.intro (cell_of_row _ _ 0 _ _ _ hSw.1) (And.intro (cell_of_row _ _ 1 _ _ _ hSw.1) (And.intro (cell_of_row _ _ 2 _ _ _ hSw.1) (And.intro (cell_of_row _ _ 0 _ _ _ hSw.2.1) (And.intro (cell_of_row _ _ 1 _ _ _ hSw.2.1) (cell_of_row _ _ 2 _ _ _ hSw.2.1))))))
 refine wp_region_held_drew (S := fun W => W.heap[w.heap.size]? = some (.cells #[.int .i64 SA, .slice aa A.length ca, .slice af fa.length cf] 25 (0, 0)) ∧ W.heap[w.heap.size + 1]? = some (.cells #[.int .i64 SB, .slice ab B.length cb, .slice bf fb.length df] 25 (0, 0)) ∧ W.heap[w.heap.size + 2]? = some (.cells #[.int .i64 0, .slice none 0 0, .slice none 0 0] 25 (0, 0))) (by kernel_rfl) (by exact ⟨x2, x3, x4⟩) (fun hHeld => ?_)
 have hS0 := hHeld
 have hB0 : Below w.heap.size w VV.drew := HBV.out.drew
 clear HBV x2 x3 x4
 generalize hV : VV.drew = V0 at *
 clear hV
 refine tk (v := ?_) 0 { dst := some 18, op := .load 25 (.tmp 2), type := 25, pos := "through.go:15", after := #[], guard := none } (by rfl) ?_ ?_
 case refine_2 => intro w hSw; (try dsimp only at hSw); obtain ⟨a0, a1, a2, b0, b1, b2⟩ := HCE.out _ hSw; go_simp; (try with_reducible rfl)
 simp only [Act.put, zS0, zS1, zS2]
 refine tk (v := ?_) 3 { dst := some 21, op := .load 25 (.tmp 3), type := 25, pos := "through.go:15", after := #[], guard := none } (by rfl) ?_ ?_
 case refine_2 => intro w hSw; (try dsimp only at hSw); obtain ⟨a0, a1, a2, b0, b1, b2⟩ := HCE.out _ hSw; go_simp; (try with_reducible rfl)
 simp only [Act.put, zS0, zS1, zS2]
 refine wpAnyH_ready (rs := [1]) (by kernel_rfl) (by simp) ?_
 refine (AllReadyH.cons (o := { dst := some 19, op := .call { callee := .value (.func 40), args := #[.tmp 18], argTypes := #[25] }, type := 25, pos := "through.go:15", after := #[⟨0, .data⟩], guard := none }) rfl (fun K hK => ?_) AllReadyH.nil)
 have KE := cheapest_any (SA : Int) A (.slice aa A.length ca) af fa.length cf V0 (HRA.out.below hB0) (HGA.out.ok4 hSA) (Nat.le_trans hAl (by decide))
 go_simp
 (with_reducible refine KE.mono ?_)
 clear KE
 rintro e1 V1 ⟨va1, rfl, ho1, hb1⟩
 dsimp only
 obtain ⟨ad1, cd1, rfl, hrw1⟩ := row_of_own ho1 rfl (Nat.le_trans (chP_len _) (Nat.le_trans hAl (by decide)))
 have hS1 := And.intro ((hb1.block _ (lt_at hS0.1)).trans hS0.1) (And.intro ((hb1.block _ (lt_at hS0.2.1)).trans hS0.2.1) ((hb1.block _ (lt_at hS0.2.2)).trans hS0.2.2))
 have hB1 := hB0.trans (hb1.mono hB0.size)
 refine hK.out _ _ ?_ (fun hHeld => ?_)
 ·exact hS1
 clear hK K
 try simp only [Act.put, zS0, zS1, zS2]
 refine wpAnyH_ready (rs := [2]) (by kernel_rfl) (by simp) ?_
 refine (AllReadyH.cons (o := { dst := some 20, op := .call { callee := .value (.func 39), args := #[.tmp 19], argTypes := #[25] }, type := 73, pos := "through.go:15", after := #[⟨1, .data⟩, ⟨1, .chain⟩], guard := none }) rfl (fun K hK => ?_) AllReadyH.nil)
 have KE := leaving_any SA (chP A) (.slice ad1 (chP A).length cd1) (.slice af fa.length cf) V1 hrw1 HGA.out.chP.from hSA (Nat.le_trans (chP_len _) (Nat.le_trans hAl (by decide)))
 go_simp
 (with_reducible refine KE.mono ?_)
 clear KE
 rintro e2 V2 ⟨s2, Vx2, vs2, rfl, hR2⟩
 dsimp only
 have hb2 := hR2.below
 have HW2 : Hid (Rws V2 s2 SA (rws (fun a => a) (chP A))) := Rws.of_rt hR2 (fun q => Nat.le_trans (rws_len _ _ _) (Nat.le_trans (chP_len _) (Nat.le_trans hAl (by decide))))
 have hS2 := And.intro ((hb2.block _ (lt_at hS1.1)).trans hS1.1) (And.intro ((hb2.block _ (lt_at hS1.2.1)).trans hS1.2.1) ((hb2.block _ (lt_at hS1.2.2)).trans hS1.2.2))
 have hB2 := hB1.trans (hb2.mono hB1.size)
 refine hK.out _ _ ?_ (fun hHeld => ?_)
 ·exact hS2
 clear hK K
 try simp only [Act.put, zS0, zS1, zS2]
 refine wpAnyH_ready (rs := [4]) (by kernel_rfl) (by simp) ?_
 refine (AllReadyH.cons (o := { dst := some 22, op := .call { callee := .value (.func 40), args := #[.tmp 21], argTypes := #[25] }, type := 25, pos := "through.go:15", after := #[⟨3, .data⟩, ⟨2, .chain⟩], guard := none }) rfl (fun K hK => ?_) AllReadyH.nil)
 have KE := cheapest_any (SB : Int) B (.slice ab B.length cb) bf fb.length df V2 (HRB.out.below hB2) (HGB.out.ok4 hSB) (Nat.le_trans hBl (by decide))
 go_simp
 (with_reducible refine KE.mono ?_)
 clear KE
 rintro e3 V3 ⟨va3, rfl, ho3, hb3⟩
 dsimp only
 obtain ⟨ad3, cd3, rfl, hrw3⟩ := row_of_own ho3 rfl (Nat.le_trans (chP_len _) (Nat.le_trans hBl (by decide)))
 have hS3 := And.intro ((hb3.block _ (lt_at hS2.1)).trans hS2.1) (And.intro ((hb3.block _ (lt_at hS2.2.1)).trans hS2.2.1) ((hb3.block _ (lt_at hS2.2.2)).trans hS2.2.2))
 have hB3 := hB2.trans (hb3.mono hB2.size)
 refine hK.out _ _ ?_ (fun hHeld => ?_)
 ·exact hS3
 clear hK K
 try simp only [Act.put, zS0, zS1, zS2]
 refine wpAnyH_ready (rs := [5]) (by kernel_rfl) (by simp) ?_
 refine (AllReadyH.cons (o := { dst := some 23, op := .call { callee := .value (.func 39), args := #[.tmp 22], argTypes := #[25] }, type := 73, pos := "through.go:15", after := #[⟨4, .data⟩, ⟨4, .chain⟩], guard := none }) rfl (fun K hK => ?_) AllReadyH.nil)
 have KE := leaving_any SB (chP B) (.slice ad3 (chP B).length cd3) (.slice bf fb.length df) V3 hrw3 HGB.out.chP.from hSB (Nat.le_trans (chP_len _) (Nat.le_trans hBl (by decide)))
 go_simp
 (with_reducible refine KE.mono ?_)
 clear KE
 rintro e4 V4 ⟨s4, Vx4, vs4, rfl, hR4⟩
 dsimp only
 have hb4 := hR4.below
 have HW4 : Hid (Rws V4 s4 SB (rws (fun a => a) (chP B))) := Rws.of_rt hR4 (fun q => Nat.le_trans (rws_len _ _ _) (Nat.le_trans (chP_len _) (Nat.le_trans hBl (by decide))))
 have hS4 := And.intro ((hb4.block _ (lt_at hS3.1)).trans hS3.1) (And.intro ((hb4.block _ (lt_at hS3.2.1)).trans hS3.2.1) ((hb4.block _ (lt_at hS3.2.2)).trans hS3.2.2))
 have hB4 := hB3.trans (hb4.mono hB3.size)
 have HW2b : Hid (Rws V4 s2 SA (rws (fun a => a) (chP A))) := (HW2.out.below hb3).below hb4
 refine hK.out _ _ ?_ (fun hHeld => ?_)
 ·exact hS4
 clear hK K
 try simp only [Act.put, zS0, zS1, zS2]
 refine wpAnyH_ready (rs := [6]) (by kernel_rfl) (by simp) ?_
 refine (AllReadyH.cons (o := { dst := some 24, op := .call { callee := .value (.func 38), args := #[.tmp 20, .tmp 23], argTypes := #[73, 73] }, type := 71, pos := "through.go:15", after := #[⟨2, .data⟩, ⟨5, .data⟩, ⟨5, .chain⟩], guard := none }) rfl (fun K hK => ?_) AllReadyH.nil)
 have KC := couple_any SA SB s2 s4 (rws (fun a => a) (chP A)) (rws (fun a => a) (chP B)) V4 HW2b.out HW4.out hSB h0B HGB.out.chP.ins (fun q _ => Nat.le_trans (rws_len _ _ _) (Nat.le_trans (chP_len _) hBl))
 go_simp
 (with_reducible refine KC.mono ?_)
 clear KC
 rintro e5 V5 ⟨C, gb, gc, nb, m, gs, G, rfl, hcp, hb5⟩
 dsimp only
 have hS5 := And.intro ((hb5.block _ (lt_at hS4.1)).trans hS4.1) (And.intro ((hb5.block _ (lt_at hS4.2.1)).trans hS4.2.1) ((hb5.block _ (lt_at hS4.2.2)).trans hS4.2.2))
 have hB5 := hB4.trans (hb5.mono hB4.size)
 have HCP : Hid (IsCp V5 C SA SB (rws (fun a => a) (chP A)) (rws (fun a => a) (chP B)) s2 gb gc nb m gs G) := hcp
 clear hcp
 refine hK.out _ _ ?_ (fun hHeld => ?_)
 ·exact hS5
 clear hK K
 try simp only [Act.put, zS0, zS1, zS2]
 refine tk (v := ?_) 7 { dst := some 7, op := .assign (.tmp 24), type := 71, pos := "through.go:15", after := #[⟨6, .data⟩, ⟨6, .chain⟩, ⟨0, .phase⟩, ⟨1, .phase⟩, ⟨2, .phase⟩, ⟨3, .phase⟩, ⟨4, .phase⟩, ⟨5, .phase⟩, ⟨6, .phase⟩], guard := none } (by rfl) ?_ ?_
 case refine_2 => intro w hSw; (try dsimp only at hSw); obtain ⟨a0, a1, a2, b0, b1, b2⟩ := HCE.out _ hSw; go_simp; (try with_reducible rfl)
 simp only [Act.put, zS0, zS1, zS2]
 refine wpAnyH_done (by kernel_rfl) ?_ _
 have HB5 : Hid (Below w.heap.size w V5) := hB5
 have HX5 : Hid (V5.heap[w.heap.size]? = some (.cells #[.int .i64 SA, .slice aa A.length ca, .slice af fa.length cf] 25 (0, 0)) ∧ V5.heap[w.heap.size + 1]? = some (.cells #[.int .i64 SB, .slice ab B.length cb, .slice bf fb.length df] 25 (0, 0)) ∧ V5.heap[w.heap.size + 2]? = some (.cells #[.int .i64 0, .slice none 0 0, .slice none 0 0] 25 (0, 0))) := hS5
 have HMAP : Hid (Rgt SA (chP A) ∧ (chP A).length ≤ 120 ∧ Rgt SB (chP B) ∧ (chP B).length ≤ 120) := ⟨HGA.out.chP, Nat.le_trans (chP_len _) hAl, HGB.out.chP, Nat.le_trans (chP_len _) hBl⟩
 have HFO : Hid (FOk SA (rws (fun a => a) (chP A))) := HMAP.out.1.fok HMAP.out.2.1
 have HRO : Hid (ROk SB (rws (fun a => a) (chP B))) := HMAP.out.2.2.1.rok HMAP.out.2.2.2
 clear hS0 hS1 hS2 hS3 hS4 hS5 hB0 hB1 hB2 hB3 hB4 hB5 HCE HW2 HW2b HW4 hb1 hb2 hb3 hb4 hb5 hR2 hR4 ho1 ho3 hrw1 hrw3
 have a0 := cell_of_row _ _ 0 _ _ _ HX5.out.1
 have a1 := cell_of_row _ _ 1 _ _ _ HX5.out.1
 have a2 := cell_of_row _ _ 2 _ _ _ HX5.out.1
 have b0 := cell_of_row _ _ 0 _ _ _ HX5.out.2.1
 have b1 := cell_of_row _ _ 1 _ _ _ HX5.out.2.1
 have b2 := cell_of_row _ _ 2 _ _ _ HX5.out.2.1
 have K41 := useful_any C SA SB s2 gb gc nb m (rws (fun a => a) (chP A)) (rws (fun a => a) (chP B)) G gs A B fa fb aa ab af bf ca cb cf df V5 HCP.out HFO.out HRO.out h0A h0B hSA hSB (HRA.out.below HB5.out) (HRB.out.below HB5.out) HGA.out HGB.out hAl hBl (HRFA.out.below HB5.out) (HRFB.out.below HB5.out) HFA.out HFB.out hfal hfbl
 go_upto_region 6 with (go_at_call 41; (with_reducible refine K41.mono ?_); clear K41; rintro e6 V6 ⟨vu, wu, wl, rfl, hu1, hu2, hu3, hu4, hu5, hu6, hb6⟩; have HSET : Hid (IsSet V6 V5.heap.size vu (SA * SB) wu) := hu1; have HB6 : Hid (Below V5.heap.size V5 V6) := hb6; have HUS : Hid ((∀ k, mem wu k = true → k < SA * SB) ∧ Usf ⟨(SA : Int), A, fa⟩ ⟨(SB : Int), B, fb⟩ SA SB (fun k => mem wu k) (fun k => mem wl k)) := ⟨hu2, ⟨HGA.out, HGB.out, HFA'.out.1, HFA'.out.2.1, HFA'.out.2.2.1, HFA'.out.2.2.2, h0A, h0B, hu3, hu4, hu5, hu6⟩⟩; clear hu1 hu2 hu3 hu4 hu5 hu6 hb6)
 obtain ⟨au, cu, rfl⟩ := Am.own_slice HSET.out.1
 have HX6 : Hid (V6.heap[w.heap.size]? = some (.cells #[.int .i64 SA, .slice aa A.length ca, .slice af fa.length cf] 25 (0, 0)) ∧ V6.heap[w.heap.size + 1]? = some (.cells #[.int .i64 SB, .slice ab B.length cb, .slice bf fb.length df] 25 (0, 0)) ∧ V6.heap[w.heap.size + 2]? = some (.cells #[.int .i64 0, .slice none 0 0, .slice none 0 0] 25 (0, 0))) := ⟨(HB6.out.block _ (lt_at HX5.out.1)).trans HX5.out.1, (HB6.out.block _ (lt_at HX5.out.2.1)).trans HX5.out.2.1, (HB6.out.block _ (lt_at HX5.out.2.2)).trans HX5.out.2.2⟩
 have HBW6 : Hid (Below w.heap.size w V6) := HB5.out.trans (HB6.out.mono HB5.out.size)
 have HCP6 : Hid (IsCp V6 C SA SB (rws (fun a => a) (chP A)) (rws (fun a => a) (chP B)) s2 gb gc nb m gs G) := HCP.out.on HB6.out
 obtain ⟨L, hLe⟩ : ∃ L, Ls (fun k => mem wu k) (SA * SB) = L := ⟨_, rfl⟩
 have HLE : Hid (Ls (fun k => mem wu k) (SA * SB) = L) := hLe
 have hn16 : SA * SB ≤ 1600 := Nat.le_trans (Nat.mul_le_mul hSA hSB) (by decide)
 have hL16 : L.length ≤ 1600 := by rw [← hLe]; exact Nat.le_trans (Ls_len _ _) hn16
 have HMS : Hid (Za.ms wu = L) := by show _ = _; rw [← hLe, Za.ms_all wu (SA * SB) HSET.out.2.2.1 HUS.out.1]; rfl
 have h06 : 0 < V6.heap.size := Nat.lt_of_lt_of_le hw0 HBW6.out.size
 have K43 := Za.members_any au wu.length cu V6
 have K42 := Za.collect_any wu (SA * SB) V5.heap.size (.slice au wu.length cu) V6 (V6.alloc (.cells #[.slice au wu.length cu] 77)) V6.heap.size HSET.out (Tz.tab_below HTA.out hw0 (Below.mono HBW6.out (Nat.le_refl _))) h06 ((Below.refl _ V6).alloc (Nat.le_refl _) _) (heap_alloc_new _ _) HSET.out.2.2.2 (by rw [HMS.out]; omega)
 rw [HMS.out] at K42
 clear a0 a1 a2 b0 b1 b2 hLe HB6 HX5 HB5
 go_upto_region 7 with (first | (go_at_call 43; (with_reducible refine K43.mono ?_); clear K43; rintro e7 V7 ⟨rfl, hv7⟩; subst V7) | (go_at_call 42; (with_reducible refine K42.mono ?_); clear K42; rintro e8 V8 ⟨vp, rfl, hp1, hb8⟩; have HP : Hid (V8.ownsRow (V6.alloc (.cells #[.slice au wu.length cu] 77)).heap.size 3 1 vp L.length (ns L)) := hp1; have HB8 : Hid (Below V6.heap.size V6 V8) := (((Below.refl _ V6).alloc (Nat.le_refl _) _).trans (hb8.mono (by simp))); clear hp1 hb8))
 obtain ⟨ap, cp, rfl⟩ := Am.own_slice HP.out
 have HX8 : Hid (V8.heap[w.heap.size]? = some (.cells #[.int .i64 SA, .slice aa A.length ca, .slice af fa.length cf] 25 (0, 0)) ∧ V8.heap[w.heap.size + 1]? = some (.cells #[.int .i64 SB, .slice ab B.length cb, .slice bf fb.length df] 25 (0, 0)) ∧ V8.heap[w.heap.size + 2]? = some (.cells #[.int .i64 0, .slice none 0 0, .slice none 0 0] 25 (0, 0))) := ⟨(HB8.out.block _ (lt_at HX6.out.1)).trans HX6.out.1, (HB8.out.block _ (lt_at HX6.out.2.1)).trans HX6.out.2.1, (HB8.out.block _ (lt_at HX6.out.2.2)).trans HX6.out.2.2⟩
 have HBW8 : Hid (Below w.heap.size w V8) := HBW6.out.trans (HB8.out.mono HBW6.out.size)
 have HPR : Hid (L.length = 0 ∨ ∃ pb po, ap = some ⟨pb, po, none⟩ ∧ pb < V8.heap.size ∧ ∀ i (h : i < L.length), V8.cell? ⟨pb, po + i, none⟩ = some (.int .i64 (L[i] : Nat))) := by
  rcases Nat.eq_zero_or_pos L.length with hz | hz
  ·exact .inl hz
  ·obtain ⟨g, cap, e, _, hg⟩ := own_some HP.out hz
   cases e
   refine .inr ⟨g, 0, rfl, hg, fun i h => ?_⟩
   rw [Nat.zero_add, HP.out.cellAt i (by omega)]
   simp [ns, h]
 have HLN : Hid (∀ i (h : i < L.length), L[i] < SA * SB) := fun i h => by
  have : L[i] ∈ Ls (fun k => mem wu k) (SA * SB) := by rw [HLE.out]; exact List.getElem_mem h
  exact (mem_Ls.1 this).1
 have HND : Hid L.Nodup := by show L.Nodup; rw [← HLE.out]; exact List.nodup_range.filter _
 have HLM : Hid (∀ k, k < SA * SB → mem wu k = true → k ∈ L) := fun k h1 h2 => by rw [← HLE.out]; exact mem_Ls.2 ⟨h1, h2⟩
 have HJL : Hid ((jl (fun k => mem wu k) (arcsP (rws (fun a => a) (chP A)) (rws (fun a => a) (chP B)) SB) L L.length).length ≤ 19200) := by
  have := th_few (a := ⟨(SA : Int), A, fa⟩) (b := ⟨(SB : Int), B, fb⟩) (U := fun k => mem wu k) (W := fun k => mem wl k) hSA hSB hAl hBl
  rw [HLE.out] at this
  exact this
 have HAE : Hid (∀ k, k < SA * SB → ∀ e ∈ arcsP (rws (fun a => a) (chP A)) (rws (fun a => a) (chP B)) SB k, ∃ z : Nat, e.2.1 = (z : Int) ∧ z < SA * SB ∧ W64 e.2.2.1 ∧ W64 e.2.2.2.1) := fun k hk e he => by
  obtain ⟨_, q, h2, h3, h4⟩ := on_sub (a := ⟨(SA : Int), chP A, fa⟩) (b := ⟨(SB : Int), chP B, fb⟩) (SA := SA) HMAP.out.1.okl HMAP.out.2.2.1.okl hk he
  have h5 := PE.nums HMAP.out.1 HMAP.out.2.2.1 h4
  exact ⟨q, h2, h3, wf_int (by omega) (by omega), wf_int (by omega) (by omega)⟩
 have K44 := joint_any C SA SB s2 gb gc nb m (SA * SB) V5.heap.size (SA * SB) (rws (fun a => a) (chP A)) (rws (fun a => a) (chP B)) G gs wu L au cu ap cp V8 (HCP6.out.on HB8.out) HFO.out HRO.out hSA hSB h0B rfl (set_below HSET.out HB8.out) (Nat.le_refl _) HPR.out HLN.out HND.out HLM.out hL16 HAE.out HJL.out
 obtain ⟨JA, hJA⟩ : ∃ JA, chP (jl (fun k => mem wu k) (arcsP (rws (fun a => a) (chP A)) (rws (fun a => a) (chP B)) SB) L L.length) = JA := ⟨_, rfl⟩
 have HJA : Hid (chP (jl (fun k => mem wu k) (arcsP (rws (fun a => a) (chP A)) (rws (fun a => a) (chP B)) SB) L L.length) = JA) := hJA
 have hJl : JA.length ≤ 19200 := by rw [← hJA]; exact Nat.le_trans (chP_len _) HJL.out
 rw [hJA] at K44
 clear hJA
 go_upto_region 10 with (go_at_call 44; (with_reducible refine K44.mono ?_); clear K44; rintro e9 V9 ⟨vj, rfl, hj1, hb9⟩; obtain ⟨aj, cj, rfl⟩ := Am.own_slice hj1; have HJO : Hid (V9.ownsRow V8.heap.size 64 5 (.slice aj JA.length cj) JA.length (acs JA)) := hj1; have HB9 : Hid (Below V8.heap.size V8 V9) := hb9; clear hj1 hb9)
 have HX9 : Hid ((V9.alloc (.cells #[.int .i64 (L.length : Int), .slice aj JA.length cj, .slice none 0 0] 25)).heap[w.heap.size]? = some (.cells #[.int .i64 SA, .slice aa A.length ca, .slice af fa.length cf] 25 (0, 0)) ∧ (V9.alloc (.cells #[.int .i64 (L.length : Int), .slice aj JA.length cj, .slice none 0 0] 25)).heap[w.heap.size + 1]? = some (.cells #[.int .i64 SB, .slice ab B.length cb, .slice bf fb.length df] 25 (0, 0)) ∧ (V9.alloc (.cells #[.int .i64 (L.length : Int), .slice aj JA.length cj, .slice none 0 0] 25)).heap[w.heap.size + 2]? = some (.cells #[.int .i64 0, .slice none 0 0, .slice none 0 0] 25 (0, 0))) := ⟨(heap_alloc_old _ _ (Nat.lt_of_lt_of_le (lt_at HX8.out.1) HB9.out.size)).trans ((HB9.out.block _ (lt_at HX8.out.1)).trans HX8.out.1), (heap_alloc_old _ _ (Nat.lt_of_lt_of_le (lt_at HX8.out.2.1) HB9.out.size)).trans ((HB9.out.block _ (lt_at HX8.out.2.1)).trans HX8.out.2.1), (heap_alloc_old _ _ (Nat.lt_of_lt_of_le (lt_at HX8.out.2.2) HB9.out.size)).trans ((HB9.out.block _ (lt_at HX8.out.2.2)).trans HX8.out.2.2)⟩
 have HM9 : Hid ((V9.alloc (.cells #[.int .i64 (L.length : Int), .slice aj JA.length cj, .slice none 0 0] 25)).heap[V9.heap.size]? = some (.cells #[.int .i64 (L.length : Int), .slice aj JA.length cj, .slice none 0 0] 25 (0, 0))) := heap_alloc_new _ _
 have HB89 : Hid (Below V8.heap.size V8 (V9.alloc (.cells #[.int .i64 (L.length : Int), .slice aj JA.length cj, .slice none 0 0] 25))) := HB9.out.alloc HB9.out.size _
 have HBV9 : Hid (Below V9.heap.size V9 (V9.alloc (.cells #[.int .i64 (L.length : Int), .slice aj JA.length cj, .slice none 0 0] 25)) ∧ V9.heap.size < (V9.alloc (.cells #[.int .i64 (L.length : Int), .slice aj JA.length cj, .slice none 0 0] 25)).heap.size) := ⟨(Below.refl _ V9).alloc (Nat.le_refl _) _, by simp⟩
 have HBW9 : Hid (Below w.heap.size w (V9.alloc (.cells #[.int .i64 (L.length : Int), .slice aj JA.length cj, .slice none 0 0] 25))) := HBW8.out.trans (HB89.out.mono HBW8.out.size)
 have HJR : Hid (Mv.Row V9 (.slice aj JA.length cj) 5 JA.length (acs JA)) := by
  obtain ⟨_, _, e, h⟩ := row_of_own HJO.out rfl (Nat.le_trans hJl (by decide))
  cases e
  exact h
 have HLT9 : Hid (w.heap.size + 2 < V9.heap.size) := Nat.lt_of_lt_of_le (lt_at HX8.out.2.2) HB9.out.size
 have HPR9 : Hid (L.length = 0 ∨ ∃ pb po, ap = some ⟨pb, po, none⟩ ∧ pb < (V9.alloc (.cells #[.int .i64 (L.length : Int), .slice aj JA.length cj, .slice none 0 0] 25)).heap.size ∧ ∀ i (h : i < L.length), (V9.alloc (.cells #[.int .i64 (L.length : Int), .slice aj JA.length cj, .slice none 0 0] 25)).cell? ⟨pb, po + i, none⟩ = some (.int .i64 (L[i] : Nat))) := by
  rcases HPR.out with h | ⟨pb, po, e, h1, h2⟩
  ·exact .inl h
  ·exact .inr ⟨pb, po, e, Nat.lt_of_lt_of_le h1 HB89.out.size, fun i h => (HB89.out.cell (p := ⟨pb, po + i, none⟩) h1).trans (h2 i h)⟩
 generalize hV : V9.alloc (.cells #[.int .i64 (L.length : Int), .slice aj JA.length cj, .slice none 0 0] 25) = VX at *
 clear hV HX8 HBW8 HB8 HP HX6 HBW6 HB9 HPR HB89 HJO HCP HCP6 HSET HMS HND HLM HAE HFO HRO HMAP
 have m0 := cell_of_row _ _ 0 _ _ _ HM9.out
 have m1 := cell_of_row _ _ 1 _ _ _ HM9.out
 have m2 := cell_of_row _ _ 2 _ _ _ HM9.out
 have hj20 : ¬ (20000 : Int) < (JA.length : Int) := by omega
 go_upto_region 12 with fail
 clear hj20 m0 m1 m2
 have a0 := cell_of_row _ _ 0 _ _ _ HX9.out.1
 have a1 := cell_of_row _ _ 1 _ _ _ HX9.out.1
 have a2 := cell_of_row _ _ 2 _ _ _ HX9.out.1
 have b0 := cell_of_row _ _ 0 _ _ _ HX9.out.2.1
 have b1 := cell_of_row _ _ 1 _ _ _ HX9.out.2.1
 have b2 := cell_of_row _ _ 2 _ _ _ HX9.out.2.1
 have K45 := Jf.finals_any SA SB (.slice aa A.length ca) (.slice af fa.length cf) (.slice ab B.length cb) (.slice bf fb.length df) fa fb L ap cp VX (HRFA.out.below HBW9.out) (HRFB.out.below HBW9.out) HFA HFB h0A hSA h0B hSB HPR9 HLN (Nat.le_trans hL16 (by decide))
 obtain ⟨FN, hFN⟩ : ∃ FN, Jf.jfP (Ec.endP SA fa) (Ec.endP SB fb) SB L L.length = FN := ⟨_, rfl⟩
 have HFN : Hid (Jf.jfP (Ec.endP SA fa) (Ec.endP SB fb) SB L L.length = FN) := hFN
 have hFl : FN.length ≤ 1600 := by rw [← hFN]; exact Nat.le_trans (Jf.jf_len _ _ _ _ _) hL16
 rw [hFN] at K45
 clear hFN
 go_upto_region 13 with (go_at_call 45; (with_reducible refine K45.mono ?_); clear K45; rintro e10 V10 ⟨vn, rfl, W2, hbW, hn1, hb10⟩; have HB10 : Hid (Below VX.heap.size VX V10) := hbW.trans (hb10.mono hbW.size); have hnn := hn1; obtain ⟨an, cn, rfl⟩ := Am.own_slice hnn; clear hnn; have HFR : Hid (Mv.Row (V10.setCell ⟨V9.heap.size, 2, none⟩ (.slice an FN.length cn)) (.slice an FN.length cn) 2 FN.length (fcs FN)) := frow_of_own hn1 rfl (Nat.le_trans hFl (by decide)) (Nat.lt_of_lt_of_le HBV9.out.2 hbW.size) 2 _; have hm10 := (HB10.out.block _ HBV9.out.2).trans HM9.out; have HM10 : Hid (V10.heap[V9.heap.size]? = some (.cells #[.int .i64 (L.length : Int), .slice aj JA.length cj, .slice none 0 0] 25 (0, 0))) := hm10; have mm2 := cell_of_row _ _ 2 _ _ _ hm10; have mf2 := frozen_of_row _ _ 2 _ _ hm10; clear hbW hn1 hb10 hm10)
 have HM11 : Hid ((V10.setCell ⟨V9.heap.size, 2, none⟩ (.slice an FN.length cn)).heap[V9.heap.size]? = some (.cells #[.int .i64 (L.length : Int), .slice aj JA.length cj, .slice an FN.length cn] 25 (0, 0))) := heap_setCell_same V10 V9.heap.size 2 _ 25 _ HM10.out
 have HB11 : Hid (Below V9.heap.size V9 (V10.setCell ⟨V9.heap.size, 2, none⟩ (.slice an FN.length cn))) := (HBV9.out.1.trans (HB10.out.mono (Nat.le_of_lt HBV9.out.2))).setCell (p := ⟨V9.heap.size, 2, none⟩) (Nat.le_refl _) _
 have HBW11 : Hid (Below w.heap.size w (V10.setCell ⟨V9.heap.size, 2, none⟩ (.slice an FN.length cn))) := (HBW9.out.trans (HB10.out.mono HBW9.out.size)).setCell (p := ⟨V9.heap.size, 2, none⟩) (Nat.le_trans (by omega) (Nat.le_of_lt HLT9.out)) _
 have HX11 : Hid ((V10.setCell ⟨V9.heap.size, 2, none⟩ (.slice an FN.length cn)).heap[w.heap.size + 2]? = some (.cells #[.int .i64 0, .slice none 0 0, .slice none 0 0] 25 (0, 0))) := (heap_setCell_other V10 ⟨V9.heap.size, 2, none⟩ _ _ (Nat.ne_of_lt HLT9.out)).trans ((HB10.out.block _ (lt_at HX9.out.2.2)).trans HX9.out.2.2)
 have HIM : Hid (IsM (V10.setCell ⟨V9.heap.size, 2, none⟩ (.slice an FN.length cn)) (.agg #[.int .i64 (L.length : Int), .slice aj JA.length cj, .slice an FN.length cn]) ⟨(L.length : Int), JA, FN⟩) := ⟨_, _, rfl, HJR.out.below HB11.out, HFR.out⟩
 generalize hV : V10.setCell ⟨V9.heap.size, 2, none⟩ (.slice an FN.length cn) = VY at *
 have HTM : Hid (thM ⟨(SA : Int), A, fa⟩ ⟨(SB : Int), B, fb⟩ SA SB (fun k => mem wu k) (Ls (fun k => mem wu k) (SA * SB)) = ⟨(L.length : Int), JA, FN⟩) := by
  show _ = _
  rw [HLE.out]
  unfold thM thA
  dsimp only
  rw [HJA.out, HFN.out]
 have HG : Hid (w.heap.size + 2 < VY.heap.size) := lt_at HX11.out
 clear hV HX9 HBW9 HB10 HM9 HM10 HJR HFR HB11 HBV9 HPR9 a0 a1 a2 b0 b1 b2 mm2 mf2 HJL HLN
 have m0 := cell_of_row _ _ 0 _ _ _ HM11.out
 have m1 := cell_of_row _ _ 1 _ _ _ HM11.out
 have m2 := cell_of_row _ _ 2 _ _ _ HM11.out
 have hTC := th_check HUS.out.2 hSA hSB hAl hBl
 rw [HTM.out] at hTC
 rcases hTC with hc | ⟨hc, hnl⟩
 ·have K30 := (CkP.check_any ⟨(L.length : Int), JA, FN⟩ _ VY HIM.out).mono (fun e W' h => show e = .returned (.int .i64 0) ∧ Below VY.heap.size VY W' by obtain ⟨⟨x, h1, h2⟩, h3⟩ := h; exact ⟨by rw [h1, checkP_one h2 hc], h3⟩)
  have HC : Hid (checkP ⟨(L.length : Int), JA, FN⟩ 0) := hc
  clear hc
  go_wp2_with (go_at_call 30; (with_reducible refine K30.mono ?_); clear K30; rintro e11 V11 ⟨rfl, hb11⟩; have HB11 : Hid (Below VY.heap.size VY V11) := hb11; have hm11 := (hb11.block _ (lt_at HM11.out)).trans HM11.out; have n0 := cell_of_row _ _ 0 _ _ _ hm11; have n1 := cell_of_row _ _ 1 _ _ _ hm11; have n2 := cell_of_row _ _ 2 _ _ _ hm11; have hz11 := (hb11.block _ (lt_at HX11.out)).trans HX11.out; have z0 := cell_of_row _ _ 0 _ _ _ hz11; have z1 := cell_of_row _ _ 1 _ _ _ hz11; have z2 := cell_of_row _ _ 2 _ _ _ hz11; have f0 := frozen_of_row _ _ 0 _ _ hz11; have f1 := frozen_of_row _ _ 1 _ _ hz11; have f2 := frozen_of_row _ _ 2 _ _ hz11; have HZ11 : Hid (V11.heap[w.heap.size + 2]? = some (.cells #[.int .i64 0, .slice none 0 0, .slice none 0 0] 25 (0, 0))) := hz11; clear hm11 hz11 hb11)
  have hl := laid3 HZ11.out (.int .i64 (L.length : Int)) (.slice aj JA.length cj) (.slice an FN.length cn)
  have hbe : Below w.heap.size w V11 := HBW11.out.trans (HB11.out.mono HBW11.out.size)
  have hbs := below3 hbe (P := w.heap.size + 2) (by omega) (.int .i64 (L.length : Int)) (.slice aj JA.length cj) (.slice an FN.length cn)
  refine bodyPost_ret (results_row_tmp rfl _ _ (w.heap.size + 2) 25 _ (0, 0) _ rfl hl Tryd.underlying25 rfl row25) rfl ⟨⟨_, _, HUS.out.2, .inl ⟨by rw [HTM.out]; exact HC.out, _, rfl, ?_⟩⟩, hbs⟩
  rw [HTM.out]
  exact isM_store3 (HIM.out.below HB11.out) HZ11.out _ _ _
 ·have K30 := (CkP.check_any ⟨(L.length : Int), JA, FN⟩ _ VY HIM.out).mono (fun e W' h => show e = .returned (.int .i64 3) ∧ Below VY.heap.size VY W' by obtain ⟨⟨x, h1, h2⟩, h3⟩ := h; exact ⟨by rw [h1, checkP_one h2 hc], h3⟩)
  have HC : Hid (checkP ⟨(L.length : Int), JA, FN⟩ 3 ∧ ¬ (lightP ⟨(SA : Int), A, fa⟩ = true ∧ lightP ⟨(SB : Int), B, fb⟩ = true)) := ⟨hc, hnl⟩
  clear hc hnl
  go_wp2_with (go_at_call 30; (with_reducible refine K30.mono ?_); clear K30; rintro e11 V11 ⟨rfl, hb11⟩; have HB11 : Hid (Below VY.heap.size VY V11) := hb11; have hz11 := (hb11.block _ (lt_at HX11.out)).trans HX11.out; have z0 := cell_of_row _ _ 0 _ _ _ hz11; have z1 := cell_of_row _ _ 1 _ _ _ hz11; have z2 := cell_of_row _ _ 2 _ _ _ hz11; have f0 := frozen_of_row _ _ 0 _ _ hz11; have f1 := frozen_of_row _ _ 1 _ _ hz11; have f2 := frozen_of_row _ _ 2 _ _ hz11; have HZ11 : Hid (V11.heap[w.heap.size + 2]? = some (.cells #[.int .i64 0, .slice none 0 0, .slice none 0 0] 25 (0, 0))) := hz11; clear hz11 hb11)
  have hl := laid3 HZ11.out (.int .i64 0) (.slice none 0 0) (.slice none 0 0)
  have hbe : Below w.heap.size w V11 := HBW11.out.trans (HB11.out.mono HBW11.out.size)
  have hbs := below3 hbe (P := w.heap.size + 2) (by omega) (.int .i64 0) (.slice none 0 0) (.slice none 0 0)
  exact bodyPost_ret (results_row_tmp rfl _ _ (w.heap.size + 2) 25 _ (0, 0) _ rfl hl Tryd.underlying25 rfl row25) rfl ⟨⟨_, _, HUS.out.2, .inr ⟨by rw [HTM.out]; exact HC.out.1, HC.out.2, rfl⟩⟩, hbs⟩
end Go.Proofs.YtfjocafepigijaaDoor.Cu
