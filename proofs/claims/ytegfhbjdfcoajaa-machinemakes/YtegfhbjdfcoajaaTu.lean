/- Turn, where the machine is right and few. -/
import Derived.Test.YtegfhbjdfcoajaaTb
import Derived.Test.YtegfhbjdfcoajaaEi
namespace Go.Proofs.Ytegfhbjdfcoajaa.Tu
open Go.RowKit Mv Ps Bw Ma Mc Wk Sy Rz Eb Tb Ei

theorem at_both {w wr : World} {a b : Obj} (h : Below ((w.alloc a).alloc b).heap.size ((w.alloc a).alloc b) wr) : wr.heap[w.heap.size]? = some a ∧ wr.heap[w.heap.size + 1]? = some b ∧ Below w.heap.size w wr ∧ w.heap.size + 1 < wr.heap.size := by
  have s1 : (w.alloc a).heap.size = w.heap.size + 1 := by simp
  have s2 : ((w.alloc a).alloc b).heap.size = w.heap.size + 1 + 1 := by simp
  have h3 := at_second h
  refine ⟨(h.block _ (by omega)).trans ?_, h3.1, h3.2, (Array.getElem?_eq_some_iff.1 h3.1).1⟩
  exact (Below.heap_alloc _ _ _ (by omega)).trans (heap_alloc_new w a)
theorem sx_set {w1 : World} {sb f b j : Nat} {u x : Value} (hne : ¬ b = sb) (hx : w1.cell? ⟨b, j, none⟩ = some x) : (w1.setCell ⟨sb, f, none⟩ u).cell? ⟨b, j, none⟩ = some x := (World.cell?_of_block (w := w1) (Below.heap_setCell w1 ⟨sb, f, none⟩ u b (fun e => hne e))).trans hx
theorem set_size (w : World) (a : Addr) (u : Value) : (w.setCell a u).heap.size = w.heap.size := by show (w.heap.modify _ _).size = _; simp
theorem keep46 {V wr : World} {a b c d e : Value} {G : Nat} {X : Value} (hs : V.heap.size = wr.heap.size) (hG : G < wr.heap.size) (hc : V.cell? ⟨G, 1, none⟩ = some X) :
    (V.alloc (.cells #[a, b, c, d, e] 46)).drew.cell? ⟨G, 1, none⟩ = some X ∧ (V.alloc (.cells #[a, b, c, d, e] 46)).drew.cell? ⟨wr.heap.size, 2, none⟩ = some c ∧ (V.alloc (.cells #[a, b, c, d, e] 46)).drew.cell? ⟨wr.heap.size, 3, none⟩ = some d := by
  have hn := heap_alloc_new V (.cells #[a, b, c, d, e] 46)
  refine ⟨(World.cell?_of_block (w := V) (Below.heap_alloc V _ G (by rw [hs]; exact hG))).trans hc, ?_, ?_⟩
  · rw [← hs]; exact cell_of_row _ _ 2 _ 46 (0, 0) hn
  · rw [← hs]; exact cell_of_row _ _ 3 _ 46 (0, 0) hn
section
variable {W wr : World} {st : Int} {arcs : List A5} {g n cx G k : Nat} {F : List (Int × Int)} {y : Value} {f t i o x : Int}
theorem turn_step1 (h : Tm W st (upA turnA arcs k) (.slice (some ⟨g, 0, none⟩) n cx) F y G wr) (hlt : k < arcs.length) (hak : arcs[k] = (f, t, i, o, x)) : Tm W st (upA turnA arcs (k + 1)) (.slice (some ⟨g, 0, none⟩) n cx) F y G ((wr.setCell ⟨g, k * 5 + 2, none⟩ (.int .i64 o)).setCell ⟨g, k * 5 + 3, none⟩ (.int .i64 i)) := by
  have hl : k < (upA turnA arcs k).length := by rw [upA_length]; exact hlt
  have h1 := h.set (k * 5 + 2) (.int .i64 o) (A' := (upA turnA arcs k).set k (f, t, o, o, x)) (by simp) (acs_set _ k hl 2 (by omega) _ _ (by rw [upA_at _ _ _ hlt, hak]; rfl))
  have h2 := h1.set (k * 5 + 3) (.int .i64 i) (A' := ((upA turnA arcs k).set k (f, t, o, o, x)).set k (f, t, o, i, x)) (by simp) (acs_set _ k (by simpa using hl) 3 (by omega) _ _ (by simp [ac]))
  rw [List.set_set, show ((f, t, o, i, x) : A5) = turnA arcs[k] by rw [hak]; rfl, upA_set _ _ _ hlt] at h2
  exact h2
theorem turn_step2 (h : Tm W st (upA turnA arcs k) (.slice (some ⟨g, 0, none⟩) n cx) F y G wr) (hlt : k < arcs.length) (hak : arcs[k] = (f, t, i, o, x)) : Tm W st (upA turnA arcs (k + 1)) (.slice (some ⟨g, 0, none⟩) n cx) F y G ((wr.setCell ⟨g, k * 5 + 3, none⟩ (.int .i64 i)).setCell ⟨g, k * 5 + 2, none⟩ (.int .i64 o)) := by
  have hl : k < (upA turnA arcs k).length := by rw [upA_length]; exact hlt
  have h1 := h.set (k * 5 + 3) (.int .i64 i) (A' := (upA turnA arcs k).set k (f, t, i, i, x)) (by simp) (acs_set _ k hl 3 (by omega) _ _ (by rw [upA_at _ _ _ hlt, hak]; rfl))
  have h2 := h1.set (k * 5 + 2) (.int .i64 o) (A' := ((upA turnA arcs k).set k (f, t, i, i, x)).set k (f, t, o, i, x)) (by simp) (acs_set _ k (by simpa using hl) 2 (by omega) _ _ (by simp [ac]))
  rw [List.set_set, show ((f, t, o, i, x) : A5) = turnA arcs[k] by rw [hak]; rfl, upA_set _ _ _ hlt] at h2
  exact h2
theorem side_step (h : Tm W st (upA sideA arcs k) (.slice (some ⟨g, 0, none⟩) n cx) F y G wr) (hlt : k < arcs.length) (hak : arcs[k] = (f, t, i, o, x)) : Tm W st (upA sideA arcs (k + 1)) (.slice (some ⟨g, 0, none⟩) n cx) F y G (wr.setCell ⟨g, k * 5 + 3, none⟩ (.int .i64 i)) := by
  have hl : k < (upA sideA arcs k).length := by rw [upA_length]; exact hlt
  have h1 := h.set (k * 5 + 3) (.int .i64 i) (A' := (upA sideA arcs k).set k (f, t, i, i, x)) (by simp) (acs_set _ k hl 3 (by omega) _ _ (by rw [upA_at _ _ _ hlt, hak]; rfl))
  rw [show ((f, t, i, i, x) : A5) = sideA arcs[k] by rw [hak]; rfl, upA_set _ _ _ hlt] at h1
  exact h1
end
theorem tm_more {W V : World} {st : Int} {A : List A5} {x : Value} {F : List (Int × Int)} {y : Value} {G : Nat} (h : Tm W st A x F y G V) (o : Obj) : Tm W st A x F y G (V.alloc o) ∧ Tm W st A x F y G (V.alloc o).drew :=
  ⟨h.below ((Below.refl _ V).alloc (Nat.le_refl _) o), h.below ((Below.refl _ V).alloc (Nat.le_refl _) o).drew⟩
theorem fr_drew {V V' : World} {e size n : Nat} {r : Value} {xs : List Value} (h : Fr V.drew V' e size r n xs) : Fr V V' e size r n xs := ⟨(Below.refl _ V).drew.trans h.1, h.2⟩
theorem lW1 {W wx : World} {o : Obj} (h : Below (W.alloc o).drew.heap.size (W.alloc o).drew wx) : Below W.heap.size W wx :=
  ((Below.refl _ W).alloc (Nat.le_refl _) o).drew.trans (h.mono (by show _ ≤ (W.alloc o).heap.size; simp))
theorem lW2 {W V wx : World} {o : Obj} (hq : Below W.heap.size W V) (h : Below (V.alloc o).heap.size (V.alloc o) wx) : Below W.heap.size W wx :=
  (hq.alloc hq.size o).trans (h.mono (by have := hq.size; simp; omega))
theorem gL1 {W wx : World} {o : Obj} (h : Below (W.alloc o).drew.heap.size (W.alloc o).drew wx) : wx.heap[W.heap.size]? = some o := (h.block _ (by show _ < (W.alloc o).heap.size; simp)).trans (heap_alloc_new W o)
theorem gL2 {W V wx : World} {o : Obj} (hg : V.heap[W.heap.size]? = some o) (h : Below V.heap.size V wx) : wx.heap[W.heap.size]? = some o := (h.block _ (Array.getElem?_eq_some_iff.1 hg).1).trans hg
theorem gL3 {V wx : World} {o : Obj} (h : Below (V.alloc o).heap.size (V.alloc o) wx) : wx.heap[V.heap.size]? = some o := (h.block _ (by simp)).trans (heap_alloc_new V o)

set_option maxHeartbeats 8000000 in
set_option maxRecDepth 100000 in
theorem turn_made (a : M) (va : Value) (w : World) (ha : IsM w va a) (hx : checkP a 0) (fa : fewB a = true) :
    Calls Try.prog 17 #[va] w fun e w' => ∃ v, e = .returned (.tuple #[v, .int .i64 0]) ∧ IsM w' v (turnM a) ∧ Below w.heap.size w w' := by
  have c26 : ∀ W, Below w.heap.size w W → Calls Try.prog 26 #[va] W fun e W' => e = .returned (.int .i64 0) ∧ Below W.heap.size W W' := fun W hW => (CkP.check_any a va W (ha.below hW)).mono (fun e W' ⟨⟨z, h1, h2⟩, h3⟩ => ⟨by rw [h1, checkP_one h2 hx], h3⟩)
  obtain ⟨sa1, sa2, sa3, _⟩ := ok_iff.1 hx
  have sa0 := (size_iff.1 sa1).1
  obtain ⟨fa1, fa2, fa3⟩ := few_iff.1 fa
  obtain ⟨st, arcs, fins⟩ := a
  obtain ⟨a1, a2, rfl, hA, hF⟩ := ha
  dsimp only at *
  have kA : ∀ W, Below w.heap.size w W → Calls Try.prog 23 #[.agg #[.int .i64 st, a1, a2], .int .i64 0] W fun e w' => ∃ r, e = .returned r ∧ w'.ownsRow (W.heap.size + 1) 46 5 r arcs.length (acs arcs) ∧ Below W.heap.size W w' := fun W hW => by
    have := arcs_any st arcs 0 a1 a2 W (hA.below hW) (by omega) (by omega) (by omega) sa2 fa1
    rwa [mv_zero] at this
  have kF : ∀ W, Below w.heap.size w W → Calls Try.prog 24 #[.agg #[.int .i64 st, a1, a2], .int .i64 0] W fun e w' => ∃ r, e = .returned r ∧ w'.ownsRow (W.heap.size + 1) 48 2 r fins.length (fcs fins) ∧ Below W.heap.size W w' := fun W hW => by
    have := fins_any st fins 0 a1 a2 W (hF.below hW) (by omega) (by omega) (by omega) sa3 fa1
    rwa [mvF_zero] at this
  have hb0 : ∀ o o', Below w.heap.size w ((w.alloc o).alloc o') := fun o o' => ((Below.refl _ w).alloc (Nat.le_refl _) o).alloc (by simp) o'
  obtain ⟨_, aa, ca, rfl, _, _⟩ := hA
  obtain ⟨_, af, cf, rfl, _, _⟩ := hF
  have KA : Hid _ := kA
  have KF : Hid _ := kF
  clear hx fa sa1 sa2 sa3 kA kF
  go_enter Try.func17, Try.ntmps17
  go_wp2_with (go_at_call 26; refine (c26 _ (hb0 _ _)).mono ?_; rintro e W ⟨rfl, hb1⟩; have hbx := at_both hb1; have HBX : Hid _ := hbx; clear hbx hb1 c26)
  have bx := box_at HBX.out.1 (Below.refl _ _)
  obtain ⟨qa0, qa1, qa2⟩ := bx
  have HW0 : Hid (Below w.heap.size w W) := HBX.out.2.2.1
  have BXS : Hid (∀ W', Below W.heap.size W W' → W'.cell? ⟨w.heap.size, 0, none⟩ = some (.int .i64 st) ∧ W'.cell? ⟨w.heap.size, 1, none⟩ = some (.slice aa arcs.length ca) ∧ W'.cell? ⟨w.heap.size, 2, none⟩ = some (.slice af fins.length cf)) := fun W' hW' => box_at HBX.out.1 hW'
  go_cut [5] from 14 to 20 (fun s wx => ∃ x nx cx y ny cy G, s = .pointer (some ⟨G, 0, none⟩) ∧ Tm W st arcs (.slice x nx cx) fins (.slice y ny cy) G wx)
  case first =>
    go_region_held3 (fun W' => W'.cell? ⟨w.heap.size, 0, none⟩ = some (.int .i64 st) ∧ W'.cell? ⟨w.heap.size, 1, none⟩ = some (.slice aa arcs.length ca) ∧ W'.cell? ⟨w.heap.size, 2, none⟩ = some (.slice af fins.length cf)) (first | exact BXS.out _ (Below.refl _ W).drew | exact BXS.out _ ((Below.refl _ W).alloc (Nat.le_refl _) _).drew | exact BXS.out _ HQX.out | exact BXS.out _ HQY.out | exact BXS.out _ (HQX.out.alloc HQX.out.size _) | exact BXS.out _ (HQY.out.alloc HQY.out.size _) | exact BXS.out _ (oXYL (fr_drew HX.out) HY.out).bel | exact BXS.out _ (oYXL (fr_drew HY.out) HX.out).bel | exact BXS.out _ (oXLY (fr_drew HX.out) HY.out).bel | exact BXS.out _ (oYLX (fr_drew HY.out) HX.out).bel | exact BXS.out _ (oLXY (fr_drew HX.out) HY.out).bel | exact BXS.out _ (oLYX (fr_drew HY.out) HX.out).bel) (first
      | (go_at_call 23; (with_reducible refine (KA.out _ ?hw).mono ?_); (case hw => (first | exact HW0.out.drew | exact (HW0.out.alloc HW0.out.size _).drew | exact HW0.out.trans (HQX.out.mono HW0.out.size) | exact HW0.out.trans (HQY.out.mono HW0.out.size) | exact (HW0.out.trans (HQX.out.mono HW0.out.size)).alloc (Nat.le_trans HW0.out.size HQX.out.size) _ | exact (HW0.out.trans (HQY.out.mono HW0.out.size)).alloc (Nat.le_trans HW0.out.size HQY.out.size) _)); rintro e wx ⟨r, rfl, hr, hbr⟩; obtain ⟨nx, xa, cx, hv⟩ := own_any hr; subst hv; have HX : Hid (Fr _ wx 46 5 (.slice xa nx cx) arcs.length (acs arcs)) := ⟨hbr, hr⟩; (first | (have HQX : Hid (Below W.heap.size W wx) := (Below.refl _ W).drew.trans hbr) | (have HQX : Hid (Below W.heap.size W wx) := lW1 hbr) | (have HQX : Hid (Below W.heap.size W wx) := HQY.out.trans (hbr.mono HQY.out.size)) | (have HQX : Hid (Below W.heap.size W wx) := lW2 HQY.out hbr)); (first | (have gx := gL1 hbr; have q0 := cell_of_row _ _ 0 _ _ _ gx; have q1 := cell_of_row _ _ 1 _ _ _ gx; have q2 := cell_of_row _ _ 2 _ _ _ gx; have f0 := frozen_of_row _ _ 0 _ _ gx; have f1 := frozen_of_row _ _ 1 _ _ gx; have f2 := frozen_of_row _ _ 2 _ _ gx) | (have gx := gL2 gy hbr; have q0 := cell_of_row _ _ 0 _ _ _ gx; have q1 := cell_of_row _ _ 1 _ _ _ gx; have q2 := cell_of_row _ _ 2 _ _ _ gx; have f0 := frozen_of_row _ _ 0 _ _ gx; have f1 := frozen_of_row _ _ 1 _ _ gx; have f2 := frozen_of_row _ _ 2 _ _ gx) | (have gx := gL3 hbr; have q0 := cell_of_row _ _ 0 _ _ _ gx; have q1 := cell_of_row _ _ 1 _ _ _ gx; have q2 := cell_of_row _ _ 2 _ _ _ gx; have f0 := frozen_of_row _ _ 0 _ _ gx; have f1 := frozen_of_row _ _ 1 _ _ gx; have f2 := frozen_of_row _ _ 2 _ _ gx) | skip); clear hr hbr)
      | (go_at_call 24; (with_reducible refine (KF.out _ ?hw).mono ?_); (case hw => (first | exact HW0.out.drew | exact (HW0.out.alloc HW0.out.size _).drew | exact HW0.out.trans (HQX.out.mono HW0.out.size) | exact HW0.out.trans (HQY.out.mono HW0.out.size) | exact (HW0.out.trans (HQX.out.mono HW0.out.size)).alloc (Nat.le_trans HW0.out.size HQX.out.size) _ | exact (HW0.out.trans (HQY.out.mono HW0.out.size)).alloc (Nat.le_trans HW0.out.size HQY.out.size) _)); rintro e wy ⟨r, rfl, hr, hbr⟩; obtain ⟨ny, ya, cy, hv⟩ := own_any hr; subst hv; have HY : Hid (Fr _ wy 48 2 (.slice ya ny cy) fins.length (fcs fins)) := ⟨hbr, hr⟩; (first | (have HQY : Hid (Below W.heap.size W wy) := (Below.refl _ W).drew.trans hbr) | (have HQY : Hid (Below W.heap.size W wy) := lW1 hbr) | (have HQY : Hid (Below W.heap.size W wy) := HQX.out.trans (hbr.mono HQX.out.size)) | (have HQY : Hid (Below W.heap.size W wy) := lW2 HQX.out hbr)); (first | (have gy := gL1 hbr; have q0 := cell_of_row _ _ 0 _ _ _ gy; have q1 := cell_of_row _ _ 1 _ _ _ gy; have q2 := cell_of_row _ _ 2 _ _ _ gy; have f0 := frozen_of_row _ _ 0 _ _ gy; have f1 := frozen_of_row _ _ 1 _ _ gy; have f2 := frozen_of_row _ _ 2 _ _ gy) | (have gy := gL2 gx hbr; have q0 := cell_of_row _ _ 0 _ _ _ gy; have q1 := cell_of_row _ _ 1 _ _ _ gy; have q2 := cell_of_row _ _ 2 _ _ _ gy; have f0 := frozen_of_row _ _ 0 _ _ gy; have f1 := frozen_of_row _ _ 1 _ _ gy; have f2 := frozen_of_row _ _ 2 _ _ gy) | (have gy := gL3 hbr; have q0 := cell_of_row _ _ 0 _ _ _ gy; have q1 := cell_of_row _ _ 1 _ _ _ gy; have q2 := cell_of_row _ _ 2 _ _ _ gy; have f0 := frozen_of_row _ _ 0 _ _ gy; have f1 := frozen_of_row _ _ 1 _ _ gy; have f2 := frozen_of_row _ _ 2 _ _ gy) | skip); clear hr hbr))
    all_goals
      go_wp2_with fail
      go_meet
      case rel => (first | exact ⟨_, _, _, _, _, _, _, rfl, oXYL (fr_drew HX.out) HY.out⟩ | exact ⟨_, _, _, _, _, _, _, rfl, oYXL (fr_drew HY.out) HX.out⟩ | exact ⟨_, _, _, _, _, _, _, rfl, oXLY (fr_drew HX.out) HY.out⟩ | exact ⟨_, _, _, _, _, _, _, rfl, oYLX (fr_drew HY.out) HX.out⟩ | exact ⟨_, _, _, _, _, _, _, rfl, oLXY (fr_drew HX.out) HY.out⟩ | exact ⟨_, _, _, _, _, _, _, rfl, oLYX (fr_drew HY.out) HX.out⟩)
  case rest =>
  obtain ⟨x, nx, cx, y, ny, cy, G, rfl, hT⟩ := hcut
  have hnx : nx = arcs.length := by
    obtain ⟨_, _, e⟩ := own_slice hT.ra
    simp only [Value.slice.injEq] at e
    exact e.2.1
  subst hnx
  have HT : Hid (Tm W st arcs (.slice x arcs.length cx) fins (.slice y ny cy) G wc) := hT
  have m1 := hT.c1
  clear hT qa0 qa1 qa2 BXS
  go_wp2
  go_loopw [24] (fun iv wr => ∃ k : Nat, iv = .int .i64 (k : Int) ∧ k ≤ arcs.length ∧ Tm W st (upA turnA arcs k) (.slice x arcs.length cx) fins (.slice y ny cy) G wr) (fun iv _ => arcs.length - (intOf iv).toNat)
  case atStart => exact ⟨0, rfl, Nat.zero_le _, HT.out⟩
  case round =>
    obtain ⟨k, rfl, hk, hT⟩ := hrel
    have HTK : Hid (Tm W st (upA turnA arcs k) (.slice x arcs.length cx) fins (.slice y ny cy) G wr) := hT
    clear hT m1
    by_cases hlt : k < arcs.length
    · obtain ⟨g, rfl⟩ : ∃ g, x = some ⟨g, 0, none⟩ := by
        rcases HTK.out.ra.2 with ⟨_, h0⟩ | ⟨g, cap, cur, hv, _⟩
        · rw [upA_length] at h0; omega
        · simp only [Value.slice.injEq] at hv; exact ⟨g, hv.1⟩
      have hra := HTK.out.ra
      rw [upA_length] at hra
      have hat := acs_at (upA turnA arcs k) k (by rw [upA_length]; exact hlt)
      rw [upA_at turnA arcs k hlt] at hat
      obtain ⟨⟨af', at', ai, ao, aw⟩, hak⟩ : ∃ a, arcs[k] = a := ⟨_, rfl⟩
      rw [hak] at hat
      have d0 : wr.cell? ⟨g, k * 5, none⟩ = some (.int .i64 af') := (hra.cellAt (k * 5) (by omega)).trans hat.1
      have d1 : wr.cell? ⟨g, k * 5 + 1, none⟩ = some (.int .i64 at') := (hra.cellAt (k * 5 + 1) (by omega)).trans hat.2.1
      have d2 : wr.cell? ⟨g, k * 5 + 2, none⟩ = some (.int .i64 ai) := (hra.cellAt (k * 5 + 2) (by omega)).trans hat.2.2.1
      have d3 : wr.cell? ⟨g, k * 5 + 3, none⟩ = some (.int .i64 ao) := (hra.cellAt (k * 5 + 3) (by omega)).trans hat.2.2.2.1
      have d4 : wr.cell? ⟨g, k * 5 + 4, none⟩ = some (.int .i64 aw) := (hra.cellAt (k * 5 + 4) (by omega)).trans hat.2.2.2.2
      have e2 := hra.frozenAt (k * 5 + 2)
      have e3 := hra.frozenAt (k * 5 + 3)
      have hgl : g < wr.heap.size := (hra.lt g rfl).2
      have hGl : G < wr.heap.size := (Array.getElem?_eq_some_iff.1 HTK.out.gb).1
      have hne : ¬ G = g := fun e => HTK.out.ax (by rw [e]; rfl)
      have m1 := HTK.out.c1
      have HAK : Hid (arcs[k] = (af', at', ai, ao, aw)) := hak
      clear hat hak hra
      go_upto_region 8 with fail
      go_region_held3 (fun W2 => W2.cell? ⟨G, 1, none⟩ = some (.slice (some ⟨g, 0, none⟩) arcs.length cx) ∧ W2.cell? ⟨wr.heap.size, 2, none⟩ = some (.int .i64 ai) ∧ W2.cell? ⟨wr.heap.size, 3, none⟩ = some (.int .i64 ao)) (first | exact keep46 rfl hGl m1 | exact keep46 (set_size _ _ _) hGl (sx_set hne m1) | exact keep46 ((set_size _ _ _).trans (set_size _ _ _)) hGl (sx_set hne (sx_set hne m1))) (fail)
      all_goals
        go_wp2
        go_roundw
        case rel => exact ⟨k + 1, by go_num, hlt, by first | exact (tm_more (turn_step1 HTK.out hlt HAK.out) _).2 | exact (tm_more (turn_step2 HTK.out hlt HAK.out) _).2⟩
        case measure => simp [intOf]; omega
    · have ek : k = arcs.length := by omega
      have hT := HTK.out
      rw [ek, upA_end] at hT
      have HTE : Hid (Tm W st (arcs.map turnA) (.slice x arcs.length cx) fins (.slice y ny cy) G wr) := hT
      have t0 := cell_of_row _ _ 0 _ _ _ hT.gb
      have t1 := cell_of_row _ _ 1 _ _ _ hT.gb
      have t2 := cell_of_row _ _ 2 _ _ _ hT.gb
      have g3 := (hT.bel.block _ HBX.out.2.2.2).trans HBX.out.2.1
      have q0 := cell_of_row _ _ 0 _ _ _ g3
      have q1 := cell_of_row _ _ 1 _ _ _ g3
      have q2 := cell_of_row _ _ 2 _ _ _ g3
      have f0 := frozen_of_row _ _ 0 _ _ g3
      have f1 := frozen_of_row _ _ 1 _ _ g3
      have f2 := frozen_of_row _ _ 2 _ _ g3
      have G3 : Hid _ := g3
      clear hT g3 ek
      dsimp at t0 t1 t2
      go_wp2
      have hl := HTE.out.out (R := w.heap.size + 1) HBX.out.2.2.2 (by simp <;> omega) (by omega) (HBX.out.2.2.1.trans (HTE.out.bel.mono HBX.out.2.2.1.size)) (by omega) G3.out
      exact bodyPost_ret (results_row_tmp rfl _ _ (w.heap.size + 1) 25 _ (0, 0) _ rfl hl.1 Try.underlying25 rfl row25) rfl ⟨_, rfl, hl.2.1, hl.2.2⟩
end Go.Proofs.Ytegfhbjdfcoajaa.Tu
