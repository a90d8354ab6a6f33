/- Repeat, where the machine is right and few. -/
import Derived.Test.YtegfhbjdfcoajaaRb
namespace Go.Proofs.Ytegfhbjdfcoajaa.Re
open Go.RowKit Mv Ps Bw Ma Mc Wk Sy Rz Eb Tb Ei Tu Rb

theorem low3 {V w2 w3 : World} {o : Obj} (h : Below V.heap.size V w2) (hb : Below (V.heap.size + 1) (w2.alloc o) w3) : Below V.heap.size V w3 := (h.alloc h.size o).trans (hb.mono (by omega))
theorem own3 {V w2 w3 : World} {arcs : List A5} {v : Value} (_ : Below V.heap.size V w2) (ho : w3.ownsRow (V.heap.size + 1) 46 5 v (arcs.length + 1) (acs (arcs.map (mvA 1)) ++ acs [(0, 1, 0, 0, 0)])) : w3.ownsRow V.heap.size 46 5 v (arcs.map (mvA 1) ++ [(0, 1, 0, 0, 0)]).length (acs (arcs.map (mvA 1) ++ [(0, 1, 0, 0, 0)])) := by
  have e : acs (arcs.map (mvA 1) ++ [(0, 1, 0, 0, 0)]) = acs (arcs.map (mvA 1)) ++ acs [(0, 1, 0, 0, 0)] := by simp [acs]
  rw [e, List.length_append, List.length_map]
  exact ho.mono (Nat.le_succ _)
theorem two_new (wr : World) (o o' : Obj) : Below wr.heap.size wr ((wr.alloc o).alloc o') := ((Below.refl _ wr).alloc (Nat.le_refl _) o).alloc (by simp) o'
def rArc (f : Int × Int) : A5 := (1 + f.1, 0, 0, 0, f.2)
set_option maxHeartbeats 8000000 in
set_option maxRecDepth 100000 in
theorem repeat_made (a : M) (va : Value) (w : World) (ha : IsM w va a) (hx : checkP a 0) (fa : fewB a = true) :
    Calls Try.prog 16 #[va] w fun e w' => ∃ v, e = .returned (.tuple #[v, .int .i64 0]) ∧ IsM w' v (repeatM a) ∧ Below w.heap.size w w' := by
  have c26 : ∀ W, Below w.heap.size w W → Calls Try.prog 26 #[va] W fun e W' => e = .returned (.int .i64 0) ∧ Below W.heap.size W W' := fun W hW => (CkP.check_any a va W (ha.below hW)).mono (fun e W' ⟨⟨z, h1, h2⟩, h3⟩ => ⟨by rw [h1, checkP_one h2 hx], h3⟩)
  obtain ⟨sa1, sa2, sa3, _⟩ := ok_iff.1 hx
  have sa0 := (size_iff.1 sa1).1
  obtain ⟨fa1, fa2, fa3⟩ := few_iff.1 fa
  obtain ⟨st, arcs, fins⟩ := a
  obtain ⟨a1, a2, rfl, hA, hF⟩ := ha
  dsimp only at *
  have kA : ∀ W, Below w.heap.size w W → Calls Try.prog 23 #[.agg #[.int .i64 st, a1, a2], .int .i64 1] W fun e w' => ∃ r, e = .returned r ∧ w'.ownsRow (W.heap.size + 1) 46 5 r arcs.length (acs (arcs.map (mvA 1))) ∧ Below W.heap.size W w' := fun W hW => arcs_any st arcs 1 a1 a2 W (hA.below hW) (by omega) (by omega) (by omega) sa2 fa1
  have hb0 : ∀ o o', Below w.heap.size w ((w.alloc o).alloc o') := fun o o' => ((Below.refl _ w).alloc (Nat.le_refl _) o).alloc (by simp) o'
  obtain ⟨i0, hi, hz0, hz1, hz2⟩ := info_parts info46
  obtain ⟨_, aa, ca, rfl, _, _⟩ := hA
  obtain ⟨_, af, cf, rfl, _, hFC⟩ := hF
  have HFC : Hid (fins.length = 0 ∨ ∃ b off, af = some ⟨b, off, none⟩ ∧ b < w.heap.size ∧ ∀ j u, (fcs fins)[j]? = some u → w.cell? ⟨b, off + j, none⟩ = some u) := hFC
  have HOK : Hid (∀ a ∈ fins, finB st a = true) := sa3
  have KA : Hid _ := kA
  clear hx fa sa1 sa2 sa3 kA hFC
  go_enter Try.func16, Try.ntmps16
  go_wp2_with (first
    | (go_at_call 26; refine (c26 _ (hb0 _ _)).mono ?_; rintro e W ⟨rfl, hb1⟩; have hbx := at_both hb1; have HBX : Hid _ := hbx; have bx := box_at hbx.1 (Below.refl _ _); obtain ⟨qa0, qa1, qa2⟩ := bx; have l0 : w.heap.size < W.heap.size := (by have := hbx.2.2.2; omega); have l1 : w.heap.size < W.heap.size + 1 := (by omega); have HT0 : Hid _ := Tm.first W (1 + st); clear hbx hb1 c26)
    | (go_at_call 23; (with_reducible refine (KA.out _ ?hw).mono ?_); (case hw => exact HBX.out.2.2.1.trans (HT0.out.bel.mono HBX.out.2.2.1.size)); rintro e w2 ⟨r, rfl, hr, hbr⟩; obtain ⟨nr, ra, cr, hv⟩ := own_any hr; subst hv; have HFR : Hid (Fr _ w2 46 5 (.slice ra nr cr) arcs.length (acs (arcs.map (mvA 1)))) := ⟨hbr, hr⟩; clear hr hbr)
    | (at_builtin; go_loud (refine wpList_append_own_at _ rfl _ _ 22 rfl _ 46 i0 (.agg #[.int .i64 0, .int .i64 0, .int .i64 0, .int .i64 0, .int .i64 0]) 5 40 Try.underlying22 hi hz0 hz1 hz2 rfl (by decide) _ arcs.length (acs (arcs.map (mvA 1))) rfl (HFR.out.2.alloc _) ⟨w2.heap.size, 0, none⟩ 1 1 (acs [(0, 1, 0, 0, 0)]) rfl rfl (lit_cells _ _ _) (acs_one _) (by unfold maxLen; omega) (by omega) (by have := HFR.out.1.size; simp at this; simp <;> omega) ?_; intro v1 w3 ho1 hg1 _ hw1; obtain ⟨n1, x1, k1, hv1⟩ := own_any ho1; subst hv1; have hb3 := below_of_grown hg1 (HFR.out.2.alloc _) (by have := HFR.out.1.size; simp at this; simp <;> omega); have hE := Tm.arcs0 (A' := arcs.map (mvA 1) ++ [(0, 1, 0, 0, 0)]) HT0.out (low3 HFR.out.1 hb3) (own3 HFR.out.1 ho1); have p1 := hE.1.1; have p2 := hE.1.2; have HE1 : Hid (Tm W (1 + st) (arcs.map (mvA 1) ++ [(0, 1, 0, 0, 0)]) (.slice x1 n1 k1) [(0, 0)] (.slice (some ⟨W.heap.size, 0, none⟩) 1 1) (W.heap.size + 1) (w3.setCell ⟨W.heap.size + 1, 1, none⟩ (.slice x1 n1 k1))) := hE.2; have bz := box_at HBX.out.1 hE.2.bel; obtain ⟨qc0, qc1, qc2⟩ := bz; clear hE ho1 hg1 hw1 hb3)))
  clear qa0 qa1 qa2 qc0 qc1 qc2 p1 p2
  go_loopw [29] (fun iv wr => ∃ (k : Nat) (x : Option Addr) (nx cx : Nat), iv = .int .i64 (k : Int) ∧ k ≤ fins.length ∧ Tm W (1 + st) (arcs.map (mvA 1) ++ [(0, 1, 0, 0, 0)] ++ (fins.take k).map rArc) (.slice x nx cx) [(0, 0)] (.slice (some ⟨W.heap.size, 0, none⟩) 1 1) (W.heap.size + 1) wr) (fun iv _ => fins.length - (intOf iv).toNat)
  case atStart => exact ⟨0, x1, n1, k1, rfl, Nat.zero_le _, by simpa using HE1.out⟩
  case round =>
    obtain ⟨k, x, nx, cx, rfl, hk, hT⟩ := hrel
    have HTK : Hid (Tm W (1 + st) (arcs.map (mvA 1) ++ [(0, 1, 0, 0, 0)] ++ (fins.take k).map rArc) (.slice x nx cx) [(0, 0)] (.slice (some ⟨W.heap.size, 0, none⟩) 1 1) (W.heap.size + 1) wr) := hT
    have m1 := hT.c1
    have bz := box_at HBX.out.1 hT.bel
    obtain ⟨qc0, qc1, qc2⟩ := bz
    have hbw : Below w.heap.size w wr := HBX.out.2.2.1.trans (hT.bel.mono HBX.out.2.2.1.size)
    have hGl : W.heap.size + 1 < wr.heap.size := (Array.getElem?_eq_some_iff.1 hT.gb).1
    have hwl : w.heap.size < wr.heap.size := (by have := hbw.size; have := HBX.out.2.2.2; have := hT.bel.size; omega)
    clear hT
    by_cases hlt : k < fins.length
    · obtain ⟨fb, fo, rfl, hfb, hfcs⟩ := HFC.out.resolve_left (by omega)
      have hat := fcs_at fins k hlt
      have hB := HOK.out _ (List.getElem_mem hlt)
      have hnx := fins_next rArc fins k hlt
      obtain ⟨⟨f, x'⟩, hfk⟩ : ∃ a, fins[k] = a := ⟨_, rfl⟩
      rw [hfk] at hat hB hnx
      simp only [finB, decide_eq_true_eq] at hB
      have d0 : wr.cell? ⟨fb, fo + k * 2, none⟩ = some (.int .i64 f) := (hbw.cell hfb).trans (hfcs _ _ hat.1)
      have d1 : wr.cell? ⟨fb, fo + k * 2 + 1, none⟩ = some (.int .i64 x') := (hbw.cell hfb).trans (hfcs _ _ hat.2)
      have f1 : 0 ≤ f := by omega
      have f2 : f < 40 := by omega
      have g1 : W.heap.size + 1 < wr.heap.size + 1 := by omega
      have g2 : w.heap.size < wr.heap.size + 1 := by omega
      have hlen : (arcs.map (mvA 1) ++ [((0, 1, 0, 0, 0) : A5)] ++ (fins.take k).map rArc).length ≤ 200 := by simp; omega
      have HNX : Hid _ := hnx
      have HBW : Hid _ := hbw
      clear hat hB hfk hnx hfcs hbw
      go_wp2_with (at_builtin; go_loud (refine wpList_append_own_at _ rfl _ _ 22 rfl W.heap.size 46 i0 (.agg #[.int .i64 0, .int .i64 0, .int .i64 0, .int .i64 0, .int .i64 0]) 5 40 Try.underlying22 hi hz0 hz1 hz2 rfl (by decide) (.slice x nx cx) _ (acs (arcs.map (mvA 1) ++ [(0, 1, 0, 0, 0)] ++ (fins.take k).map rArc)) rfl ((HTK.out.ra.alloc _).alloc _) ⟨wr.heap.size + 1, 0, none⟩ 1 1 (acs [rArc (f, x')]) rfl rfl (lit_cells' _ _ _ _) (acs_one _) (by unfold maxLen; omega) (by omega) (by simp; omega) ?_; intro v4 w4 ho4 hg4 _ hw4; obtain ⟨n4, x4, k4, hv4⟩ := own_any ho4; subst hv4; have hE := Tm.arcs (B := [rArc (f, x')]) HTK.out (two_new wr _ _) ho4 hg4 hw4; have p1 := hE.1.1; have p2 := hE.1.2; have HE4 : Hid _ := hE.2; clear hE ho4 hg4 hw4))
      go_roundw
      case rel => exact ⟨k + 1, _, _, _, by go_num, hlt, by rw [HNX.out, ← List.append_assoc]; exact HE4.out⟩
      case measure => simp [intOf]; omega
    · have ek : k = fins.length := by omega
      have hT := HTK.out
      rw [ek, List.take_length] at hT
      have HTE : Hid (Tm W (1 + st) (arcs.map (mvA 1) ++ [(0, 1, 0, 0, 0)] ++ fins.map rArc) (.slice x nx cx) [(0, 0)] (.slice (some ⟨W.heap.size, 0, none⟩) 1 1) (W.heap.size + 1) wr) := hT
      have t0 := cell_of_row _ _ 0 _ _ _ hT.gb
      have t2 := cell_of_row _ _ 2 _ _ _ hT.gb
      have hnx : nx ≤ 20000 := by
        obtain ⟨_, _, e⟩ := own_slice hT.ra
        simp only [Value.slice.injEq] at e
        rw [e.2.1]
        simp
        omega
      have hs3 : 1 + st ≤ 3000 := by omega
      clear hT ek
      dsimp at t0 t2
      go_wp2_with (go_at_call 25; (with_reducible refine (few_any' (1 + st) x (some ⟨W.heap.size, 0, none⟩) nx cx 1 1 _ hs3 hnx).mono ?_); rintro e w9 ⟨rfl, hb9⟩; have hE9 := HTE.out.below hb9; have HE9 : Hid _ := hE9; have g3 := (hE9.bel.block _ HBX.out.2.2.2).trans HBX.out.2.1; have q0 := cell_of_row _ _ 0 _ _ _ g3; have q1 := cell_of_row _ _ 1 _ _ _ g3; have q2 := cell_of_row _ _ 2 _ _ _ g3; have f0 := frozen_of_row _ _ 0 _ _ g3; have f1 := frozen_of_row _ _ 1 _ _ g3; have f2 := frozen_of_row _ _ 2 _ _ g3; have G3 : Hid _ := g3; clear hE9 hb9)
      have hl := HE9.out.out (R := w.heap.size + 1) HBX.out.2.2.2 (by simp <;> omega) (by simp) (HBX.out.2.2.1.trans (HE9.out.bel.mono HBX.out.2.2.1.size)) (by omega) G3.out
      exact bodyPost_ret (results_row_tmp rfl _ _ (w.heap.size + 1) 25 _ (0, 0) _ rfl hl.1 Try.underlying25 rfl row25) rfl ⟨_, rfl, hl.2.1, hl.2.2⟩

end Go.Proofs.Ytegfhbjdfcoajaa.Re
