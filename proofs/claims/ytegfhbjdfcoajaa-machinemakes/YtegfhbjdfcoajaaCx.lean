/- Chain, where both machines are right and few. -/
import Derived.Test.YtegfhbjdfcoajaaRe
namespace Go.Proofs.Ytegfhbjdfcoajaa.Cx
open Go.RowKit Mv Ps Bw Ma Mc Wk Sy Rz Eb Tb Ei Tu Rb Re

def cArc (st : Int) (f : Int × Int) : A5 := (f.1, st, 0, 0, f.2)
def TwoA (W : World) (F1 F2 : List A5) (r1 r2 : Value) (wq : World) : Prop := Below W.heap.size W wq ∧ wq.ownsRow W.heap.size 46 5 r1 F1.length (acs F1) ∧ wq.ownsRow W.heap.size 46 5 r2 F2.length (acs F2)
set_option maxHeartbeats 8000000 in
set_option maxRecDepth 100000 in
theorem chain_made (a b : M) (va vb : Value) (w : World) (ha : IsM w va a) (hb : IsM w vb b) (hx : checkP a 0) (hy : checkP b 0) (fa : fewB a = true) (fb : fewB b = true) :
    Calls Try.prog 13 #[va, vb] w fun e w' => ∃ v, e = .returned (.tuple #[v, .int .i64 0]) ∧ IsM w' v (chainM a b) ∧ Below w.heap.size w w' := by
  have c22 := fun W (hW : Below w.heap.size w W) => both_any a b va vb 0 0 W (ha.below hW) (hb.below hW) hx hy
  have e00 : both 0 0 = 0 := rfl
  rw [e00] at c22
  obtain ⟨sa1, sa2, sa3, _⟩ := ok_iff.1 hx
  obtain ⟨sb1, sb2, sb3, _⟩ := ok_iff.1 hy
  have sa0 := (size_iff.1 sa1).1
  have sb0 := (size_iff.1 sb1).1
  obtain ⟨fa1, fa2, fa3⟩ := few_iff.1 fa
  obtain ⟨fb1, fb2, fb3⟩ := few_iff.1 fb
  obtain ⟨st, arcs, fins⟩ := a
  obtain ⟨st', arcs', fins'⟩ := b
  obtain ⟨a1, a2, rfl, hA, hF⟩ := ha
  obtain ⟨b1, b2, rfl, hA', hF'⟩ := hb
  dsimp only at *
  have kA : ∀ W, Below w.heap.size w W → Calls Try.prog 23 #[.agg #[.int .i64 st, a1, a2], .int .i64 0] W fun e w' => ∃ r, e = .returned r ∧ w'.ownsRow (W.heap.size + 1) 46 5 r arcs.length (acs (arcs.map (mvA 0))) ∧ Below W.heap.size W w' := fun W hW => arcs_any st arcs 0 a1 a2 W (hA.below hW) (by omega) (by omega) (by omega) sa2 fa1
  have kB : ∀ W, Below w.heap.size w W → Calls Try.prog 23 #[.agg #[.int .i64 st', b1, b2], .int .i64 st] W fun e w' => ∃ r, e = .returned r ∧ w'.ownsRow (W.heap.size + 1) 46 5 r arcs'.length (acs (arcs'.map (mvA st))) ∧ Below W.heap.size W w' := fun W hW => arcs_any st' arcs' st b1 b2 W (hA'.below hW) (by omega) (by omega) (by omega) sb2 fb1
  have kFb : ∀ W, Below w.heap.size w W → Calls Try.prog 24 #[.agg #[.int .i64 st', b1, b2], .int .i64 st] W fun e w' => ∃ r, e = .returned r ∧ w'.ownsRow (W.heap.size + 1) 48 2 r fins'.length (fcs (fins'.map (mvF st))) ∧ Below W.heap.size W w' := fun W hW => fins_any st' fins' st b1 b2 W (hF'.below hW) (by omega) (by omega) (by omega) sb3 fb1
  have hb0 : ∀ o o' o'', Below w.heap.size w (((w.alloc o).alloc o').alloc o'') := fun o o' o'' => (((Below.refl _ w).alloc (Nat.le_refl _) o).alloc (by simp) o').alloc (by simp; omega) o''
  obtain ⟨i0, hi, hz0, hz1, hz2⟩ := info_parts info46
  obtain ⟨_, aa, ca, rfl, _, _⟩ := hA
  obtain ⟨_, af, cf, rfl, _, hFC⟩ := hF
  obtain ⟨_, ba, cb, rfl, _, _⟩ := hA'
  obtain ⟨_, bf, cg, rfl, _, _⟩ := hF'
  have HFC : Hid (fins.length = 0 ∨ ∃ b off, af = some ⟨b, off, none⟩ ∧ b < w.heap.size ∧ ∀ j u, (fcs fins)[j]? = some u → w.cell? ⟨b, off + j, none⟩ = some u) := hFC
  have HOK : Hid (∀ a ∈ fins, finB st a = true) := sa3
  have KA : Hid _ := kA
  have KB : Hid _ := kB
  have KFB : Hid _ := kFb
  clear hx hy fa fb sa1 sa2 sa3 sb1 sb2 sb3 kA kB kFb hFC
  go_enter Try.func13, Try.ntmps13
  go_wp2_with (go_at_call 22; refine (c22 _ (hb0 _ _ _)).mono ?_; rintro e w1 ⟨rfl, hb1⟩; have hbx := at_all hb1; have HBX : Hid _ := hbx; have bx := box_at hbx.1 (Below.refl _ _); obtain ⟨qa0, qa1, qa2⟩ := bx; have bz := box_at hbx.2.1 (Below.refl _ _); obtain ⟨qb0, qb1, qb2⟩ := bz; have l0 : w.heap.size < w1.heap.size := (by have := hbx.2.2.2.2; omega); have l1 : w.heap.size + 1 < w1.heap.size := (by have := hbx.2.2.2.2; omega); clear hbx hb1 c22)
  obtain ⟨W, hW⟩ : ∃ W, w1.alloc (.cells #[.int .i64 (st + st'), nilS, nilS] 25) = W := ⟨_, rfl⟩
  have HE : Hid (Em w1 (st + st') [] nilS [] nilS W) := hW ▸ Em.first w1 (st + st')
  rw [hW]
  clear hW qa0 qa1 qa2 qb0 qb1 qb2
  have bx := box_at HBX.out.1 HE.out.bel
  obtain ⟨qa0, qa1, qa2⟩ := bx
  have bz := box_at HBX.out.2.1 HE.out.bel
  obtain ⟨qb0, qb1, qb2⟩ := bz
  have HW0 : Hid (Below w.heap.size w W) := HBX.out.2.2.2.1.trans (HE.out.bel.mono HBX.out.2.2.2.1.size)
  have BXS : Hid (∀ W', Below W.heap.size W W' → W'.cell? ⟨w.heap.size, 0, none⟩ = some (.int .i64 st) ∧ W'.cell? ⟨w.heap.size, 1, none⟩ = some (.slice aa arcs.length ca) ∧ W'.cell? ⟨w.heap.size, 2, none⟩ = some (.slice af fins.length cf) ∧ W'.cell? ⟨w.heap.size + 1, 0, none⟩ = some (.int .i64 st') ∧ W'.cell? ⟨w.heap.size + 1, 1, none⟩ = some (.slice ba arcs'.length cb) ∧ W'.cell? ⟨w.heap.size + 1, 2, none⟩ = some (.slice bf fins'.length cg)) := fun W' hW' => by
    have bx := box_at HBX.out.1 (HE.out.below hW').bel
    have bz := box_at HBX.out.2.1 (HE.out.below hW').bel
    exact ⟨bx.1, bx.2.1, bx.2.2, bz.1, bz.2.1, bz.2.2⟩
  go_cut [] from 23 to 30 (fun wx => ∃ x n k, Em w1 (st + st') (arcs.map (mvA 0) ++ arcs'.map (mvA st)) (.slice x n k) [] nilS wx)
  case first =>
    go_region_held3 (fun W' => W'.cell? ⟨w.heap.size, 0, none⟩ = some (.int .i64 st) ∧ W'.cell? ⟨w.heap.size, 1, none⟩ = some (.slice aa arcs.length ca) ∧ W'.cell? ⟨w.heap.size, 2, none⟩ = some (.slice af fins.length cf) ∧ W'.cell? ⟨w.heap.size + 1, 0, none⟩ = some (.int .i64 st') ∧ W'.cell? ⟨w.heap.size + 1, 1, none⟩ = some (.slice ba arcs'.length cb) ∧ W'.cell? ⟨w.heap.size + 1, 2, none⟩ = some (.slice bf fins'.length cg)) (first | exact HSET.out | exact BXS.out _ HW4.out | exact BXS.out _ HT.out.1 | exact BXS.out _ HPA.out.1 | exact BXS.out _ HPB.out.1 | exact BXS.out _ (Below.refl _ W).drew | exact BXS.out _ (Below.refl _ W)) (first
      | (go_at_call 23; (with_reducible refine (KA.out _ (HW0.out.trans (HPB.out.1.mono HW0.out.size))).mono ?_); rintro e wa ⟨ra, rfl, hra, hba⟩; have HT : Hid (TwoA W (arcs.map (mvA 0)) (arcs'.map (mvA st)) ra rb wa) := ⟨HPB.out.1.trans (hba.mono HPB.out.1.size), by (rw [List.length_map]; exact hra.mono (Nat.le_succ_of_le HPB.out.1.size)), own_below HPB.out.2 hba⟩; clear hra hba)
      | (go_at_call 23; (with_reducible refine (KA.out _ HW0.out.drew).mono ?_); rintro e wa ⟨ra, rfl, hra, hba⟩; have HPA : Hid (Below W.heap.size W wa ∧ wa.ownsRow W.heap.size 46 5 ra (arcs.map (mvA 0)).length (acs (arcs.map (mvA 0)))) := ⟨(Below.refl _ W).drew.trans hba, by (rw [List.length_map]; exact hra.mono (Nat.le_succ _))⟩; clear hra hba)
      | (go_at_call 23; (with_reducible refine (KB.out _ (HW0.out.trans (HPA.out.1.mono HW0.out.size))).mono ?_); rintro e wb ⟨rb, rfl, hrb, hbb⟩; have HT : Hid (TwoA W (arcs.map (mvA 0)) (arcs'.map (mvA st)) ra rb wb) := ⟨HPA.out.1.trans (hbb.mono HPA.out.1.size), own_below HPA.out.2 hbb, by (rw [List.length_map]; exact hrb.mono (Nat.le_succ_of_le HPA.out.1.size))⟩; clear hrb hbb)
      | (go_at_call 23; (with_reducible refine (KB.out _ HW0.out.drew).mono ?_); rintro e wb ⟨rb, rfl, hrb, hbb⟩; have HPB : Hid (Below W.heap.size W wb ∧ wb.ownsRow W.heap.size 46 5 rb (arcs'.map (mvA st)).length (acs (arcs'.map (mvA st)))) := ⟨(Below.refl _ W).drew.trans hbb, by (rw [List.length_map]; exact hrb.mono (Nat.le_succ _))⟩; clear hrb hbb)
      | (refine step_rows rfl (.tmp 24) (.tmp 28) 22 rfl W.heap.size W.heap.size 46 i0 (.agg #[.int .i64 0, .int .i64 0, .int .i64 0, .int .i64 0, .int .i64 0]) 5 40 Try.underlying22 hi hz0 hz1 hz2 rfl (by decide) ra rb (arcs.map (mvA 0)).length (arcs'.map (mvA st)).length (acs (arcs.map (mvA 0))) (acs (arcs'.map (mvA st))) rfl rfl HT.out.2.1 HT.out.2.2 (acs_one _) (by simp <;> omega) (by simp <;> omega) HT.out.1.size ?_; intro y4 w4 ho4 hg4 hx4; obtain ⟨n4, a4, k4, hv4⟩ := own_any ho4; subst hv4; have HW4 : Hid (Below W.heap.size W w4) := HT.out.1.trans (below_of_grown hg4 HT.out.2.1 HT.out.1.size); have hE4 := Em.arcs0 (A' := (arcs.map (mvA 0) ++ arcs'.map (mvA st))) HE.out HW4.out (by (rw [List.length_append, show acs (arcs.map (mvA 0) ++ arcs'.map (mvA st)) = acs (arcs.map (mvA 0)) ++ acs (arcs'.map (mvA st)) by simp [acs]]; exact ho4)); have p1 := hE4.1.1; have p2 := hE4.1.2; have HE4 : Hid _ := hE4.2; have HSET : Hid _ := boxes_set HBX.out HE4.out; clear hE4 ho4 hg4 hx4))
    all_goals
      go_wp2_with fail
      go_meet
      case rel => exact ⟨_, _, _, HE4.out⟩
  case rest =>
  clear qa0 qa1 qa2 qb0 qb1 qb2 HE BXS HW0 W
  obtain ⟨x1, n1, k1, hE⟩ := hcut
  have HE1 : Hid (Em w1 (st + st') (arcs.map (mvA 0) ++ arcs'.map (mvA st)) (.slice x1 n1 k1) [] nilS wc) := hE
  have bz := box_at HBX.out.1 hE.bel
  obtain ⟨qc0, qc1, qc2⟩ := bz
  clear hE
  go_wp2
  clear qc0 qc1 qc2
  go_loopw [34] (fun iv wr => ∃ (k : Nat) (x : Option Addr) (nx cx : Nat), iv = .int .i64 (k : Int) ∧ k ≤ fins.length ∧ Em w1 (st + st') ((arcs.map (mvA 0) ++ arcs'.map (mvA st)) ++ (fins.take k).map (cArc st)) (.slice x nx cx) [] nilS wr) (fun iv _ => fins.length - (intOf iv).toNat)
  case atStart => exact ⟨0, x1, n1, k1, rfl, Nat.zero_le _, by simpa using HE1.out⟩
  case round =>
    obtain ⟨k, x, nx, cx, rfl, hk, hT⟩ := hrel
    have HTK : Hid (Em w1 (st + st') ((arcs.map (mvA 0) ++ arcs'.map (mvA st)) ++ (fins.take k).map (cArc st)) (.slice x nx cx) [] nilS wr) := hT
    have m1 := hT.c1
    have bz := box_at HBX.out.1 hT.bel
    obtain ⟨qc0, qc1, qc2⟩ := bz
    have bz := box_at HBX.out.2.1 hT.bel
    obtain ⟨qd0, qd1, qd2⟩ := bz
    have hbw : Below w.heap.size w wr := HBX.out.2.2.2.1.trans (hT.bel.mono HBX.out.2.2.2.1.size)
    have hGl : w1.heap.size < wr.heap.size := (Array.getElem?_eq_some_iff.1 hT.gb).1
    have hwl : w.heap.size < wr.heap.size := (by have := HBX.out.2.2.2.2; omega)
    have hwl2 : w.heap.size + 1 < wr.heap.size := (by have := HBX.out.2.2.2.2; omega)
    clear hT
    by_cases hlt : k < fins.length
    · obtain ⟨fb, fo, rfl, hfb, hfcs⟩ := HFC.out.resolve_left (by omega)
      have hat := fcs_at fins k hlt
      have hB := HOK.out _ (List.getElem_mem hlt)
      have hnx := fins_next (cArc st) fins k hlt
      obtain ⟨⟨f, x'⟩, hfk⟩ : ∃ a, fins[k] = a := ⟨_, rfl⟩
      rw [hfk] at hat hB hnx
      simp only [finB, decide_eq_true_eq] at hB
      have d0 : wr.cell? ⟨fb, fo + k * 2, none⟩ = some (.int .i64 f) := (hbw.cell hfb).trans (hfcs _ _ hat.1)
      have d1 : wr.cell? ⟨fb, fo + k * 2 + 1, none⟩ = some (.int .i64 x') := (hbw.cell hfb).trans (hfcs _ _ hat.2)
      have f1 : 0 ≤ f := by omega
      have f2 : f < 40 := by omega
      have g1 : w1.heap.size < wr.heap.size + 1 := by omega
      have g2 : w.heap.size < wr.heap.size + 1 := by omega
      have hlen : ((arcs.map (mvA 0) ++ arcs'.map (mvA st)) ++ (fins.take k).map (cArc st)).length ≤ 400 := by simp; omega
      have HNX : Hid _ := hnx
      have HBW : Hid _ := hbw
      clear hat hB hfk hnx hfcs hbw
      go_wp2_with (at_builtin; go_loud (refine wpList_append_own_at _ rfl _ _ 22 rfl (w1.heap.size + 1) 46 i0 (.agg #[.int .i64 0, .int .i64 0, .int .i64 0, .int .i64 0, .int .i64 0]) 5 40 Try.underlying22 hi hz0 hz1 hz2 rfl (by decide) (.slice x nx cx) _ (acs ((arcs.map (mvA 0) ++ arcs'.map (mvA st)) ++ (fins.take k).map (cArc st))) rfl ((HTK.out.ra.alloc _).alloc _) ⟨wr.heap.size + 1, 0, none⟩ 1 1 (acs [cArc st (f, x')]) rfl rfl (lit_cells' _ _ _ _) (acs_one _) (by unfold maxLen; omega) (by omega) (by simp; omega) ?_; intro v4 w4 ho4 hg4 _ hw4; obtain ⟨n4, x4, k4, hv4⟩ := own_any ho4; subst hv4; have hE := Em.arcs (B := [cArc st (f, x')]) HTK.out (two_new wr _ _) ho4 hg4 hw4; have p1 := hE.1.1; have p2 := hE.1.2; have HE4 : Hid _ := hE.2; clear hE ho4 hg4 hw4))
      go_roundw
      case rel => exact ⟨k + 1, _, _, _, by go_num, hlt, by rw [HNX.out, ← List.append_assoc]; exact HE4.out⟩
      case measure => simp [intOf]; omega
    · have ek : k = fins.length := by omega
      have hT := HTK.out
      rw [ek, List.take_length] at hT
      have HTE : Hid (Em w1 (st + st') ((arcs.map (mvA 0) ++ arcs'.map (mvA st)) ++ fins.map (cArc st)) (.slice x nx cx) [] nilS wr) := hT
      have hnx : nx ≤ 20000 := by
        obtain ⟨_, _, e⟩ := own_slice hT.ra
        simp only [Value.slice.injEq] at e
        rw [e.2.1]
        simp
        omega
      have hs3 : st + st' ≤ 3000 := by omega
      have HBW : Hid (Below w.heap.size w wr) := hbw
      clear hT ek m1 hbw
      go_wp2_with (first
        | (go_at_call 24; (with_reducible refine (KFB.out _ HBW.out).mono ?_); rintro e w5 ⟨r, rfl, hr, hbr⟩; obtain ⟨n5, y5, c5, hv5⟩ := own_any hr; subst hv5; have hE5 := HTE.out.fins (F' := fins'.map (mvF st)) hbr (by (rw [List.length_map]; exact hr.mono (Nat.le_succ _))); have p1 := hE5.1.1; have p2 := hE5.1.2; have HE5 : Hid _ := hE5.2; have t0 := hE5.2.c0; have t1 := hE5.2.c1; have t2 := hE5.2.c2; clear hE5 hr hbr)
        | (go_at_call 25; (with_reducible refine (few_any' (st + st') x y5 nx cx n5 c5 _ hs3 hnx).mono ?_); rintro e w9 ⟨rfl, hb9⟩; have hE9 := HE5.out.below hb9; have HE9 : Hid _ := hE9; have g3 := (hE9.bel.block _ HBX.out.2.2.2.2).trans HBX.out.2.2.1; have q0 := cell_of_row _ _ 0 _ _ _ g3; have q1 := cell_of_row _ _ 1 _ _ _ g3; have q2 := cell_of_row _ _ 2 _ _ _ g3; have f0 := frozen_of_row _ _ 0 _ _ g3; have f1 := frozen_of_row _ _ 1 _ _ g3; have f2 := frozen_of_row _ _ 2 _ _ g3; have G3 : Hid _ := g3; clear hE9 hb9))
      have hl := HE9.out.out (R := w.heap.size + 1 + 1) HBX.out.2.2.2.2 (by simp <;> omega) (by simp <;> omega) (HBX.out.2.2.2.1.trans (HE9.out.bel.mono HBX.out.2.2.2.1.size)) (by omega) G3.out
      exact bodyPost_ret (results_row_tmp rfl _ _ (w.heap.size + 1 + 1) 25 _ (0, 0) _ rfl hl.1 Try.underlying25 rfl row25) rfl ⟨_, rfl, hl.2.1, hl.2.2⟩
end Go.Proofs.Ytegfhbjdfcoajaa.Cx
