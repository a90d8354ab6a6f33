/- Either, where both machines are right and few. -/
import Derived.Test.YtegfhbjdfcoajaaEb
import Derived.Test.YtegfhbjdfcoajaaCz
namespace Go.Proofs.Ytegfhbjdfcoajaa.Ei
open Go.RowKit Mv Ps Bw Ma Mc Wk Sy Rz Eb Bw

theorem info48 : (Try.prog.info? 48).map (fun i => (i.zero, i.size, i.bytes)) = some (some (.agg #[.int .i64 0, .int .i64 0]), 2, 16) := by kernel_rfl
/-- a machine's box, in a later world -/
theorem box_at {W W' : World} {b : Nat} {p q r : Value} (h : W.heap[b]? = some (.cells #[p, q, r] 25 (0, 0))) (hb : Below W.heap.size W W') : W'.cell? ⟨b, 0, none⟩ = some p ∧ W'.cell? ⟨b, 1, none⟩ = some q ∧ W'.cell? ⟨b, 2, none⟩ = some r := by
  have g := (hb.block _ (Array.getElem?_eq_some_iff.1 h).1).trans h
  exact ⟨cell_of_row _ _ 0 _ 25 (0, 0) g, cell_of_row _ _ 1 _ 25 (0, 0) g, cell_of_row _ _ 2 _ 25 (0, 0) g⟩
theorem own_any {w : World} {base e size n : Nat} {v : Value} {xs : List Value} (h : w.ownsRow base e size v n xs) : ∃ n' a k, v = .slice a n' k := by
  obtain ⟨a, k, hv⟩ := own_slice h
  exact ⟨n, a, k, hv⟩
theorem either_eq (st st' : Int) (arcs arcs' : List A5) (fins fins' : List (Int × Int)) : (⟨1 + st + st', ([(0, 1, 0, 0, 0), (0, 1 + st, 0, 0, 0)] ++ arcs.map (mvA 1) ++ arcs'.map (mvA (1 + st))), (fins.map (mvF 1) ++ fins'.map (mvF (1 + st)))⟩ : M) = eitherM ⟨st, arcs, fins⟩ ⟨st', arcs', fins'⟩ := by
  unfold eitherM
  simp
/-- the boxes behind the last store -/
theorem boxes_set {w w1 W : World} {p q r p' q' r' : Value} {X : Prop} {st : Int} {A : List A5} {x : Value} {F : List (Int × Int)} {y : Value} (h : w1.heap[w.heap.size]? = some (.cells #[p, q, r] 25 (0, 0)) ∧ w1.heap[w.heap.size + 1]? = some (.cells #[p', q', r'] 25 (0, 0)) ∧ X) (hE : Em w1 st A x F y W) : W.cell? ⟨w.heap.size, 0, none⟩ = some p ∧ W.cell? ⟨w.heap.size, 1, none⟩ = some q ∧ W.cell? ⟨w.heap.size, 2, none⟩ = some r ∧ W.cell? ⟨w.heap.size + 1, 0, none⟩ = some p' ∧ W.cell? ⟨w.heap.size + 1, 1, none⟩ = some q' ∧ W.cell? ⟨w.heap.size + 1, 2, none⟩ = some r' := by
  have bx := box_at h.1 hE.bel
  have bz := box_at h.2.1 hE.bel
  exact ⟨bx.1, bx.2.1, bx.2.2, bz.1, bz.2.1, bz.2.2⟩
/-- two lists that were made one behind the other -/
def Two (W : World) (F1 F2 : List (Int × Int)) (r1 r2 : Value) (wq : World) : Prop := Below W.heap.size W wq ∧ wq.ownsRow W.heap.size 48 2 r1 F1.length (fcs F1) ∧ wq.ownsRow W.heap.size 48 2 r2 F2.length (fcs F2)

set_option maxHeartbeats 4000000 in
set_option maxRecDepth 100000 in
theorem either_made (a b : M) (va vb : Value) (w : World) (ha : IsM w va a) (hb : IsM w vb b) (hx : checkP a 0) (hy : checkP b 0) (fa : fewB a = true) (fb : fewB b = true) :
    Calls Try.prog 11 #[va, vb] w fun e w' => ∃ v, e = .returned (.tuple #[v, .int .i64 0]) ∧ IsM w' v (eitherM a b) ∧ Below w.heap.size w w' := by
  have c22 := fun W (hW : Below w.heap.size w W) => both_any a b va vb 0 0 W (ha.below hW) (hb.below hW) hx hy
  have e00 : both 0 0 = 0 := rfl
  rw [e00] at c22
  obtain ⟨sa1, sa2, sa3, _⟩ := ok_iff.1 hx
  obtain ⟨sb1, sb2, sb3, _⟩ := ok_iff.1 hy
  have sa0 := (size_iff.1 sa1).1
  have sb0 := (size_iff.1 sb1).1
  obtain ⟨fa1, fa2, fa3⟩ := few_iff.1 fa
  obtain ⟨fb1, fb2, fb3⟩ := few_iff.1 fb
  obtain ⟨st, arcs, fins⟩ := a
  obtain ⟨st', arcs', fins'⟩ := b
  obtain ⟨a1, a2, rfl, hA, hF⟩ := ha
  obtain ⟨b1, b2, rfl, hA', hF'⟩ := hb
  dsimp only at *
  have kA : ∀ W, Below w.heap.size w W → Calls Try.prog 23 #[.agg #[.int .i64 st, a1, a2], .int .i64 1] W fun e w' => ∃ r, e = .returned r ∧ (w'.ownsRow (W.heap.size + 1) 46 5 r arcs.length (acs (arcs.map (mvA 1))) ∧ Below W.heap.size W w') := fun W hW => arcs_any st arcs 1 a1 a2 W (hA.below hW) (by omega) (by omega) (by omega) sa2 fa1
  have kB : ∀ W, Below w.heap.size w W → Calls Try.prog 23 #[.agg #[.int .i64 st', b1, b2], .int .i64 (1 + st)] W fun e w' => ∃ r, e = .returned r ∧ (w'.ownsRow (W.heap.size + 1) 46 5 r arcs'.length (acs (arcs'.map (mvA (1 + st)))) ∧ Below W.heap.size W w') := fun W hW => arcs_any st' arcs' (1 + st) b1 b2 W (hA'.below hW) (by omega) (by omega) (by omega) sb2 fb1
  have kFa : ∀ W, Below w.heap.size w W → Calls Try.prog 24 #[.agg #[.int .i64 st, a1, a2], .int .i64 1] W fun e w' => ∃ r, e = .returned r ∧ w'.ownsRow (W.heap.size + 1) 48 2 r fins.length (fcs (fins.map (mvF 1))) ∧ Below W.heap.size W w' := fun W hW => fins_any st fins 1 a1 a2 W (hF.below hW) (by omega) (by omega) (by omega) sa3 fa1
  have kFb : ∀ W, Below w.heap.size w W → Calls Try.prog 24 #[.agg #[.int .i64 st', b1, b2], .int .i64 (1 + st)] W fun e w' => ∃ r, e = .returned r ∧ w'.ownsRow (W.heap.size + 1) 48 2 r fins'.length (fcs (fins'.map (mvF (1 + st)))) ∧ Below W.heap.size W w' := fun W hW => fins_any st' fins' (1 + st) b1 b2 W (hF'.below hW) (by omega) (by omega) (by omega) sb3 fb1
  have hb0 : ∀ o o' o'', Below w.heap.size w (((w.alloc o).alloc o').alloc o'') := fun o o' o'' => (((Below.refl _ w).alloc (Nat.le_refl _) o).alloc (by simp) o').alloc (by simp <;> omega) o''
  obtain ⟨i0, hi, hz0, hz1, hz2⟩ := info_parts info46
  obtain ⟨j0, hj, hy0, hy1, hy2⟩ := info_parts info48
  obtain ⟨_, aa, ca, rfl, _, _⟩ := hA
  obtain ⟨_, af, cf, rfl, _, _⟩ := hF
  obtain ⟨_, ba, cb, rfl, _, _⟩ := hA'
  obtain ⟨_, bf, cg, rfl, _, _⟩ := hF'
  have KA : Hid _ := kA
  have KB : Hid _ := kB
  have KFA : Hid _ := kFa
  have KFB : Hid _ := kFb
  clear hx hy fa fb sa1 sa2 sa3 sb1 sb2 sb3 kA kB kFa kFb
  go_enter Try.func11, Try.ntmps11
  go_wp2_with (first | (go_at_call 22; go_loud (refine (c22 _ (hb0 _ _ _)).mono ?_; rintro e w1 ⟨rfl, hb1⟩; have hbx := at_all hb1; have HBX : Hid _ := hbx; have bx := box_at hbx.1 (Below.refl _ _); obtain ⟨qa0, qa1, qa2⟩ := bx; have bz := box_at hbx.2.1 (Below.refl _ _); obtain ⟨qb0, qb1, qb2⟩ := bz; have l0 : w.heap.size < w1.heap.size := (by have := hbx.2.2.2.2; omega); have l1 : w.heap.size + 1 < w1.heap.size := (by have := hbx.2.2.2.2; omega); have l2 : w.heap.size < w1.heap.size + 1 := (by omega); have l3 : w.heap.size + 1 < w1.heap.size + 1 := (by omega); clear hbx hb1 c22)) | (at_builtin; go_loud (refine wpList_append_own_at _ rfl _ _ 22 rfl (w1.heap.size + 1) 46 i0 (.agg #[.int .i64 0, .int .i64 0, .int .i64 0, .int .i64 0, .int .i64 0]) 5 40 Try.underlying22 hi hz0 hz1 hz2 rfl (by decide) nilS 0 [] rfl (World.ownsRow_nil _ _ _ _) ⟨w1.heap.size + 1, 0, none⟩ 2 2 (acs [(0, 1, 0, 0, 0), (0, 1 + st, 0, 0, 0)]) rfl rfl (lit_cells' _ _ _ _) (acs_one _) (by unfold maxLen; omega) (by omega) (by simp <;> omega) ?_; intro v1 w2 ho1 hg1 _ hw1; obtain ⟨x1, k1, hv1⟩ := own_slice ho1; subst hv1; have hE := Em.arcs (B := [(0, 1, 0, 0, 0), (0, 1 + st, 0, 0, 0)]) (Em.first w1 (1 + st + st')) ((Below.refl _ _).alloc (Nat.le_refl _) _) ho1 hg1 hw1; have p1 := hE.1.1; have p2 := hE.1.2; have HE1 : Hid _ := hE.2; clear hE ho1 hg1 hw1)))
  obtain ⟨W, hW⟩ : ∃ W, w2.setCell ⟨w1.heap.size, 1, none⟩ (.slice x1 (0 + 2) k1) = W := ⟨_, rfl⟩
  have HE : Hid (Em w1 (1 + st + st') [(0, 1, 0, 0, 0), (0, 1 + st, 0, 0, 0)] (.slice x1 2 k1) [] nilS W) := hW ▸ HE1.out
  rw [hW]
  clear hW p1 p2 HE1 w2 qa0 qa1 qa2 qb0 qb1 qb2
  have m1 := HE.out.c1
  have bx := box_at HBX.out.1 HE.out.bel
  obtain ⟨qa0, qa1, qa2⟩ := bx
  have bz := box_at HBX.out.2.1 HE.out.bel
  obtain ⟨qb0, qb1, qb2⟩ := bz
  go_cut [] from 32 to 37 (fun wx => ∃ x n k, Em w1 (1 + st + st') ([(0, 1, 0, 0, 0), (0, 1 + st, 0, 0, 0)] ++ arcs.map (mvA 1)) (.slice x n k) [] nilS wx)
  case first =>
    go_region_law (first | (refine step_call2 rfl 23 Try.f23 Try.func23 (by kernel_rfl) (by kernel_rfl) (.tmp 34) (.const (.int .i64 1)) 25 3 rfl (.agg #[.int .i64 st, .slice aa arcs.length ca, .slice af fins.length cf]) (.int .i64 1) rfl rfl (fun r w3 => w3.ownsRow (W.heap.size + 1) 46 5 r arcs.length (acs (arcs.map (mvA 1))) ∧ Below W.heap.size W w3) ((KA.out W.drew (HBX.out.2.2.2.1.trans (HE.out.bel.mono HBX.out.2.2.2.1.size)).drew).mono (fun e w' ⟨r, h1, h2, h3⟩ => ⟨r, h1, h2, (Below.refl _ W).drew.trans h3⟩)) ?_; intro r w3 hr3; have HR3 : Hid _ := hr3; have m1' := (HE.out.below hr3.2).c1; have bx := box_at HBX.out.1 (HE.out.below hr3.2).bel; obtain ⟨qa0', qa1', qa2'⟩ := bx; have bz := box_at HBX.out.2.1 (HE.out.below hr3.2).bel; obtain ⟨qb0', qb1', qb2'⟩ := bz; clear hr3) | (refine step_rows rfl (.tmp 33) (.tmp 35) 22 rfl (w1.heap.size + 1) (W.heap.size + 1) 46 i0 (.agg #[.int .i64 0, .int .i64 0, .int .i64 0, .int .i64 0, .int .i64 0]) 5 40 Try.underlying22 hi hz0 hz1 hz2 rfl (by decide) (.slice x1 2 k1) r [(0, 1, 0, 0, 0), (0, 1 + st, 0, 0, 0)].length arcs.length (acs [(0, 1, 0, 0, 0), (0, 1 + st, 0, 0, 0)]) (acs (arcs.map (mvA 1))) rfl rfl (HE.out.below HR3.out.2).ra HR3.out.1 (acs_one _) (by simp <;> omega) (by simp <;> omega) (HE.out.below HR3.out.2).big ?_; intro x4 w4 ho4 hg4 hx4; obtain ⟨n4, a4, k4, hv4⟩ := own_any ho4; subst hv4; have hE4 := HE.out.arcs (B := (arcs.map (mvA 1))) HR3.out.2 (by rw [List.length_map]; exact ho4) hg4 hx4; have p1 := hE4.1.1; have p2 := hE4.1.2; have HE4 : Hid _ := hE4.2; clear hE4 ho4 hg4 hx4))
    all_goals
      go_wp2_with fail
      go_meet
      case rel => exact ⟨_, _, _, HE4.out⟩
  case rest =>
  clear m1 qa0 qa1 qa2 qb0 qb1 qb2 HE W
  go_upto_region 7 with fail
  have wr1 : IntKind.i64.wrap (1 + st) = 1 + st := by rw [IntKind.wrap_i64]; omega
  obtain ⟨x1, n1, k1, hE⟩ := hcut
  have HE : Hid (Em w1 (1 + st + st') ([(0, 1, 0, 0, 0), (0, 1 + st, 0, 0, 0)] ++ arcs.map (mvA 1)) (.slice x1 n1 k1) [] nilS wc) := hE
  clear hE
  obtain ⟨W, hW⟩ : ∃ W, wc = W := ⟨_, rfl⟩
  rw [hW] at HE ⊢
  clear hW wc
  have m1 := HE.out.c1
  have bx := box_at HBX.out.1 HE.out.bel
  obtain ⟨qa0, qa1, qa2⟩ := bx
  have bz := box_at HBX.out.2.1 HE.out.bel
  obtain ⟨qb0, qb1, qb2⟩ := bz
  go_cut [] from 38 to 46 (fun wx => ∃ x n k, Em w1 (1 + st + st') ([(0, 1, 0, 0, 0), (0, 1 + st, 0, 0, 0)] ++ arcs.map (mvA 1) ++ arcs'.map (mvA (1 + st))) (.slice x n k) [] nilS wx)
  case first =>
    go_region_law (first | (refine step_call2 rfl 23 Try.f23 Try.func23 (by kernel_rfl) (by kernel_rfl) (.tmp 40) (.tmp 43) 25 3 rfl (.agg #[.int .i64 st', .slice ba arcs'.length cb, .slice bf fins'.length cg]) (.int .i64 (1 + st)) rfl rfl (fun r w3 => w3.ownsRow (W.heap.size + 1) 46 5 r arcs'.length (acs (arcs'.map (mvA (1 + st)))) ∧ Below W.heap.size W w3) ((KB.out W.drew (HBX.out.2.2.2.1.trans (HE.out.bel.mono HBX.out.2.2.2.1.size)).drew).mono (fun e w' ⟨r, h1, h2, h3⟩ => ⟨r, h1, h2, (Below.refl _ W).drew.trans h3⟩)) ?_; intro r w3 hr3; have HR3 : Hid _ := hr3; have m1' := (HE.out.below hr3.2).c1; have bx := box_at HBX.out.1 (HE.out.below hr3.2).bel; obtain ⟨qa0', qa1', qa2'⟩ := bx; have bz := box_at HBX.out.2.1 (HE.out.below hr3.2).bel; obtain ⟨qb0', qb1', qb2'⟩ := bz; clear hr3) | (refine step_rows rfl (.tmp 39) (.tmp 44) 22 rfl (w1.heap.size + 1) (W.heap.size + 1) 46 i0 (.agg #[.int .i64 0, .int .i64 0, .int .i64 0, .int .i64 0, .int .i64 0]) 5 40 Try.underlying22 hi hz0 hz1 hz2 rfl (by decide) (.slice x1 n1 k1) r ([(0, 1, 0, 0, 0), (0, 1 + st, 0, 0, 0)] ++ arcs.map (mvA 1)).length arcs'.length (acs ([(0, 1, 0, 0, 0), (0, 1 + st, 0, 0, 0)] ++ arcs.map (mvA 1))) (acs (arcs'.map (mvA (1 + st)))) rfl rfl (HE.out.below HR3.out.2).ra HR3.out.1 (acs_one _) (by simp <;> omega) (by simp <;> omega) (HE.out.below HR3.out.2).big ?_; intro x4 w4 ho4 hg4 hx4; obtain ⟨n4, a4, k4, hv4⟩ := own_any ho4; subst hv4; have hE4 := HE.out.arcs (B := (arcs'.map (mvA (1 + st)))) HR3.out.2 (by rw [List.length_map]; exact ho4) hg4 hx4; have p1 := hE4.1.1; have p2 := hE4.1.2; have HE4 : Hid _ := hE4.2; clear hE4 ho4 hg4 hx4))
    all_goals
      go_wp2_with fail
      go_meet
      case rel => exact ⟨_, _, _, HE4.out⟩
  case rest =>
  clear m1 qa0 qa1 qa2 qb0 qb1 qb2 HE W wr1
  go_upto_region 8 with fail
  have wr1 : IntKind.i64.wrap (1 + st) = 1 + st := by rw [IntKind.wrap_i64]; omega
  obtain ⟨x1, n1, k1, hE⟩ := hcut
  have HE : Hid (Em w1 (1 + st + st') ([(0, 1, 0, 0, 0), (0, 1 + st, 0, 0, 0)] ++ arcs.map (mvA 1) ++ arcs'.map (mvA (1 + st))) (.slice x1 n1 k1) [] nilS wc) := hE
  clear hE
  obtain ⟨W, hW⟩ : ∃ W, wc = W := ⟨_, rfl⟩
  rw [hW] at HE ⊢
  clear hW wc
  have bx := box_at HBX.out.1 HE.out.bel
  obtain ⟨qa0, qa1, qa2⟩ := bx
  have bz := box_at HBX.out.2.1 HE.out.bel
  obtain ⟨qb0, qb1, qb2⟩ := bz
  have HW0 : Hid (Below w.heap.size w W) := HBX.out.2.2.2.1.trans (HE.out.bel.mono HBX.out.2.2.2.1.size)
  have BXS : Hid (∀ W', Below W.heap.size W W' → W'.cell? ⟨w.heap.size, 0, none⟩ = some (.int .i64 st) ∧ W'.cell? ⟨w.heap.size, 1, none⟩ = some (.slice aa arcs.length ca) ∧ W'.cell? ⟨w.heap.size, 2, none⟩ = some (.slice af fins.length cf) ∧ W'.cell? ⟨w.heap.size + 1, 0, none⟩ = some (.int .i64 st') ∧ W'.cell? ⟨w.heap.size + 1, 1, none⟩ = some (.slice ba arcs'.length cb) ∧ W'.cell? ⟨w.heap.size + 1, 2, none⟩ = some (.slice bf fins'.length cg)) := fun W' hW' => by
    have bx := box_at HBX.out.1 (HE.out.below hW').bel
    have bz := box_at HBX.out.2.1 (HE.out.below hW').bel
    exact ⟨bx.1, bx.2.1, bx.2.2, bz.1, bz.2.1, bz.2.2⟩
  go_cut [] from 47 to 55 (fun wx => ∃ x n k y n' k', Em w1 (1 + st + st') ([(0, 1, 0, 0, 0), (0, 1 + st, 0, 0, 0)] ++ arcs.map (mvA 1) ++ arcs'.map (mvA (1 + st))) (.slice x n k) (fins.map (mvF 1) ++ fins'.map (mvF (1 + st))) (.slice y n' k') wx)
  case first =>
    go_region_held3 (fun W' => W'.cell? ⟨w.heap.size, 0, none⟩ = some (.int .i64 st) ∧ W'.cell? ⟨w.heap.size, 1, none⟩ = some (.slice aa arcs.length ca) ∧ W'.cell? ⟨w.heap.size, 2, none⟩ = some (.slice af fins.length cf) ∧ W'.cell? ⟨w.heap.size + 1, 0, none⟩ = some (.int .i64 st') ∧ W'.cell? ⟨w.heap.size + 1, 1, none⟩ = some (.slice ba arcs'.length cb) ∧ W'.cell? ⟨w.heap.size + 1, 2, none⟩ = some (.slice bf fins'.length cg)) (first | exact HSET.out | exact BXS.out _ HW4.out | exact BXS.out _ HT.out.1 | exact BXS.out _ HPA.out.1 | exact BXS.out _ HPB.out.1 | exact BXS.out _ (Below.refl _ W).drew | exact BXS.out _ (Below.refl _ W)) (first
      | (go_at_call 24; (with_reducible refine (KFA.out _ (HW0.out.trans (HPB.out.1.mono HW0.out.size))).mono ?_); rintro e wa ⟨ra, rfl, hra, hba⟩; have HT : Hid (Two W (fins.map (mvF 1)) (fins'.map (mvF (1 + st))) ra rb wa) := ⟨HPB.out.1.trans (hba.mono HPB.out.1.size), by (rw [List.length_map]; exact hra.mono (Nat.le_succ_of_le HPB.out.1.size)), own_below HPB.out.2 hba⟩; clear hra hba)
      | (go_at_call 24; (with_reducible refine (KFA.out _ HW0.out.drew).mono ?_); rintro e wa ⟨ra, rfl, hra, hba⟩; have HPA : Hid (Below W.heap.size W wa ∧ wa.ownsRow W.heap.size 48 2 ra (fins.map (mvF 1)).length (fcs (fins.map (mvF 1)))) := ⟨(Below.refl _ W).drew.trans hba, by (rw [List.length_map]; exact hra.mono (Nat.le_succ _))⟩; clear hra hba)
      | (go_at_call 24; (with_reducible refine (KFB.out _ (HW0.out.trans (HPA.out.1.mono HW0.out.size))).mono ?_); rintro e wb ⟨rb, rfl, hrb, hbb⟩; have HT : Hid (Two W (fins.map (mvF 1)) (fins'.map (mvF (1 + st))) ra rb wb) := ⟨HPA.out.1.trans (hbb.mono HPA.out.1.size), own_below HPA.out.2 hbb, by (rw [List.length_map]; exact hrb.mono (Nat.le_succ_of_le HPA.out.1.size))⟩; clear hrb hbb)
      | (go_at_call 24; (with_reducible refine (KFB.out _ HW0.out.drew).mono ?_); rintro e wb ⟨rb, rfl, hrb, hbb⟩; have HPB : Hid (Below W.heap.size W wb ∧ wb.ownsRow W.heap.size 48 2 rb (fins'.map (mvF (1 + st))).length (fcs (fins'.map (mvF (1 + st))))) := ⟨(Below.refl _ W).drew.trans hbb, by (rw [List.length_map]; exact hrb.mono (Nat.le_succ _))⟩; clear hrb hbb)
      | (refine step_rows rfl (.tmp 48) (.tmp 53) 23 rfl W.heap.size W.heap.size 48 j0 (.agg #[.int .i64 0, .int .i64 0]) 2 16 Try.underlying23 hj hy0 hy1 hy2 rfl (by decide) ra rb (fins.map (mvF 1)).length (fins'.map (mvF (1 + st))).length (fcs (fins.map (mvF 1))) (fcs (fins'.map (mvF (1 + st)))) rfl rfl HT.out.2.1 HT.out.2.2 (fcs_one _) (by simp <;> omega) (by simp <;> omega) HT.out.1.size ?_; intro y4 w4 ho4 hg4 hx4; obtain ⟨n4, a4, k4, hv4⟩ := own_any ho4; subst hv4; have HW4 : Hid (Below W.heap.size W w4) := HT.out.1.trans (below_of_grown hg4 HT.out.2.1 HT.out.1.size); have hE4 := HE.out.fins (F' := (fins.map (mvF 1) ++ fins'.map (mvF (1 + st)))) HW4.out (by (rw [List.length_append, show fcs (fins.map (mvF 1) ++ fins'.map (mvF (1 + st))) = fcs (fins.map (mvF 1)) ++ fcs (fins'.map (mvF (1 + st))) by simp [fcs]]; exact ho4)); have p1 := hE4.1.1; have p2 := hE4.1.2; have HE4 : Hid _ := hE4.2; have HSET : Hid _ := boxes_set HBX.out HE4.out; clear hE4 ho4 hg4 hx4))
    all_goals
      go_wp2_with fail
      go_meet
      case rel => exact ⟨_, _, _, _, _, _, HE4.out⟩
  case rest =>
  clear qa0 qa1 qa2 qb0 qb1 qb2 HE BXS HW0 W wr1
  have hE := hcut
  clear hcut
  obtain ⟨x, nx, cx, y, ny, cy, hE⟩ := hE
  have cc0 := hE.c0
  have cc1 := hE.c1
  have cc2 := hE.c2
  have HE : Hid (Em w1 (1 + st + st') ([(0, 1, 0, 0, 0), (0, 1 + st, 0, 0, 0)] ++ arcs.map (mvA 1) ++ arcs'.map (mvA (1 + st))) (.slice x nx cx) (fins.map (mvF 1) ++ fins'.map (mvF (1 + st))) (.slice y ny cy) wc) := hE
  clear hE
  have hnx : nx ≤ 20000 := by
    obtain ⟨_, _, e⟩ := own_slice HE.out.ra
    simp only [Value.slice.injEq] at e
    rw [e.2.1]
    simp
    omega
  have hs3 : 1 + st + st' ≤ 3000 := by omega
  go_wp2_with (go_at_call 25; (with_reducible refine (few_any' (1 + st + st') x y nx cx ny cy _ hs3 hnx).mono ?_); rintro e w9 ⟨rfl, hb9⟩; have hE9 := HE.out.below hb9; have HE9 : Hid _ := hE9; have g3 := (hE9.bel.block _ HBX.out.2.2.2.2).trans HBX.out.2.2.1; have q0 := cell_of_row _ _ 0 _ _ _ g3; have q1 := cell_of_row _ _ 1 _ _ _ g3; have q2 := cell_of_row _ _ 2 _ _ _ g3; have f0 := frozen_of_row _ _ 0 _ _ g3; have f1 := frozen_of_row _ _ 1 _ _ g3; have f2 := frozen_of_row _ _ 2 _ _ g3; have G3 : Hid _ := g3; clear hE9 hb9)
  have hl := HE9.out.out (R := w.heap.size + 1 + 1) HBX.out.2.2.2.2 (by simp <;> omega) (by simp <;> omega) (HBX.out.2.2.2.1.trans (HE9.out.bel.mono HBX.out.2.2.2.1.size)) (by omega) G3.out
  have hM := hl.2.1
  rw [either_eq] at hM
  exact bodyPost_ret (results_row_tmp rfl _ _ (w.heap.size + 1 + 1) 25 _ (0, 0) _ rfl hl.1 Try.underlying25 rfl row25) rfl ⟨_, rfl, hM, hl.2.2⟩
end Go.Proofs.Ytegfhbjdfcoajaa.Ei
