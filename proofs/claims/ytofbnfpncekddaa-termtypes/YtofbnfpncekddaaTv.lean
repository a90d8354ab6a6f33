/- The document's TypeOf. No conditions. -/
import Derived.Test.YtofbnfpncekddaaTu
namespace Go.Proofs.Ytofbnfpncekddaa.Te
open Go.RowKit

set_option maxHeartbeats 8000000 in
theorem typeOf_doc (d dc : Nat) (t : Tm) (b : Option Addr) (e0 : Nat) (a : Option Addr) (c : Nat) (cons : List Ty) (ac : Option Addr) (cc : Nat) (w : World) (h : TmAt w d t b e0 a c) (hcs : TysAt w dc cons ac cc) :
    Calls Try.prog 5 #[vtm t b e0 a c, .slice ac cons.length cc] w fun e w' => AnsT w (typR t cons) e w' := by
  have hf := hcs.few.1
  dsimp only at hf
  obtain ⟨k, n, y, ks⟩ := t
  have hb2 := two_boxes w (.cells #[.int .i64 k, .int .i64 n, .int .i64 y.kind, .int .i64 y.n, .slice b y.kids.length e0, .slice a ks.length c] 27) (.cells #[.int .i64 0, .int .i64 0, .slice none 0 0] 24)
  obtain ⟨W0, hW0⟩ : ∃ W0, (w.alloc (.cells #[.int .i64 k, .int .i64 n, .int .i64 y.kind, .int .i64 y.n, .slice b y.kids.length e0, .slice a ks.length c] 27)).alloc (.cells #[.int .i64 0, .int .i64 0, .slice none 0 0] 24) = W0 := ⟨_, rfl⟩
  rw [hW0] at hb2
  obtain ⟨hx1, hx2, hs0, hb0⟩ := hb2
  have HW0 : Hid ((w.alloc (.cells #[.int .i64 k, .int .i64 n, .int .i64 y.kind, .int .i64 y.n, .slice b y.kids.length e0, .slice a ks.length c] 27)).alloc (.cells #[.int .i64 0, .int .i64 0, .slice none 0 0] 24) = W0) := hW0
  have hsW : w.heap.size + 2 ≤ W0.heap.size := by omega
  have HT : Hid (TyAt W0 (dc + 1) ⟨0, 0, cons⟩ ac cc) := TyAt.below hb0 hcs
  have K7 := fun w1 (hb : Below w.heap.size w w1) => checkm_doc d ⟨k, n, y, ks⟩ b e0 a c w1 (h.below hb)
  have K13 := fun (h1 : ckc cons = 0) (h2 : ckm ⟨k, n, y, ks⟩ = 0) w1 (hb : Below w.heap.size w w1) => doesD_all d ⟨k, n, y, ks⟩ b e0 a c w w1 [] cons none 0 ac cc h (ckm_ok h2).2 (fun _ hy => by cases hy) (ckc_ok h1).2 (by have := (ckm_ok h2).1; simp; omega) (ckc_ok h1).1 hb ⟨dc, hcs⟩ (.inl ⟨rfl, rfl, rfl⟩)
  obtain ⟨r, hr⟩ : ∃ r, typR ⟨k, n, y, ks⟩ cons = r := ⟨_, rfl⟩
  rw [hr]
  have HR : Hid ((ckc cons ≠ 0 → r = (ckc cons, noTy)) ∧ (ckc cons = 0 → ckm ⟨k, n, y, ks⟩ ≠ 0 → r = (ckm ⟨k, n, y, ks⟩, noTy)) ∧ (ckc cons = 0 → ckm ⟨k, n, y, ks⟩ = 0 → r = tyOf ⟨k, n, y, ks⟩ [] cons)) := by
    rw [← hr]
    unfold typR
    exact ⟨fun h1 => by rw [if_pos h1], fun h1 h2 => by rw [if_neg (by simp [h1]), if_pos h2], fun h1 h2 => by rw [if_neg (by simp [h1]), if_neg (by simp [h2])]⟩
  have HCK : Hid (ckc cons = if 20 < cons.length then 7 else fz (cons.map ck)) := rfl
  generalize ckc cons = r1 at *
  generalize ckm ⟨k, n, y, ks⟩ = r2 at *
  rw [List.reverse_nil] at K13
  generalize tyOf ⟨k, n, y, ks⟩ [] cons = r3 at *
  obtain ⟨r3, y3⟩ := r3
  unfold vtm at K7 K13 ⊢
  dsimp only at K7 K13 ⊢
  rw [show ([] : List Ty).length = 0 from rfl] at K13
  clear hW0 h hcs hr hs0
  have m0 := cell_of_row _ _ 0 _ _ _ hx2
  have m1 := cell_of_row _ _ 1 _ _ _ hx2
  have m2 := cell_of_row _ _ 2 _ _ _ hx2
  have f0 := frozen_of_row _ _ 0 _ 24 hx2
  have f1 := frozen_of_row _ _ 1 _ 24 hx2
  have f2 := frozen_of_row _ _ 2 _ 24 hx2
  by_cases h20 : 20 < cons.length
  · have h20' : (20 : Int) < (cons.length : Int) := by omega
    have h7 : r1 = 7 := by rw [HCK.out, if_pos h20]
    have HRR : Hid (r = (7, noTy)) := by (show r = (7, noTy); rw [← h7]; exact HR.out.1 (by omega))
    clear h7
    go_enter Try.func5, Try.ntmps5
    go_upto_region 1 with fail
    rw [HW0.out]
    clear HW0
    go_wp2
    have hl3 := laid_box hx2 0 0 none 0 0
    refine bodyPost_ret (results_row_tmp rfl _ _ (w.heap.size + 1) 24 _ (0, 0) _ rfl hl3 Try.underlying24 rfl size24) rfl ?_
    exact ansT_bad hb0 (by omega) HRR.out
  · have h20' : ¬ (20 : Int) < (cons.length : Int) := by omega
    have HOK : Hid (fz (cons.map ck) = r1) := by (show fz (cons.map ck) = r1; rw [HCK.out, if_neg h20])
    clear m0 m1 m2 f0 f1 f2
    go_enter Try.func5, Try.ntmps5
    go_upto_region 1 with fail
    rw [HW0.out]
    clear HW0
    go_wp2
    go_loopw [6, 7] (fun iv _ wr => ∃ j : Nat, iv = .int .i64 (j : Int) ∧ j ≤ cons.length ∧ (∀ i (hi : i < cons.length), i < j → ck cons[i] = 0) ∧ Below W0.heap.size W0 wr) (fun iv _ _ => cons.length - (intOf iv).toNat)
    case atStart => exact ⟨0, rfl, by omega, fun i _ h => by omega, Below.refl _ _⟩
    case round =>
      obtain ⟨j, rfl, hj, hz, hB⟩ := hrel
      have HZ : Hid (∀ i (hi : i < cons.length), i < j → ck cons[i] = 0) := hz
      have hX1 := (hB.block w.heap.size (by omega)).trans hx1
      have hX2 := (hB.block (w.heap.size + 1) (by omega)).trans hx2
      have hbwr : Below w.heap.size w wr := hb0.trans (hB.mono hb0.size)
      have hsr := hB.size
      clear hz
      by_cases hjl : j < cons.length
      · have hjl' : (j : Int) < (cons.length : Int) := by omega
        obtain ⟨g, off, a', c', rfl, hg, c0, c1, c2, ht⟩ := (HT.out.below hB).kid hjl
        dsimp only at c0 c1 c2 ht
        have K11 := check_doc dc cons[j] a' c' wr ht
        unfold vty at K11
        obtain ⟨x, hx⟩ : ∃ x, ck cons[j] = x := ⟨_, rfl⟩
        rw [hx] at K11
        have HX : Hid (ck cons[j] = x) := hx
        clear ht hx
        by_cases hx0 : x = 0
        · subst hx0
          go_wp2_with (go_at_call 11; (with_reducible refine K11.mono ?_); rintro e w2 ⟨rfl, hb2⟩)
          go_roundw
          case rel => exact ⟨j + 1, by go_num, by omega, fun i hi h => by (by_cases e : i = j; (subst e; exact HX.out); exact HZ.out i hi (by omega)), hB.trans (hb2.mono hB.size)⟩
          case measure => simp [intOf]; omega
        · have bx : (x != 0) = true := bne_iff_ne.2 hx0
          have h1x : r1 = x := by
            have hjl2 : j < (cons.map ck).length := by simp; exact hjl
            rw [← HOK.out, fz_at hjl2 (fun i hi h => by rw [List.getElem_map]; exact HZ.out i (by simpa using hi) h) (by rw [List.getElem_map, HX.out]; exact hx0), List.getElem_map, HX.out]
          have HRR : Hid (r = (x, noTy)) := by (show r = (x, noTy); rw [← h1x]; exact HR.out.1 (by rw [h1x]; exact hx0))
          clear h1x
          go_wp2_with (go_at_call 11; (with_reducible refine K11.mono ?_); rintro e w2 ⟨rfl, hb2⟩; have hU := (hb2.block (w.heap.size + 1) (by omega)).trans hX2; have m0 := cell_of_row _ _ 0 _ _ _ hU; have m1 := cell_of_row _ _ 1 _ _ _ hU; have m2 := cell_of_row _ _ 2 _ _ _ hU; have f0 := frozen_of_row _ _ 0 _ 24 hU; have f1 := frozen_of_row _ _ 1 _ 24 hU; have f2 := frozen_of_row _ _ 2 _ 24 hU)
          have hl3 := laid_box hU 0 0 none 0 0
          refine bodyPost_ret (results_row_tmp rfl _ _ (w.heap.size + 1) 24 _ (0, 0) _ rfl hl3 Try.underlying24 rfl size24) rfl ?_
          exact ansT_bad (hbwr.trans (hb2.mono hbwr.size)) (by omega) HRR.out
      · have hjl' : ¬ (j : Int) < (cons.length : Int) := by omega
        have h10 : r1 = 0 := by
          rw [← HOK.out]
          refine fz_zero (fun x hx => ?_)
          obtain ⟨t', ht', rfl⟩ := List.mem_map.1 hx
          obtain ⟨i, hi, rfl⟩ := List.getElem_of_mem ht'
          exact HZ.out i hi (by omega)
        subst h10
        have t0 := cell_of_row _ _ 0 _ _ _ hX1
        have t1 := cell_of_row _ _ 1 _ _ _ hX1
        have t2 := cell_of_row _ _ 2 _ _ _ hX1
        have t3 := cell_of_row _ _ 3 _ _ _ hX1
        have t4 := cell_of_row _ _ 4 _ _ _ hX1
        have t5 := cell_of_row _ _ 5 _ _ _ hX1
        go_upto_region 10 with (go_at_call 8; (with_reducible refine (K7 _ hbwr).mono ?_); rintro e w2 ⟨rfl, hb2⟩)
        have hbw2 : Below w.heap.size w w2 := hbwr.trans (hb2.mono hbwr.size)
        have hs2 := hb2.size
        have hY1 := (hb2.block w.heap.size (by omega)).trans hX1
        have hY2 := (hb2.block (w.heap.size + 1) (by omega)).trans hX2
        clear hX1 hX2 K7 hb2 t0 t1 t2 t3 t4 t5
        by_cases h2 : r2 = 0
        · subst h2
          have K13 := K13 (by first | trivial | rfl) (by first | trivial | rfl) w2 hbw2
          have HR3 : Hid (r = (r3, y3)) := HR.out.2.2 (by first | trivial | rfl) (by first | trivial | rfl)
          have t0 := cell_of_row _ _ 0 _ _ _ hY1
          have t1 := cell_of_row _ _ 1 _ _ _ hY1
          have t2 := cell_of_row _ _ 2 _ _ _ hY1
          have t3 := cell_of_row _ _ 3 _ _ _ hY1
          have t4 := cell_of_row _ _ 4 _ _ _ hY1
          have t5 := cell_of_row _ _ 5 _ _ _ hY1
          go_wp2_with (go_at_call 15; (with_reducible refine K13.mono ?_); rintro e w3 ⟨⟨a1, c1, d1, rfl, hz1⟩, hk1⟩; unfold vty; dsimp only; have HZ3 : Hid (TyP (fun g => g < w.heap.size ∨ w2.heap.size ≤ g) w3 d1 y3 a1 c1) := hz1; clear hz1; have hU := (hk1.block (w.heap.size + 1) (by omega)).trans hY2; have m0 := cell_of_row _ _ 0 _ _ _ hU; have m1 := cell_of_row _ _ 1 _ _ _ hU; have m2 := cell_of_row _ _ 2 _ _ _ hU; have f0 := frozen_of_row _ _ 0 _ 24 hU; have f1 := frozen_of_row _ _ 1 _ 24 hU; have f2 := frozen_of_row _ _ 2 _ 24 hU)
          have hl3 := laid_box hU y3.kind y3.n a1 y3.kids.length c1
          refine bodyPost_ret (results_row_tmp rfl _ _ (w.heap.size + 1) 24 _ (0, 0) _ rfl hl3 Try.underlying24 rfl size24) rfl ?_
          exact ansT_set (hbw2.trans (hk1.mono hbw2.size)) (by omega) (HZ3.out.keep (Nat.le_refl _) (fun g _ hP => ⟨by rcases hP with hP | hP <;> omega, rfl⟩)) HR3.out
        · have b2 : (r2 != 0) = true := bne_iff_ne.2 h2
          have HRR : Hid (r = (r2, noTy)) := HR.out.2.1 (by first | trivial | rfl) h2
          have m0 := cell_of_row _ _ 0 _ _ _ hY2
          have m1 := cell_of_row _ _ 1 _ _ _ hY2
          have m2 := cell_of_row _ _ 2 _ _ _ hY2
          have f0 := frozen_of_row _ _ 0 _ 24 hY2
          have f1 := frozen_of_row _ _ 1 _ 24 hY2
          have f2 := frozen_of_row _ _ 2 _ 24 hY2
          go_wp2
          have hl3 := laid_box hY2 0 0 none 0 0
          refine bodyPost_ret (results_row_tmp rfl _ _ (w.heap.size + 1) 24 _ (0, 0) _ rfl hl3 Try.underlying24 rfl size24) rfl ?_
          exact ansT_bad hbw2 (by omega) HRR.out
end Go.Proofs.Ytofbnfpncekddaa.Te
