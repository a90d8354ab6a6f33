/- The document's typed: applications. On condition of what is in the term. -/
import Derived.Test.YtofbnfpncekddaaTr
namespace Go.Proofs.Ytofbnfpncekddaa.Te
open Go.RowKit

set_option maxHeartbeats 8000000 in
theorem app_doc {d : Nat} (ih : DoesD d) (n : Int) (y : Ty) (f x : Tm) (b : Option Addr) (e0 : Nat) (a : Option Addr) (c : Nat) (w0 w : World) (br cons : List Ty) (xa : Option Addr) (ca : Nat) (ac : Option Addr) (cc : Nat) (h : TmAt w0 (d + 1) ⟨4, n, y, [f, x]⟩ b e0 a c) (hwf : wtm f = 0) (hwx : wtm x = 0) (ha : ∀ y ∈ br, Good y) (hc : ∀ y ∈ cons, Good y) (hs : szm ⟨4, n, y, [f, x]⟩ + br.length ≤ 1000) (h20 : cons.length ≤ 20) (hB : Below w0.heap.size w0 w) (hcs : ∃ d, TysAt w0 d cons ac cc) (hr : RowB w0 w br xa ca) :
    Calls Try.prog 15 #[vtm ⟨4, n, y, [f, x]⟩ b e0 a c, .slice ac cons.length cc, .slice xa br.length ca] w fun e w' => AnsD w0 w (tyOf ⟨4, n, y, [f, x]⟩ br.reverse cons) e w' := by
  have hs1 := kid_szm (t := ⟨4, n, y, [f, x]⟩) (x := f) (by simp)
  have hs2 := kid_szm (t := ⟨4, n, y, [f, x]⟩) (x := x) (by simp)
  have hw0 := hB.size
  obtain ⟨g1, off1, bf, ef, af, cf, ga, hg1, u0, u1, u2, u3, u4, u5, htf⟩ := h.kid (j := 0) (by simp)
  obtain ⟨g2, off2, bx, ex, ax, cx, ga', hg2, v0, v1, v2, v3, v4, v5, htx⟩ := h.kid (j := 1) (by simp)
  subst ga
  simp only [Option.some.injEq, Addr.mk.injEq, and_true] at ga'
  obtain ⟨rfl, rfl⟩ := ga'
  simp only [List.getElem_cons_zero, List.getElem_cons_succ, Nat.zero_mul, Nat.add_zero, Nat.one_mul] at u0 u1 u2 u3 u4 u5 htf v0 v1 v2 v3 v4 v5 htx
  have KF := fun w1 (hb : Below w.heap.size w w1) => ih f bf ef af cf w0 w1 br cons xa ca ac cc htf hwf ha hc (by omega) h20 (hB.trans (hb.mono hw0)) hcs (hr.below hb)
  have KX := fun w1 (hb : Below w.heap.size w w1) => ih x bx ex ax cx w0 w1 br cons xa ca ac cc htx hwx ha hc (by omega) h20 (hB.trans (hb.mono hw0)) hcs (hr.below hb)
  have hap := app_cases (n := n) (y := y) (f := f) (x := x) br.reverse cons
  obtain ⟨r, hr0⟩ : ∃ r, tyOf ⟨4, n, y, [f, x]⟩ br.reverse cons = r := ⟨_, rfl⟩
  rw [hr0] at hap ⊢
  obtain ⟨⟨r1, y1⟩, hr1⟩ : ∃ r, tyOf f br.reverse cons = r := ⟨_, rfl⟩
  obtain ⟨⟨r2, y2⟩, hr2⟩ : ∃ r, tyOf x br.reverse cons = r := ⟨_, rfl⟩
  have HG1 : Hid (r1 = 0 → Good y1) := fun h0 => by
    have := tyOf_good _ f br.reverse cons (Nat.le_refl _) hwf (fun z hz => ha z (List.mem_reverse.1 hz)) hc (by rw [hr1]; exact h0)
    rw [hr1] at this
    exact this
  rw [hr1] at KF
  rw [hr2] at KX
  rw [hr1, hr2] at hap
  dsimp only at hap KF KX
  have HAP : Hid _ := hap
  have hbw := hB
  unfold vtm at KF KX
  unfold vtm
  dsimp only at KF KX ⊢
  rw [show ([f, x] : List Tm).length = 2 from rfl]
  have hb3 := three_boxes w (.cells #[.int .i64 4, .int .i64 n, .int .i64 y.kind, .int .i64 y.n, .slice b y.kids.length e0, .slice (some ⟨g1, off1, none⟩) 2 c] 27) (.cells #[.int .i64 0, .int .i64 0, .slice none 0 0] 24) (.cells #[.int .i64 0, .int .i64 0, .slice none 0 0] 24)
  obtain ⟨W0, hW0⟩ : ∃ W0, ((w.alloc (.cells #[.int .i64 4, .int .i64 n, .int .i64 y.kind, .int .i64 y.n, .slice b y.kids.length e0, .slice (some ⟨g1, off1, none⟩) 2 c] 27)).alloc (.cells #[.int .i64 0, .int .i64 0, .slice none 0 0] 24)).alloc (.cells #[.int .i64 0, .int .i64 0, .slice none 0 0] 24) = W0 := ⟨_, rfl⟩
  rw [hW0] at hb3
  obtain ⟨hx1, hx2, hx3, hs0, hb0⟩ := hb3
  have HW0 : Hid (((w.alloc (.cells #[.int .i64 4, .int .i64 n, .int .i64 y.kind, .int .i64 y.n, .slice b y.kids.length e0, .slice (some ⟨g1, off1, none⟩) 2 c] 27)).alloc (.cells #[.int .i64 0, .int .i64 0, .slice none 0 0] 24)).alloc (.cells #[.int .i64 0, .int .i64 0, .slice none 0 0] 24) = W0) := hW0
  have hsW : w.heap.size + 3 ≤ W0.heap.size := by omega
  have t0 := cell_of_row _ _ 0 _ _ _ hx1
  have t5 := cell_of_row _ _ 5 _ _ _ hx1
  have hgw : g1 < w.heap.size := by omega
  have p0 := (hb0.cell (p := ⟨g1, _, none⟩) hgw).trans ((hB.cell (p := ⟨g1, _, none⟩) hg1).trans u0)
  have p1 := (hb0.cell (p := ⟨g1, _, none⟩) hgw).trans ((hB.cell (p := ⟨g1, _, none⟩) hg1).trans u1)
  have p2 := (hb0.cell (p := ⟨g1, _, none⟩) hgw).trans ((hB.cell (p := ⟨g1, _, none⟩) hg1).trans u2)
  have p3 := (hb0.cell (p := ⟨g1, _, none⟩) hgw).trans ((hB.cell (p := ⟨g1, _, none⟩) hg1).trans u3)
  have p4 := (hb0.cell (p := ⟨g1, _, none⟩) hgw).trans ((hB.cell (p := ⟨g1, _, none⟩) hg1).trans u4)
  have p5 := (hb0.cell (p := ⟨g1, _, none⟩) hgw).trans ((hB.cell (p := ⟨g1, _, none⟩) hg1).trans u5)
  clear hW0 hr1 hr2 hr0 hap h ha hc htf htx hr hs0 hcs u0 u1 u2 u3 u4 u5
  go_enter Try.func15, Try.ntmps15
  go_upto_region 2 with fail
  rw [HW0.out]
  clear HW0
  go_upto_region 20 with (go_at_call 15; (with_reducible refine (KF _ hb0).mono ?_); rintro e w1 ⟨⟨a1, c1, d1, rfl, hz1⟩, hk1⟩; unfold vty; dsimp only; have HZ1 : Hid (TyP (fun g => g < w0.heap.size ∨ W0.heap.size ≤ g) w1 d1 y1 a1 c1) := hz1; clear hz1)
  obtain ⟨zk, zn, zks⟩ := y1
  dsimp only
  obtain ⟨W1, hW1⟩ : ∃ W1, w1.alloc (.cells #[.int .i64 zk, .int .i64 zn, .slice a1 zks.length c1] 24) = W1 := ⟨_, rfl⟩
  have hb1 : Below w1.heap.size w1 W1 := hW1 ▸ (Below.refl _ w1).alloc (Nat.le_refl _) _
  have hbx1 : W1.heap[w1.heap.size]? = some (.cells #[.int .i64 zk, .int .i64 zn, .slice a1 zks.length c1] 24 (0, 0)) := hW1 ▸ heap_alloc_new _ _
  have hs1' : w1.heap.size < W1.heap.size := hW1 ▸ (by simp)
  rw [hW1]
  have hs01 := hk1.size
  have hb01 : Below W0.heap.size W0 W1 := hk1.trans (hb1.mono hs01)
  have hbw1 : Below w.heap.size w W1 := hb0.trans (hb01.mono hb0.size)
  have hX1 := (hb01.block w.heap.size (by omega)).trans hx1
  have hX2 := (hb01.block (w.heap.size + 1) (by omega)).trans hx2
  have hX3 := (hb01.block (w.heap.size + 2) (by omega)).trans hx3
  clear hW1 hx1 hx2 hx3 t0 t5 p0 p1 p2 p3 p4 p5 KF hk1
  by_cases h1 : r1 = 0
  · subst h1
    have v0' := (hbw1.cell (p := ⟨g1, off1 + 6, none⟩) hgw).trans ((hB.cell (p := ⟨g1, _, none⟩) hg1).trans v0)
    have v1' := (hbw1.cell (p := ⟨g1, off1 + 6 + 1, none⟩) hgw).trans ((hB.cell (p := ⟨g1, _, none⟩) hg1).trans v1)
    have v2' := (hbw1.cell (p := ⟨g1, off1 + 6 + 2, none⟩) hgw).trans ((hB.cell (p := ⟨g1, _, none⟩) hg1).trans v2)
    have v3' := (hbw1.cell (p := ⟨g1, off1 + 6 + 3, none⟩) hgw).trans ((hB.cell (p := ⟨g1, _, none⟩) hg1).trans v3)
    have v4' := (hbw1.cell (p := ⟨g1, off1 + 6 + 4, none⟩) hgw).trans ((hB.cell (p := ⟨g1, _, none⟩) hg1).trans v4)
    have v5' := (hbw1.cell (p := ⟨g1, off1 + 6 + 5, none⟩) hgw).trans ((hB.cell (p := ⟨g1, _, none⟩) hg1).trans v5)
    have m5 := cell_of_row _ _ 5 _ _ _ hX1
    clear v0 v1 v2 v3 v4 v5
    go_upto_region 23 with (go_at_call 15; (with_reducible refine (KX _ hbw1).mono ?_); rintro e w2 ⟨⟨a2, c2, d2, rfl, hz2⟩, hk2⟩; unfold vty; dsimp only; have HZ2 : Hid (TyP (fun g => g < w0.heap.size ∨ W1.heap.size ≤ g) w2 d2 y2 a2 c2) := hz2; clear hz2)
    obtain ⟨zk2, zn2, zks2⟩ := y2
    dsimp only
    obtain ⟨W2, hW2⟩ : ∃ W2, w2.alloc (.cells #[.int .i64 zk2, .int .i64 zn2, .slice a2 zks2.length c2] 24) = W2 := ⟨_, rfl⟩
    have hb2 : Below w2.heap.size w2 W2 := hW2 ▸ (Below.refl _ w2).alloc (Nat.le_refl _) _
    have hbx2 : W2.heap[w2.heap.size]? = some (.cells #[.int .i64 zk2, .int .i64 zn2, .slice a2 zks2.length c2] 24 (0, 0)) := hW2 ▸ heap_alloc_new _ _
    have hs2' : w2.heap.size < W2.heap.size := hW2 ▸ (by simp)
    rw [hW2]
    have hs12 := hk2.size
    have hb12 : Below W1.heap.size W1 W2 := hk2.trans (hb2.mono hs12)
    have hbw2 : Below w.heap.size w W2 := hbw1.trans (hb12.mono hbw1.size)
    have hY1 := (hb12.block w1.heap.size (by omega)).trans hbx1
    have hY2 := (hb12.block (w.heap.size + 1) (by omega)).trans hX2
    have hY4 := (hb12.block (w.heap.size + 2) (by omega)).trans hX3
    clear hW2 hX1 hX2 hX3 hbx1 v0' v1' v2' v3' v4' v5' m5 KX hk2
    by_cases h2 : r2 = 0
    · subst h2
      have HT1 : TyP (fun g => g < w0.heap.size ∨ w.heap.size + 1 < g) W2 d1 ⟨zk, zn, zks⟩ a1 c1 := HZ1.out.keep (by omega) (fun g hg hP => ⟨by rcases hP with hP | hP; exact .inl hP; (right; omega), (hb12.block g (by omega)).trans (hb1.block g hg)⟩)
      have HT2 : TyAt W2 d2 ⟨zk2, zn2, zks2⟩ a2 c2 := HZ2.out.at.below hb2
      have HAP3 : Hid (zk ≠ 2 → r = (9, noTy)) := HAP.out.2.2.1 rfl rfl
      have HAP4 : Hid (∀ (p q : Ty), zk = 2 → zks = [p, q] → (p ≠ ⟨zk2, zn2, zks2⟩ → r = (9, noTy)) ∧ (p = ⟨zk2, zn2, zks2⟩ → r = (0, q))) := fun p q => HAP.out.2.2.2 p q rfl rfl
      clear HAP HZ1 HZ2
      haveI : Inhabited (After W2) := ⟨⟨_, Below.refl _ _⟩⟩
      have q8 := fun p : After W2 => (p.h.cell (p := ⟨w1.heap.size, 0, none⟩) (by show w1.heap.size < W2.heap.size; omega)).trans (cell_of_row _ _ 0 _ 24 (0, 0) hY1)
      by_cases hz : zk = 2
      · subst hz
        obtain ⟨p, q, hpq, -, -⟩ := good_two (HG1.out rfl) rfl
        dsimp only at hpq
        subst hpq
        obtain ⟨d3, rfl⟩ := HT1.at.pos
        obtain ⟨g5, off5, ap, cp, ga, hg5, hP5, y0, y1, y2, htp⟩ := HT1.kid (j := 0) (by simp)
        obtain ⟨g6, off6, aq, cq, ga', hg6, hP6, z0, z1, z2, htq⟩ := HT1.kid (j := 1) (by simp)
        subst ga
        simp only [Option.some.injEq, Addr.mk.injEq, and_true] at ga'
        obtain ⟨rfl, rfl⟩ := ga'
        simp only [List.getElem_cons_zero, List.getElem_cons_succ, Nat.zero_mul, Nat.add_zero, Nat.one_mul] at y0 y1 y2 z0 z1 z2 htp htq
        obtain ⟨x', hx⟩ := fix_same p ⟨zk2, zn2, zks2⟩
        have HX : Hid (x' = true ↔ p = ⟨zk2, zn2, zks2⟩) := hx
        have K9 := fun P : After W2 => same_doc d3 p ap cp d2 ⟨zk2, zn2, zks2⟩ a2 c2 P.W x' HX.out (htp.at.below P.h) (HT2.below P.h)
        unfold vty at K9
        dsimp only at K9
        have q0 := fun p : After W2 => (p.h.cell (p := ⟨g5, _, none⟩) hg5).trans y0
        have q1 := fun p : After W2 => (p.h.cell (p := ⟨g5, _, none⟩) hg5).trans y1
        have q2 := fun p : After W2 => (p.h.cell (p := ⟨g5, _, none⟩) hg5).trans y2
        have q3 := fun p : After W2 => (p.h.cell (p := ⟨w2.heap.size, 0, none⟩) hs2').trans (cell_of_row _ _ 0 _ 24 (0, 0) hbx2)
        have q4 := fun p : After W2 => (p.h.cell (p := ⟨w2.heap.size, 1, none⟩) hs2').trans (cell_of_row _ _ 1 _ 24 (0, 0) hbx2)
        have q5 := fun p : After W2 => (p.h.cell (p := ⟨w2.heap.size, 2, none⟩) hs2').trans (cell_of_row _ _ 2 _ 24 (0, 0) hbx2)
        have q9 := fun p : After W2 => (p.h.cell (p := ⟨w1.heap.size, 2, none⟩) (by show w1.heap.size < W2.heap.size; omega)).trans (cell_of_row _ _ 2 _ 24 (0, 0) hY1)
        have HTQ : Hid (TyP (fun g => g < w0.heap.size ∨ w.heap.size + 1 < g) W2 d3 q aq cq) := htq
        clear htp htq hx HT1 HT2
        go_upto_region 25 with fail
        refine wp_region_after (by kernel_rfl) (by kernel_rfl) ?_
        repeat (go_big_quiet_step (first | (go_at_call 9; (with_reducible refine after_of (K9 _)))))
        refine wpQuiet_nil ?_
        rintro w3 ⟨P3, hP3⟩
        have hb3 := P3.h
        rw [← hP3] at hb3
        clear hP3 P3
        have Z0 := (hb3.cell (p := ⟨g5, _, none⟩) hg5).trans z0
        have Z1 := (hb3.cell (p := ⟨g5, _, none⟩) hg5).trans z1
        have Z2 := (hb3.cell (p := ⟨g5, _, none⟩) hg5).trans z2
        have Y2 := (hb3.cell (p := ⟨w1.heap.size, 2, none⟩) (by show w1.heap.size < W2.heap.size; omega)).trans (cell_of_row _ _ 2 _ 24 (0, 0) hY1)
        have hY3 := (hb3.block (w.heap.size + 1) (by omega)).trans hY2
        have hY5 := (hb3.block (w.heap.size + 2) (by omega)).trans hY4
        have hbw3 : Below w.heap.size w w3 := hbw2.trans (hb3.mono hbw2.size)
        clear q0 q1 q2 q3 q4 q5 q8 q9 K9 y0 y1 y2 z0 z1 z2 hY1 hY2 hY4
        cases x'
        · have HRR : Hid (r = (9, noTy)) := (HAP4.out p q rfl rfl).1 (fun e => by have := HX.out.2 e; cases this)
          have m0 := cell_of_row _ _ 0 _ _ _ hY3
          have m1 := cell_of_row _ _ 1 _ _ _ hY3
          have m2 := cell_of_row _ _ 2 _ _ _ hY3
          have f0 := frozen_of_row _ _ 0 _ 24 hY3
          have f1 := frozen_of_row _ _ 1 _ 24 hY3
          have f2 := frozen_of_row _ _ 2 _ 24 hY3
          have l0 := cell_of_row _ _ 0 _ _ _ hY5
          have l1 := cell_of_row _ _ 1 _ _ _ hY5
          have l2 := cell_of_row _ _ 2 _ _ _ hY5
          go_wp2
          have hl3 := laid_box hY3 0 0 none 0 0
          refine bodyPost_ret (results_row_tmp rfl _ _ (w.heap.size + 1) 24 _ (0, 0) _ rfl hl3 Try.underlying24 rfl size24) rfl ?_
          exact ansD_bad hbw3 hw0 (by omega) HRR.out
        · have HRR : Hid (r = (0, q)) := (HAP4.out p q rfl rfl).2 (HX.out.1 (by trivial))
          have m0 := cell_of_row _ _ 0 _ _ _ hY3
          have m1 := cell_of_row _ _ 1 _ _ _ hY3
          have m2 := cell_of_row _ _ 2 _ _ _ hY3
          have f0 := frozen_of_row _ _ 0 _ 24 hY3
          have f1 := frozen_of_row _ _ 1 _ 24 hY3
          have f2 := frozen_of_row _ _ 2 _ 24 hY3
          go_wp2
          have hl3 := laid_box hY3 q.kind q.n aq q.kids.length cq
          refine bodyPost_ret (results_row_tmp rfl _ _ (w.heap.size + 1) 24 _ (0, 0) _ rfl hl3 Try.underlying24 rfl size24) rfl ?_
          exact ansD_set hbw3 hw0 (by omega) (HTQ.out.below hb3) HRR.out
      · have bz : (zk != 2) = true := bne_iff_ne.2 hz
        have HRR : Hid (r = (9, noTy)) := HAP3.out hz
        go_upto_region 25 with fail
        refine wp_region_after (by kernel_rfl) (by kernel_rfl) ?_
        repeat (go_big_quiet_step (fail))
        refine wpQuiet_nil ?_
        rintro w3 ⟨P3, hP3⟩
        have hb3 := P3.h
        rw [← hP3] at hb3
        clear hP3 P3
        have hY3 := (hb3.block (w.heap.size + 1) (by omega)).trans hY2
        have hY5 := (hb3.block (w.heap.size + 2) (by omega)).trans hY4
        have hbw3 : Below w.heap.size w w3 := hbw2.trans (hb3.mono hbw2.size)
        have m0 := cell_of_row _ _ 0 _ _ _ hY3
        have m1 := cell_of_row _ _ 1 _ _ _ hY3
        have m2 := cell_of_row _ _ 2 _ _ _ hY3
        have f0 := frozen_of_row _ _ 0 _ 24 hY3
        have f1 := frozen_of_row _ _ 1 _ 24 hY3
        have f2 := frozen_of_row _ _ 2 _ 24 hY3
        have l0 := cell_of_row _ _ 0 _ _ _ hY5
        have l1 := cell_of_row _ _ 1 _ _ _ hY5
        have l2 := cell_of_row _ _ 2 _ _ _ hY5
        go_wp2
        have hl3 := laid_box hY3 0 0 none 0 0
        refine bodyPost_ret (results_row_tmp rfl _ _ (w.heap.size + 1) 24 _ (0, 0) _ rfl hl3 Try.underlying24 rfl size24) rfl ?_
        exact ansD_bad hbw3 hw0 (by omega) HRR.out
    · have b2 : (r2 != 0) = true := bne_iff_ne.2 h2
      have HRR : Hid (r = (r2, noTy)) := HAP.out.2.1 rfl h2
      have m0 := cell_of_row _ _ 0 _ _ _ hY2
      have m1 := cell_of_row _ _ 1 _ _ _ hY2
      have m2 := cell_of_row _ _ 2 _ _ _ hY2
      have f0 := frozen_of_row _ _ 0 _ 24 hY2
      have f1 := frozen_of_row _ _ 1 _ 24 hY2
      have f2 := frozen_of_row _ _ 2 _ 24 hY2
      have l0 := cell_of_row _ _ 0 _ _ _ hY4
      have l1 := cell_of_row _ _ 1 _ _ _ hY4
      have l2 := cell_of_row _ _ 2 _ _ _ hY4
      go_wp2
      have hl3 := laid_box hY2 0 0 none 0 0
      refine bodyPost_ret (results_row_tmp rfl _ _ (w.heap.size + 1) 24 _ (0, 0) _ rfl hl3 Try.underlying24 rfl size24) rfl ?_
      exact ansD_bad hbw2 hw0 (by omega) HRR.out
  · have b1 : (r1 != 0) = true := bne_iff_ne.2 h1
    have HRR : Hid (r = (r1, noTy)) := HAP.out.1 h1
    have m0 := cell_of_row _ _ 0 _ _ _ hX2
    have m1 := cell_of_row _ _ 1 _ _ _ hX2
    have m2 := cell_of_row _ _ 2 _ _ _ hX2
    have f0 := frozen_of_row _ _ 0 _ 24 hX2
    have f1 := frozen_of_row _ _ 1 _ 24 hX2
    have f2 := frozen_of_row _ _ 2 _ 24 hX2
    have l0 := cell_of_row _ _ 0 _ _ _ hX3
    have l1 := cell_of_row _ _ 1 _ _ _ hX3
    have l2 := cell_of_row _ _ 2 _ _ _ hX3
    go_wp2
    have hl3 := laid_box hX2 0 0 none 0 0
    refine bodyPost_ret (results_row_tmp rfl _ _ (w.heap.size + 1) 24 _ (0, 0) _ rfl hl3 Try.underlying24 rfl size24) rfl ?_
    exact ansD_bad hbw1 hw0 (by omega) HRR.out
end Go.Proofs.Ytofbnfpncekddaa.Te
