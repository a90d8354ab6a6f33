/- typeOfApp, on condition of typeOf at what is in the term. -/
import Derived.Test.YtofbnfpncekddaaTl
import Derived.Deep.CutRange
namespace Go.Proofs.Ytofbnfpncekddaa.Te
open Go.RowKit

/-- what typeOf does, at terms of that depth -/
def Does (d : Nat) : Prop := ∀ (t : Tm) (b : Option Addr) (e0 : Nat) (a : Option Addr) (c : Nat) (w0 w : World) (ar cons : List Ty) (xa : Option Addr) (ca : Nat) (ac : Option Addr) (cc : Nat), TmAt w0 d t b e0 a c → wtm t = 0 → (∀ y ∈ ar, Good y) → (∀ y ∈ cons, Good y) → szm t + ar.length ≤ 1000 → cons.length ≤ 20 → Ctx w0 w ar cons xa ca ac cc →
  Calls Try.prog 13 #[vtm t b e0 a c, .slice xa ar.length ca, .slice ac cons.length cc] w fun e w' => Ans w0 w (Value.slice xa ar.length ca).ownBlock (tyOf t ar cons) e w' ∧ Ctx w0 w' ar cons xa ca ac cc
theorem results_row_tmp {P : Program} {fn : Func} {p u : Tmp} {ty : TypeId} (h : fn.results = #[.cell p ty, .tmp u]) (tmps : Array Value) (w : World) (g : Nat) (t : TypeId) (cs : Array Value) (fr : Nat × Nat) (d : TypeDesc)
    (hp : tmps.getD p undef = .pointer (some ⟨g, 0, none⟩)) (hg : w.heap[g]? = some (.cells cs t fr))
    (hu : P.underlying ty = some d) (hd : (match d with | .struct _ | .array _ _ => true | _ => false) = true) (hi : (P.info? ty).map (·.size) = some cs.size) :
    (results fn tmps).run P w = .ok (.tuple #[.agg cs, tmps.getD u undef]) w := by
  rw [results_cell_tmp h, hp]
  simp [asAddr, run_loadVar_row w g t ty cs fr d hg hu hd hi]
theorem kid_szm {t : Tm} {x : Tm} (h : x ∈ t.kids) : szm x < szm t := by
  obtain ⟨j, hj, rfl⟩ := List.getElem_of_mem h
  have h1 := psm_succ hj
  have h2 := psm_le t (j + 1)
  have h3 : 1 ≤ psm t j := by unfold psm; omega
  omega

theorem app_cases {n : Int} {y : Ty} {f x : Tm} (ar cons : List Ty) : ((tyOf f ar cons).1 ≠ 0 → tyOf ⟨4, n, y, [f, x]⟩ ar cons = ((tyOf f ar cons).1, noTy)) ∧ ((tyOf f ar cons).1 = 0 → (tyOf x ar cons).1 ≠ 0 → tyOf ⟨4, n, y, [f, x]⟩ ar cons = ((tyOf x ar cons).1, noTy)) ∧
    ((tyOf f ar cons).1 = 0 → (tyOf x ar cons).1 = 0 → (tyOf f ar cons).2.kind ≠ 2 → tyOf ⟨4, n, y, [f, x]⟩ ar cons = (9, noTy)) ∧ (∀ p q, (tyOf f ar cons).1 = 0 → (tyOf x ar cons).1 = 0 → (tyOf f ar cons).2.kind = 2 → (tyOf f ar cons).2.kids = [p, q] → (p ≠ (tyOf x ar cons).2 → tyOf ⟨4, n, y, [f, x]⟩ ar cons = (9, noTy)) ∧ (p = (tyOf x ar cons).2 → tyOf ⟨4, n, y, [f, x]⟩ ar cons = (0, q))) := by
  rw [ty_app]
  refine ⟨fun h => by rw [if_pos h], fun h h2 => by rw [if_neg (by simp [h]), if_pos h2], fun h h2 h3 => by rw [if_neg (by simp [h]), if_neg (by simp [h2]), if_neg h3], fun p q h h2 h3 h4 => ⟨fun h5 => ?_, fun h5 => ?_⟩⟩
  · rw [if_neg (by simp [h]), if_neg (by simp [h2]), if_pos h3, h4]
    dsimp only
    rw [if_neg (fun e => h5 ((eqT_same _ _).1 e))]
  · rw [if_neg (by simp [h]), if_neg (by simp [h2]), if_pos h3, h4]
    dsimp only
    rw [if_pos ((eqT_same _ _).2 h5)]
set_option maxHeartbeats 8000000 in
theorem app_any {d : Nat} (ih : Does d) (n : Int) (y : Ty) (f x : Tm) (b : Option Addr) (e0 : Nat) (a : Option Addr) (c : Nat) (w0 w : World) (ar cons : List Ty) (xa : Option Addr) (ca : Nat) (ac : Option Addr) (cc : Nat) (h : TmAt w0 (d + 1) ⟨4, n, y, [f, x]⟩ b e0 a c) (hwf : wtm f = 0) (hwx : wtm x = 0) (ha : ∀ y ∈ ar, Good y) (hc : ∀ y ∈ cons, Good y) (hs : szm ⟨4, n, y, [f, x]⟩ + ar.length ≤ 1000) (h20 : cons.length ≤ 20) (hC : Ctx w0 w ar cons xa ca ac cc) :
    Calls Try.prog 29 #[vtm ⟨4, n, y, [f, x]⟩ b e0 a c, .slice xa ar.length ca, .slice ac cons.length cc] w fun e w' => Ans w0 w (Value.slice xa ar.length ca).ownBlock (tyOf ⟨4, n, y, [f, x]⟩ ar cons) e w' ∧ Ctx w0 w' ar cons xa ca ac cc := by
  have hs1 := kid_szm (t := ⟨4, n, y, [f, x]⟩) (x := f) (by simp)
  have hs2 := kid_szm (t := ⟨4, n, y, [f, x]⟩) (x := x) (by simp)
  obtain ⟨own, hown⟩ : ∃ own, (Value.slice xa ar.length ca).ownBlock = own := ⟨_, rfl⟩
  have HOW : Hid (∀ g, own = some g → w0.heap.size ≤ g ∧ g < w.heap.size) := fun g hg => hC.own g (hown.trans hg)
  obtain ⟨g1, off1, bf, ef, af, cf, ga, hg1, u0, u1, u2, u3, u4, u5, htf⟩ := h.kid (j := 0) (by simp)
  obtain ⟨g2, off2, bx, ex, ax, cx, ga', hg2, v0, v1, v2, v3, v4, v5, htx⟩ := h.kid (j := 1) (by simp)
  subst ga
  simp only [Option.some.injEq, Addr.mk.injEq, and_true] at ga'
  obtain ⟨rfl, rfl⟩ := ga'
  simp only [List.getElem_cons_zero, List.getElem_cons_succ, Nat.zero_mul, Nat.add_zero, Nat.one_mul] at u0 u1 u2 u3 u4 u5 htf v0 v1 v2 v3 v4 v5 htx
  have KF := fun w1 (hC1 : Ctx w0 w1 ar cons xa ca ac cc) => ih f bf ef af cf w0 w1 ar cons xa ca ac cc htf hwf ha hc (by omega) h20 hC1
  have KX := fun w1 (hC1 : Ctx w0 w1 ar cons xa ca ac cc) => ih x bx ex ax cx w0 w1 ar cons xa ca ac cc htx hwx ha hc (by omega) h20 hC1
  rw [hown] at KF KX ⊢
  have hap := app_cases (n := n) (y := y) (f := f) (x := x) ar cons
  obtain ⟨r, hr⟩ : ∃ r, tyOf ⟨4, n, y, [f, x]⟩ ar cons = r := ⟨_, rfl⟩
  rw [hr] at hap ⊢
  obtain ⟨⟨r1, y1⟩, hr1⟩ : ∃ r, tyOf f ar cons = r := ⟨_, rfl⟩
  obtain ⟨⟨r2, y2⟩, hr2⟩ : ∃ r, tyOf x ar cons = r := ⟨_, rfl⟩
  have HG1 : Hid (r1 = 0 → Good y1) := fun h0 => by
    have := tyOf_good _ f ar cons (Nat.le_refl _) hwf ha hc (by rw [hr1]; exact h0)
    rw [hr1] at this
    exact this
  rw [hr1] at KF
  rw [hr2] at KX
  rw [hr1, hr2] at hap
  dsimp only at hap KF KX
  have HAP : Hid _ := hap
  have HC : Hid (Ctx w0 w ar cons xa ca ac cc) := hC
  unfold vtm at KF KX
  unfold vtm
  dsimp only at KF KX ⊢
  have hb := two_boxes w (.cells #[.int .i64 4, .int .i64 n, .int .i64 y.kind, .int .i64 y.n, .slice b y.kids.length e0, .slice (some ⟨g1, off1, none⟩) 2 c] 27) (.cells #[.int .i64 0, .int .i64 0, .slice none 0 0] 24)
  obtain ⟨W0, hW0⟩ : ∃ W0, (w.alloc (.cells #[.int .i64 4, .int .i64 n, .int .i64 y.kind, .int .i64 y.n, .slice b y.kids.length e0, .slice (some ⟨g1, off1, none⟩) 2 c] 27)).alloc (.cells #[.int .i64 0, .int .i64 0, .slice none 0 0] 24) = W0 := ⟨_, rfl⟩
  rw [hW0] at hb
  obtain ⟨hx1, hx2, hs0, hb0⟩ := hb
  have HW0 : Hid ((w.alloc (.cells #[.int .i64 4, .int .i64 n, .int .i64 y.kind, .int .i64 y.n, .slice b y.kids.length e0, .slice (some ⟨g1, off1, none⟩) 2 c] 27)).alloc (.cells #[.int .i64 0, .int .i64 0, .slice none 0 0] 24) = W0) := hW0
  have HC0 : Hid (Ctx w0 W0 ar cons xa ca ac cc) := hC.below hb0
  have hbw : ∀ W, Ctx w0 W ar cons xa ca ac cc → Below w0.heap.size w0 W := fun W h => h.bel
  have hB0 := hb0
  have t0 := (HC0.out.bel.cell (p := ⟨g1, off1, none⟩) hg1).trans u0
  have t1 := (HC0.out.bel.cell (p := ⟨g1, off1 + 1, none⟩) hg1).trans u1
  have t2 := (HC0.out.bel.cell (p := ⟨g1, off1 + 2, none⟩) hg1).trans u2
  have t3 := (HC0.out.bel.cell (p := ⟨g1, off1 + 3, none⟩) hg1).trans u3
  have t4 := (HC0.out.bel.cell (p := ⟨g1, off1 + 4, none⟩) hg1).trans u4
  have t5 := (HC0.out.bel.cell (p := ⟨g1, off1 + 5, none⟩) hg1).trans u5
  rw [← hW0] at t0 t1 t2 t3 t4 t5
  clear hW0 hr1 hr2 hr hap h hC ha hc htf htx
  go_enter Try.func29, Try.ntmps29
  go_upto_region 2 with (go_at_call 13; (with_reducible refine (KF _ (by rw [HW0.out]; exact HC0.out)).mono ?_); rintro e w1 ⟨⟨⟨⟨zk, zn, zks⟩, a1, c1, rfl, hz1⟩, hk1⟩, hC1⟩; unfold vty; dsimp only; rw [HW0.out] at hk1; have HZ1 : Hid (r1 = 0 → (⟨zk, zn, zks⟩ : Ty) = y1 ∧ ∃ d, TyP (fun g => g < w0.heap.size ∨ W0.heap.size ≤ g) w1 d ⟨zk, zn, zks⟩ a1 c1) := (by rw [← HW0.out]; exact hz1); clear hz1)
  obtain ⟨W1, hW1⟩ : ∃ W1, w1.alloc (.cells #[.int .i64 zk, .int .i64 zn, .slice a1 zks.length c1] 24) = W1 := ⟨_, rfl⟩
  have hb1 : Below w1.heap.size w1 W1 := hW1 ▸ (Below.refl _ w1).alloc (Nat.le_refl _) _
  have hbx1 : W1.heap[w1.heap.size]? = some (.cells #[.int .i64 zk, .int .i64 zn, .slice a1 zks.length c1] 24 (0, 0)) := hW1 ▸ heap_alloc_new _ _
  have hs1' : w1.heap.size < W1.heap.size := hW1 ▸ (by simp)
  rw [hW1]
  have hs01 := hk1.size
  have hneo : ∀ g, w.heap.size ≤ g → some g ≠ own := fun g hg e => by have := (HOW.out g e.symm).2; omega
  have hX1 : W1.heap[w.heap.size]? = some (.cells #[.int .i64 4, .int .i64 n, .int .i64 y.kind, .int .i64 y.n, .slice b y.kids.length e0, .slice (some ⟨g1, off1, none⟩) 2 c] 27 (0, 0)) := (hb1.block _ (by omega)).trans ((hk1.block _ (by omega) (hneo _ (by omega))).trans hx1)
  have hX2 : W1.heap[w.heap.size + 1]? = some (.cells #[.int .i64 0, .int .i64 0, .slice none 0 0] 24 (0, 0)) := (hb1.block _ (by omega)).trans ((hk1.block _ (by omega) (hneo _ (by omega))).trans hx2)
  have HC1 : Hid (Ctx w0 W1 ar cons xa ca ac cc) := hC1.below hb1
  have HK1 : Hid (Kb w W1 own) := ((kb_below hb0).trans hk1).trans (kb_below hb1)
  clear hW1 hx1 hx2 t0 t1 t2 t3 t4 t5 HW0 HC0 hk1 hC1
  have hw0 : w0.heap.size ≤ w.heap.size := (hbw _ HC.out).size
  by_cases h1 : r1 = 0
  · subst h1
    have v0' := (HC1.out.bel.cell (p := ⟨g1, off1 + 6, none⟩) hg1).trans v0
    have v1' := (HC1.out.bel.cell (p := ⟨g1, off1 + 6 + 1, none⟩) hg1).trans v1
    have v2' := (HC1.out.bel.cell (p := ⟨g1, off1 + 6 + 2, none⟩) hg1).trans v2
    have v3' := (HC1.out.bel.cell (p := ⟨g1, off1 + 6 + 3, none⟩) hg1).trans v3
    have v4' := (HC1.out.bel.cell (p := ⟨g1, off1 + 6 + 4, none⟩) hg1).trans v4
    have v5' := (HC1.out.bel.cell (p := ⟨g1, off1 + 6 + 5, none⟩) hg1).trans v5
    have m5 := cell_of_row _ _ 5 _ _ _ hX1
    go_upto_region 5 with (go_at_call 13; (with_reducible refine (KX _ HC1.out).mono ?_); rintro e w2 ⟨⟨⟨⟨zk2, zn2, zks2⟩, a2, c2, rfl, hz2⟩, hk2⟩, hC2⟩; unfold vty; dsimp only; have HZ2 : Hid (r2 = 0 → (⟨zk2, zn2, zks2⟩ : Ty) = y2 ∧ ∃ d, TyP (fun g => g < w0.heap.size ∨ W1.heap.size ≤ g) w2 d ⟨zk2, zn2, zks2⟩ a2 c2) := hz2; clear hz2)
    obtain ⟨W2, hW2⟩ : ∃ W2, w2.alloc (.cells #[.int .i64 zk2, .int .i64 zn2, .slice a2 zks2.length c2] 24) = W2 := ⟨_, rfl⟩
    have hb2 : Below w2.heap.size w2 W2 := hW2 ▸ (Below.refl _ w2).alloc (Nat.le_refl _) _
    have hbx2 : W2.heap[w2.heap.size]? = some (.cells #[.int .i64 zk2, .int .i64 zn2, .slice a2 zks2.length c2] 24 (0, 0)) := hW2 ▸ heap_alloc_new _ _
    have hs2' : w2.heap.size < W2.heap.size := hW2 ▸ (by simp)
    rw [hW2]
    have hs12 := hk2.size
    have hY1 : W2.heap[w1.heap.size]? = some (.cells #[.int .i64 zk, .int .i64 zn, .slice a1 zks.length c1] 24 (0, 0)) := (hb2.block _ (by omega)).trans ((hk2.block _ (by omega) (hneo _ (by omega))).trans hbx1)
    have hY2 : W2.heap[w.heap.size + 1]? = some (.cells #[.int .i64 0, .int .i64 0, .slice none 0 0] 24 (0, 0)) := (hb2.block _ (by omega)).trans ((hk2.block _ (by omega) (hneo _ (by omega))).trans hX2)
    have HC2 : Hid (Ctx w0 W2 ar cons xa ca ac cc) := hC2.below hb2
    have HK12 : Hid (Kb W1 W2 own) := hk2.trans (kb_below hb2)
    have HK2 : Hid (Kb w W2 own) := HK1.out.trans HK12.out
    clear hW2 hX1 hX2 v0 v1 v2 v3 v4 v5 v0' v1' v2' v3' v4' v5' m5 HK1 HC1 hk2 hC2 u0 u1 u2 u3 u4 u5
    by_cases h2 : r2 = 0
    · subst h2
      obtain ⟨e1, d1, hT1⟩ := HZ1.out rfl
      obtain ⟨e2, d2, hT2⟩ := HZ2.out rfl
      have HT1 : TyP (fun g => g < w0.heap.size ∨ w.heap.size + 1 < g) W2 d1 ⟨zk, zn, zks⟩ a1 c1 := hT1.keep (by omega) (fun g hg hP => ⟨by rcases hP with hP | hP; exact .inl hP; (right; omega), (HK12.out.block g (by omega) (by rcases hP with hP | hP; (intro e; have := (HOW.out g e.symm).1; omega); exact hneo g (by omega))).trans (hb1.block g hg)⟩)
      have HT2 : TyAt W2 d2 ⟨zk2, zn2, zks2⟩ a2 c2 := hT2.at.below hb2
      have HTT : Hid (TyP (fun g => g < w0.heap.size ∨ w.heap.size + 1 < g) W2 d1 ⟨zk, zn, zks⟩ a1 c1) := HT1
      have HAP3 : Hid (y1.kind ≠ 2 → r = (9, noTy)) := HAP.out.2.2.1 rfl rfl
      have HAP4 : Hid (∀ (p q : Ty), y1.kind = 2 → y1.kids = [p, q] → (p ≠ y2 → r = (9, noTy)) ∧ (p = y2 → r = (0, q))) := fun p q => HAP.out.2.2.2 p q rfl rfl
      subst e1 e2
      clear HAP HZ1 HZ2 hT1 hT2 KF KX
      haveI : Inhabited (After W2) := ⟨⟨_, Below.refl _ _⟩⟩
      have q8 := fun p : After W2 => (p.h.cell (p := ⟨w1.heap.size, 0, none⟩) (by show w1.heap.size < W2.heap.size; omega)).trans (cell_of_row _ _ 0 _ 24 (0, 0) hY1)
      by_cases hz : zk = 2
      · subst hz
        obtain ⟨p, q, hpq, -, -⟩ := good_two (HG1.out rfl) rfl
        dsimp only at hpq
        subst hpq
        obtain ⟨d3, rfl⟩ := HT1.at.pos
        obtain ⟨g5, off5, ap, cp, ga, hg5, hP5, y0, y1, y2, htp⟩ := HT1.kid (j := 0) (by simp)
        obtain ⟨g6, off6, aq, cq, ga', hg6, hP6, z0, z1, z2, htq⟩ := HT1.kid (j := 1) (by simp)
        subst ga
        simp only [Option.some.injEq, Addr.mk.injEq, and_true] at ga'
        obtain ⟨rfl, rfl⟩ := ga'
        simp only [List.getElem_cons_zero, List.getElem_cons_succ, Nat.zero_mul, Nat.add_zero, Nat.one_mul] at y0 y1 y2 z0 z1 z2 htp htq
        obtain ⟨x', hx⟩ := fix_same p ⟨zk2, zn2, zks2⟩
        have HX : Hid (x' = true ↔ p = ⟨zk2, zn2, zks2⟩) := hx
        have K39 := fun P : After W2 => same_any d3 p ap cp d2 ⟨zk2, zn2, zks2⟩ a2 c2 P.W x' HX.out (htp.at.below P.h) (HT2.below P.h)
        unfold vty at K39
        dsimp only at K39
        have q0 := fun p : After W2 => (p.h.cell (p := ⟨g5, _, none⟩) hg5).trans y0
        have q1 := fun p : After W2 => (p.h.cell (p := ⟨g5, _, none⟩) hg5).trans y1
        have q2 := fun p : After W2 => (p.h.cell (p := ⟨g5, _, none⟩) hg5).trans y2
        have q3 := fun p : After W2 => (p.h.cell (p := ⟨w2.heap.size, 0, none⟩) hs2').trans (cell_of_row _ _ 0 _ 24 (0, 0) hbx2)
        have q4 := fun p : After W2 => (p.h.cell (p := ⟨w2.heap.size, 1, none⟩) hs2').trans (cell_of_row _ _ 1 _ 24 (0, 0) hbx2)
        have q5 := fun p : After W2 => (p.h.cell (p := ⟨w2.heap.size, 2, none⟩) hs2').trans (cell_of_row _ _ 2 _ 24 (0, 0) hbx2)
        have q9 := fun p : After W2 => (p.h.cell (p := ⟨w1.heap.size, 2, none⟩) (by show w1.heap.size < W2.heap.size; omega)).trans (cell_of_row _ _ 2 _ 24 (0, 0) hY1)
        have HTQ : Hid (TyP (fun g => g < w0.heap.size ∨ w.heap.size + 1 < g) W2 d3 q aq cq) := htq
        clear htp htq hx HT1 HT2
        go_upto_region 7 with fail
        refine wp_region_after (by kernel_rfl) (by kernel_rfl) ?_
        repeat (go_big_quiet_step (first | (go_at_call 39; (with_reducible refine after_of (K39 _)))))
        refine wpQuiet_nil ?_
        rintro w3 ⟨P3, hP3⟩
        have hb3 := P3.h
        rw [← hP3] at hb3
        clear hP3 P3
        have Z0 := (hb3.cell (p := ⟨g5, _, none⟩) hg5).trans z0
        have Z1 := (hb3.cell (p := ⟨g5, _, none⟩) hg5).trans z1
        have Z2 := (hb3.cell (p := ⟨g5, _, none⟩) hg5).trans z2
        have Y2 := (hb3.cell (p := ⟨w1.heap.size, 2, none⟩) (by show w1.heap.size < W2.heap.size; omega)).trans (cell_of_row _ _ 2 _ 24 (0, 0) hY1)
        have hY3 := (hb3.block (w.heap.size + 1) (by omega)).trans hY2
        have HC3 : Hid (Ctx w0 w3 ar cons xa ca ac cc) := HC2.out.below hb3
        have HK3 : Hid (Kb w w3 own) := HK2.out.trans (kb_below hb3)
        clear q0 q1 q2 q3 q4 q5 q8 q9 K39 y0 y1 y2 z0 z1 z2 hY1 hY2
        cases x'
        · have HRR : Hid (r = (9, noTy)) := (HAP4.out p q rfl rfl).1 (fun e => by have := HX.out.2 e; cases this)
          have m0 := cell_of_row _ _ 0 _ _ _ hY3
          have m1 := cell_of_row _ _ 1 _ _ _ hY3
          have m2 := cell_of_row _ _ 2 _ _ _ hY3
          have f0 := frozen_of_row _ _ 0 _ 24 hY3
          have f1 := frozen_of_row _ _ 1 _ 24 hY3
          have f2 := frozen_of_row _ _ 2 _ 24 hY3
          go_wp2
          have hl3 := laid_box hY3 0 0 none 0 0
          refine bodyPost_ret (results_row_tmp rfl _ _ (w.heap.size + 1) 24 _ (0, 0) _ rfl hl3 Try.underlying24 rfl size24) rfl ?_
          exact ans_bad hown HK3.out HC3.out hw0 (by omega) (hneo _ (by omega)) (by decide) HRR.out
        · have HRR : Hid (r = (0, q)) := (HAP4.out p q rfl rfl).2 (HX.out.1 (by trivial))
          have m0 := cell_of_row _ _ 0 _ _ _ hY3
          have m1 := cell_of_row _ _ 1 _ _ _ hY3
          have m2 := cell_of_row _ _ 2 _ _ _ hY3
          have f0 := frozen_of_row _ _ 0 _ 24 hY3
          have f1 := frozen_of_row _ _ 1 _ 24 hY3
          have f2 := frozen_of_row _ _ 2 _ 24 hY3
          go_wp2
          have hl3 := laid_box hY3 q.kind q.n aq q.kids.length cq
          refine bodyPost_ret (results_row_tmp rfl _ _ (w.heap.size + 1) 24 _ (0, 0) _ rfl hl3 Try.underlying24 rfl size24) rfl ?_
          exact ans_ok hown HK3.out HC3.out (R := w.heap.size + 1) hw0 (by omega) (hneo _ (by omega)) (HTQ.out.below hb3) HRR.out
      · have bz : (zk != 2) = true := bne_iff_ne.2 hz
        have HRR : Hid (r = (9, noTy)) := HAP3.out hz
        go_upto_region 7 with fail
        refine wp_region_after (by kernel_rfl) (by kernel_rfl) ?_
        repeat (go_big_quiet_step (fail))
        refine wpQuiet_nil ?_
        rintro w3 ⟨P3, hP3⟩
        have hb3 := P3.h
        rw [← hP3] at hb3
        clear hP3 P3
        have hY3 := (hb3.block (w.heap.size + 1) (by omega)).trans hY2
        have HC3 : Hid (Ctx w0 w3 ar cons xa ca ac cc) := HC2.out.below hb3
        have HK3 : Hid (Kb w w3 own) := HK2.out.trans (kb_below hb3)
        have m0 := cell_of_row _ _ 0 _ _ _ hY3
        have m1 := cell_of_row _ _ 1 _ _ _ hY3
        have m2 := cell_of_row _ _ 2 _ _ _ hY3
        have f0 := frozen_of_row _ _ 0 _ 24 hY3
        have f1 := frozen_of_row _ _ 1 _ 24 hY3
        have f2 := frozen_of_row _ _ 2 _ 24 hY3
        go_wp2
        have hl3 := laid_box hY3 0 0 none 0 0
        refine bodyPost_ret (results_row_tmp rfl _ _ (w.heap.size + 1) 24 _ (0, 0) _ rfl hl3 Try.underlying24 rfl size24) rfl ?_
        exact ans_bad hown HK3.out HC3.out hw0 (by omega) (hneo _ (by omega)) (by decide) HRR.out
    · have b2 : (r2 != 0) = true := bne_iff_ne.2 h2
      have HRR : Hid (r = (r2, noTy)) := HAP.out.2.1 rfl h2
      have m0 := cell_of_row _ _ 0 _ _ _ hY2
      have m1 := cell_of_row _ _ 1 _ _ _ hY2
      have m2 := cell_of_row _ _ 2 _ _ _ hY2
      have f0 := frozen_of_row _ _ 0 _ 24 hY2
      have f1 := frozen_of_row _ _ 1 _ 24 hY2
      have f2 := frozen_of_row _ _ 2 _ 24 hY2
      go_wp2
      have hl3 := laid_box hY2 0 0 none 0 0
      refine bodyPost_ret (results_row_tmp rfl _ _ (w.heap.size + 1) 24 _ (0, 0) _ rfl hl3 Try.underlying24 rfl size24) rfl ?_
      exact ans_bad hown HK2.out HC2.out hw0 (by omega) (hneo _ (by omega)) h2 HRR.out
  · have b1 : (r1 != 0) = true := bne_iff_ne.2 h1
    have HRR : Hid (r = (r1, noTy)) := HAP.out.1 h1
    have m0 := cell_of_row _ _ 0 _ _ _ hX2
    have m1 := cell_of_row _ _ 1 _ _ _ hX2
    have m2 := cell_of_row _ _ 2 _ _ _ hX2
    have f0 := frozen_of_row _ _ 0 _ 24 hX2
    have f1 := frozen_of_row _ _ 1 _ 24 hX2
    have f2 := frozen_of_row _ _ 2 _ 24 hX2
    go_wp2
    have hl3 := laid_box hX2 0 0 none 0 0
    refine bodyPost_ret (results_row_tmp rfl _ _ (w.heap.size + 1) 24 _ (0, 0) _ rfl hl3 Try.underlying24 rfl size24) rfl ?_
    exact ans_bad hown HK1.out HC1.out hw0 (by omega) (hneo _ (by omega)) h1 HRR.out
end Go.Proofs.Ytofbnfpncekddaa.Te
