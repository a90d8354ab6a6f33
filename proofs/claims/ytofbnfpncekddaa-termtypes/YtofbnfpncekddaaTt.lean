/- The document's typed: functions; all of it. No conditions but that the term is right and small. -/
import Derived.Test.YtofbnfpncekddaaTs
namespace Go.Proofs.Ytofbnfpncekddaa.Te
open Go.RowKit

theorem gs_cells {w0 w : World} {y : Ty} {bt : Option Addr × Nat} {br : List Ty} {W : World} {al bl : Option Nat} {ap : Option (Option Addr × Nat)} {tp : Option (Ty × Option Addr × Nat)} {t0 t1 t2 t3 t4 t5 s0 s1 s2 s3 s4 s5 : Value} (h : Gs w0 w (.cells #[t0, t1, t2, t3, t4, t5] 27) y bt br W al bl ap tp) (hB : Below w0.heap.size w0 w) {g1 off1 : Nat} (hg1 : g1 < w0.heap.size)
    (u0 : w0.cell? ⟨g1, off1, none⟩ = some s0) (u1 : w0.cell? ⟨g1, off1 + 1, none⟩ = some s1) (u2 : w0.cell? ⟨g1, off1 + 2, none⟩ = some s2) (u3 : w0.cell? ⟨g1, off1 + 3, none⟩ = some s3) (u4 : w0.cell? ⟨g1, off1 + 4, none⟩ = some s4) (u5 : w0.cell? ⟨g1, off1 + 5, none⟩ = some s5) :
    W.cell? ⟨w.heap.size, 2, none⟩ = some t2 ∧ W.cell? ⟨w.heap.size, 3, none⟩ = some t3 ∧ W.cell? ⟨w.heap.size, 4, none⟩ = some t4 ∧ W.cell? ⟨w.heap.size, 5, none⟩ = some t5 ∧ W.cell? ⟨g1, off1, none⟩ = some s0 ∧ W.cell? ⟨g1, off1 + 1, none⟩ = some s1 ∧ W.cell? ⟨g1, off1 + 2, none⟩ = some s2 ∧ W.cell? ⟨g1, off1 + 3, none⟩ = some s3 ∧ W.cell? ⟨g1, off1 + 4, none⟩ = some s4 ∧ W.cell? ⟨g1, off1 + 5, none⟩ = some s5 := by
  have hb : Below w0.heap.size w0 W := hB.trans (h.bel.mono hB.size)
  exact ⟨cell_of_row _ _ 2 _ _ _ h.tb, cell_of_row _ _ 3 _ _ _ h.tb, cell_of_row _ _ 4 _ _ _ h.tb, cell_of_row _ _ 5 _ _ _ h.tb, (hb.cell (p := ⟨g1, off1, none⟩) hg1).trans u0, (hb.cell (p := ⟨g1, off1 + 1, none⟩) hg1).trans u1, (hb.cell (p := ⟨g1, off1 + 2, none⟩) hg1).trans u2, (hb.cell (p := ⟨g1, off1 + 3, none⟩) hg1).trans u3, (hb.cell (p := ⟨g1, off1 + 4, none⟩) hg1).trans u4, (hb.cell (p := ⟨g1, off1 + 5, none⟩) hg1).trans u5⟩
set_option maxHeartbeats 8000000 in
theorem fn_doc {d : Nat} (ih : DoesD d) (n : Int) (y : Ty) (x : Tm) (b : Option Addr) (e0 : Nat) (a : Option Addr) (c : Nat) (w0 w : World) (br cons : List Ty) (xa : Option Addr) (ca : Nat) (ac : Option Addr) (cc : Nat) (h : TmAt w0 (d + 1) ⟨3, n, y, [x]⟩ b e0 a c) (hwx : wtm x = 0) (hgy : Good y) (ha : ∀ y ∈ br, Good y) (hc : ∀ y ∈ cons, Good y) (hs : szm ⟨3, n, y, [x]⟩ + br.length ≤ 1000) (h20 : cons.length ≤ 20) (hB : Below w0.heap.size w0 w) (hcs : ∃ d, TysAt w0 d cons ac cc) (hr : RowB w0 w br xa ca) :
    Calls Try.prog 15 #[vtm ⟨3, n, y, [x]⟩ b e0 a c, .slice ac cons.length cc, .slice xa br.length ca] w fun e w' => AnsD w0 w (tyOf ⟨3, n, y, [x]⟩ br.reverse cons) e w' := by
  have hs1 := kid_szm (t := ⟨3, n, y, [x]⟩) (x := x) (by simp)
  have hw0 := hB.size
  obtain ⟨g1, off1, bf, ef, af, cf, ga, hg1, u0, u1, u2, u3, u4, u5, htf⟩ := h.kid (j := 0) (by simp)
  obtain ⟨dy, hy⟩ := h.few.2.2.2
  subst ga
  simp only [List.getElem_cons_zero, Nat.zero_mul, Nat.add_zero] at u0 u1 u2 u3 u4 u5 htf
  have hln : (y :: br).length = br.length + 1 := rfl
  have KX := fun w1 x1 c1 (hB1 : Below w0.heap.size w0 w1) (hr1 : RowB w0 w1 (y :: br) x1 c1) => ih x bf ef af cf w0 w1 (y :: br) cons x1 c1 ac cc htf hwx (fun z hz => by rcases List.mem_cons.1 hz with hz | hz; (rw [hz]; exact hgy); exact ha z hz) hc (by rw [hln]; omega) h20 hB1 hcs hr1
  have hap := fn_cases (n := n) (y := y) (x := x) br.reverse cons
  obtain ⟨r, hr0⟩ : ∃ r, tyOf ⟨3, n, y, [x]⟩ br.reverse cons = r := ⟨_, rfl⟩
  rw [hr0] at hap ⊢
  rw [List.reverse_cons] at KX
  obtain ⟨⟨r1, y1⟩, hr1⟩ : ∃ r, tyOf x (br.reverse ++ [y]) cons = r := ⟨_, rfl⟩
  have HG1 : Hid (r1 = 0 → Good y1) := fun h0 => by
    have := tyOf_good _ x (br.reverse ++ [y]) cons (Nat.le_refl _) hwx (fun z hz => by rcases List.mem_append.1 hz with hz | hz; exact ha z (List.mem_reverse.1 hz); (simp at hz; rw [hz]; exact hgy)) hc (by rw [hr1]; exact h0)
    rw [hr1] at this
    exact this
  rw [hr1] at KX hap
  dsimp only at hap KX
  have HAP : Hid ((r1 ≠ 0 → r = (r1, noTy)) ∧ (r1 = 0 → (60 < sz ⟨2, 0, [y, y1]⟩ → r = (7, noTy)) ∧ (¬ 60 < sz ⟨2, 0, [y, y1]⟩ → r = (0, ⟨2, 0, [y, y1]⟩)))) := hap
  have HY : Hid (TyAt w0 dy y b e0) := hy
  have HRB : Hid (RowB w0 w br xa ca) := hr
  unfold vtm at KX
  unfold vtm
  dsimp only at KX ⊢
  rw [hln] at KX
  rw [show ([x] : List Tm).length = 1 from rfl]
  have hb3 := three_boxes w (.cells #[.int .i64 3, .int .i64 n, .int .i64 y.kind, .int .i64 y.n, .slice b y.kids.length e0, .slice (some ⟨g1, off1, none⟩) 1 c] 27) (.cells #[.int .i64 0, .int .i64 0, .slice none 0 0] 24) (.cells #[.int .i64 0, .int .i64 0, .slice none 0 0] 24)
  obtain ⟨W0, hW0⟩ : ∃ W0, ((w.alloc (.cells #[.int .i64 3, .int .i64 n, .int .i64 y.kind, .int .i64 y.n, .slice b y.kids.length e0, .slice (some ⟨g1, off1, none⟩) 1 c] 27)).alloc (.cells #[.int .i64 0, .int .i64 0, .slice none 0 0] 24)).alloc (.cells #[.int .i64 0, .int .i64 0, .slice none 0 0] 24) = W0 := ⟨_, rfl⟩
  rw [hW0] at hb3
  obtain ⟨hx1, hx2, hx3, hs0, hb0⟩ := hb3
  have HW0 : Hid (((w.alloc (.cells #[.int .i64 3, .int .i64 n, .int .i64 y.kind, .int .i64 y.n, .slice b y.kids.length e0, .slice (some ⟨g1, off1, none⟩) 1 c] 27)).alloc (.cells #[.int .i64 0, .int .i64 0, .slice none 0 0] 24)).alloc (.cells #[.int .i64 0, .int .i64 0, .slice none 0 0] 24) = W0) := hW0
  have t0 := cell_of_row _ _ 0 _ _ _ hx1
  have HF : Hid (Gs w0 w (.cells #[.int .i64 3, .int .i64 n, .int .i64 y.kind, .int .i64 y.n, .slice b y.kids.length e0, .slice (some ⟨g1, off1, none⟩) 1 c] 27) y (b, e0) br W0.drew none none none none) := Gs.below (W := W0) ⟨hb0, by omega, hx1, hx2, hx3, (fun _ e => by cases e), (fun _ e => by cases e), (fun _ _ e => by cases e), (fun _ _ _ e => by cases e)⟩ (Below.refl _ _).drew
  have hbl : br.length ≤ 1000 := by omega
  clear hW0 hr1 hr0 hr hap h ha hc htf hy hgy hx1 hx2 hx3 hs0 hs hs1 hcs
  go_enter Try.func15, Try.ntmps15
  go_upto_region 2 with fail
  rw [HW0.out]
  clear HW0
  go_upto_region 12 with fail
  clear t0
  go_cut [9, 10] from 44 to 57 (fun s8 s9 wx => ∃ (R : Nat) (a1 : Option Addr) (c1 : Nat), s8 = .pointer (some ⟨R, 0, none⟩) ∧ s9 = .int .i64 r1 ∧ Gs w0 w (.cells #[.int .i64 3, .int .i64 n, .int .i64 y.kind, .int .i64 y.n, .slice b y.kids.length e0, .slice (some ⟨g1, off1, none⟩) 1 c] 27) y (b, e0) br wx none none none none ∧ w.heap.size + 3 ≤ R ∧ wx.heap[R]? = some (.cells #[.int .i64 y1.kind, .int .i64 y1.n, .slice a1 y1.kids.length c1] 24 (0, 0)) ∧ (∃ d, TyP (fun g => g < w0.heap.size ∨ (w.heap.size + 3 ≤ g ∧ g ≠ R)) wx d y1 a1 c1))
  case first =>
    refine wp_region_held_drew (S := fun W => W.cell? ⟨w.heap.size, 2, none⟩ = some (.int .i64 y.kind) ∧ W.cell? ⟨w.heap.size, 3, none⟩ = some (.int .i64 y.n) ∧ W.cell? ⟨w.heap.size, 4, none⟩ = some (.slice b y.kids.length e0) ∧ W.cell? ⟨w.heap.size, 5, none⟩ = some (.slice (some ⟨g1, off1, none⟩) 1 c) ∧ W.cell? ⟨g1, off1, none⟩ = some (.int .i64 x.kind) ∧ W.cell? ⟨g1, off1 + 1, none⟩ = some (.int .i64 x.n) ∧ W.cell? ⟨g1, off1 + 2, none⟩ = some (.int .i64 x.ty.kind) ∧ W.cell? ⟨g1, off1 + 3, none⟩ = some (.int .i64 x.ty.n) ∧ W.cell? ⟨g1, off1 + 4, none⟩ = some (.slice bf x.ty.kids.length ef) ∧ W.cell? ⟨g1, off1 + 5, none⟩ = some (.slice af x.kids.length cf)) (by kernel_rfl) (by exact gs_cells HF.out hB hg1 u0 u1 u2 u3 u4 u5) (fun hHeld => ?_)
    generalize hV : W0.drew = V0 at *
    clear hV
    refine wpAnyH_take (i := 0) (oi := { dst := some 45, op := Op.fieldAddr 27 (Operand.tmp 3) 3, type := 0, pos := "term.go:152", after := #[], guard := none }) (v := ?_) rfl (by kernel_rfl) (by kernel_rfl) (by kernel_rfl) (fun _ _ _ h => h) (Or.inl ⟨by rfl, ?_⟩) (by assumption) ?_
    case refine_2 => intro w hSw; (try dsimp only at hSw); obtain ⟨hA, hB, hC, hD, hE, hF, hG, hH, hI, hJ⟩ := hSw; go_simp; (try with_reducible rfl)
    simp only [Act.put, List.setIfInBounds_toArray, List.set_cons_zero, List.set_cons_succ]
    refine wpAnyH_take (i := 1) (oi := { dst := some 46, op := Op.load 25 (Operand.tmp 45), type := 25, pos := "term.go:152", after := #[{ on := 0, ground := Ground.data }], guard := none }) (v := ?_) rfl (by kernel_rfl) (by kernel_rfl) (by kernel_rfl) (fun _ _ _ h => h) (Or.inl ⟨by rfl, ?_⟩) (by assumption) ?_
    case refine_2 => intro w hSw; (try dsimp only at hSw); obtain ⟨hA, hB, hC, hD, hE, hF, hG, hH, hI, hJ⟩ := hSw; go_simp; (try with_reducible rfl)
    simp only [Act.put, List.setIfInBounds_toArray, List.set_cons_zero, List.set_cons_succ]
    refine wpAnyH_take (i := 2) (oi := { dst := some 47, op := Op.indexAddr 25 (Operand.tmp 46) (Operand.const (Value.int IntKind.i64 0)), type := 0, pos := "term.go:152", after := #[{ on := 1, ground := Ground.data }], guard := none }) (v := ?_) rfl (by kernel_rfl) (by kernel_rfl) (by kernel_rfl) (fun _ _ _ h => h) (Or.inl ⟨by rfl, ?_⟩) (by assumption) ?_
    case refine_2 => intro w hSw; (try dsimp only at hSw); obtain ⟨hA, hB, hC, hD, hE, hF, hG, hH, hI, hJ⟩ := hSw; go_simp; (try with_reducible rfl)
    simp only [Act.put, List.setIfInBounds_toArray, List.set_cons_zero, List.set_cons_succ]
    refine wpAnyH_take (i := 3) (oi := { dst := some 48, op := Op.load 27 (Operand.tmp 47), type := 27, pos := "term.go:152", after := #[{ on := 2, ground := Ground.data }], guard := none }) (v := ?_) rfl (by kernel_rfl) (by kernel_rfl) (by kernel_rfl) (fun _ _ _ h => h) (Or.inl ⟨by rfl, ?_⟩) (by assumption) ?_
    case refine_2 => intro w hSw; (try dsimp only at hSw); obtain ⟨hA, hB, hC, hD, hE, hF, hG, hH, hI, hJ⟩ := hSw; go_simp; (try with_reducible rfl)
    simp only [Act.put, List.setIfInBounds_toArray, List.set_cons_zero, List.set_cons_succ]
    refine wpAnyH_take (i := 4) (oi := { dst := some 49, op := Op.move (Operand.tmp 1), type := 22, pos := "term.go:152", after := #[], guard := none }) (v := ?_) rfl (by kernel_rfl) (by kernel_rfl) (by kernel_rfl) (fun _ _ _ h => h) (Or.inl ⟨by rfl, ?_⟩) (by assumption) ?_
    case refine_2 => intro w hSw; (try dsimp only at hSw); obtain ⟨hA, hB, hC, hD, hE, hF, hG, hH, hI, hJ⟩ := hSw; go_simp; (try with_reducible rfl)
    simp only [Act.put, List.setIfInBounds_toArray, List.set_cons_zero, List.set_cons_succ]
    refine wpAnyH_take (i := 5) (oi := { dst := some 50, op := Op.fieldAddr 27 (Operand.tmp 3) 2, type := 0, pos := "term.go:152", after := #[], guard := none }) (v := ?_) rfl (by kernel_rfl) (by kernel_rfl) (by kernel_rfl) (fun _ _ _ h => h) (Or.inl ⟨by rfl, ?_⟩) (by assumption) ?_
    case refine_2 => intro w hSw; (try dsimp only at hSw); obtain ⟨hA, hB, hC, hD, hE, hF, hG, hH, hI, hJ⟩ := hSw; go_simp; (try with_reducible rfl)
    simp only [Act.put, List.setIfInBounds_toArray, List.set_cons_zero, List.set_cons_succ]
    refine wpAnyH_take (i := 6) (oi := { dst := some 51, op := Op.load 24 (Operand.tmp 50), type := 24, pos := "term.go:152", after := #[{ on := 5, ground := Ground.data }], guard := none }) (v := ?_) rfl (by kernel_rfl) (by kernel_rfl) (by kernel_rfl) (fun _ _ _ h => h) (Or.inl ⟨by rfl, ?_⟩) (by assumption) ?_
    case refine_2 => intro w hSw; (try dsimp only at hSw); obtain ⟨hA, hB, hC, hD, hE, hF, hG, hH, hI, hJ⟩ := hSw; go_simp; (try with_reducible rfl)
    simp only [Act.put, List.setIfInBounds_toArray, List.set_cons_zero, List.set_cons_succ]
    refine wpAnyH_take (i := 8) (oi := { dst := some 53, op := Op.move (Operand.tmp 2), type := 22, pos := "term.go:152", after := #[], guard := none }) (v := ?_) rfl (by kernel_rfl) (by kernel_rfl) (by kernel_rfl) (fun _ _ _ h => h) (Or.inl ⟨by rfl, ?_⟩) (by assumption) ?_
    case refine_2 => intro w hSw; (try dsimp only at hSw); obtain ⟨hA, hB, hC, hD, hE, hF, hG, hH, hI, hJ⟩ := hSw; go_simp; (try with_reducible rfl)
    simp only [Act.put, List.setIfInBounds_toArray, List.set_cons_zero, List.set_cons_succ]
    refine wpAnyH_ready (rs := [7, 14]) (by kernel_rfl) (by simp) ?_
    refine (AllReadyH.cons (o := { dst := some 52, op := Op.buildSlice 22 1 #[(0, Operand.tmp 51)], type := 22, pos := "term.go:152", after := #[{ on := 6, ground := Ground.data }], guard := none }) rfl (fun K hK => ?_) (AllReadyH.cons (o := { dst := some 9, op := Op.alloc 24, type := 0, pos := "term.go:152", after := #[], guard := none }) rfl (fun K hK => ?_) AllReadyH.nil))
    · skip
      go_simp
      have HF1 : Hid _ := HF.out.built
      refine hK.out _ _ ?_ (fun hHeld => ?_)
      · first | exact gs_cells HF4.out hB hg1 u0 u1 u2 u3 u4 u5 | exact gs_cells HF3.out hB hg1 u0 u1 u2 u3 u4 u5 | exact gs_cells HF2.out hB hg1 u0 u1 u2 u3 u4 u5 | exact gs_cells HF1.out hB hg1 u0 u1 u2 u3 u4 u5
      clear hK K
      try simp only [Act.put, List.setIfInBounds_toArray, List.set_cons_zero, List.set_cons_succ]
      dsimp only at HF1
      generalize hV : V0.alloc (.cells #[.int .i64 y.kind, .int .i64 y.n, .slice b y.kids.length e0] 24) = B1 at *
      clear hV
      refine wpAnyH_ready (rs := [9, 14]) (by kernel_rfl) (by simp) ?_
      refine (AllReadyH.cons (o := { dst := some 54, op := Op.call { callee := Callee.builtin Builtin.append, args := #[Operand.tmp 52, Operand.tmp 53], argTypes := #[22, 22] }, type := 22, pos := "term.go:152", after := #[{ on := 7, ground := Ground.data }, { on := 8, ground := Ground.data }], guard := none }) rfl (fun K hK => ?_) (AllReadyH.cons (o := { dst := some 9, op := Op.alloc 24, type := 0, pos := "term.go:152", after := #[], guard := none }) rfl (fun K hK => ?_) AllReadyH.nil))
      · skip
        refine step_prep rfl (.tmp 52) (.tmp 53) rfl HF1.out HRB.out HY.out hbl rfl rfl ?_
        intro x6 c6 W6 HFn
        have HF2 : Hid _ := HFn
        clear HFn
        refine hK.out _ _ ?_ (fun hHeld => ?_)
        · first | exact gs_cells HF4.out hB hg1 u0 u1 u2 u3 u4 u5 | exact gs_cells HF3.out hB hg1 u0 u1 u2 u3 u4 u5 | exact gs_cells HF2.out hB hg1 u0 u1 u2 u3 u4 u5 | exact gs_cells HF1.out hB hg1 u0 u1 u2 u3 u4 u5
        clear hK K
        try simp only [Act.put, List.setIfInBounds_toArray, List.set_cons_zero, List.set_cons_succ]
        refine wpAnyH_ready (rs := [10, 14]) (by kernel_rfl) (by simp) ?_
        refine (AllReadyH.cons (o := { dst := some 55, op := Op.call { callee := Callee.value (Operand.func 15), args := #[Operand.tmp 48, Operand.tmp 49, Operand.tmp 54], argTypes := #[27, 22, 22] }, type := 29, pos := "term.go:152", after := #[{ on := 3, ground := Ground.data }, { on := 4, ground := Ground.data }, { on := 9, ground := Ground.data }, { on := 9, ground := Ground.chain }], guard := none }) rfl (fun K hK => ?_) (AllReadyH.cons (o := { dst := some 9, op := Op.alloc 24, type := 0, pos := "term.go:152", after := #[], guard := none }) rfl (fun K hK => ?_) AllReadyH.nil))
        · skip
          go_simp
          (with_reducible refine (KX _ _ _ (hB.trans (HF2.out.bel.mono hw0)) (HF2.out.ap _ _ rfl)).mono ?_)
          rintro e w5 ⟨⟨a1, c1, d1, rfl, hz1⟩, hk1⟩
          unfold vty
          dsimp only
          have HF3 : Hid _ := HF2.out.called hk1 hz1
          clear hz1 hk1
          refine hK.out _ _ ?_ (fun hHeld => ?_)
          · first | exact gs_cells HF4.out hB hg1 u0 u1 u2 u3 u4 u5 | exact gs_cells HF3.out hB hg1 u0 u1 u2 u3 u4 u5 | exact gs_cells HF2.out hB hg1 u0 u1 u2 u3 u4 u5 | exact gs_cells HF1.out hB hg1 u0 u1 u2 u3 u4 u5
          clear hK K
          try simp only [Act.put, List.setIfInBounds_toArray, List.set_cons_zero, List.set_cons_succ]
          refine wpAnyH_take (i := 11) (oi := { dst := some 44, op := Op.move (Operand.tmp 55), type := 29, pos := "term.go:152", after := #[{ on := 10, ground := Ground.data }], guard := none }) (v := ?_) rfl (by kernel_rfl) (by kernel_rfl) (by kernel_rfl) (fun _ _ _ h => h) (Or.inl ⟨by rfl, ?_⟩) (by assumption) ?_
          case refine_2 => intro w hSw; (try dsimp only at hSw); obtain ⟨hA, hB, hC, hD, hE, hF, hG, hH, hI, hJ⟩ := hSw; go_simp; (try with_reducible rfl)
          simp only [Act.put, List.setIfInBounds_toArray, List.set_cons_zero, List.set_cons_succ]
          refine wpAnyH_take (i := 12) (oi := { dst := some 56, op := Op.extract (Operand.tmp 44) 0, type := 24, pos := "term.go:152", after := #[{ on := 11, ground := Ground.data }], guard := none }) (v := ?_) rfl (by kernel_rfl) (by kernel_rfl) (by kernel_rfl) (fun _ _ _ h => h) (Or.inl ⟨by rfl, ?_⟩) (by assumption) ?_
          case refine_2 => intro w hSw; (try dsimp only at hSw); obtain ⟨hA, hB, hC, hD, hE, hF, hG, hH, hI, hJ⟩ := hSw; go_simp; (try with_reducible rfl)
          simp only [Act.put, List.setIfInBounds_toArray, List.set_cons_zero, List.set_cons_succ]
          refine wpAnyH_take (i := 13) (oi := { dst := some 57, op := Op.extract (Operand.tmp 44) 1, type := 28, pos := "term.go:152", after := #[{ on := 11, ground := Ground.data }, { on := 15, ground := Ground.gcOnly Departure.lateStores }], guard := none }) (v := ?_) rfl (by kernel_rfl) (by kernel_rfl) (by kernel_rfl) (fun _ _ _ h => h) (Or.inl ⟨by rfl, ?_⟩) (by assumption) ?_
          case refine_2 => intro w hSw; (try dsimp only at hSw); obtain ⟨hA, hB, hC, hD, hE, hF, hG, hH, hI, hJ⟩ := hSw; go_simp; (try with_reducible rfl)
          simp only [Act.put, List.setIfInBounds_toArray, List.set_cons_zero, List.set_cons_succ]
          refine wpAnyH_ready (rs := [14]) (by kernel_rfl) (by simp) ?_
          refine (AllReadyH.cons (o := { dst := some 9, op := Op.alloc 24, type := 0, pos := "term.go:152", after := #[], guard := none }) rfl (fun K hK => ?_) AllReadyH.nil)
          go_simp
          have HF4 : Hid _ := HF3.out.box
          refine hK.out _ _ ?_ (fun hHeld => ?_)
          · first | exact gs_cells HF4.out hB hg1 u0 u1 u2 u3 u4 u5 | exact gs_cells HF3.out hB hg1 u0 u1 u2 u3 u4 u5 | exact gs_cells HF2.out hB hg1 u0 u1 u2 u3 u4 u5 | exact gs_cells HF1.out hB hg1 u0 u1 u2 u3 u4 u5
          clear hK K
          try simp only [Act.put, List.setIfInBounds_toArray, List.set_cons_zero, List.set_cons_succ]
          generalize hV : w5.alloc (.cells #[.int .i64 0, .int .i64 0, .slice none 0 0] 24) = A4 at *
          clear hV
          refine wpAnyH_ready (rs := [15]) (by kernel_rfl) (by simp) ?_
          refine (AllReadyH.cons (o := { dst := none, op := Op.store 24 (Operand.tmp 9) (Operand.tmp 56), type := 0, pos := "term.go:152", after := #[{ on := 14, ground := Ground.data }, { on := 12, ground := Ground.data }, { on := 10, ground := Ground.chain }, { on := 0, ground := Ground.phase }, { on := 1, ground := Ground.phase }, { on := 2, ground := Ground.phase }, { on := 3, ground := Ground.phase }, { on := 4, ground := Ground.phase }, { on := 5, ground := Ground.phase }, { on := 6, ground := Ground.phase }, { on := 7, ground := Ground.phase }, { on := 8, ground := Ground.phase }, { on := 9, ground := Ground.phase }, { on := 10, ground := Ground.phase }, { on := 11, ground := Ground.phase }, { on := 12, ground := Ground.phase }, { on := 13, ground := Ground.textOnly Departure.lateStores }, { on := 14, ground := Ground.phase }], guard := none }) rfl (fun K hK => ?_) AllReadyH.nil)
          have HR := HF4.out.ab _ rfl
          have m0 := cell_of_row _ _ 0 _ _ _ HR.2
          have m1 := cell_of_row _ _ 1 _ _ _ HR.2
          have m2 := cell_of_row _ _ 2 _ _ _ HR.2
          have f0 := frozen_of_row _ _ 0 _ 24 HR.2
          have f1 := frozen_of_row _ _ 1 _ 24 HR.2
          have f2 := frozen_of_row _ _ 2 _ 24 HR.2
          go_simp
          have HL : Hid _ := HF4.out.laid hw0
          refine hK.out _ _ ?_ (fun hHeld => ?_)
          · exact gs_cells HL.out.1 hB hg1 u0 u1 u2 u3 u4 u5
          clear hK K
          try simp only [Act.put, List.setIfInBounds_toArray, List.set_cons_zero, List.set_cons_succ]
          refine wpAnyH_take (i := 16) (oi := { dst := some 10, op := Op.assign (Operand.tmp 57), type := 28, pos := "term.go:152", after := #[{ on := 13, ground := Ground.data }, { on := 15, ground := Ground.chain }, { on := 0, ground := Ground.phase }, { on := 1, ground := Ground.phase }, { on := 2, ground := Ground.phase }, { on := 3, ground := Ground.phase }, { on := 4, ground := Ground.phase }, { on := 5, ground := Ground.phase }, { on := 6, ground := Ground.phase }, { on := 7, ground := Ground.phase }, { on := 8, ground := Ground.phase }, { on := 9, ground := Ground.phase }, { on := 10, ground := Ground.phase }, { on := 11, ground := Ground.phase }, { on := 12, ground := Ground.phase }, { on := 13, ground := Ground.phase }, { on := 14, ground := Ground.phase }, { on := 15, ground := Ground.phase }], guard := none }) (v := ?_) rfl (by kernel_rfl) (by kernel_rfl) (by kernel_rfl) (fun _ _ _ h => h) (Or.inl ⟨by rfl, ?_⟩) (by assumption) ?_
          case refine_2 => intro w hSw; (try dsimp only at hSw); obtain ⟨hA, hB, hC, hD, hE, hF, hG, hH, hI, hJ⟩ := hSw; go_simp; (try with_reducible rfl)
          simp only [Act.put, List.setIfInBounds_toArray, List.set_cons_zero, List.set_cons_succ]
          refine wpAnyH_done (by kernel_rfl) ?_ _
          go_wp2_with fail
          go_meet
          case rel => exact ⟨_, _, _, rfl, rfl, HL.out⟩
        · skip
          go_simp
          have HF3 : Hid _ := HF2.out.box
          refine hK.out _ _ ?_ (fun hHeld => ?_)
          · first | exact gs_cells HF4.out hB hg1 u0 u1 u2 u3 u4 u5 | exact gs_cells HF3.out hB hg1 u0 u1 u2 u3 u4 u5 | exact gs_cells HF2.out hB hg1 u0 u1 u2 u3 u4 u5 | exact gs_cells HF1.out hB hg1 u0 u1 u2 u3 u4 u5
          clear hK K
          try simp only [Act.put, List.setIfInBounds_toArray, List.set_cons_zero, List.set_cons_succ]
          generalize hV : W6.alloc (.cells #[.int .i64 0, .int .i64 0, .slice none 0 0] 24) = A3 at *
          clear hV
          refine wpAnyH_ready (rs := [10]) (by kernel_rfl) (by simp) ?_
          refine (AllReadyH.cons (o := { dst := some 55, op := Op.call { callee := Callee.value (Operand.func 15), args := #[Operand.tmp 48, Operand.tmp 49, Operand.tmp 54], argTypes := #[27, 22, 22] }, type := 29, pos := "term.go:152", after := #[{ on := 3, ground := Ground.data }, { on := 4, ground := Ground.data }, { on := 9, ground := Ground.data }, { on := 9, ground := Ground.chain }], guard := none }) rfl (fun K hK => ?_) AllReadyH.nil)
          go_simp
          (with_reducible refine (KX _ _ _ (hB.trans (HF3.out.bel.mono hw0)) (HF3.out.ap _ _ rfl)).mono ?_)
          rintro e w5 ⟨⟨a1, c1, d1, rfl, hz1⟩, hk1⟩
          unfold vty
          dsimp only
          have HF4 : Hid _ := HF3.out.called hk1 hz1
          clear hz1 hk1
          refine hK.out _ _ ?_ (fun hHeld => ?_)
          · first | exact gs_cells HF4.out hB hg1 u0 u1 u2 u3 u4 u5 | exact gs_cells HF3.out hB hg1 u0 u1 u2 u3 u4 u5 | exact gs_cells HF2.out hB hg1 u0 u1 u2 u3 u4 u5 | exact gs_cells HF1.out hB hg1 u0 u1 u2 u3 u4 u5
          clear hK K
          try simp only [Act.put, List.setIfInBounds_toArray, List.set_cons_zero, List.set_cons_succ]
          refine wpAnyH_take (i := 11) (oi := { dst := some 44, op := Op.move (Operand.tmp 55), type := 29, pos := "term.go:152", after := #[{ on := 10, ground := Ground.data }], guard := none }) (v := ?_) rfl (by kernel_rfl) (by kernel_rfl) (by kernel_rfl) (fun _ _ _ h => h) (Or.inl ⟨by rfl, ?_⟩) (by assumption) ?_
          case refine_2 => intro w hSw; (try dsimp only at hSw); obtain ⟨hA, hB, hC, hD, hE, hF, hG, hH, hI, hJ⟩ := hSw; go_simp; (try with_reducible rfl)
          simp only [Act.put, List.setIfInBounds_toArray, List.set_cons_zero, List.set_cons_succ]
          refine wpAnyH_take (i := 12) (oi := { dst := some 56, op := Op.extract (Operand.tmp 44) 0, type := 24, pos := "term.go:152", after := #[{ on := 11, ground := Ground.data }], guard := none }) (v := ?_) rfl (by kernel_rfl) (by kernel_rfl) (by kernel_rfl) (fun _ _ _ h => h) (Or.inl ⟨by rfl, ?_⟩) (by assumption) ?_
          case refine_2 => intro w hSw; (try dsimp only at hSw); obtain ⟨hA, hB, hC, hD, hE, hF, hG, hH, hI, hJ⟩ := hSw; go_simp; (try with_reducible rfl)
          simp only [Act.put, List.setIfInBounds_toArray, List.set_cons_zero, List.set_cons_succ]
          refine wpAnyH_take (i := 13) (oi := { dst := some 57, op := Op.extract (Operand.tmp 44) 1, type := 28, pos := "term.go:152", after := #[{ on := 11, ground := Ground.data }, { on := 15, ground := Ground.gcOnly Departure.lateStores }], guard := none }) (v := ?_) rfl (by kernel_rfl) (by kernel_rfl) (by kernel_rfl) (fun _ _ _ h => h) (Or.inl ⟨by rfl, ?_⟩) (by assumption) ?_
          case refine_2 => intro w hSw; (try dsimp only at hSw); obtain ⟨hA, hB, hC, hD, hE, hF, hG, hH, hI, hJ⟩ := hSw; go_simp; (try with_reducible rfl)
          simp only [Act.put, List.setIfInBounds_toArray, List.set_cons_zero, List.set_cons_succ]
          refine wpAnyH_ready (rs := [15]) (by kernel_rfl) (by simp) ?_
          refine (AllReadyH.cons (o := { dst := none, op := Op.store 24 (Operand.tmp 9) (Operand.tmp 56), type := 0, pos := "term.go:152", after := #[{ on := 14, ground := Ground.data }, { on := 12, ground := Ground.data }, { on := 10, ground := Ground.chain }, { on := 0, ground := Ground.phase }, { on := 1, ground := Ground.phase }, { on := 2, ground := Ground.phase }, { on := 3, ground := Ground.phase }, { on := 4, ground := Ground.phase }, { on := 5, ground := Ground.phase }, { on := 6, ground := Ground.phase }, { on := 7, ground := Ground.phase }, { on := 8, ground := Ground.phase }, { on := 9, ground := Ground.phase }, { on := 10, ground := Ground.phase }, { on := 11, ground := Ground.phase }, { on := 12, ground := Ground.phase }, { on := 13, ground := Ground.textOnly Departure.lateStores }, { on := 14, ground := Ground.phase }], guard := none }) rfl (fun K hK => ?_) AllReadyH.nil)
          have HR := HF4.out.ab _ rfl
          have m0 := cell_of_row _ _ 0 _ _ _ HR.2
          have m1 := cell_of_row _ _ 1 _ _ _ HR.2
          have m2 := cell_of_row _ _ 2 _ _ _ HR.2
          have f0 := frozen_of_row _ _ 0 _ 24 HR.2
          have f1 := frozen_of_row _ _ 1 _ 24 HR.2
          have f2 := frozen_of_row _ _ 2 _ 24 HR.2
          go_simp
          have HL : Hid _ := HF4.out.laid hw0
          refine hK.out _ _ ?_ (fun hHeld => ?_)
          · exact gs_cells HL.out.1 hB hg1 u0 u1 u2 u3 u4 u5
          clear hK K
          try simp only [Act.put, List.setIfInBounds_toArray, List.set_cons_zero, List.set_cons_succ]
          refine wpAnyH_take (i := 16) (oi := { dst := some 10, op := Op.assign (Operand.tmp 57), type := 28, pos := "term.go:152", after := #[{ on := 13, ground := Ground.data }, { on := 15, ground := Ground.chain }, { on := 0, ground := Ground.phase }, { on := 1, ground := Ground.phase }, { on := 2, ground := Ground.phase }, { on := 3, ground := Ground.phase }, { on := 4, ground := Ground.phase }, { on := 5, ground := Ground.phase }, { on := 6, ground := Ground.phase }, { on := 7, ground := Ground.phase }, { on := 8, ground := Ground.phase }, { on := 9, ground := Ground.phase }, { on := 10, ground := Ground.phase }, { on := 11, ground := Ground.phase }, { on := 12, ground := Ground.phase }, { on := 13, ground := Ground.phase }, { on := 14, ground := Ground.phase }, { on := 15, ground := Ground.phase }], guard := none }) (v := ?_) rfl (by kernel_rfl) (by kernel_rfl) (by kernel_rfl) (fun _ _ _ h => h) (Or.inl ⟨by rfl, ?_⟩) (by assumption) ?_
          case refine_2 => intro w hSw; (try dsimp only at hSw); obtain ⟨hA, hB, hC, hD, hE, hF, hG, hH, hI, hJ⟩ := hSw; go_simp; (try with_reducible rfl)
          simp only [Act.put, List.setIfInBounds_toArray, List.set_cons_zero, List.set_cons_succ]
          refine wpAnyH_done (by kernel_rfl) ?_ _
          go_wp2_with fail
          go_meet
          case rel => exact ⟨_, _, _, rfl, rfl, HL.out⟩
      · skip
        go_simp
        have HF2 : Hid _ := HF1.out.box
        refine hK.out _ _ ?_ (fun hHeld => ?_)
        · first | exact gs_cells HF4.out hB hg1 u0 u1 u2 u3 u4 u5 | exact gs_cells HF3.out hB hg1 u0 u1 u2 u3 u4 u5 | exact gs_cells HF2.out hB hg1 u0 u1 u2 u3 u4 u5 | exact gs_cells HF1.out hB hg1 u0 u1 u2 u3 u4 u5
        clear hK K
        try simp only [Act.put, List.setIfInBounds_toArray, List.set_cons_zero, List.set_cons_succ]
        generalize hV : B1.alloc (.cells #[.int .i64 0, .int .i64 0, .slice none 0 0] 24) = A2 at *
        clear hV
        refine wpAnyH_ready (rs := [9]) (by kernel_rfl) (by simp) ?_
        refine (AllReadyH.cons (o := { dst := some 54, op := Op.call { callee := Callee.builtin Builtin.append, args := #[Operand.tmp 52, Operand.tmp 53], argTypes := #[22, 22] }, type := 22, pos := "term.go:152", after := #[{ on := 7, ground := Ground.data }, { on := 8, ground := Ground.data }], guard := none }) rfl (fun K hK => ?_) AllReadyH.nil)
        refine step_prep rfl (.tmp 52) (.tmp 53) rfl HF2.out HRB.out HY.out hbl rfl rfl ?_
        intro x6 c6 W6 HFn
        have HF3 : Hid _ := HFn
        clear HFn
        refine hK.out _ _ ?_ (fun hHeld => ?_)
        · first | exact gs_cells HF4.out hB hg1 u0 u1 u2 u3 u4 u5 | exact gs_cells HF3.out hB hg1 u0 u1 u2 u3 u4 u5 | exact gs_cells HF2.out hB hg1 u0 u1 u2 u3 u4 u5 | exact gs_cells HF1.out hB hg1 u0 u1 u2 u3 u4 u5
        clear hK K
        try simp only [Act.put, List.setIfInBounds_toArray, List.set_cons_zero, List.set_cons_succ]
        refine wpAnyH_ready (rs := [10]) (by kernel_rfl) (by simp) ?_
        refine (AllReadyH.cons (o := { dst := some 55, op := Op.call { callee := Callee.value (Operand.func 15), args := #[Operand.tmp 48, Operand.tmp 49, Operand.tmp 54], argTypes := #[27, 22, 22] }, type := 29, pos := "term.go:152", after := #[{ on := 3, ground := Ground.data }, { on := 4, ground := Ground.data }, { on := 9, ground := Ground.data }, { on := 9, ground := Ground.chain }], guard := none }) rfl (fun K hK => ?_) AllReadyH.nil)
        go_simp
        (with_reducible refine (KX _ _ _ (hB.trans (HF3.out.bel.mono hw0)) (HF3.out.ap _ _ rfl)).mono ?_)
        rintro e w5 ⟨⟨a1, c1, d1, rfl, hz1⟩, hk1⟩
        unfold vty
        dsimp only
        have HF4 : Hid _ := HF3.out.called hk1 hz1
        clear hz1 hk1
        refine hK.out _ _ ?_ (fun hHeld => ?_)
        · first | exact gs_cells HF4.out hB hg1 u0 u1 u2 u3 u4 u5 | exact gs_cells HF3.out hB hg1 u0 u1 u2 u3 u4 u5 | exact gs_cells HF2.out hB hg1 u0 u1 u2 u3 u4 u5 | exact gs_cells HF1.out hB hg1 u0 u1 u2 u3 u4 u5
        clear hK K
        try simp only [Act.put, List.setIfInBounds_toArray, List.set_cons_zero, List.set_cons_succ]
        refine wpAnyH_take (i := 11) (oi := { dst := some 44, op := Op.move (Operand.tmp 55), type := 29, pos := "term.go:152", after := #[{ on := 10, ground := Ground.data }], guard := none }) (v := ?_) rfl (by kernel_rfl) (by kernel_rfl) (by kernel_rfl) (fun _ _ _ h => h) (Or.inl ⟨by rfl, ?_⟩) (by assumption) ?_
        case refine_2 => intro w hSw; (try dsimp only at hSw); obtain ⟨hA, hB, hC, hD, hE, hF, hG, hH, hI, hJ⟩ := hSw; go_simp; (try with_reducible rfl)
        simp only [Act.put, List.setIfInBounds_toArray, List.set_cons_zero, List.set_cons_succ]
        refine wpAnyH_take (i := 12) (oi := { dst := some 56, op := Op.extract (Operand.tmp 44) 0, type := 24, pos := "term.go:152", after := #[{ on := 11, ground := Ground.data }], guard := none }) (v := ?_) rfl (by kernel_rfl) (by kernel_rfl) (by kernel_rfl) (fun _ _ _ h => h) (Or.inl ⟨by rfl, ?_⟩) (by assumption) ?_
        case refine_2 => intro w hSw; (try dsimp only at hSw); obtain ⟨hA, hB, hC, hD, hE, hF, hG, hH, hI, hJ⟩ := hSw; go_simp; (try with_reducible rfl)
        simp only [Act.put, List.setIfInBounds_toArray, List.set_cons_zero, List.set_cons_succ]
        refine wpAnyH_take (i := 13) (oi := { dst := some 57, op := Op.extract (Operand.tmp 44) 1, type := 28, pos := "term.go:152", after := #[{ on := 11, ground := Ground.data }, { on := 15, ground := Ground.gcOnly Departure.lateStores }], guard := none }) (v := ?_) rfl (by kernel_rfl) (by kernel_rfl) (by kernel_rfl) (fun _ _ _ h => h) (Or.inl ⟨by rfl, ?_⟩) (by assumption) ?_
        case refine_2 => intro w hSw; (try dsimp only at hSw); obtain ⟨hA, hB, hC, hD, hE, hF, hG, hH, hI, hJ⟩ := hSw; go_simp; (try with_reducible rfl)
        simp only [Act.put, List.setIfInBounds_toArray, List.set_cons_zero, List.set_cons_succ]
        refine wpAnyH_ready (rs := [15]) (by kernel_rfl) (by simp) ?_
        refine (AllReadyH.cons (o := { dst := none, op := Op.store 24 (Operand.tmp 9) (Operand.tmp 56), type := 0, pos := "term.go:152", after := #[{ on := 14, ground := Ground.data }, { on := 12, ground := Ground.data }, { on := 10, ground := Ground.chain }, { on := 0, ground := Ground.phase }, { on := 1, ground := Ground.phase }, { on := 2, ground := Ground.phase }, { on := 3, ground := Ground.phase }, { on := 4, ground := Ground.phase }, { on := 5, ground := Ground.phase }, { on := 6, ground := Ground.phase }, { on := 7, ground := Ground.phase }, { on := 8, ground := Ground.phase }, { on := 9, ground := Ground.phase }, { on := 10, ground := Ground.phase }, { on := 11, ground := Ground.phase }, { on := 12, ground := Ground.phase }, { on := 13, ground := Ground.textOnly Departure.lateStores }, { on := 14, ground := Ground.phase }], guard := none }) rfl (fun K hK => ?_) AllReadyH.nil)
        have HR := HF4.out.ab _ rfl
        have m0 := cell_of_row _ _ 0 _ _ _ HR.2
        have m1 := cell_of_row _ _ 1 _ _ _ HR.2
        have m2 := cell_of_row _ _ 2 _ _ _ HR.2
        have f0 := frozen_of_row _ _ 0 _ 24 HR.2
        have f1 := frozen_of_row _ _ 1 _ 24 HR.2
        have f2 := frozen_of_row _ _ 2 _ 24 HR.2
        go_simp
        have HL : Hid _ := HF4.out.laid hw0
        refine hK.out _ _ ?_ (fun hHeld => ?_)
        · exact gs_cells HL.out.1 hB hg1 u0 u1 u2 u3 u4 u5
        clear hK K
        try simp only [Act.put, List.setIfInBounds_toArray, List.set_cons_zero, List.set_cons_succ]
        refine wpAnyH_take (i := 16) (oi := { dst := some 10, op := Op.assign (Operand.tmp 57), type := 28, pos := "term.go:152", after := #[{ on := 13, ground := Ground.data }, { on := 15, ground := Ground.chain }, { on := 0, ground := Ground.phase }, { on := 1, ground := Ground.phase }, { on := 2, ground := Ground.phase }, { on := 3, ground := Ground.phase }, { on := 4, ground := Ground.phase }, { on := 5, ground := Ground.phase }, { on := 6, ground := Ground.phase }, { on := 7, ground := Ground.phase }, { on := 8, ground := Ground.phase }, { on := 9, ground := Ground.phase }, { on := 10, ground := Ground.phase }, { on := 11, ground := Ground.phase }, { on := 12, ground := Ground.phase }, { on := 13, ground := Ground.phase }, { on := 14, ground := Ground.phase }, { on := 15, ground := Ground.phase }], guard := none }) (v := ?_) rfl (by kernel_rfl) (by kernel_rfl) (by kernel_rfl) (fun _ _ _ h => h) (Or.inl ⟨by rfl, ?_⟩) (by assumption) ?_
        case refine_2 => intro w hSw; (try dsimp only at hSw); obtain ⟨hA, hB, hC, hD, hE, hF, hG, hH, hI, hJ⟩ := hSw; go_simp; (try with_reducible rfl)
        simp only [Act.put, List.setIfInBounds_toArray, List.set_cons_zero, List.set_cons_succ]
        refine wpAnyH_done (by kernel_rfl) ?_ _
        go_wp2_with fail
        go_meet
        case rel => exact ⟨_, _, _, rfl, rfl, HL.out⟩
    · skip
      go_simp
      have HF1 : Hid _ := HF.out.box
      refine hK.out _ _ ?_ (fun hHeld => ?_)
      · first | exact gs_cells HF4.out hB hg1 u0 u1 u2 u3 u4 u5 | exact gs_cells HF3.out hB hg1 u0 u1 u2 u3 u4 u5 | exact gs_cells HF2.out hB hg1 u0 u1 u2 u3 u4 u5 | exact gs_cells HF1.out hB hg1 u0 u1 u2 u3 u4 u5
      clear hK K
      try simp only [Act.put, List.setIfInBounds_toArray, List.set_cons_zero, List.set_cons_succ]
      generalize hV : V0.alloc (.cells #[.int .i64 0, .int .i64 0, .slice none 0 0] 24) = A1 at *
      clear hV
      refine wpAnyH_ready (rs := [7]) (by kernel_rfl) (by simp) ?_
      refine (AllReadyH.cons (o := { dst := some 52, op := Op.buildSlice 22 1 #[(0, Operand.tmp 51)], type := 22, pos := "term.go:152", after := #[{ on := 6, ground := Ground.data }], guard := none }) rfl (fun K hK => ?_) AllReadyH.nil)
      go_simp
      have HF2 : Hid _ := HF1.out.built
      refine hK.out _ _ ?_ (fun hHeld => ?_)
      · first | exact gs_cells HF4.out hB hg1 u0 u1 u2 u3 u4 u5 | exact gs_cells HF3.out hB hg1 u0 u1 u2 u3 u4 u5 | exact gs_cells HF2.out hB hg1 u0 u1 u2 u3 u4 u5 | exact gs_cells HF1.out hB hg1 u0 u1 u2 u3 u4 u5
      clear hK K
      try simp only [Act.put, List.setIfInBounds_toArray, List.set_cons_zero, List.set_cons_succ]
      dsimp only at HF2
      generalize hV : A1.alloc (.cells #[.int .i64 y.kind, .int .i64 y.n, .slice b y.kids.length e0] 24) = B2 at *
      clear hV
      refine wpAnyH_ready (rs := [9]) (by kernel_rfl) (by simp) ?_
      refine (AllReadyH.cons (o := { dst := some 54, op := Op.call { callee := Callee.builtin Builtin.append, args := #[Operand.tmp 52, Operand.tmp 53], argTypes := #[22, 22] }, type := 22, pos := "term.go:152", after := #[{ on := 7, ground := Ground.data }, { on := 8, ground := Ground.data }], guard := none }) rfl (fun K hK => ?_) AllReadyH.nil)
      refine step_prep rfl (.tmp 52) (.tmp 53) rfl HF2.out HRB.out HY.out hbl rfl rfl ?_
      intro x6 c6 W6 HFn
      have HF3 : Hid _ := HFn
      clear HFn
      refine hK.out _ _ ?_ (fun hHeld => ?_)
      · first | exact gs_cells HF4.out hB hg1 u0 u1 u2 u3 u4 u5 | exact gs_cells HF3.out hB hg1 u0 u1 u2 u3 u4 u5 | exact gs_cells HF2.out hB hg1 u0 u1 u2 u3 u4 u5 | exact gs_cells HF1.out hB hg1 u0 u1 u2 u3 u4 u5
      clear hK K
      try simp only [Act.put, List.setIfInBounds_toArray, List.set_cons_zero, List.set_cons_succ]
      refine wpAnyH_ready (rs := [10]) (by kernel_rfl) (by simp) ?_
      refine (AllReadyH.cons (o := { dst := some 55, op := Op.call { callee := Callee.value (Operand.func 15), args := #[Operand.tmp 48, Operand.tmp 49, Operand.tmp 54], argTypes := #[27, 22, 22] }, type := 29, pos := "term.go:152", after := #[{ on := 3, ground := Ground.data }, { on := 4, ground := Ground.data }, { on := 9, ground := Ground.data }, { on := 9, ground := Ground.chain }], guard := none }) rfl (fun K hK => ?_) AllReadyH.nil)
      go_simp
      (with_reducible refine (KX _ _ _ (hB.trans (HF3.out.bel.mono hw0)) (HF3.out.ap _ _ rfl)).mono ?_)
      rintro e w5 ⟨⟨a1, c1, d1, rfl, hz1⟩, hk1⟩
      unfold vty
      dsimp only
      have HF4 : Hid _ := HF3.out.called hk1 hz1
      clear hz1 hk1
      refine hK.out _ _ ?_ (fun hHeld => ?_)
      · first | exact gs_cells HF4.out hB hg1 u0 u1 u2 u3 u4 u5 | exact gs_cells HF3.out hB hg1 u0 u1 u2 u3 u4 u5 | exact gs_cells HF2.out hB hg1 u0 u1 u2 u3 u4 u5 | exact gs_cells HF1.out hB hg1 u0 u1 u2 u3 u4 u5
      clear hK K
      try simp only [Act.put, List.setIfInBounds_toArray, List.set_cons_zero, List.set_cons_succ]
      refine wpAnyH_take (i := 11) (oi := { dst := some 44, op := Op.move (Operand.tmp 55), type := 29, pos := "term.go:152", after := #[{ on := 10, ground := Ground.data }], guard := none }) (v := ?_) rfl (by kernel_rfl) (by kernel_rfl) (by kernel_rfl) (fun _ _ _ h => h) (Or.inl ⟨by rfl, ?_⟩) (by assumption) ?_
      case refine_2 => intro w hSw; (try dsimp only at hSw); obtain ⟨hA, hB, hC, hD, hE, hF, hG, hH, hI, hJ⟩ := hSw; go_simp; (try with_reducible rfl)
      simp only [Act.put, List.setIfInBounds_toArray, List.set_cons_zero, List.set_cons_succ]
      refine wpAnyH_take (i := 12) (oi := { dst := some 56, op := Op.extract (Operand.tmp 44) 0, type := 24, pos := "term.go:152", after := #[{ on := 11, ground := Ground.data }], guard := none }) (v := ?_) rfl (by kernel_rfl) (by kernel_rfl) (by kernel_rfl) (fun _ _ _ h => h) (Or.inl ⟨by rfl, ?_⟩) (by assumption) ?_
      case refine_2 => intro w hSw; (try dsimp only at hSw); obtain ⟨hA, hB, hC, hD, hE, hF, hG, hH, hI, hJ⟩ := hSw; go_simp; (try with_reducible rfl)
      simp only [Act.put, List.setIfInBounds_toArray, List.set_cons_zero, List.set_cons_succ]
      refine wpAnyH_take (i := 13) (oi := { dst := some 57, op := Op.extract (Operand.tmp 44) 1, type := 28, pos := "term.go:152", after := #[{ on := 11, ground := Ground.data }, { on := 15, ground := Ground.gcOnly Departure.lateStores }], guard := none }) (v := ?_) rfl (by kernel_rfl) (by kernel_rfl) (by kernel_rfl) (fun _ _ _ h => h) (Or.inl ⟨by rfl, ?_⟩) (by assumption) ?_
      case refine_2 => intro w hSw; (try dsimp only at hSw); obtain ⟨hA, hB, hC, hD, hE, hF, hG, hH, hI, hJ⟩ := hSw; go_simp; (try with_reducible rfl)
      simp only [Act.put, List.setIfInBounds_toArray, List.set_cons_zero, List.set_cons_succ]
      refine wpAnyH_ready (rs := [15]) (by kernel_rfl) (by simp) ?_
      refine (AllReadyH.cons (o := { dst := none, op := Op.store 24 (Operand.tmp 9) (Operand.tmp 56), type := 0, pos := "term.go:152", after := #[{ on := 14, ground := Ground.data }, { on := 12, ground := Ground.data }, { on := 10, ground := Ground.chain }, { on := 0, ground := Ground.phase }, { on := 1, ground := Ground.phase }, { on := 2, ground := Ground.phase }, { on := 3, ground := Ground.phase }, { on := 4, ground := Ground.phase }, { on := 5, ground := Ground.phase }, { on := 6, ground := Ground.phase }, { on := 7, ground := Ground.phase }, { on := 8, ground := Ground.phase }, { on := 9, ground := Ground.phase }, { on := 10, ground := Ground.phase }, { on := 11, ground := Ground.phase }, { on := 12, ground := Ground.phase }, { on := 13, ground := Ground.textOnly Departure.lateStores }, { on := 14, ground := Ground.phase }], guard := none }) rfl (fun K hK => ?_) AllReadyH.nil)
      have HR := HF4.out.ab _ rfl
      have m0 := cell_of_row _ _ 0 _ _ _ HR.2
      have m1 := cell_of_row _ _ 1 _ _ _ HR.2
      have m2 := cell_of_row _ _ 2 _ _ _ HR.2
      have f0 := frozen_of_row _ _ 0 _ 24 HR.2
      have f1 := frozen_of_row _ _ 1 _ 24 HR.2
      have f2 := frozen_of_row _ _ 2 _ 24 HR.2
      go_simp
      have HL : Hid _ := HF4.out.laid hw0
      refine hK.out _ _ ?_ (fun hHeld => ?_)
      · exact gs_cells HL.out.1 hB hg1 u0 u1 u2 u3 u4 u5
      clear hK K
      try simp only [Act.put, List.setIfInBounds_toArray, List.set_cons_zero, List.set_cons_succ]
      refine wpAnyH_take (i := 16) (oi := { dst := some 10, op := Op.assign (Operand.tmp 57), type := 28, pos := "term.go:152", after := #[{ on := 13, ground := Ground.data }, { on := 15, ground := Ground.chain }, { on := 0, ground := Ground.phase }, { on := 1, ground := Ground.phase }, { on := 2, ground := Ground.phase }, { on := 3, ground := Ground.phase }, { on := 4, ground := Ground.phase }, { on := 5, ground := Ground.phase }, { on := 6, ground := Ground.phase }, { on := 7, ground := Ground.phase }, { on := 8, ground := Ground.phase }, { on := 9, ground := Ground.phase }, { on := 10, ground := Ground.phase }, { on := 11, ground := Ground.phase }, { on := 12, ground := Ground.phase }, { on := 13, ground := Ground.phase }, { on := 14, ground := Ground.phase }, { on := 15, ground := Ground.phase }], guard := none }) (v := ?_) rfl (by kernel_rfl) (by kernel_rfl) (by kernel_rfl) (fun _ _ _ h => h) (Or.inl ⟨by rfl, ?_⟩) (by assumption) ?_
      case refine_2 => intro w hSw; (try dsimp only at hSw); obtain ⟨hA, hB, hC, hD, hE, hF, hG, hH, hI, hJ⟩ := hSw; go_simp; (try with_reducible rfl)
      simp only [Act.put, List.setIfInBounds_toArray, List.set_cons_zero, List.set_cons_succ]
      refine wpAnyH_done (by kernel_rfl) ?_ _
      go_wp2_with fail
      go_meet
      case rel => exact ⟨_, _, _, rfl, rfl, HL.out⟩
  case rest =>
  obtain ⟨R, a1, c1, rfl, rfl, hF, hR, hbR, dz, hT⟩ := hcut
  have HF : Hid (Gs w0 w (.cells #[.int .i64 3, .int .i64 n, .int .i64 y.kind, .int .i64 y.n, .slice b y.kids.length e0, .slice (some ⟨g1, off1, none⟩) 1 c] 27) y (b, e0) br wc none none none none) := hF
  have hY3 := hF.rb
  have hY5 := hF.nb
  have hi := hF.hi
  have tb2 := cell_of_row _ _ 2 _ _ _ hF.tb
  have tb3 := cell_of_row _ _ 3 _ _ _ hF.tb
  have tb4 := cell_of_row _ _ 4 _ _ _ hF.tb
  have k0 := cell_of_row _ _ 0 _ _ _ hbR
  have k1 := cell_of_row _ _ 1 _ _ _ hbR
  have k2 := cell_of_row _ _ 2 _ _ _ hbR
  have e0' := frozen_of_row _ _ 0 _ 24 hbR
  have e1' := frozen_of_row _ _ 1 _ 24 hbR
  have e2' := frozen_of_row _ _ 2 _ 24 hbR
  have hRl := lt_of_get hbR
  clear hF KX
  by_cases h1 : r1 = 0
  · subst h1
    go_upto_region 16 with fail
    have k3 := ko3 wc R (.int .i64 2) (.int .i64 0) (.slice (some ⟨wc.heap.size, 0, none⟩) 2 2)
    have hlr := laid_box hbR 2 0 (some ⟨wc.heap.size, 0, none⟩) 2 2
    have hsz : (((wc.setCell ⟨R, 0, none⟩ (.int .i64 2)).setCell ⟨R, 1, none⟩ (.int .i64 0)).setCell ⟨R, 2, none⟩ (.slice (some ⟨wc.heap.size, 0, none⟩) 2 2)).heap.size = wc.heap.size := by simp
    have hbs : Below w.heap.size w (((wc.setCell ⟨R, 0, none⟩ (.int .i64 2)).setCell ⟨R, 1, none⟩ (.int .i64 0)).setCell ⟨R, 2, none⟩ (.slice (some ⟨wc.heap.size, 0, none⟩) 2 2)) := ((HF.out.bel.setCell (p := ⟨R, 0, none⟩) (by show w.heap.size ≤ R; omega) _).setCell (p := ⟨R, 1, none⟩) (by show w.heap.size ≤ R; omega) _).setCell (p := ⟨R, 2, none⟩) (by show w.heap.size ≤ R; omega) _
    generalize hWs : (((wc.setCell ⟨R, 0, none⟩ (.int .i64 2)).setCell ⟨R, 1, none⟩ (.int .i64 0)).setCell ⟨R, 2, none⟩ (.slice (some ⟨wc.heap.size, 0, none⟩) 2 2)) = Ws at *
    have hbV : Below Ws.heap.size Ws (Ws.alloc (.cells #[.int .i64 y.kind, .int .i64 y.n, .slice b y.kids.length e0, .int .i64 y1.kind, .int .i64 y1.n, .slice a1 y1.kids.length c1] 24)) := (Below.refl _ _).alloc (Nat.le_refl _) _
    have hx1 := heap_alloc_new Ws (.cells #[.int .i64 y.kind, .int .i64 y.n, .slice b y.kids.length e0, .int .i64 y1.kind, .int .i64 y1.n, .slice a1 y1.kids.length c1] 24)
    have hsV : (Ws.alloc (.cells #[.int .i64 y.kind, .int .i64 y.n, .slice b y.kids.length e0, .int .i64 y1.kind, .int .i64 y1.n, .slice a1 y1.kids.length c1] 24)).heap.size = Ws.heap.size + 1 := by simp
    generalize hV : Ws.alloc (.cells #[.int .i64 y.kind, .int .i64 y.n, .slice b y.kids.length e0, .int .i64 y1.kind, .int .i64 y1.n, .slice a1 y1.kids.length c1] 24) = V at *
    rw [hsz] at hx1
    have hbwV : Below w.heap.size w V := hbs.trans (hbV.mono hbs.size)
    have hZR : V.heap[R]? = some (.cells #[.int .i64 2, .int .i64 0, .slice (some ⟨wc.heap.size, 0, none⟩) 2 2] 24 (0, 0)) := (hbV.block R (by omega)).trans hlr
    have hZ3 := (hbV.block (w.heap.size + 1) (by omega)).trans ((k3 (w.heap.size + 1) (by omega)).trans hY3)
    have hZ5 := (hbV.block (w.heap.size + 2) (by omega)).trans ((k3 (w.heap.size + 2) (by omega)).trans hY5)
    have HTV : Hid (TyP (fun g => g < w0.heap.size ∨ w.heap.size + 1 < g) V (max dy dz + 1) ⟨2, 0, [y, y1]⟩ (some ⟨wc.heap.size, 0, none⟩) 2) := by
      have hy2 : TyP (fun g => g < w0.heap.size ∨ w.heap.size + 1 < g) V (max dy dz) y b e0 := (HY.out.within.keep (Nat.le_trans hw0 hbwV.size) (fun g hg _ => ⟨.inl hg, (hbwV.block g (by omega)).trans (hB.block g hg)⟩)).upto (Nat.le_max_left _ _)
      have hz2 : TyP (fun g => g < w0.heap.size ∨ w.heap.size + 1 < g) V (max dy dz) y1 a1 c1 := (hT.keep (by omega) (fun g hg hP => ⟨by rcases hP with hP | hP; exact .inl hP; (right; omega), (hbV.block g (by omega)).trans (k3 g (by omega))⟩)).upto (Nat.le_max_right _ _)
      refine ⟨by (unfold i64B; dsimp only; omega), by (unfold i64B; dsimp only; omega), by (show 2 ≤ 140737488355328; omega), .inr ⟨wc.heap.size, 0, rfl, by omega, .inr (by omega), fun j hj => ?_⟩⟩
      have hj' : j = 0 ∨ j = 1 := by have hj2 : j < 2 := hj; omega
      rcases hj' with rfl | rfl
      · exact ⟨b, e0, cell_of_row _ _ 0 _ _ _ hx1, cell_of_row _ _ 1 _ _ _ hx1, cell_of_row _ _ 2 _ _ _ hx1, hy2⟩
      · exact ⟨a1, c1, cell_of_row _ _ 3 _ _ _ hx1, cell_of_row _ _ 4 _ _ _ hx1, cell_of_row _ _ 5 _ _ _ hx1, hz2⟩
    have K26 := size_any (max dy dz + 1) ⟨2, 0, [y, y1]⟩ (some ⟨wc.heap.size, 0, none⟩) 2 V 60 HTV.out.at (by omega)
    unfold vty at K26
    dsimp only at K26
    rw [show [y, y1].length = 2 from rfl, show (((60 : Nat) : Int)) = (60 : Int) from rfl] at K26
    have HR2 : Hid ((60 < sz ⟨2, 0, [y, y1]⟩ → r = (7, noTy)) ∧ (¬ 60 < sz ⟨2, 0, [y, y1]⟩ → r = (0, ⟨2, 0, [y, y1]⟩))) := HAP.out.2 rfl
    have hRV : R < V.heap.size := by omega
    have z0 := cell_of_row _ _ 0 _ _ _ hZR
    have z1 := cell_of_row _ _ 1 _ _ _ hZR
    have z2 := cell_of_row _ _ 2 _ _ _ hZR
    have hGV : w.heap.size + 2 < V.heap.size := by omega
    generalize hG : wc.heap.size = G at *
    clear hV hWs hbs hlr hsz k3 hx1 hbV hsV tb2 tb3 tb4 k0 k1 k2 e0' e1' e2' hbR hY3 hY5 hT
    by_cases h6 : 60 < sz ⟨2, 0, [y, y1]⟩
    · have hcap : cap (sz ⟨2, 0, [y, y1]⟩) 60 = 61 := by unfold cap; rw [if_neg (by omega)]
      have HRR : Hid (r = (7, noTy)) := HR2.out.1 h6
      rw [hcap] at K26
      clear hcap h6
      go_upto_region 17 with (go_at_call 26; (with_reducible refine K26.mono ?_); rintro e w7 ⟨rfl, hb7⟩)
      have hU3 := (hb7.block (w.heap.size + 1) (by omega)).trans hZ3
      have hU5 := (hb7.block (w.heap.size + 2) (by omega)).trans hZ5
      have hbw7 : Below w.heap.size w w7 := hbwV.trans (hb7.mono hbwV.size)
      have m0 := cell_of_row _ _ 0 _ _ _ hU3
      have m1 := cell_of_row _ _ 1 _ _ _ hU3
      have m2 := cell_of_row _ _ 2 _ _ _ hU3
      have f0 := frozen_of_row _ _ 0 _ 24 hU3
      have f1 := frozen_of_row _ _ 1 _ 24 hU3
      have f2 := frozen_of_row _ _ 2 _ 24 hU3
      have l0 := cell_of_row _ _ 0 _ _ _ hU5
      have l1 := cell_of_row _ _ 1 _ _ _ hU5
      have l2 := cell_of_row _ _ 2 _ _ _ hU5
      go_wp2
      have hl3 := laid_box hU3 0 0 none 0 0
      refine bodyPost_ret (results_row_tmp rfl _ _ (w.heap.size + 1) 24 _ (0, 0) _ rfl hl3 Try.underlying24 rfl size24) rfl ?_
      exact ansD_bad hbw7 hw0 (by omega) HRR.out
    · have hcap : cap (sz ⟨2, 0, [y, y1]⟩) 60 = sz ⟨2, 0, [y, y1]⟩ := by unfold cap; rw [if_pos (by omega)]
      have HRR : Hid (r = (0, ⟨2, 0, [y, y1]⟩)) := HR2.out.2 h6
      rw [hcap] at K26
      have hle : ¬ (60 : Int) < ((sz ⟨2, 0, [y, y1]⟩ : Nat) : Int) := by omega
      generalize sz ⟨2, 0, [y, y1]⟩ = Z at *
      clear hcap h6
      go_upto_region 18 with (go_at_call 26; (with_reducible refine K26.mono ?_); rintro e w7 ⟨rfl, hb7⟩)
      have hU3 := (hb7.block (w.heap.size + 1) (by omega)).trans hZ3
      have hbw7 : Below w.heap.size w w7 := hbwV.trans (hb7.mono hbwV.size)
      have n0 := (hb7.cell (p := ⟨R, 0, none⟩) hRV).trans z0
      have n1 := (hb7.cell (p := ⟨R, 1, none⟩) hRV).trans z1
      have n2 := (hb7.cell (p := ⟨R, 2, none⟩) hRV).trans z2
      have m0 := cell_of_row _ _ 0 _ _ _ hU3
      have m1 := cell_of_row _ _ 1 _ _ _ hU3
      have m2 := cell_of_row _ _ 2 _ _ _ hU3
      have f0 := frozen_of_row _ _ 0 _ 24 hU3
      have f1 := frozen_of_row _ _ 1 _ 24 hU3
      have f2 := frozen_of_row _ _ 2 _ 24 hU3
      go_wp2
      have hl3 := laid_box hU3 2 0 (some ⟨G, 0, none⟩) 2 2
      refine bodyPost_ret (results_row_tmp rfl _ _ (w.heap.size + 1) 24 _ (0, 0) _ rfl hl3 Try.underlying24 rfl size24) rfl ?_
      exact ansD_set (y := ⟨2, 0, [y, y1]⟩) hbw7 hw0 (by omega) (HTV.out.below hb7) HRR.out
  · have b1 : (r1 != 0) = true := bne_iff_ne.2 h1
    have HRR : Hid (r = (r1, noTy)) := HAP.out.1 h1
    have m0 := cell_of_row _ _ 0 _ _ _ hY3
    have m1 := cell_of_row _ _ 1 _ _ _ hY3
    have m2 := cell_of_row _ _ 2 _ _ _ hY3
    have f0 := frozen_of_row _ _ 0 _ 24 hY3
    have f1 := frozen_of_row _ _ 1 _ 24 hY3
    have f2 := frozen_of_row _ _ 2 _ 24 hY3
    have l0 := cell_of_row _ _ 0 _ _ _ hY5
    have l1 := cell_of_row _ _ 1 _ _ _ hY5
    have l2 := cell_of_row _ _ 2 _ _ _ hY5
    go_wp2
    have hl3 := laid_box hY3 0 0 none 0 0
    refine bodyPost_ret (results_row_tmp rfl _ _ (w.heap.size + 1) 24 _ (0, 0) _ rfl hl3 Try.underlying24 rfl size24) rfl ?_
    exact ansD_bad HF.out.bel hw0 (by omega) HRR.out
theorem doesD_all : ∀ d, DoesD d := by
  intro d
  induction d with
  | zero => intro t b e0 a c w0 w br cons xa ca ac cc h; exact h.elim
  | succ d ih =>
    intro t b e0 a c w0 w br cons xa ca ac cc h hw ha hc hs h20 hB hcs hr
    obtain ⟨k, n, y, ks⟩ := t
    rcases right_cases hw with ⟨hk, hks, hn0⟩ | ⟨hk, hks, hn0⟩ | ⟨hk, x, hks, hwx, hgy⟩ | ⟨hk, f, x, hks, hwf, hwx⟩
    · dsimp only at hk hks hn0
      subst hk hks
      obtain ⟨m, rfl⟩ : ∃ m : Nat, n = (m : Int) := ⟨n.toNat, by omega⟩
      exact var_doc m y b e0 a c w0 w br cons xa ca ac cc (by omega) hB hr
    · dsimp only at hk hks hn0
      subst hk hks
      obtain ⟨m, rfl⟩ : ∃ m : Nat, n = (m : Int) := ⟨n.toNat, by omega⟩
      exact con_doc m y b e0 a c w0 w br cons xa ca ac cc h20 hB hcs
    · dsimp only at hk hks hgy
      subst hk hks
      exact fn_doc ih n y x b e0 a c w0 w br cons xa ca ac cc h hwx hgy ha hc hs h20 hB hcs hr
    · dsimp only at hk hks
      subst hk hks
      exact app_doc ih n y f x b e0 a c w0 w br cons xa ca ac cc h hwf hwx ha hc hs h20 hB hcs hr
end Go.Proofs.Ytofbnfpncekddaa.Te
