/- typeOfFn, on condition of typeOf at what is in the term. -/
import Derived.Test.YtofbnfpncekddaaTn
namespace Go.Proofs.Ytofbnfpncekddaa.Te
open Go.RowKit

theorem fn_cases {n : Int} {y : Ty} {x : Tm} (ar cons : List Ty) : ((tyOf x (ar ++ [y]) cons).1 ≠ 0 → tyOf ⟨3, n, y, [x]⟩ ar cons = ((tyOf x (ar ++ [y]) cons).1, noTy)) ∧ ((tyOf x (ar ++ [y]) cons).1 = 0 → (60 < sz ⟨2, 0, [y, (tyOf x (ar ++ [y]) cons).2]⟩ → tyOf ⟨3, n, y, [x]⟩ ar cons = (7, noTy)) ∧ (¬ 60 < sz ⟨2, 0, [y, (tyOf x (ar ++ [y]) cons).2]⟩ → tyOf ⟨3, n, y, [x]⟩ ar cons = (0, ⟨2, 0, [y, (tyOf x (ar ++ [y]) cons).2]⟩))) := by
  rw [ty_fn]
  exact ⟨fun h => by rw [if_pos h], fun h => ⟨fun h2 => by rw [if_neg (by simp [h]), if_pos h2], fun h2 => by rw [if_neg (by simp [h]), if_neg h2]⟩⟩
theorem fs_cells {w0 w : World} {ar cons : List Ty} {xa : Option Addr} {ca : Nat} {ac : Option Addr} {cc : Nat} {own : Option Nat} {y : Ty} {bt : Option Addr × Nat} {q : Prop} {W : World} {al bl : Option Nat} {ap : Option (Option Addr × Nat)} {tp : Option (Ty × Option Addr × Nat)} {t0 t1 t2 t3 t4 t5 s0 s1 s2 s3 s4 s5 : Value} (h : Fs w0 w ar cons xa ca ac cc own (.cells #[t0, t1, t2, t3, t4, t5] 27) y bt q W al bl ap tp) {g1 off1 : Nat} (hg1 : g1 < w0.heap.size)
    (u0 : w0.cell? ⟨g1, off1, none⟩ = some s0) (u1 : w0.cell? ⟨g1, off1 + 1, none⟩ = some s1) (u2 : w0.cell? ⟨g1, off1 + 2, none⟩ = some s2) (u3 : w0.cell? ⟨g1, off1 + 3, none⟩ = some s3) (u4 : w0.cell? ⟨g1, off1 + 4, none⟩ = some s4) (u5 : w0.cell? ⟨g1, off1 + 5, none⟩ = some s5) :
    W.cell? ⟨w.heap.size, 2, none⟩ = some t2 ∧ W.cell? ⟨w.heap.size, 3, none⟩ = some t3 ∧ W.cell? ⟨w.heap.size, 4, none⟩ = some t4 ∧ W.cell? ⟨w.heap.size, 5, none⟩ = some t5 ∧ W.cell? ⟨g1, off1, none⟩ = some s0 ∧ W.cell? ⟨g1, off1 + 1, none⟩ = some s1 ∧ W.cell? ⟨g1, off1 + 2, none⟩ = some s2 ∧ W.cell? ⟨g1, off1 + 3, none⟩ = some s3 ∧ W.cell? ⟨g1, off1 + 4, none⟩ = some s4 ∧ W.cell? ⟨g1, off1 + 5, none⟩ = some s5 :=
  ⟨cell_of_row _ _ 2 _ _ _ h.tb, cell_of_row _ _ 3 _ _ _ h.tb, cell_of_row _ _ 4 _ _ _ h.tb, cell_of_row _ _ 5 _ _ _ h.tb, (h.ctx.bel.cell (p := ⟨g1, off1, none⟩) hg1).trans u0, (h.ctx.bel.cell (p := ⟨g1, off1 + 1, none⟩) hg1).trans u1, (h.ctx.bel.cell (p := ⟨g1, off1 + 2, none⟩) hg1).trans u2, (h.ctx.bel.cell (p := ⟨g1, off1 + 3, none⟩) hg1).trans u3, (h.ctx.bel.cell (p := ⟨g1, off1 + 4, none⟩) hg1).trans u4, (h.ctx.bel.cell (p := ⟨g1, off1 + 5, none⟩) hg1).trans u5⟩
set_option maxHeartbeats 8000000 in
theorem fn_any {d : Nat} (ih : Does d) (n : Int) (y : Ty) (x : Tm) (b : Option Addr) (e0 : Nat) (a : Option Addr) (c : Nat) (w0 w : World) (ar cons : List Ty) (xa : Option Addr) (ca : Nat) (ac : Option Addr) (cc : Nat) (h : TmAt w0 (d + 1) ⟨3, n, y, [x]⟩ b e0 a c) (hwx : wtm x = 0) (hgy : Good y) (ha : ∀ y ∈ ar, Good y) (hc : ∀ y ∈ cons, Good y) (hs : szm ⟨3, n, y, [x]⟩ + ar.length ≤ 1000) (h20 : cons.length ≤ 20) (hC : Ctx w0 w ar cons xa ca ac cc) :
    Calls Try.prog 28 #[vtm ⟨3, n, y, [x]⟩ b e0 a c, .slice xa ar.length ca, .slice ac cons.length cc] w fun e w' => Ans w0 w (Value.slice xa ar.length ca).ownBlock (tyOf ⟨3, n, y, [x]⟩ ar cons) e w' ∧ Ctx w0 w' ar cons xa ca ac cc := by
  have hs1 := kid_szm (t := ⟨3, n, y, [x]⟩) (x := x) (by simp)
  obtain ⟨own, hown⟩ : ∃ own, (Value.slice xa ar.length ca).ownBlock = own := ⟨_, rfl⟩
  have HOW : Hid (∀ g, own = some g → w0.heap.size ≤ g ∧ g < w.heap.size) := fun g hg => hC.own g (hown.trans hg)
  obtain ⟨g1, off1, bf, ef, af, cf, ga, hg1, u0, u1, u2, u3, u4, u5, htf⟩ := h.kid (j := 0) (by simp)
  obtain ⟨dy, hy⟩ := h.few.2.2.2
  subst ga
  simp only [List.getElem_cons_zero, Nat.zero_mul, Nat.add_zero] at u0 u1 u2 u3 u4 u5 htf
  have hln : (ar ++ [y]).length = ar.length + 1 := by simp
  have KX := fun w1 x1 c1 (hC1 : Ctx w0 w1 (ar ++ [y]) cons x1 c1 ac cc) => ih x bf ef af cf w0 w1 (ar ++ [y]) cons x1 c1 ac cc htf hwx (fun z hz => by rcases List.mem_append.1 hz with hz | hz; exact ha z hz; (simp at hz; rw [hz]; exact hgy)) hc (by omega) h20 hC1
  rw [hown]
  have hap := fn_cases (n := n) (y := y) (x := x) ar cons
  obtain ⟨r, hr⟩ : ∃ r, tyOf ⟨3, n, y, [x]⟩ ar cons = r := ⟨_, rfl⟩
  rw [hr] at hap ⊢
  obtain ⟨⟨r1, y1⟩, hr1⟩ : ∃ r, tyOf x (ar ++ [y]) cons = r := ⟨_, rfl⟩
  have HG1 : Hid (r1 = 0 → Good y1) := fun h0 => by
    have := tyOf_good _ x (ar ++ [y]) cons (Nat.le_refl _) hwx (fun z hz => by rcases List.mem_append.1 hz with hz | hz; exact ha z hz; (simp at hz; rw [hz]; exact hgy)) hc (by rw [hr1]; exact h0)
    rw [hr1] at this
    exact this
  rw [hr1] at KX hap
  dsimp only at hap KX
  have HAP : Hid ((r1 ≠ 0 → r = (r1, noTy)) ∧ (r1 = 0 → (60 < sz ⟨2, 0, [y, y1]⟩ → r = (7, noTy)) ∧ (¬ 60 < sz ⟨2, 0, [y, y1]⟩ → r = (0, ⟨2, 0, [y, y1]⟩)))) := hap
  have HC : Hid (Ctx w0 w ar cons xa ca ac cc) := hC
  have HY : Hid (TyAt w0 dy y b e0) := hy
  have HGY : Hid (Good y) := hgy
  unfold vtm at KX
  unfold vtm
  dsimp only at KX ⊢
  rw [hln] at KX
  have hb := two_boxes w (.cells #[.int .i64 3, .int .i64 n, .int .i64 y.kind, .int .i64 y.n, .slice b y.kids.length e0, .slice (some ⟨g1, off1, none⟩) 1 c] 27) (.cells #[.int .i64 0, .int .i64 0, .slice none 0 0] 24)
  obtain ⟨W0, hW0⟩ : ∃ W0, (w.alloc (.cells #[.int .i64 3, .int .i64 n, .int .i64 y.kind, .int .i64 y.n, .slice b y.kids.length e0, .slice (some ⟨g1, off1, none⟩) 1 c] 27)).alloc (.cells #[.int .i64 0, .int .i64 0, .slice none 0 0] 24) = W0 := ⟨_, rfl⟩
  rw [hW0] at hb
  obtain ⟨hx1, hx2, hs0, hb0⟩ := hb
  have HW0 : Hid ((w.alloc (.cells #[.int .i64 3, .int .i64 n, .int .i64 y.kind, .int .i64 y.n, .slice b y.kids.length e0, .slice (some ⟨g1, off1, none⟩) 1 c] 27)).alloc (.cells #[.int .i64 0, .int .i64 0, .slice none 0 0] 24) = W0) := hW0
  have HF : Hid (Fs w0 w ar cons xa ca ac cc own (.cells #[.int .i64 3, .int .i64 n, .int .i64 y.kind, .int .i64 y.n, .slice b y.kids.length e0, .slice (some ⟨g1, off1, none⟩) 1 c] 27) y (b, e0) (r1 = 0) W0.drew none none none none) := Fs.below (W := W0) ⟨hC.below hb0, kb_below hb0, by omega, hx1, hx2, (fun _ e => by cases e), (fun _ _ e => by cases e), (fun _ e => by cases e), (fun _ _ _ e => by cases e)⟩ (Below.refl _ _).drew
  have hw0 : w0.heap.size ≤ w.heap.size := HC.out.bel.size
  have HON : Hid (∀ g, own = some g → g < w.heap.size) := fun g hg => (HOW.out g hg).2
  have HOWN : Hid ((Value.slice xa ar.length ca).ownBlock = own) := hown
  have HS0 : Hid (w.heap.size + 2 ≤ W0.heap.size) := by (show w.heap.size + 2 ≤ W0.heap.size; omega)
  obtain ⟨i24, hi24, hz240, hz241, hz242⟩ := info_parts info24
  have harl : ar.length ≤ 1000 := by omega
  clear hW0 hr1 hr hap h hC ha hc htf hy hgy hx1 hx2 hs0 hown hs hs1 hb0
  go_enter Try.func28, Try.ntmps28
  go_upto_region 1 with fail
  rw [HW0.out]
  clear HW0
  go_cut [8, 9] from 11 to 24 (fun s8 s9 wx => ∃ (R : Nat) (z : Ty) (a1 : Option Addr) (c1 : Nat), s8 = .pointer (some ⟨R, 0, none⟩) ∧ s9 = .int .i64 r1 ∧ (r1 = 0 → z = y1) ∧ Fs w0 w ar cons xa ca ac cc own (.cells #[.int .i64 3, .int .i64 n, .int .i64 y.kind, .int .i64 y.n, .slice b y.kids.length e0, .slice (some ⟨g1, off1, none⟩) 1 c] 27) y (b, e0) (r1 = 0) wx none none none none ∧ w.heap.size + 2 ≤ R ∧ wx.heap[R]? = some (.cells #[.int .i64 z.kind, .int .i64 z.n, .slice a1 z.kids.length c1] 24 (0, 0)) ∧ (r1 = 0 → ∃ d, TyP (fun g => g < w0.heap.size ∨ (w.heap.size + 2 ≤ g ∧ g ≠ R)) wx d z a1 c1))
  case first =>
    refine wp_region_held_drew (S := fun W => W.cell? ⟨w.heap.size, 2, none⟩ = some (.int .i64 y.kind) ∧ W.cell? ⟨w.heap.size, 3, none⟩ = some (.int .i64 y.n) ∧ W.cell? ⟨w.heap.size, 4, none⟩ = some (.slice b y.kids.length e0) ∧ W.cell? ⟨w.heap.size, 5, none⟩ = some (.slice (some ⟨g1, off1, none⟩) 1 c) ∧ W.cell? ⟨g1, off1, none⟩ = some (.int .i64 x.kind) ∧ W.cell? ⟨g1, off1 + 1, none⟩ = some (.int .i64 x.n) ∧ W.cell? ⟨g1, off1 + 2, none⟩ = some (.int .i64 x.ty.kind) ∧ W.cell? ⟨g1, off1 + 3, none⟩ = some (.int .i64 x.ty.n) ∧ W.cell? ⟨g1, off1 + 4, none⟩ = some (.slice bf x.ty.kids.length ef) ∧ W.cell? ⟨g1, off1 + 5, none⟩ = some (.slice af x.kids.length cf)) (by kernel_rfl) (by exact fs_cells HF.out hg1 u0 u1 u2 u3 u4 u5) (fun hHeld => ?_)
    generalize hV : W0.drew = V0 at *
    clear hV
    refine wpAnyH_take (i := 0) (oi := { dst := some 12, op := Op.fieldAddr 27 (Operand.tmp 3) 3, type := 0, pos := "types.go:29", after := #[], guard := none }) (v := ?_) rfl (by kernel_rfl) (by kernel_rfl) (by kernel_rfl) (fun _ _ _ h => h) (Or.inl ⟨by rfl, ?_⟩) (by assumption) ?_
    case refine_2 => intro w hSw; (try dsimp only at hSw); obtain ⟨hA, hB, hC, hD, hE, hF, hG, hH, hI, hJ⟩ := hSw; go_simp; (try with_reducible rfl)
    simp only [Act.put, List.setIfInBounds_toArray, List.set_cons_zero, List.set_cons_succ]
    refine wpAnyH_take (i := 1) (oi := { dst := some 13, op := Op.load 25 (Operand.tmp 12), type := 25, pos := "types.go:29", after := #[{ on := 0, ground := Ground.data }], guard := none }) (v := ?_) rfl (by kernel_rfl) (by kernel_rfl) (by kernel_rfl) (fun _ _ _ h => h) (Or.inl ⟨by rfl, ?_⟩) (by assumption) ?_
    case refine_2 => intro w hSw; (try dsimp only at hSw); obtain ⟨hA, hB, hC, hD, hE, hF, hG, hH, hI, hJ⟩ := hSw; go_simp; (try with_reducible rfl)
    simp only [Act.put, List.setIfInBounds_toArray, List.set_cons_zero, List.set_cons_succ]
    refine wpAnyH_take (i := 2) (oi := { dst := some 14, op := Op.indexAddr 25 (Operand.tmp 13) (Operand.const (Value.int IntKind.i64 0)), type := 0, pos := "types.go:29", after := #[{ on := 1, ground := Ground.data }], guard := none }) (v := ?_) rfl (by kernel_rfl) (by kernel_rfl) (by kernel_rfl) (fun _ _ _ h => h) (Or.inl ⟨by rfl, ?_⟩) (by assumption) ?_
    case refine_2 => intro w hSw; (try dsimp only at hSw); obtain ⟨hA, hB, hC, hD, hE, hF, hG, hH, hI, hJ⟩ := hSw; go_simp; (try with_reducible rfl)
    simp only [Act.put, List.setIfInBounds_toArray, List.set_cons_zero, List.set_cons_succ]
    refine wpAnyH_take (i := 3) (oi := { dst := some 15, op := Op.load 27 (Operand.tmp 14), type := 27, pos := "types.go:29", after := #[{ on := 2, ground := Ground.data }], guard := none }) (v := ?_) rfl (by kernel_rfl) (by kernel_rfl) (by kernel_rfl) (fun _ _ _ h => h) (Or.inl ⟨by rfl, ?_⟩) (by assumption) ?_
    case refine_2 => intro w hSw; (try dsimp only at hSw); obtain ⟨hA, hB, hC, hD, hE, hF, hG, hH, hI, hJ⟩ := hSw; go_simp; (try with_reducible rfl)
    simp only [Act.put, List.setIfInBounds_toArray, List.set_cons_zero, List.set_cons_succ]
    refine wpAnyH_take (i := 4) (oi := { dst := some 16, op := Op.move (Operand.tmp 1), type := 22, pos := "types.go:29", after := #[], guard := none }) (v := ?_) rfl (by kernel_rfl) (by kernel_rfl) (by kernel_rfl) (fun _ _ _ h => h) (Or.inl ⟨by rfl, ?_⟩) (by assumption) ?_
    case refine_2 => intro w hSw; (try dsimp only at hSw); obtain ⟨hA, hB, hC, hD, hE, hF, hG, hH, hI, hJ⟩ := hSw; go_simp; (try with_reducible rfl)
    simp only [Act.put, List.setIfInBounds_toArray, List.set_cons_zero, List.set_cons_succ]
    refine wpAnyH_take (i := 5) (oi := { dst := some 17, op := Op.fieldAddr 27 (Operand.tmp 3) 2, type := 0, pos := "types.go:29", after := #[], guard := none }) (v := ?_) rfl (by kernel_rfl) (by kernel_rfl) (by kernel_rfl) (fun _ _ _ h => h) (Or.inl ⟨by rfl, ?_⟩) (by assumption) ?_
    case refine_2 => intro w hSw; (try dsimp only at hSw); obtain ⟨hA, hB, hC, hD, hE, hF, hG, hH, hI, hJ⟩ := hSw; go_simp; (try with_reducible rfl)
    simp only [Act.put, List.setIfInBounds_toArray, List.set_cons_zero, List.set_cons_succ]
    refine wpAnyH_take (i := 6) (oi := { dst := some 18, op := Op.load 24 (Operand.tmp 17), type := 24, pos := "types.go:29", after := #[{ on := 5, ground := Ground.data }], guard := none }) (v := ?_) rfl (by kernel_rfl) (by kernel_rfl) (by kernel_rfl) (fun _ _ _ h => h) (Or.inl ⟨by rfl, ?_⟩) (by assumption) ?_
    case refine_2 => intro w hSw; (try dsimp only at hSw); obtain ⟨hA, hB, hC, hD, hE, hF, hG, hH, hI, hJ⟩ := hSw; go_simp; (try with_reducible rfl)
    simp only [Act.put, List.setIfInBounds_toArray, List.set_cons_zero, List.set_cons_succ]
    refine wpAnyH_take (i := 9) (oi := { dst := some 21, op := Op.move (Operand.tmp 2), type := 22, pos := "types.go:29", after := #[], guard := none }) (v := ?_) rfl (by kernel_rfl) (by kernel_rfl) (by kernel_rfl) (fun _ _ _ h => h) (Or.inl ⟨by rfl, ?_⟩) (by assumption) ?_
    case refine_2 => intro w hSw; (try dsimp only at hSw); obtain ⟨hA, hB, hC, hD, hE, hF, hG, hH, hI, hJ⟩ := hSw; go_simp; (try with_reducible rfl)
    simp only [Act.put, List.setIfInBounds_toArray, List.set_cons_zero, List.set_cons_succ]
    refine wpAnyH_ready (rs := [7, 14]) (by kernel_rfl) (by simp) ?_
    refine (AllReadyH.cons (o := { dst := some 19, op := Op.buildSlice 22 1 #[(0, Operand.tmp 18)], type := 22, pos := "types.go:29", after := #[{ on := 6, ground := Ground.data }], guard := none }) rfl (fun K hK => ?_) (AllReadyH.cons (o := { dst := some 8, op := Op.alloc 24, type := 0, pos := "types.go:29", after := #[], guard := none }) rfl (fun K hK => ?_) AllReadyH.nil))
    · skip
      go_simp
      have HF1 : Hid _ := HF.out.built
      refine hK.out _ _ ?_ (fun hHeld => ?_)
      · first | exact fs_cells HF4.out hg1 u0 u1 u2 u3 u4 u5 | exact fs_cells HF3.out hg1 u0 u1 u2 u3 u4 u5 | exact fs_cells HF2.out hg1 u0 u1 u2 u3 u4 u5 | exact fs_cells HF1.out hg1 u0 u1 u2 u3 u4 u5
      clear hK K
      try simp only [Act.put, List.setIfInBounds_toArray, List.set_cons_zero, List.set_cons_succ]
      dsimp only at HF1
      generalize hV : V0.alloc (.cells #[.int .i64 y.kind, .int .i64 y.n, .slice b y.kids.length e0] 24) = B1 at *
      clear hV
      refine wpAnyH_ready (rs := [8, 14]) (by kernel_rfl) (by simp) ?_
      refine (AllReadyH.cons (o := { dst := some 20, op := Op.call { callee := Callee.builtin Builtin.append, args := #[Operand.tmp 16, Operand.tmp 19], argTypes := #[22, 22] }, type := 22, pos := "types.go:29", after := #[{ on := 4, ground := Ground.data }, { on := 7, ground := Ground.data }], guard := none }) rfl (fun K hK => ?_) (AllReadyH.cons (o := { dst := some 8, op := Op.alloc 24, type := 0, pos := "types.go:29", after := #[], guard := none }) rfl (fun K hK => ?_) AllReadyH.nil))
      · skip
        obtain ⟨xs, dx, hox, hrx⟩ := HF1.out.ctx.row
        obtain ⟨bb, ee, hbb, hbe⟩ := HF1.out.bb _ rfl
        simp only [Prod.mk.injEq] at hbe
        obtain ⟨rfl, rfl⟩ := hbe
        refine step_append_keeps rfl (.tmp 16) (.tmp 19) 22 rfl w0.heap.size 24 i24 (.agg #[.int .i64 0, .int .i64 0, .slice none 0 0]) 3 40 Try.underlying22 hi24 hz240 hz241 hz242 rfl (by decide) (.slice xa ar.length ca) _ _ rfl hox ⟨_, 0, none⟩ 1 1 [.int .i64 y.kind, .int .i64 y.n, .slice b y.kids.length e0] rfl rfl (fun j u hu => by rw [Zz.addr_add0]; refine (cell_of_row _ _ j _ _ _ hbb).trans ?_; rw [← hu]; simp) (tyc_one y b e0) (by unfold maxLen; omega) (by omega) (HF1.out.ctx.bel.size) ?_
        intro v6 W6 ho6 hg6 hat6 hold6
        rw [HOWN.out] at hg6 hat6
        obtain ⟨x6, c6, rfl, HFn⟩ := HF1.out.push HOWN.out HON.out HY.out hrx ho6 hg6 hat6 hold6
        have HF2 : Hid _ := HFn
        clear HFn hox hrx hbb ho6 hg6 hat6 hold6
        refine hK.out _ _ ?_ (fun hHeld => ?_)
        · first | exact fs_cells HF4.out hg1 u0 u1 u2 u3 u4 u5 | exact fs_cells HF3.out hg1 u0 u1 u2 u3 u4 u5 | exact fs_cells HF2.out hg1 u0 u1 u2 u3 u4 u5 | exact fs_cells HF1.out hg1 u0 u1 u2 u3 u4 u5
        clear hK K
        try simp only [Act.put, List.setIfInBounds_toArray, List.set_cons_zero, List.set_cons_succ]
        refine wpAnyH_ready (rs := [10, 14]) (by kernel_rfl) (by simp) ?_
        refine (AllReadyH.cons (o := { dst := some 22, op := Op.call { callee := Callee.value (Operand.func 13), args := #[Operand.tmp 15, Operand.tmp 20, Operand.tmp 21], argTypes := #[27, 22, 22] }, type := 29, pos := "types.go:29", after := #[{ on := 3, ground := Ground.data }, { on := 8, ground := Ground.data }, { on := 9, ground := Ground.data }, { on := 8, ground := Ground.chain }], guard := none }) rfl (fun K hK => ?_) (AllReadyH.cons (o := { dst := some 8, op := Op.alloc 24, type := 0, pos := "types.go:29", after := #[], guard := none }) rfl (fun K hK => ?_) AllReadyH.nil))
        · skip
          go_simp
          (with_reducible refine (KX _ _ _ (HF2.out.ap _ _ rfl).1).mono ?_)
          rintro e w5 ⟨⟨⟨⟨zk, zn, zks⟩, a1, c1, rfl, hz1⟩, hk1⟩, hC1⟩
          unfold vty
          dsimp only
          have HF3 : Hid _ := HF2.out.called HON.out (by rw [hln]; exact hk1) hC1 (fun hq => (hz1 hq).2)
          have HZZ : Hid (r1 = 0 → (⟨zk, zn, zks⟩ : Ty) = y1) := fun hq => (hz1 hq).1
          clear hz1 hk1 hC1
          refine hK.out _ _ ?_ (fun hHeld => ?_)
          · first | exact fs_cells HF4.out hg1 u0 u1 u2 u3 u4 u5 | exact fs_cells HF3.out hg1 u0 u1 u2 u3 u4 u5 | exact fs_cells HF2.out hg1 u0 u1 u2 u3 u4 u5 | exact fs_cells HF1.out hg1 u0 u1 u2 u3 u4 u5
          clear hK K
          try simp only [Act.put, List.setIfInBounds_toArray, List.set_cons_zero, List.set_cons_succ]
          refine wpAnyH_take (i := 11) (oi := { dst := some 11, op := Op.move (Operand.tmp 22), type := 29, pos := "types.go:29", after := #[{ on := 10, ground := Ground.data }], guard := none }) (v := ?_) rfl (by kernel_rfl) (by kernel_rfl) (by kernel_rfl) (fun _ _ _ h => h) (Or.inl ⟨by rfl, ?_⟩) (by assumption) ?_
          case refine_2 => intro w hSw; (try dsimp only at hSw); obtain ⟨hA, hB, hC, hD, hE, hF, hG, hH, hI, hJ⟩ := hSw; go_simp; (try with_reducible rfl)
          simp only [Act.put, List.setIfInBounds_toArray, List.set_cons_zero, List.set_cons_succ]
          refine wpAnyH_take (i := 12) (oi := { dst := some 23, op := Op.extract (Operand.tmp 11) 0, type := 24, pos := "types.go:29", after := #[{ on := 11, ground := Ground.data }], guard := none }) (v := ?_) rfl (by kernel_rfl) (by kernel_rfl) (by kernel_rfl) (fun _ _ _ h => h) (Or.inl ⟨by rfl, ?_⟩) (by assumption) ?_
          case refine_2 => intro w hSw; (try dsimp only at hSw); obtain ⟨hA, hB, hC, hD, hE, hF, hG, hH, hI, hJ⟩ := hSw; go_simp; (try with_reducible rfl)
          simp only [Act.put, List.setIfInBounds_toArray, List.set_cons_zero, List.set_cons_succ]
          refine wpAnyH_take (i := 13) (oi := { dst := some 24, op := Op.extract (Operand.tmp 11) 1, type := 28, pos := "types.go:29", after := #[{ on := 11, ground := Ground.data }, { on := 15, ground := Ground.gcOnly Departure.lateStores }], guard := none }) (v := ?_) rfl (by kernel_rfl) (by kernel_rfl) (by kernel_rfl) (fun _ _ _ h => h) (Or.inl ⟨by rfl, ?_⟩) (by assumption) ?_
          case refine_2 => intro w hSw; (try dsimp only at hSw); obtain ⟨hA, hB, hC, hD, hE, hF, hG, hH, hI, hJ⟩ := hSw; go_simp; (try with_reducible rfl)
          simp only [Act.put, List.setIfInBounds_toArray, List.set_cons_zero, List.set_cons_succ]
          refine wpAnyH_ready (rs := [14]) (by kernel_rfl) (by simp) ?_
          refine (AllReadyH.cons (o := { dst := some 8, op := Op.alloc 24, type := 0, pos := "types.go:29", after := #[], guard := none }) rfl (fun K hK => ?_) AllReadyH.nil)
          go_simp
          have HF4 : Hid _ := HF3.out.box
          refine hK.out _ _ ?_ (fun hHeld => ?_)
          · first | exact fs_cells HF4.out hg1 u0 u1 u2 u3 u4 u5 | exact fs_cells HF3.out hg1 u0 u1 u2 u3 u4 u5 | exact fs_cells HF2.out hg1 u0 u1 u2 u3 u4 u5 | exact fs_cells HF1.out hg1 u0 u1 u2 u3 u4 u5
          clear hK K
          try simp only [Act.put, List.setIfInBounds_toArray, List.set_cons_zero, List.set_cons_succ]
          generalize hV : w5.alloc (.cells #[.int .i64 0, .int .i64 0, .slice none 0 0] 24) = A4 at *
          clear hV
          refine wpAnyH_ready (rs := [15]) (by kernel_rfl) (by simp) ?_
          refine (AllReadyH.cons (o := { dst := none, op := Op.store 24 (Operand.tmp 8) (Operand.tmp 23), type := 0, pos := "types.go:29", after := #[{ on := 14, ground := Ground.data }, { on := 12, ground := Ground.data }, { on := 10, ground := Ground.chain }, { on := 0, ground := Ground.phase }, { on := 1, ground := Ground.phase }, { on := 2, ground := Ground.phase }, { on := 3, ground := Ground.phase }, { on := 4, ground := Ground.phase }, { on := 5, ground := Ground.phase }, { on := 6, ground := Ground.phase }, { on := 7, ground := Ground.phase }, { on := 8, ground := Ground.phase }, { on := 9, ground := Ground.phase }, { on := 10, ground := Ground.phase }, { on := 11, ground := Ground.phase }, { on := 12, ground := Ground.phase }, { on := 13, ground := Ground.textOnly Departure.lateStores }, { on := 14, ground := Ground.phase }], guard := none }) rfl (fun K hK => ?_) AllReadyH.nil)
          have HR := HF4.out.ab _ rfl
          have m0 := cell_of_row _ _ 0 _ _ _ HR.2
          have m1 := cell_of_row _ _ 1 _ _ _ HR.2
          have m2 := cell_of_row _ _ 2 _ _ _ HR.2
          have f0 := frozen_of_row _ _ 0 _ 24 HR.2
          have f1 := frozen_of_row _ _ 1 _ 24 HR.2
          have f2 := frozen_of_row _ _ 2 _ 24 HR.2
          go_simp
          have HL : Hid _ := HF4.out.laid HOWN.out HON.out hw0
          refine hK.out _ _ ?_ (fun hHeld => ?_)
          · exact fs_cells HL.out.1 hg1 u0 u1 u2 u3 u4 u5
          clear hK K
          try simp only [Act.put, List.setIfInBounds_toArray, List.set_cons_zero, List.set_cons_succ]
          refine wpAnyH_take (i := 16) (oi := { dst := some 9, op := Op.assign (Operand.tmp 24), type := 28, pos := "types.go:29", after := #[{ on := 13, ground := Ground.data }, { on := 15, ground := Ground.chain }, { on := 0, ground := Ground.phase }, { on := 1, ground := Ground.phase }, { on := 2, ground := Ground.phase }, { on := 3, ground := Ground.phase }, { on := 4, ground := Ground.phase }, { on := 5, ground := Ground.phase }, { on := 6, ground := Ground.phase }, { on := 7, ground := Ground.phase }, { on := 8, ground := Ground.phase }, { on := 9, ground := Ground.phase }, { on := 10, ground := Ground.phase }, { on := 11, ground := Ground.phase }, { on := 12, ground := Ground.phase }, { on := 13, ground := Ground.phase }, { on := 14, ground := Ground.phase }, { on := 15, ground := Ground.phase }], guard := none }) (v := ?_) rfl (by kernel_rfl) (by kernel_rfl) (by kernel_rfl) (fun _ _ _ h => h) (Or.inl ⟨by rfl, ?_⟩) (by assumption) ?_
          case refine_2 => intro w hSw; (try dsimp only at hSw); obtain ⟨hA, hB, hC, hD, hE, hF, hG, hH, hI, hJ⟩ := hSw; go_simp; (try with_reducible rfl)
          simp only [Act.put, List.setIfInBounds_toArray, List.set_cons_zero, List.set_cons_succ]
          refine wpAnyH_done (by kernel_rfl) ?_ _
          go_wp2_with fail
          go_meet
          case rel => exact ⟨_, _, _, _, rfl, rfl, HZZ.out, HL.out⟩
        · skip
          go_simp
          have HF3 : Hid _ := HF2.out.box
          refine hK.out _ _ ?_ (fun hHeld => ?_)
          · first | exact fs_cells HF4.out hg1 u0 u1 u2 u3 u4 u5 | exact fs_cells HF3.out hg1 u0 u1 u2 u3 u4 u5 | exact fs_cells HF2.out hg1 u0 u1 u2 u3 u4 u5 | exact fs_cells HF1.out hg1 u0 u1 u2 u3 u4 u5
          clear hK K
          try simp only [Act.put, List.setIfInBounds_toArray, List.set_cons_zero, List.set_cons_succ]
          generalize hV : W6.alloc (.cells #[.int .i64 0, .int .i64 0, .slice none 0 0] 24) = A3 at *
          clear hV
          refine wpAnyH_ready (rs := [10]) (by kernel_rfl) (by simp) ?_
          refine (AllReadyH.cons (o := { dst := some 22, op := Op.call { callee := Callee.value (Operand.func 13), args := #[Operand.tmp 15, Operand.tmp 20, Operand.tmp 21], argTypes := #[27, 22, 22] }, type := 29, pos := "types.go:29", after := #[{ on := 3, ground := Ground.data }, { on := 8, ground := Ground.data }, { on := 9, ground := Ground.data }, { on := 8, ground := Ground.chain }], guard := none }) rfl (fun K hK => ?_) AllReadyH.nil)
          go_simp
          (with_reducible refine (KX _ _ _ (HF3.out.ap _ _ rfl).1).mono ?_)
          rintro e w5 ⟨⟨⟨⟨zk, zn, zks⟩, a1, c1, rfl, hz1⟩, hk1⟩, hC1⟩
          unfold vty
          dsimp only
          have HF4 : Hid _ := HF3.out.called HON.out (by rw [hln]; exact hk1) hC1 (fun hq => (hz1 hq).2)
          have HZZ : Hid (r1 = 0 → (⟨zk, zn, zks⟩ : Ty) = y1) := fun hq => (hz1 hq).1
          clear hz1 hk1 hC1
          refine hK.out _ _ ?_ (fun hHeld => ?_)
          · first | exact fs_cells HF4.out hg1 u0 u1 u2 u3 u4 u5 | exact fs_cells HF3.out hg1 u0 u1 u2 u3 u4 u5 | exact fs_cells HF2.out hg1 u0 u1 u2 u3 u4 u5 | exact fs_cells HF1.out hg1 u0 u1 u2 u3 u4 u5
          clear hK K
          try simp only [Act.put, List.setIfInBounds_toArray, List.set_cons_zero, List.set_cons_succ]
          refine wpAnyH_take (i := 11) (oi := { dst := some 11, op := Op.move (Operand.tmp 22), type := 29, pos := "types.go:29", after := #[{ on := 10, ground := Ground.data }], guard := none }) (v := ?_) rfl (by kernel_rfl) (by kernel_rfl) (by kernel_rfl) (fun _ _ _ h => h) (Or.inl ⟨by rfl, ?_⟩) (by assumption) ?_
          case refine_2 => intro w hSw; (try dsimp only at hSw); obtain ⟨hA, hB, hC, hD, hE, hF, hG, hH, hI, hJ⟩ := hSw; go_simp; (try with_reducible rfl)
          simp only [Act.put, List.setIfInBounds_toArray, List.set_cons_zero, List.set_cons_succ]
          refine wpAnyH_take (i := 12) (oi := { dst := some 23, op := Op.extract (Operand.tmp 11) 0, type := 24, pos := "types.go:29", after := #[{ on := 11, ground := Ground.data }], guard := none }) (v := ?_) rfl (by kernel_rfl) (by kernel_rfl) (by kernel_rfl) (fun _ _ _ h => h) (Or.inl ⟨by rfl, ?_⟩) (by assumption) ?_
          case refine_2 => intro w hSw; (try dsimp only at hSw); obtain ⟨hA, hB, hC, hD, hE, hF, hG, hH, hI, hJ⟩ := hSw; go_simp; (try with_reducible rfl)
          simp only [Act.put, List.setIfInBounds_toArray, List.set_cons_zero, List.set_cons_succ]
          refine wpAnyH_take (i := 13) (oi := { dst := some 24, op := Op.extract (Operand.tmp 11) 1, type := 28, pos := "types.go:29", after := #[{ on := 11, ground := Ground.data }, { on := 15, ground := Ground.gcOnly Departure.lateStores }], guard := none }) (v := ?_) rfl (by kernel_rfl) (by kernel_rfl) (by kernel_rfl) (fun _ _ _ h => h) (Or.inl ⟨by rfl, ?_⟩) (by assumption) ?_
          case refine_2 => intro w hSw; (try dsimp only at hSw); obtain ⟨hA, hB, hC, hD, hE, hF, hG, hH, hI, hJ⟩ := hSw; go_simp; (try with_reducible rfl)
          simp only [Act.put, List.setIfInBounds_toArray, List.set_cons_zero, List.set_cons_succ]
          refine wpAnyH_ready (rs := [15]) (by kernel_rfl) (by simp) ?_
          refine (AllReadyH.cons (o := { dst := none, op := Op.store 24 (Operand.tmp 8) (Operand.tmp 23), type := 0, pos := "types.go:29", after := #[{ on := 14, ground := Ground.data }, { on := 12, ground := Ground.data }, { on := 10, ground := Ground.chain }, { on := 0, ground := Ground.phase }, { on := 1, ground := Ground.phase }, { on := 2, ground := Ground.phase }, { on := 3, ground := Ground.phase }, { on := 4, ground := Ground.phase }, { on := 5, ground := Ground.phase }, { on := 6, ground := Ground.phase }, { on := 7, ground := Ground.phase }, { on := 8, ground := Ground.phase }, { on := 9, ground := Ground.phase }, { on := 10, ground := Ground.phase }, { on := 11, ground := Ground.phase }, { on := 12, ground := Ground.phase }, { on := 13, ground := Ground.textOnly Departure.lateStores }, { on := 14, ground := Ground.phase }], guard := none }) rfl (fun K hK => ?_) AllReadyH.nil)
          have HR := HF4.out.ab _ rfl
          have m0 := cell_of_row _ _ 0 _ _ _ HR.2
          have m1 := cell_of_row _ _ 1 _ _ _ HR.2
          have m2 := cell_of_row _ _ 2 _ _ _ HR.2
          have f0 := frozen_of_row _ _ 0 _ 24 HR.2
          have f1 := frozen_of_row _ _ 1 _ 24 HR.2
          have f2 := frozen_of_row _ _ 2 _ 24 HR.2
          go_simp
          have HL : Hid _ := HF4.out.laid HOWN.out HON.out hw0
          refine hK.out _ _ ?_ (fun hHeld => ?_)
          · exact fs_cells HL.out.1 hg1 u0 u1 u2 u3 u4 u5
          clear hK K
          try simp only [Act.put, List.setIfInBounds_toArray, List.set_cons_zero, List.set_cons_succ]
          refine wpAnyH_take (i := 16) (oi := { dst := some 9, op := Op.assign (Operand.tmp 24), type := 28, pos := "types.go:29", after := #[{ on := 13, ground := Ground.data }, { on := 15, ground := Ground.chain }, { on := 0, ground := Ground.phase }, { on := 1, ground := Ground.phase }, { on := 2, ground := Ground.phase }, { on := 3, ground := Ground.phase }, { on := 4, ground := Ground.phase }, { on := 5, ground := Ground.phase }, { on := 6, ground := Ground.phase }, { on := 7, ground := Ground.phase }, { on := 8, ground := Ground.phase }, { on := 9, ground := Ground.phase }, { on := 10, ground := Ground.phase }, { on := 11, ground := Ground.phase }, { on := 12, ground := Ground.phase }, { on := 13, ground := Ground.phase }, { on := 14, ground := Ground.phase }, { on := 15, ground := Ground.phase }], guard := none }) (v := ?_) rfl (by kernel_rfl) (by kernel_rfl) (by kernel_rfl) (fun _ _ _ h => h) (Or.inl ⟨by rfl, ?_⟩) (by assumption) ?_
          case refine_2 => intro w hSw; (try dsimp only at hSw); obtain ⟨hA, hB, hC, hD, hE, hF, hG, hH, hI, hJ⟩ := hSw; go_simp; (try with_reducible rfl)
          simp only [Act.put, List.setIfInBounds_toArray, List.set_cons_zero, List.set_cons_succ]
          refine wpAnyH_done (by kernel_rfl) ?_ _
          go_wp2_with fail
          go_meet
          case rel => exact ⟨_, _, _, _, rfl, rfl, HZZ.out, HL.out⟩
      · skip
        go_simp
        have HF2 : Hid _ := HF1.out.box
        refine hK.out _ _ ?_ (fun hHeld => ?_)
        · first | exact fs_cells HF4.out hg1 u0 u1 u2 u3 u4 u5 | exact fs_cells HF3.out hg1 u0 u1 u2 u3 u4 u5 | exact fs_cells HF2.out hg1 u0 u1 u2 u3 u4 u5 | exact fs_cells HF1.out hg1 u0 u1 u2 u3 u4 u5
        clear hK K
        try simp only [Act.put, List.setIfInBounds_toArray, List.set_cons_zero, List.set_cons_succ]
        generalize hV : B1.alloc (.cells #[.int .i64 0, .int .i64 0, .slice none 0 0] 24) = A2 at *
        clear hV
        refine wpAnyH_ready (rs := [8]) (by kernel_rfl) (by simp) ?_
        refine (AllReadyH.cons (o := { dst := some 20, op := Op.call { callee := Callee.builtin Builtin.append, args := #[Operand.tmp 16, Operand.tmp 19], argTypes := #[22, 22] }, type := 22, pos := "types.go:29", after := #[{ on := 4, ground := Ground.data }, { on := 7, ground := Ground.data }], guard := none }) rfl (fun K hK => ?_) AllReadyH.nil)
        obtain ⟨xs, dx, hox, hrx⟩ := HF2.out.ctx.row
        obtain ⟨bb, ee, hbb, hbe⟩ := HF2.out.bb _ rfl
        simp only [Prod.mk.injEq] at hbe
        obtain ⟨rfl, rfl⟩ := hbe
        refine step_append_keeps rfl (.tmp 16) (.tmp 19) 22 rfl w0.heap.size 24 i24 (.agg #[.int .i64 0, .int .i64 0, .slice none 0 0]) 3 40 Try.underlying22 hi24 hz240 hz241 hz242 rfl (by decide) (.slice xa ar.length ca) _ _ rfl hox ⟨_, 0, none⟩ 1 1 [.int .i64 y.kind, .int .i64 y.n, .slice b y.kids.length e0] rfl rfl (fun j u hu => by rw [Zz.addr_add0]; refine (cell_of_row _ _ j _ _ _ hbb).trans ?_; rw [← hu]; simp) (tyc_one y b e0) (by unfold maxLen; omega) (by omega) (HF2.out.ctx.bel.size) ?_
        intro v6 W6 ho6 hg6 hat6 hold6
        rw [HOWN.out] at hg6 hat6
        obtain ⟨x6, c6, rfl, HFn⟩ := HF2.out.push HOWN.out HON.out HY.out hrx ho6 hg6 hat6 hold6
        have HF3 : Hid _ := HFn
        clear HFn hox hrx hbb ho6 hg6 hat6 hold6
        refine hK.out _ _ ?_ (fun hHeld => ?_)
        · first | exact fs_cells HF4.out hg1 u0 u1 u2 u3 u4 u5 | exact fs_cells HF3.out hg1 u0 u1 u2 u3 u4 u5 | exact fs_cells HF2.out hg1 u0 u1 u2 u3 u4 u5 | exact fs_cells HF1.out hg1 u0 u1 u2 u3 u4 u5
        clear hK K
        try simp only [Act.put, List.setIfInBounds_toArray, List.set_cons_zero, List.set_cons_succ]
        refine wpAnyH_ready (rs := [10]) (by kernel_rfl) (by simp) ?_
        refine (AllReadyH.cons (o := { dst := some 22, op := Op.call { callee := Callee.value (Operand.func 13), args := #[Operand.tmp 15, Operand.tmp 20, Operand.tmp 21], argTypes := #[27, 22, 22] }, type := 29, pos := "types.go:29", after := #[{ on := 3, ground := Ground.data }, { on := 8, ground := Ground.data }, { on := 9, ground := Ground.data }, { on := 8, ground := Ground.chain }], guard := none }) rfl (fun K hK => ?_) AllReadyH.nil)
        go_simp
        (with_reducible refine (KX _ _ _ (HF3.out.ap _ _ rfl).1).mono ?_)
        rintro e w5 ⟨⟨⟨⟨zk, zn, zks⟩, a1, c1, rfl, hz1⟩, hk1⟩, hC1⟩
        unfold vty
        dsimp only
        have HF4 : Hid _ := HF3.out.called HON.out (by rw [hln]; exact hk1) hC1 (fun hq => (hz1 hq).2)
        have HZZ : Hid (r1 = 0 → (⟨zk, zn, zks⟩ : Ty) = y1) := fun hq => (hz1 hq).1
        clear hz1 hk1 hC1
        refine hK.out _ _ ?_ (fun hHeld => ?_)
        · first | exact fs_cells HF4.out hg1 u0 u1 u2 u3 u4 u5 | exact fs_cells HF3.out hg1 u0 u1 u2 u3 u4 u5 | exact fs_cells HF2.out hg1 u0 u1 u2 u3 u4 u5 | exact fs_cells HF1.out hg1 u0 u1 u2 u3 u4 u5
        clear hK K
        try simp only [Act.put, List.setIfInBounds_toArray, List.set_cons_zero, List.set_cons_succ]
        refine wpAnyH_take (i := 11) (oi := { dst := some 11, op := Op.move (Operand.tmp 22), type := 29, pos := "types.go:29", after := #[{ on := 10, ground := Ground.data }], guard := none }) (v := ?_) rfl (by kernel_rfl) (by kernel_rfl) (by kernel_rfl) (fun _ _ _ h => h) (Or.inl ⟨by rfl, ?_⟩) (by assumption) ?_
        case refine_2 => intro w hSw; (try dsimp only at hSw); obtain ⟨hA, hB, hC, hD, hE, hF, hG, hH, hI, hJ⟩ := hSw; go_simp; (try with_reducible rfl)
        simp only [Act.put, List.setIfInBounds_toArray, List.set_cons_zero, List.set_cons_succ]
        refine wpAnyH_take (i := 12) (oi := { dst := some 23, op := Op.extract (Operand.tmp 11) 0, type := 24, pos := "types.go:29", after := #[{ on := 11, ground := Ground.data }], guard := none }) (v := ?_) rfl (by kernel_rfl) (by kernel_rfl) (by kernel_rfl) (fun _ _ _ h => h) (Or.inl ⟨by rfl, ?_⟩) (by assumption) ?_
        case refine_2 => intro w hSw; (try dsimp only at hSw); obtain ⟨hA, hB, hC, hD, hE, hF, hG, hH, hI, hJ⟩ := hSw; go_simp; (try with_reducible rfl)
        simp only [Act.put, List.setIfInBounds_toArray, List.set_cons_zero, List.set_cons_succ]
        refine wpAnyH_take (i := 13) (oi := { dst := some 24, op := Op.extract (Operand.tmp 11) 1, type := 28, pos := "types.go:29", after := #[{ on := 11, ground := Ground.data }, { on := 15, ground := Ground.gcOnly Departure.lateStores }], guard := none }) (v := ?_) rfl (by kernel_rfl) (by kernel_rfl) (by kernel_rfl) (fun _ _ _ h => h) (Or.inl ⟨by rfl, ?_⟩) (by assumption) ?_
        case refine_2 => intro w hSw; (try dsimp only at hSw); obtain ⟨hA, hB, hC, hD, hE, hF, hG, hH, hI, hJ⟩ := hSw; go_simp; (try with_reducible rfl)
        simp only [Act.put, List.setIfInBounds_toArray, List.set_cons_zero, List.set_cons_succ]
        refine wpAnyH_ready (rs := [15]) (by kernel_rfl) (by simp) ?_
        refine (AllReadyH.cons (o := { dst := none, op := Op.store 24 (Operand.tmp 8) (Operand.tmp 23), type := 0, pos := "types.go:29", after := #[{ on := 14, ground := Ground.data }, { on := 12, ground := Ground.data }, { on := 10, ground := Ground.chain }, { on := 0, ground := Ground.phase }, { on := 1, ground := Ground.phase }, { on := 2, ground := Ground.phase }, { on := 3, ground := Ground.phase }, { on := 4, ground := Ground.phase }, { on := 5, ground := Ground.phase }, { on := 6, ground := Ground.phase }, { on := 7, ground := Ground.phase }, { on := 8, ground := Ground.phase }, { on := 9, ground := Ground.phase }, { on := 10, ground := Ground.phase }, { on := 11, ground := Ground.phase }, { on := 12, ground := Ground.phase }, { on := 13, ground := Ground.textOnly Departure.lateStores }, { on := 14, ground := Ground.phase }], guard := none }) rfl (fun K hK => ?_) AllReadyH.nil)
        have HR := HF4.out.ab _ rfl
        have m0 := cell_of_row _ _ 0 _ _ _ HR.2
        have m1 := cell_of_row _ _ 1 _ _ _ HR.2
        have m2 := cell_of_row _ _ 2 _ _ _ HR.2
        have f0 := frozen_of_row _ _ 0 _ 24 HR.2
        have f1 := frozen_of_row _ _ 1 _ 24 HR.2
        have f2 := frozen_of_row _ _ 2 _ 24 HR.2
        go_simp
        have HL : Hid _ := HF4.out.laid HOWN.out HON.out hw0
        refine hK.out _ _ ?_ (fun hHeld => ?_)
        · exact fs_cells HL.out.1 hg1 u0 u1 u2 u3 u4 u5
        clear hK K
        try simp only [Act.put, List.setIfInBounds_toArray, List.set_cons_zero, List.set_cons_succ]
        refine wpAnyH_take (i := 16) (oi := { dst := some 9, op := Op.assign (Operand.tmp 24), type := 28, pos := "types.go:29", after := #[{ on := 13, ground := Ground.data }, { on := 15, ground := Ground.chain }, { on := 0, ground := Ground.phase }, { on := 1, ground := Ground.phase }, { on := 2, ground := Ground.phase }, { on := 3, ground := Ground.phase }, { on := 4, ground := Ground.phase }, { on := 5, ground := Ground.phase }, { on := 6, ground := Ground.phase }, { on := 7, ground := Ground.phase }, { on := 8, ground := Ground.phase }, { on := 9, ground := Ground.phase }, { on := 10, ground := Ground.phase }, { on := 11, ground := Ground.phase }, { on := 12, ground := Ground.phase }, { on := 13, ground := Ground.phase }, { on := 14, ground := Ground.phase }, { on := 15, ground := Ground.phase }], guard := none }) (v := ?_) rfl (by kernel_rfl) (by kernel_rfl) (by kernel_rfl) (fun _ _ _ h => h) (Or.inl ⟨by rfl, ?_⟩) (by assumption) ?_
        case refine_2 => intro w hSw; (try dsimp only at hSw); obtain ⟨hA, hB, hC, hD, hE, hF, hG, hH, hI, hJ⟩ := hSw; go_simp; (try with_reducible rfl)
        simp only [Act.put, List.setIfInBounds_toArray, List.set_cons_zero, List.set_cons_succ]
        refine wpAnyH_done (by kernel_rfl) ?_ _
        go_wp2_with fail
        go_meet
        case rel => exact ⟨_, _, _, _, rfl, rfl, HZZ.out, HL.out⟩
    · skip
      go_simp
      have HF1 : Hid _ := HF.out.box
      refine hK.out _ _ ?_ (fun hHeld => ?_)
      · first | exact fs_cells HF4.out hg1 u0 u1 u2 u3 u4 u5 | exact fs_cells HF3.out hg1 u0 u1 u2 u3 u4 u5 | exact fs_cells HF2.out hg1 u0 u1 u2 u3 u4 u5 | exact fs_cells HF1.out hg1 u0 u1 u2 u3 u4 u5
      clear hK K
      try simp only [Act.put, List.setIfInBounds_toArray, List.set_cons_zero, List.set_cons_succ]
      generalize hV : V0.alloc (.cells #[.int .i64 0, .int .i64 0, .slice none 0 0] 24) = A1 at *
      clear hV
      refine wpAnyH_ready (rs := [7]) (by kernel_rfl) (by simp) ?_
      refine (AllReadyH.cons (o := { dst := some 19, op := Op.buildSlice 22 1 #[(0, Operand.tmp 18)], type := 22, pos := "types.go:29", after := #[{ on := 6, ground := Ground.data }], guard := none }) rfl (fun K hK => ?_) AllReadyH.nil)
      go_simp
      have HF2 : Hid _ := HF1.out.built
      refine hK.out _ _ ?_ (fun hHeld => ?_)
      · first | exact fs_cells HF4.out hg1 u0 u1 u2 u3 u4 u5 | exact fs_cells HF3.out hg1 u0 u1 u2 u3 u4 u5 | exact fs_cells HF2.out hg1 u0 u1 u2 u3 u4 u5 | exact fs_cells HF1.out hg1 u0 u1 u2 u3 u4 u5
      clear hK K
      try simp only [Act.put, List.setIfInBounds_toArray, List.set_cons_zero, List.set_cons_succ]
      dsimp only at HF2
      generalize hV : A1.alloc (.cells #[.int .i64 y.kind, .int .i64 y.n, .slice b y.kids.length e0] 24) = B2 at *
      clear hV
      refine wpAnyH_ready (rs := [8]) (by kernel_rfl) (by simp) ?_
      refine (AllReadyH.cons (o := { dst := some 20, op := Op.call { callee := Callee.builtin Builtin.append, args := #[Operand.tmp 16, Operand.tmp 19], argTypes := #[22, 22] }, type := 22, pos := "types.go:29", after := #[{ on := 4, ground := Ground.data }, { on := 7, ground := Ground.data }], guard := none }) rfl (fun K hK => ?_) AllReadyH.nil)
      obtain ⟨xs, dx, hox, hrx⟩ := HF2.out.ctx.row
      obtain ⟨bb, ee, hbb, hbe⟩ := HF2.out.bb _ rfl
      simp only [Prod.mk.injEq] at hbe
      obtain ⟨rfl, rfl⟩ := hbe
      refine step_append_keeps rfl (.tmp 16) (.tmp 19) 22 rfl w0.heap.size 24 i24 (.agg #[.int .i64 0, .int .i64 0, .slice none 0 0]) 3 40 Try.underlying22 hi24 hz240 hz241 hz242 rfl (by decide) (.slice xa ar.length ca) _ _ rfl hox ⟨_, 0, none⟩ 1 1 [.int .i64 y.kind, .int .i64 y.n, .slice b y.kids.length e0] rfl rfl (fun j u hu => by rw [Zz.addr_add0]; refine (cell_of_row _ _ j _ _ _ hbb).trans ?_; rw [← hu]; simp) (tyc_one y b e0) (by unfold maxLen; omega) (by omega) (HF2.out.ctx.bel.size) ?_
      intro v6 W6 ho6 hg6 hat6 hold6
      rw [HOWN.out] at hg6 hat6
      obtain ⟨x6, c6, rfl, HFn⟩ := HF2.out.push HOWN.out HON.out HY.out hrx ho6 hg6 hat6 hold6
      have HF3 : Hid _ := HFn
      clear HFn hox hrx hbb ho6 hg6 hat6 hold6
      refine hK.out _ _ ?_ (fun hHeld => ?_)
      · first | exact fs_cells HF4.out hg1 u0 u1 u2 u3 u4 u5 | exact fs_cells HF3.out hg1 u0 u1 u2 u3 u4 u5 | exact fs_cells HF2.out hg1 u0 u1 u2 u3 u4 u5 | exact fs_cells HF1.out hg1 u0 u1 u2 u3 u4 u5
      clear hK K
      try simp only [Act.put, List.setIfInBounds_toArray, List.set_cons_zero, List.set_cons_succ]
      refine wpAnyH_ready (rs := [10]) (by kernel_rfl) (by simp) ?_
      refine (AllReadyH.cons (o := { dst := some 22, op := Op.call { callee := Callee.value (Operand.func 13), args := #[Operand.tmp 15, Operand.tmp 20, Operand.tmp 21], argTypes := #[27, 22, 22] }, type := 29, pos := "types.go:29", after := #[{ on := 3, ground := Ground.data }, { on := 8, ground := Ground.data }, { on := 9, ground := Ground.data }, { on := 8, ground := Ground.chain }], guard := none }) rfl (fun K hK => ?_) AllReadyH.nil)
      go_simp
      (with_reducible refine (KX _ _ _ (HF3.out.ap _ _ rfl).1).mono ?_)
      rintro e w5 ⟨⟨⟨⟨zk, zn, zks⟩, a1, c1, rfl, hz1⟩, hk1⟩, hC1⟩
      unfold vty
      dsimp only
      have HF4 : Hid _ := HF3.out.called HON.out (by rw [hln]; exact hk1) hC1 (fun hq => (hz1 hq).2)
      have HZZ : Hid (r1 = 0 → (⟨zk, zn, zks⟩ : Ty) = y1) := fun hq => (hz1 hq).1
      clear hz1 hk1 hC1
      refine hK.out _ _ ?_ (fun hHeld => ?_)
      · first | exact fs_cells HF4.out hg1 u0 u1 u2 u3 u4 u5 | exact fs_cells HF3.out hg1 u0 u1 u2 u3 u4 u5 | exact fs_cells HF2.out hg1 u0 u1 u2 u3 u4 u5 | exact fs_cells HF1.out hg1 u0 u1 u2 u3 u4 u5
      clear hK K
      try simp only [Act.put, List.setIfInBounds_toArray, List.set_cons_zero, List.set_cons_succ]
      refine wpAnyH_take (i := 11) (oi := { dst := some 11, op := Op.move (Operand.tmp 22), type := 29, pos := "types.go:29", after := #[{ on := 10, ground := Ground.data }], guard := none }) (v := ?_) rfl (by kernel_rfl) (by kernel_rfl) (by kernel_rfl) (fun _ _ _ h => h) (Or.inl ⟨by rfl, ?_⟩) (by assumption) ?_
      case refine_2 => intro w hSw; (try dsimp only at hSw); obtain ⟨hA, hB, hC, hD, hE, hF, hG, hH, hI, hJ⟩ := hSw; go_simp; (try with_reducible rfl)
      simp only [Act.put, List.setIfInBounds_toArray, List.set_cons_zero, List.set_cons_succ]
      refine wpAnyH_take (i := 12) (oi := { dst := some 23, op := Op.extract (Operand.tmp 11) 0, type := 24, pos := "types.go:29", after := #[{ on := 11, ground := Ground.data }], guard := none }) (v := ?_) rfl (by kernel_rfl) (by kernel_rfl) (by kernel_rfl) (fun _ _ _ h => h) (Or.inl ⟨by rfl, ?_⟩) (by assumption) ?_
      case refine_2 => intro w hSw; (try dsimp only at hSw); obtain ⟨hA, hB, hC, hD, hE, hF, hG, hH, hI, hJ⟩ := hSw; go_simp; (try with_reducible rfl)
      simp only [Act.put, List.setIfInBounds_toArray, List.set_cons_zero, List.set_cons_succ]
      refine wpAnyH_take (i := 13) (oi := { dst := some 24, op := Op.extract (Operand.tmp 11) 1, type := 28, pos := "types.go:29", after := #[{ on := 11, ground := Ground.data }, { on := 15, ground := Ground.gcOnly Departure.lateStores }], guard := none }) (v := ?_) rfl (by kernel_rfl) (by kernel_rfl) (by kernel_rfl) (fun _ _ _ h => h) (Or.inl ⟨by rfl, ?_⟩) (by assumption) ?_
      case refine_2 => intro w hSw; (try dsimp only at hSw); obtain ⟨hA, hB, hC, hD, hE, hF, hG, hH, hI, hJ⟩ := hSw; go_simp; (try with_reducible rfl)
      simp only [Act.put, List.setIfInBounds_toArray, List.set_cons_zero, List.set_cons_succ]
      refine wpAnyH_ready (rs := [15]) (by kernel_rfl) (by simp) ?_
      refine (AllReadyH.cons (o := { dst := none, op := Op.store 24 (Operand.tmp 8) (Operand.tmp 23), type := 0, pos := "types.go:29", after := #[{ on := 14, ground := Ground.data }, { on := 12, ground := Ground.data }, { on := 10, ground := Ground.chain }, { on := 0, ground := Ground.phase }, { on := 1, ground := Ground.phase }, { on := 2, ground := Ground.phase }, { on := 3, ground := Ground.phase }, { on := 4, ground := Ground.phase }, { on := 5, ground := Ground.phase }, { on := 6, ground := Ground.phase }, { on := 7, ground := Ground.phase }, { on := 8, ground := Ground.phase }, { on := 9, ground := Ground.phase }, { on := 10, ground := Ground.phase }, { on := 11, ground := Ground.phase }, { on := 12, ground := Ground.phase }, { on := 13, ground := Ground.textOnly Departure.lateStores }, { on := 14, ground := Ground.phase }], guard := none }) rfl (fun K hK => ?_) AllReadyH.nil)
      have HR := HF4.out.ab _ rfl
      have m0 := cell_of_row _ _ 0 _ _ _ HR.2
      have m1 := cell_of_row _ _ 1 _ _ _ HR.2
      have m2 := cell_of_row _ _ 2 _ _ _ HR.2
      have f0 := frozen_of_row _ _ 0 _ 24 HR.2
      have f1 := frozen_of_row _ _ 1 _ 24 HR.2
      have f2 := frozen_of_row _ _ 2 _ 24 HR.2
      go_simp
      have HL : Hid _ := HF4.out.laid HOWN.out HON.out hw0
      refine hK.out _ _ ?_ (fun hHeld => ?_)
      · exact fs_cells HL.out.1 hg1 u0 u1 u2 u3 u4 u5
      clear hK K
      try simp only [Act.put, List.setIfInBounds_toArray, List.set_cons_zero, List.set_cons_succ]
      refine wpAnyH_take (i := 16) (oi := { dst := some 9, op := Op.assign (Operand.tmp 24), type := 28, pos := "types.go:29", after := #[{ on := 13, ground := Ground.data }, { on := 15, ground := Ground.chain }, { on := 0, ground := Ground.phase }, { on := 1, ground := Ground.phase }, { on := 2, ground := Ground.phase }, { on := 3, ground := Ground.phase }, { on := 4, ground := Ground.phase }, { on := 5, ground := Ground.phase }, { on := 6, ground := Ground.phase }, { on := 7, ground := Ground.phase }, { on := 8, ground := Ground.phase }, { on := 9, ground := Ground.phase }, { on := 10, ground := Ground.phase }, { on := 11, ground := Ground.phase }, { on := 12, ground := Ground.phase }, { on := 13, ground := Ground.phase }, { on := 14, ground := Ground.phase }, { on := 15, ground := Ground.phase }], guard := none }) (v := ?_) rfl (by kernel_rfl) (by kernel_rfl) (by kernel_rfl) (fun _ _ _ h => h) (Or.inl ⟨by rfl, ?_⟩) (by assumption) ?_
      case refine_2 => intro w hSw; (try dsimp only at hSw); obtain ⟨hA, hB, hC, hD, hE, hF, hG, hH, hI, hJ⟩ := hSw; go_simp; (try with_reducible rfl)
      simp only [Act.put, List.setIfInBounds_toArray, List.set_cons_zero, List.set_cons_succ]
      refine wpAnyH_done (by kernel_rfl) ?_ _
      go_wp2_with fail
      go_meet
      case rel => exact ⟨_, _, _, _, rfl, rfl, HZZ.out, HL.out⟩
  case rest =>
  obtain ⟨R, ⟨zk, zn, zks⟩, a1, c1, rfl, rfl, hz, hF, hR, hbR, hT⟩ := hcut
  dsimp only at hbR
  have HZ : Hid (r1 = 0 → (⟨zk, zn, zks⟩ : Ty) = y1) := hz
  have HF : Hid (Fs w0 w ar cons xa ca ac cc own (.cells #[.int .i64 3, .int .i64 n, .int .i64 y.kind, .int .i64 y.n, .slice b y.kids.length e0, .slice (some ⟨g1, off1, none⟩) 1 c] 27) y (b, e0) (r1 = 0) wc none none none none) := hF
  have HT : Hid (r1 = 0 → ∃ d, TyP (fun g => g < w0.heap.size ∨ (w.heap.size + 2 ≤ g ∧ g ≠ R)) wc d ⟨zk, zn, zks⟩ a1 c1) := hT
  have hRo : ∀ g, w.heap.size ≤ g → some g ≠ own := fun g hg e => by have := HON.out g e.symm; omega
  have hY3 := hF.rb
  have hi := hF.hi
  have tb2 := cell_of_row _ _ 2 _ _ _ hF.tb
  have tb3 := cell_of_row _ _ 3 _ _ _ hF.tb
  have tb4 := cell_of_row _ _ 4 _ _ _ hF.tb
  have k0 := cell_of_row _ _ 0 _ _ _ hbR
  have k1 := cell_of_row _ _ 1 _ _ _ hbR
  have k2 := cell_of_row _ _ 2 _ _ _ hbR
  clear hz hF hT KX
  by_cases h1 : r1 = 0
  · subst h1
    have HR2 : Hid (r.1 = ck ⟨2, 0, [y, y1]⟩ ∧ (ck ⟨2, 0, [y, y1]⟩ = 0 → r = (0, ⟨2, 0, [y, y1]⟩))) := by
      show r.1 = ck ⟨2, 0, [y, y1]⟩ ∧ (ck ⟨2, 0, [y, y1]⟩ = 0 → r = (0, ⟨2, 0, [y, y1]⟩))
      obtain ⟨p1, p2⟩ := HAP.out.2 rfl
      unfold ck
      split
      · rename_i h6; exact ⟨by rw [p1 h6], fun h => by cases h⟩
      · rename_i h6
        rw [(good_fn HGY.out (HG1.out rfl) h6).wr, p2 h6]
        exact ⟨rfl, fun _ => rfl⟩
    have hz := HZ.out rfl
    subst hz
    obtain ⟨dz, hT⟩ := HT.out rfl
    go_upto_region 5 with fail
    have hbb := two_boxes wc (.cells #[.int .i64 y.kind, .int .i64 y.n, .slice b y.kids.length e0, .int .i64 zk, .int .i64 zn, .slice a1 zks.length c1] 24) (.cells #[.int .i64 2, .int .i64 0, .slice (some ⟨wc.heap.size, 0, none⟩) 2 2] 24)
    generalize hV : (wc.alloc (.cells #[.int .i64 y.kind, .int .i64 y.n, .slice b y.kids.length e0, .int .i64 zk, .int .i64 zn, .slice a1 zks.length c1] 24)).alloc (.cells #[.int .i64 2, .int .i64 0, .slice (some ⟨wc.heap.size, 0, none⟩) 2 2] 24) = V at *
    obtain ⟨hx1, hx2, hsV, hbV⟩ := hbb
    have hrV : wc.heap.size + 1 < V.heap.size := by omega
    have HTV : Hid (TyP (fun g => g < w0.heap.size ∨ w.heap.size + 1 < g) V (max dy dz + 1) ⟨2, 0, [y, ⟨zk, zn, zks⟩]⟩ (some ⟨wc.heap.size, 0, none⟩) 2) := by
      have hy2 : TyP (fun g => g < w0.heap.size ∨ w.heap.size + 1 < g) V (max dy dz) y b e0 := (HY.out.within.keep (Nat.le_trans HF.out.ctx.bel.size hbV.size) (fun g hg _ => ⟨.inl hg, (hbV.block g (Nat.lt_of_lt_of_le hg HF.out.ctx.bel.size)).trans (HF.out.ctx.bel.block g hg)⟩)).upto (Nat.le_max_left _ _)
      have hz2 : TyP (fun g => g < w0.heap.size ∨ w.heap.size + 1 < g) V (max dy dz) ⟨zk, zn, zks⟩ a1 c1 := (hT.keep hbV.size (fun g hg hP => ⟨by rcases hP with hP | hP; exact .inl hP; (right; omega), hbV.block g hg⟩)).upto (Nat.le_max_right _ _)
      refine ⟨by (unfold i64B; dsimp only; omega), by (unfold i64B; dsimp only; omega), by (show 2 ≤ 140737488355328; omega), .inr ⟨wc.heap.size, 0, rfl, by omega, .inr (by omega), fun j hj => ?_⟩⟩
      have hj' : j = 0 ∨ j = 1 := by have hj2 : j < 2 := hj; omega
      rcases hj' with rfl | rfl
      · exact ⟨b, e0, cell_of_row _ _ 0 _ _ _ hx1, cell_of_row _ _ 1 _ _ _ hx1, cell_of_row _ _ 2 _ _ _ hx1, hy2⟩
      · exact ⟨a1, c1, cell_of_row _ _ 3 _ _ _ hx1, cell_of_row _ _ 4 _ _ _ hx1, cell_of_row _ _ 5 _ _ _ hx1, hz2⟩
    have HFV : Hid (Fs w0 w ar cons xa ca ac cc own (.cells #[.int .i64 3, .int .i64 n, .int .i64 y.kind, .int .i64 y.n, .slice b y.kids.length e0, .slice (some ⟨g1, off1, none⟩) 1 c] 27) y (b, e0) ((0 : Int) = 0) V none none none none) := HF.out.below hbV
    have K10 := check_any (max dy dz + 1) ⟨2, 0, [y, ⟨zk, zn, zks⟩]⟩ (some ⟨wc.heap.size, 0, none⟩) 2 V.drew (HTV.out.at.below (Below.refl _ _).drew)
    unfold vty at K10
    dsimp only at K10
    rw [show [y, (⟨zk, zn, zks⟩ : Ty)].length = 2 from rfl] at K10
    obtain ⟨re, hre⟩ : ∃ x, ck ⟨2, 0, [y, ⟨zk, zn, zks⟩]⟩ = x := ⟨_, rfl⟩
    rw [hre] at K10
    have HRE : Hid (r.1 = re ∧ (re = 0 → r = (0, ⟨2, 0, [y, ⟨zk, zn, zks⟩]⟩))) := by rw [← hre]; exact HR2.out
    have z0 := cell_of_row _ _ 0 _ _ _ hx2
    have z1 := cell_of_row _ _ 1 _ _ _ hx2
    have z2 := cell_of_row _ _ 2 _ _ _ hx2
    generalize hG : wc.heap.size = G at *
    clear hV hre HR2 hx1 k0 k1 k2 tb2 tb3 tb4 hbR hY3 hsV hT
    refine wp_region_held_drew (S := fun W => W.cell? ⟨G + 1, 0, none⟩ = some (.int .i64 2) ∧ W.cell? ⟨G + 1, 1, none⟩ = some (.int .i64 0) ∧ W.cell? ⟨G + 1, 2, none⟩ = some (.slice (some ⟨G, 0, none⟩) 2 2)) (by kernel_rfl) (by exact ⟨z0, z1, z2⟩) (fun hHeld => ?_)
    refine wpAnyH_take (i := 0) (oi := { dst := some 34, op := Op.load 24 (Operand.tmp 10), type := 24, pos := "types.go:34", after := #[], guard := none }) (v := ?_) rfl (by kernel_rfl) (by kernel_rfl) (by kernel_rfl) (fun _ _ _ h => h) (Or.inl ⟨by rfl, ?_⟩) (by assumption) ?_
    case refine_2 => intro w hSw; (try dsimp only at hSw); obtain ⟨hA, hB, hC⟩ := hSw; go_simp; (try with_reducible rfl)
    simp only [Act.put, List.setIfInBounds_toArray, List.set_cons_zero, List.set_cons_succ]
    refine wpAnyH_take (i := 1) (oi := { dst := some 35, op := Op.load 24 (Operand.tmp 10), type := 24, pos := "types.go:34", after := #[], guard := none }) (v := ?_) rfl (by kernel_rfl) (by kernel_rfl) (by kernel_rfl) (fun _ _ _ h => h) (Or.inl ⟨by rfl, ?_⟩) (by assumption) ?_
    case refine_2 => intro w hSw; (try dsimp only at hSw); obtain ⟨hA, hB, hC⟩ := hSw; go_simp; (try with_reducible rfl)
    simp only [Act.put, List.setIfInBounds_toArray, List.set_cons_zero, List.set_cons_succ]
    refine wpAnyH_ready (rs := [2]) (by kernel_rfl) (by simp) ?_
    refine (AllReadyH.cons (o := { dst := some 36, op := Op.call { callee := Callee.value (Operand.func 10), args := #[Operand.tmp 35], argTypes := #[24] }, type := 28, pos := "types.go:34", after := #[{ on := 1, ground := Ground.data }], guard := none }) rfl (fun K hK => ?_) AllReadyH.nil)
    go_simp
    (with_reducible refine K10.mono ?_)
    rintro e w7 ⟨rfl, hb7⟩
    dsimp only
    have hb7' : Below V.heap.size V w7 := (Below.refl _ V).drew.trans hb7
    have HF7 : Hid _ := HFV.out.below hb7'
    have HT7 : Hid (TyP (fun g => g < w0.heap.size ∨ w.heap.size + 1 < g) w7 (max dy dz + 1) ⟨2, 0, [y, ⟨zk, zn, zks⟩]⟩ (some ⟨G, 0, none⟩) 2) := HTV.out.below hb7'
    have hcc : w7.cell? ⟨G + 1, 0, none⟩ = some (.int .i64 2) ∧ w7.cell? ⟨G + 1, 1, none⟩ = some (.int .i64 0) ∧ w7.cell? ⟨G + 1, 2, none⟩ = some (.slice (some ⟨G, 0, none⟩) 2 2) := ⟨(hb7'.cell (p := ⟨G + 1, 0, none⟩) hrV).trans z0, (hb7'.cell (p := ⟨G + 1, 1, none⟩) hrV).trans z1, (hb7'.cell (p := ⟨G + 1, 2, none⟩) hrV).trans z2⟩
    clear hb7 hb7' K10
    refine hK.out _ _ ?_ (fun hHeld => ?_)
    · exact hcc
    clear hK K
    try simp only [Act.put, List.setIfInBounds_toArray, List.set_cons_zero, List.set_cons_succ]
    refine wpAnyH_ready (rs := [3]) (by kernel_rfl) (by simp) ?_
    refine (AllReadyH.cons (o := { dst := none, op := Op.store 24 (Operand.tmp 6) (Operand.tmp 34), type := 0, pos := "types.go:34", after := #[{ on := 0, ground := Ground.data }, { on := 2, ground := Ground.chain }, { on := 0, ground := Ground.phase }, { on := 1, ground := Ground.textOnly Departure.lateStores }, { on := 2, ground := Ground.textOnly Departure.lateStoresUnsure }], guard := none }) rfl (fun K hK => ?_) AllReadyH.nil)
    have hY7 := HF7.out.rb
    have m0 := cell_of_row _ _ 0 _ _ _ hY7
    have m1 := cell_of_row _ _ 1 _ _ _ hY7
    have m2 := cell_of_row _ _ 2 _ _ _ hY7
    have f0 := frozen_of_row _ _ 0 _ 24 hY7
    have f1 := frozen_of_row _ _ 1 _ 24 hY7
    have f2 := frozen_of_row _ _ 2 _ 24 hY7
    have kk := ko3 w7 (w.heap.size + 1) (.int .i64 2) (.int .i64 0) (.slice (some ⟨G, 0, none⟩) 2 2) (G + 1) (by omega)
    go_simp
    refine hK.out _ _ ?_ (fun hHeld => ?_)
    · exact ⟨(cell_same kk).trans hcc.1, (cell_same kk).trans hcc.2.1, (cell_same kk).trans hcc.2.2⟩
    clear hK K
    try simp only [Act.put, List.setIfInBounds_toArray, List.set_cons_zero, List.set_cons_succ]
    refine wpAnyH_take (i := 4) (oi := { dst := some 7, op := Op.assign (Operand.tmp 36), type := 28, pos := "types.go:34", after := #[{ on := 2, ground := Ground.data }, { on := 3, ground := Ground.chain }, { on := 0, ground := Ground.phase }, { on := 1, ground := Ground.phase }, { on := 2, ground := Ground.phase }, { on := 3, ground := Ground.phase }], guard := none }) (v := ?_) rfl (by kernel_rfl) (by kernel_rfl) (by kernel_rfl) (fun _ _ _ h => h) (Or.inl ⟨by rfl, ?_⟩) (by assumption) ?_
    case refine_2 => intro w hSw; (try dsimp only at hSw); obtain ⟨hA, hB, hC⟩ := hSw; go_simp; (try with_reducible rfl)
    simp only [Act.put, List.setIfInBounds_toArray, List.set_cons_zero, List.set_cons_succ]
    refine wpAnyH_done (by kernel_rfl) ?_ _
    clear m0 m1 m2 f0 f1 f2
    go_wp2_with fail
    have hl3 := laid_box hY7 2 0 (some ⟨G, 0, none⟩) 2 2
    refine bodyPost_ret (results_row_tmp rfl _ _ (w.heap.size + 1) 24 _ (0, 0) _ rfl hl3 Try.underlying24 rfl size24) rfl ?_
    by_cases h7 : re = 0
    · subst h7
      exact ans_ok HOWN.out HF7.out.kb HF7.out.ctx (R := w.heap.size + 1) hw0 (by omega) (hRo _ (by omega)) HT7.out (HRE.out.2 rfl)
    · have hfs := fin_set HOWN.out HF7.out.kb HF7.out.ctx (R := w.heap.size + 1) hw0 (by omega) (hRo _ (by omega)) (.int .i64 2) (.int .i64 0) (.slice (some ⟨G, 0, none⟩) 2 2)
      exact ⟨⟨⟨⟨2, 0, [y, ⟨zk, zn, zks⟩]⟩, some ⟨G, 0, none⟩, 2, by rw [HRE.out.1]; rfl, fun h0 => absurd (HRE.out.1.symm.trans h0) h7⟩, hfs.1⟩, hfs.2⟩
  · have b1 : (r1 != 0) = true := bne_iff_ne.2 h1
    have HRR : Hid (r = (r1, noTy)) := HAP.out.1 h1
    have m0 := cell_of_row _ _ 0 _ _ _ hY3
    have m1 := cell_of_row _ _ 1 _ _ _ hY3
    have m2 := cell_of_row _ _ 2 _ _ _ hY3
    have f0 := frozen_of_row _ _ 0 _ 24 hY3
    have f1 := frozen_of_row _ _ 1 _ 24 hY3
    have f2 := frozen_of_row _ _ 2 _ 24 hY3
    go_wp2
    have hl3 := laid_box hY3 0 0 none 0 0
    refine bodyPost_ret (results_row_tmp rfl _ _ (w.heap.size + 1) 24 _ (0, 0) _ rfl hl3 Try.underlying24 rfl size24) rfl ?_
    exact ans_bad HOWN.out HF.out.kb HF.out.ctx hw0 (by omega) (hRo _ (by omega)) h1 HRR.out
end Go.Proofs.Ytofbnfpncekddaa.Te
