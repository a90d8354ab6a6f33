/- selfSame, step, told, Normal at the fixed term: termBegun. -/
import Derived.Test.YtofbnfpncekddaaVe
namespace Go.Proofs.Ytofbnfpncekddaa.Te
open Go.RowKit Zz

/-- the fixed term lies so -/
structure Self (w : World) (G1 G2 : Nat) : Prop where
  one : w.heap[G1]? = some (.cells #[.int .i64 1, .int .i64 0, .int .i64 0, .int .i64 0, .slice none 0 0, .slice none 0 0] 27 (0, 0))
  two : w.heap[G2]? = some (.cells #[.int .i64 3, .int .i64 0, .int .i64 1, .int .i64 0, .slice none 0 0, .slice (some ⟨G1, 0, none⟩) 1 1, .int .i64 2, .int .i64 3, .int .i64 0, .int .i64 0, .slice none 0 0, .slice none 0 0] 27 (0, 0))
theorem Self.below {w w' : World} {G1 G2 : Nat} (h : Self w G1 G2) (hb : Below w.heap.size w w') : Self w' G1 G2 := ⟨(hb.block _ (lt_of_get h.one)).trans h.one, (hb.block _ (lt_of_get h.two)).trans h.two⟩
def vself (G2 : Nat) : Value := .agg #[.int .i64 4, .int .i64 0, .int .i64 0, .int .i64 0, .slice none 0 0, .slice (some ⟨G2, 0, none⟩) 2 2]
def varT : Tm := ⟨1, 0, noTy, []⟩
def conT : Tm := ⟨2, 3, noTy, []⟩
def fnT : Tm := ⟨3, 0, ⟨1, 0, []⟩, [varT]⟩
def selfT : Tm := ⟨4, 0, noTy, [fnT, conT]⟩
theorem i64_small {x : Int} (h : 0 ≤ x) (h' : x ≤ 10) : i64B x := by unfold i64B; omega
theorem no_at (w : World) : TyAt w 1 noTy none 0 := (noty_at (fun _ => True) w).at
theorem con_at (w : World) (x : Option Addr) (c : Nat) : TmAt w 1 conT none 0 x c := ⟨i64_small (by decide) (by decide), i64_small (by decide) (by decide), by decide, ⟨1, no_at w⟩, .inl rfl⟩
theorem var_at (w : World) (x : Option Addr) (c : Nat) : TmAt w 1 varT none 0 x c := ⟨i64_small (by decide) (by decide), i64_small (by decide) (by decide), by decide, ⟨1, no_at w⟩, .inl rfl⟩
theorem con_more (w : World) (x : Option Addr) (c : Nat) : TmAt w 2 conT none 0 x c := ⟨i64_small (by decide) (by decide), i64_small (by decide) (by decide), by decide, ⟨1, no_at w⟩, .inl rfl⟩
theorem Self.tm {w : World} {G1 G2 : Nat} (h : Self w G1 G2) : TmAt w 3 selfT none 0 (some ⟨G2, 0, none⟩) 2 := by
  have hfn : TmAt w 2 fnT none 0 (some ⟨G1, 0, none⟩) 1 := by
    refine ⟨i64_small (by decide) (by decide), i64_small (by decide) (by decide), by decide, ⟨1, i64_small (by decide) (by decide), i64_small (by decide) (by decide), by decide, .inl rfl⟩, .inr ⟨G1, 0, rfl, lt_of_get h.one, fun j hj => ?_⟩⟩
    have hj0 : j = 0 := by have : j < 1 := hj; omega
    subst hj0
    exact ⟨none, 0, none, 0, cell_of_row _ _ 0 _ _ _ h.one, cell_of_row _ _ 1 _ _ _ h.one, cell_of_row _ _ 2 _ _ _ h.one, cell_of_row _ _ 3 _ _ _ h.one, cell_of_row _ _ 4 _ _ _ h.one, cell_of_row _ _ 5 _ _ _ h.one, var_at w none 0⟩
  refine ⟨i64_small (by decide) (by decide), i64_small (by decide) (by decide), by decide, ⟨1, no_at w⟩, .inr ⟨G2, 0, rfl, lt_of_get h.two, fun j hj => ?_⟩⟩
  have hj0 : j = 0 ∨ j = 1 := by have : j < 2 := hj; omega
  rcases hj0 with rfl | rfl
  · exact ⟨none, 0, some ⟨G1, 0, none⟩, 1, cell_of_row _ _ 0 _ _ _ h.two, cell_of_row _ _ 1 _ _ _ h.two, cell_of_row _ _ 2 _ _ _ h.two, cell_of_row _ _ 3 _ _ _ h.two, cell_of_row _ _ 4 _ _ _ h.two, cell_of_row _ _ 5 _ _ _ h.two, hfn⟩
  · exact ⟨none, 0, none, 0, cell_of_row _ _ 6 _ _ _ h.two, cell_of_row _ _ 7 _ _ _ h.two, cell_of_row _ _ 8 _ _ _ h.two, cell_of_row _ _ 9 _ _ _ h.two, cell_of_row _ _ 10 _ _ _ h.two, cell_of_row _ _ 11 _ _ _ h.two, con_more w none 0⟩
theorem self_any (w : World) : Calls Try.prog 17 #[] w fun e w' => ∃ G1 G2, e = .returned (vself G2) ∧ Self w' G1 G2 ∧ Below w.heap.size w w' := by
  go_enter Try.func17, Try.ntmps17
  go_wp2
  have h4 := four_blocks w (.cells #[.int .i64 4, .int .i64 0, .int .i64 0, .int .i64 0, .slice none 0 0, .slice (some ⟨w.heap.size + 3, 0, none⟩) 2 2] 27) (.cells #[.int .i64 1, .int .i64 0, .slice none 0 0] 24) (.cells #[.int .i64 1, .int .i64 0, .int .i64 0, .int .i64 0, .slice none 0 0, .slice none 0 0] 27) (.cells #[.int .i64 3, .int .i64 0, .int .i64 1, .int .i64 0, .slice none 0 0, .slice (some ⟨w.heap.size + 2, 0, none⟩) 1 1, .int .i64 2, .int .i64 3, .int .i64 0, .int .i64 0, .slice none 0 0, .slice none 0 0] 27)
  generalize hV : (((w.alloc (.cells #[.int .i64 4, .int .i64 0, .int .i64 0, .int .i64 0, .slice none 0 0, .slice (some ⟨w.heap.size + 3, 0, none⟩) 2 2] 27)).alloc (.cells #[.int .i64 1, .int .i64 0, .slice none 0 0] 24)).alloc (.cells #[.int .i64 1, .int .i64 0, .int .i64 0, .int .i64 0, .slice none 0 0, .slice none 0 0] 27)).alloc (.cells #[.int .i64 3, .int .i64 0, .int .i64 1, .int .i64 0, .slice none 0 0, .slice (some ⟨w.heap.size + 2, 0, none⟩) 1 1, .int .i64 2, .int .i64 3, .int .i64 0, .int .i64 0, .slice none 0 0, .slice none 0 0] 27) = V at *
  obtain ⟨x0, _, x2, x3, _, hb⟩ := h4
  refine bodyPost_ret (results_row6 rfl _ _ w.heap.size _ _ _ _ _ _ rfl x0) rfl ?_
  exact ⟨w.heap.size + 2, w.heap.size + 3, rfl, ⟨x2, x3⟩, hb⟩
set_option maxHeartbeats 4000000 in
theorem self_step (G1 G2 : Nat) (w : World) (h : Self w G1 G2) : Calls Try.prog 31 #[vself G2, .slice none 0 0] w fun e w' => Con w e w' := by
  have K41 := con_put none none 0 0
  unfold vcon vvar at K41
  unfold vself
  go_enter Try.func31, Try.ntmps31
  go_upto_region 2 with fail
  have h2 := two_boxes w (.cells #[.int .i64 4, .int .i64 0, .int .i64 0, .int .i64 0, .slice none 0 0, .slice (some ⟨G2, 0, none⟩) 2 2] 27) (.cells #[.int .i64 0, .int .i64 0, .int .i64 0, .int .i64 0, .slice none 0 0, .slice none 0 0] 27)
  generalize hV : (w.alloc (.cells #[.int .i64 4, .int .i64 0, .int .i64 0, .int .i64 0, .slice none 0 0, .slice (some ⟨G2, 0, none⟩) 2 2] 27)).alloc (.cells #[.int .i64 0, .int .i64 0, .int .i64 0, .int .i64 0, .slice none 0 0, .slice none 0 0] 27) = V at *
  obtain ⟨x1, x2, hs, hb⟩ := h2
  have hS := h.below hb
  clear hV h
  refine region_z (S := fun W => W.cell? ⟨w.heap.size, 5, none⟩ = some (.slice (some ⟨G2, 0, none⟩) 2 2) ∧ W.cell? ⟨G2, 5, none⟩ = some (.slice (some ⟨G1, 0, none⟩) 1 1) ∧ W.cell? ⟨G2, 6, none⟩ = some (.int .i64 2) ∧ W.cell? ⟨G2, 7, none⟩ = some (.int .i64 3) ∧ W.cell? ⟨G2, 8, none⟩ = some (.int .i64 0) ∧ W.cell? ⟨G2, 9, none⟩ = some (.int .i64 0) ∧ W.cell? ⟨G2, 10, none⟩ = some (.slice none 0 0) ∧ W.cell? ⟨G2, 11, none⟩ = some (.slice none 0 0) ∧ W.cell? ⟨G1, 0, none⟩ = some (.int .i64 1) ∧ W.cell? ⟨G1, 1, none⟩ = some (.int .i64 0) ∧ W.cell? ⟨G1, 2, none⟩ = some (.int .i64 0) ∧ W.cell? ⟨G1, 3, none⟩ = some (.int .i64 0) ∧ W.cell? ⟨G1, 4, none⟩ = some (.slice none 0 0) ∧ W.cell? ⟨G1, 5, none⟩ = some (.slice none 0 0)) 12 (by kernel_rfl) (by exact ⟨cell_of_row _ _ 5 _ _ _ x1, cell_of_row _ _ 5 _ _ _ hS.two, cell_of_row _ _ 6 _ _ _ hS.two, cell_of_row _ _ 7 _ _ _ hS.two, cell_of_row _ _ 8 _ _ _ hS.two, cell_of_row _ _ 9 _ _ _ hS.two, cell_of_row _ _ 10 _ _ _ hS.two, cell_of_row _ _ 11 _ _ _ hS.two, cell_of_row _ _ 0 _ _ _ hS.one, cell_of_row _ _ 1 _ _ _ hS.one, cell_of_row _ _ 2 _ _ _ hS.one, cell_of_row _ _ 3 _ _ _ hS.one, cell_of_row _ _ 4 _ _ _ hS.one, cell_of_row _ _ 5 _ _ _ hS.one⟩) (fun hHeld => ?_)
  refine take_z (z := 12) (i := 0) (oi := { dst := some 8, op := Op.fieldAddr 27 (Operand.tmp 2) 3, type := 0, pos := "steps.go:51", after := #[], guard := none }) (v := ?_) (by kernel_rfl) (by decide) rfl (by kernel_rfl) (by kernel_rfl) (by kernel_rfl) (fun _ _ _ h => h) (Or.inl ⟨by rfl, ?_⟩) (by assumption) ?_
  case refine_2 => intro w hSw; (try dsimp only at hSw); obtain ⟨hA, hB, hC, hD, hE, hF, hG, hH, hI, hJ, hK, hL, hM, hN⟩ := hSw; go_simp; (try with_reducible rfl)
  simp only [Act.put, List.setIfInBounds_toArray, List.set_cons_zero, List.set_cons_succ]
  refine take_z (z := 12) (i := 1) (oi := { dst := some 9, op := Op.load 25 (Operand.tmp 8), type := 25, pos := "steps.go:51", after := #[{ on := 0, ground := Ground.data }], guard := none }) (v := ?_) (by kernel_rfl) (by decide) rfl (by kernel_rfl) (by kernel_rfl) (by kernel_rfl) (fun _ _ _ h => h) (Or.inl ⟨by rfl, ?_⟩) (by assumption) ?_
  case refine_2 => intro w hSw; (try dsimp only at hSw); obtain ⟨hA, hB, hC, hD, hE, hF, hG, hH, hI, hJ, hK, hL, hM, hN⟩ := hSw; go_simp; (try with_reducible rfl)
  simp only [Act.put, List.setIfInBounds_toArray, List.set_cons_zero, List.set_cons_succ]
  refine take_z (z := 12) (i := 2) (oi := { dst := some 10, op := Op.indexAddr 25 (Operand.tmp 9) (Operand.const (Value.int IntKind.i64 1)), type := 0, pos := "steps.go:51", after := #[{ on := 1, ground := Ground.data }], guard := none }) (v := ?_) (by kernel_rfl) (by decide) rfl (by kernel_rfl) (by kernel_rfl) (by kernel_rfl) (fun _ _ _ h => h) (Or.inl ⟨by rfl, ?_⟩) (by assumption) ?_
  case refine_2 => intro w hSw; (try dsimp only at hSw); obtain ⟨hA, hB, hC, hD, hE, hF, hG, hH, hI, hJ, hK, hL, hM, hN⟩ := hSw; go_simp; (try with_reducible rfl)
  simp only [Act.put, List.setIfInBounds_toArray, List.set_cons_zero, List.set_cons_succ]
  refine take_z (z := 12) (i := 3) (oi := { dst := some 11, op := Op.load 27 (Operand.tmp 10), type := 27, pos := "steps.go:51", after := #[{ on := 2, ground := Ground.data }], guard := none }) (v := ?_) (by kernel_rfl) (by decide) rfl (by kernel_rfl) (by kernel_rfl) (by kernel_rfl) (fun _ _ _ h => h) (Or.inl ⟨by rfl, ?_⟩) (by assumption) ?_
  case refine_2 => intro w hSw; (try dsimp only at hSw); obtain ⟨hA, hB, hC, hD, hE, hF, hG, hH, hI, hJ, hK, hL, hM, hN⟩ := hSw; go_simp; (try with_reducible rfl)
  simp only [Act.put, List.setIfInBounds_toArray, List.set_cons_zero, List.set_cons_succ]
  refine take_z (z := 12) (i := 4) (oi := { dst := some 12, op := Op.fieldAddr 27 (Operand.tmp 2) 3, type := 0, pos := "steps.go:51", after := #[], guard := none }) (v := ?_) (by kernel_rfl) (by decide) rfl (by kernel_rfl) (by kernel_rfl) (by kernel_rfl) (fun _ _ _ h => h) (Or.inl ⟨by rfl, ?_⟩) (by assumption) ?_
  case refine_2 => intro w hSw; (try dsimp only at hSw); obtain ⟨hA, hB, hC, hD, hE, hF, hG, hH, hI, hJ, hK, hL, hM, hN⟩ := hSw; go_simp; (try with_reducible rfl)
  simp only [Act.put, List.setIfInBounds_toArray, List.set_cons_zero, List.set_cons_succ]
  refine take_z (z := 12) (i := 5) (oi := { dst := some 13, op := Op.load 25 (Operand.tmp 12), type := 25, pos := "steps.go:51", after := #[{ on := 4, ground := Ground.data }], guard := none }) (v := ?_) (by kernel_rfl) (by decide) rfl (by kernel_rfl) (by kernel_rfl) (by kernel_rfl) (fun _ _ _ h => h) (Or.inl ⟨by rfl, ?_⟩) (by assumption) ?_
  case refine_2 => intro w hSw; (try dsimp only at hSw); obtain ⟨hA, hB, hC, hD, hE, hF, hG, hH, hI, hJ, hK, hL, hM, hN⟩ := hSw; go_simp; (try with_reducible rfl)
  simp only [Act.put, List.setIfInBounds_toArray, List.set_cons_zero, List.set_cons_succ]
  refine take_z (z := 12) (i := 6) (oi := { dst := some 14, op := Op.indexAddr 25 (Operand.tmp 13) (Operand.const (Value.int IntKind.i64 0)), type := 0, pos := "steps.go:51", after := #[{ on := 5, ground := Ground.data }], guard := none }) (v := ?_) (by kernel_rfl) (by decide) rfl (by kernel_rfl) (by kernel_rfl) (by kernel_rfl) (fun _ _ _ h => h) (Or.inl ⟨by rfl, ?_⟩) (by assumption) ?_
  case refine_2 => intro w hSw; (try dsimp only at hSw); obtain ⟨hA, hB, hC, hD, hE, hF, hG, hH, hI, hJ, hK, hL, hM, hN⟩ := hSw; go_simp; (try with_reducible rfl)
  simp only [Act.put, List.setIfInBounds_toArray, List.set_cons_zero, List.set_cons_succ]
  refine take_z (z := 12) (i := 7) (oi := { dst := some 15, op := Op.fieldAddr 27 (Operand.tmp 14) 3, type := 0, pos := "steps.go:51", after := #[{ on := 6, ground := Ground.data }], guard := none }) (v := ?_) (by kernel_rfl) (by decide) rfl (by kernel_rfl) (by kernel_rfl) (by kernel_rfl) (fun _ _ _ h => h) (Or.inl ⟨by rfl, ?_⟩) (by assumption) ?_
  case refine_2 => intro w hSw; (try dsimp only at hSw); obtain ⟨hA, hB, hC, hD, hE, hF, hG, hH, hI, hJ, hK, hL, hM, hN⟩ := hSw; go_simp; (try with_reducible rfl)
  simp only [Act.put, List.setIfInBounds_toArray, List.set_cons_zero, List.set_cons_succ]
  refine take_z (z := 12) (i := 8) (oi := { dst := some 16, op := Op.load 25 (Operand.tmp 15), type := 25, pos := "steps.go:51", after := #[{ on := 7, ground := Ground.data }], guard := none }) (v := ?_) (by kernel_rfl) (by decide) rfl (by kernel_rfl) (by kernel_rfl) (by kernel_rfl) (fun _ _ _ h => h) (Or.inl ⟨by rfl, ?_⟩) (by assumption) ?_
  case refine_2 => intro w hSw; (try dsimp only at hSw); obtain ⟨hA, hB, hC, hD, hE, hF, hG, hH, hI, hJ, hK, hL, hM, hN⟩ := hSw; go_simp; (try with_reducible rfl)
  simp only [Act.put, List.setIfInBounds_toArray, List.set_cons_zero, List.set_cons_succ]
  refine take_z (z := 12) (i := 9) (oi := { dst := some 17, op := Op.indexAddr 25 (Operand.tmp 16) (Operand.const (Value.int IntKind.i64 0)), type := 0, pos := "steps.go:51", after := #[{ on := 8, ground := Ground.data }], guard := none }) (v := ?_) (by kernel_rfl) (by decide) rfl (by kernel_rfl) (by kernel_rfl) (by kernel_rfl) (fun _ _ _ h => h) (Or.inl ⟨by rfl, ?_⟩) (by assumption) ?_
  case refine_2 => intro w hSw; (try dsimp only at hSw); obtain ⟨hA, hB, hC, hD, hE, hF, hG, hH, hI, hJ, hK, hL, hM, hN⟩ := hSw; go_simp; (try with_reducible rfl)
  simp only [Act.put, List.setIfInBounds_toArray, List.set_cons_zero, List.set_cons_succ]
  refine take_z (z := 12) (i := 10) (oi := { dst := some 18, op := Op.load 27 (Operand.tmp 17), type := 27, pos := "steps.go:51", after := #[{ on := 9, ground := Ground.data }], guard := none }) (v := ?_) (by kernel_rfl) (by decide) rfl (by kernel_rfl) (by kernel_rfl) (by kernel_rfl) (fun _ _ _ h => h) (Or.inl ⟨by rfl, ?_⟩) (by assumption) ?_
  case refine_2 => intro w hSw; (try dsimp only at hSw); obtain ⟨hA, hB, hC, hD, hE, hF, hG, hH, hI, hJ, hK, hL, hM, hN⟩ := hSw; go_simp; (try with_reducible rfl)
  simp only [Act.put, List.setIfInBounds_toArray, List.set_cons_zero, List.set_cons_succ]
  refine ready_z (rs := [11]) (by kernel_rfl) (by simp) ?_
  refine (AllZ.cons (o := { dst := some 19, op := Op.call { callee := Callee.value (Operand.func 41), args := #[Operand.tmp 11, Operand.tmp 18], argTypes := #[27, 27] }, type := 27, pos := "steps.go:51", after := #[{ on := 3, ground := Ground.data }, { on := 10, ground := Ground.data }], guard := none }) rfl (fun K hK => ?_) AllZ.nil)
  go_simp
  (with_reducible refine (K41 _).mono ?_)
  rintro e w1 ⟨⟨x5, c5, rfl⟩, hb1⟩
  unfold vcon
  dsimp only
  have hb1' : Below V.heap.size V w1 := (Below.refl _ V).drew.trans hb1
  have hU := (hb1'.block (w.heap.size + 1) (by omega)).trans x2
  have y1 := (hb1'.block w.heap.size (by omega)).trans x1
  have hS1 := hS.below hb1'
  have m0 := cell_of_row _ _ 0 _ _ _ hU
  have m1 := cell_of_row _ _ 1 _ _ _ hU
  have m2 := cell_of_row _ _ 2 _ _ _ hU
  have m3 := cell_of_row _ _ 3 _ _ _ hU
  have m4 := cell_of_row _ _ 4 _ _ _ hU
  have m5 := cell_of_row _ _ 5 _ _ _ hU
  have f0 := frozen_of_row _ _ 0 _ 27 hU
  have f1 := frozen_of_row _ _ 1 _ 27 hU
  have f2 := frozen_of_row _ _ 2 _ 27 hU
  have f3 := frozen_of_row _ _ 3 _ 27 hU
  have f4 := frozen_of_row _ _ 4 _ 27 hU
  have f5 := frozen_of_row _ _ 5 _ 27 hU
  refine hK.out _ _ ?_ (fun hHeld => ?_)
  · exact ⟨cell_of_row _ _ 5 _ _ _ y1, cell_of_row _ _ 5 _ _ _ hS1.two, cell_of_row _ _ 6 _ _ _ hS1.two, cell_of_row _ _ 7 _ _ _ hS1.two, cell_of_row _ _ 8 _ _ _ hS1.two, cell_of_row _ _ 9 _ _ _ hS1.two, cell_of_row _ _ 10 _ _ _ hS1.two, cell_of_row _ _ 11 _ _ _ hS1.two, cell_of_row _ _ 0 _ _ _ hS1.one, cell_of_row _ _ 1 _ _ _ hS1.one, cell_of_row _ _ 2 _ _ _ hS1.one, cell_of_row _ _ 3 _ _ _ hS1.one, cell_of_row _ _ 4 _ _ _ hS1.one, cell_of_row _ _ 5 _ _ _ hS1.one⟩
  clear hK K
  try simp only [Act.put, List.setIfInBounds_toArray, List.set_cons_zero, List.set_cons_succ]
  refine ready_z (rs := [12]) (by kernel_rfl) (by simp) ?_
  refine (AllZ.last (o := { dst := none, op := Op.store 27 (Operand.tmp 4) (Operand.tmp 19), type := 0, pos := "steps.go:51", after := #[{ on := 11, ground := Ground.data }, { on := 11, ground := Ground.chain }, { on := 0, ground := Ground.phase }, { on := 1, ground := Ground.phase }, { on := 2, ground := Ground.phase }, { on := 3, ground := Ground.phase }, { on := 4, ground := Ground.phase }, { on := 5, ground := Ground.phase }, { on := 6, ground := Ground.phase }, { on := 7, ground := Ground.phase }, { on := 8, ground := Ground.phase }, { on := 9, ground := Ground.phase }, { on := 10, ground := Ground.phase }, { on := 11, ground := Ground.phase }], guard := none }) rfl (fun K hK => ?_) AllZ.nil)
  go_simp
  refine hK.out _ _ ?_
  clear hK K
  try simp only [Act.put, List.setIfInBounds_toArray, List.set_cons_zero, List.set_cons_succ]
  refine done_z (by kernel_rfl) ?_ _
  clear m0 m1 m2 m3 m4 m5 f0 f1 f2 f3 f4 f5
  go_wp2_with fail
  have hl := laid6 hU (.int .i64 2) (.int .i64 3) (.int .i64 0) (.int .i64 0) (.slice none 0 0) (.slice x5 0 c5)
  refine bodyPost_ret (results_row6 rfl _ _ (w.heap.size + 1) _ _ _ _ _ _ rfl hl) rfl ?_
  exact ⟨⟨_, _, rfl⟩, bel6 (hb.trans (hb1'.mono hb.size)) (by omega) _ _ _ _ _ _⟩
end Go.Proofs.Ytofbnfpncekddaa.Te
