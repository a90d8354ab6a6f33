/- isMany, termCopy, told at the constant. -/
import Derived.Test.YtofbnfpncekddaaVf
import Derived.Deep.CutRange
namespace Go.Proofs.Ytofbnfpncekddaa.Te
open Go.RowKit Zz

theorem szm_con : szm conT = 1 := by
  rw [szm]
  rfl
theorem wtm_con : wtm conT = 0 := by
  rw [wtm_ok (t := conT) (by decide)]
  rfl
theorem ckm_con : ckm conT = 0 := by
  unfold ckm
  rw [if_neg (by rw [szm_con]; omega), wtm_con]
theorem con_few (x : Option Addr) (c : Nat) (w : World) : Calls Try.prog 32 #[vcon x c] w fun e w' => e = .returned (.bool false) ∧ Below w.heap.size w w' := by
  have K34 := fun W => countm_any 1 conT none 0 x c W 400 (con_at W x c) (by omega)
  rw [szm_con] at K34
  unfold vtm conT noTy at K34
  dsimp only at K34
  rw [show ([] : List Tm).length = 0 from rfl, show ([] : List Ty).length = 0 from rfl, show (((400 : Nat) : Int)) = (400 : Int) from rfl, show ((cap 1 400 : Nat) : Int) = 1 from rfl] at K34
  unfold vcon
  go_enter Try.func32, Try.ntmps32
  go_wp2_with (go_at_call 34; (with_reducible refine (K34 _).mono ?_); rintro e w1 ⟨rfl, hb1⟩)
  go_ret
  have hb : ∀ o, Below w.heap.size w (w.alloc o) := fun o => (Below.refl _ w).alloc (Nat.le_refl _) o
  exact ⟨rfl, (hb _).trans (hb1.mono (hb _).size)⟩
theorem con_right (x : Option Addr) (c : Nat) (w : World) : Calls Try.prog 7 #[vcon x c] w fun e w' => e = .returned (.int .i64 0) ∧ Below w.heap.size w w' := by
  have K7 := checkm_any 1 conT none 0 x c w (con_at w x c)
  rw [ckm_con] at K7
  unfold vtm conT noTy at K7
  exact K7
set_option maxHeartbeats 4000000 in
theorem con_copy (x : Option Addr) (c : Nat) (w : World) : Calls Try.prog 43 #[vcon x c] w fun e w' => (∃ a' c', e = .returned (.agg #[.int .i64 2, .int .i64 3, .int .i64 0, .int .i64 0, .slice a' 0 c', .slice none 0 0])) ∧ Below w.heap.size w w' := by
  have K14 := fun W => copy_any 1 noTy none 0 W (no_at W) (by rw [sz]; decide)
  unfold vty noTy at K14
  dsimp only at K14
  rw [show ([] : List Ty).length = 0 from rfl] at K14
  unfold vcon
  go_enter Try.func43, Try.ntmps43
  go_upto_region 1 with fail
  have h2 := two_boxes w (.cells #[.int .i64 2, .int .i64 3, .int .i64 0, .int .i64 0, .slice none 0 0, .slice x 0 c] 27) (.cells #[.int .i64 0, .int .i64 0, .int .i64 0, .int .i64 0, .slice none 0 0, .slice none 0 0] 27)
  generalize hV : (w.alloc (.cells #[.int .i64 2, .int .i64 3, .int .i64 0, .int .i64 0, .slice none 0 0, .slice x 0 c] 27)).alloc (.cells #[.int .i64 0, .int .i64 0, .int .i64 0, .int .i64 0, .slice none 0 0, .slice none 0 0] 27) = V at *
  obtain ⟨x1, x2, hs, hb⟩ := h2
  clear hV
  have x1d : V.drew.heap[w.heap.size]? = some (.cells #[.int .i64 2, .int .i64 3, .int .i64 0, .int .i64 0, .slice none 0 0, .slice x 0 c] 27) := x1
  have x2d : V.drew.heap[w.heap.size + 1]? = some (.cells #[.int .i64 0, .int .i64 0, .int .i64 0, .int .i64 0, .slice none 0 0, .slice none 0 0] 27) := x2
  go_cut [3] from 6 to 13 (fun s3 wx => ∃ (R : Nat) (a' : Option Addr) (c' : Nat), s3 = .pointer (some ⟨R, 0, none⟩) ∧ w.heap.size + 2 ≤ R ∧ wx.heap[R]? = some (.cells #[.int .i64 2, .int .i64 3, .int .i64 0, .int .i64 0, .slice a' 0 c', .slice none 0 0] 27 (0, 0)) ∧ wx.heap[w.heap.size]? = some (.cells #[.int .i64 2, .int .i64 3, .int .i64 0, .int .i64 0, .slice none 0 0, .slice x 0 c] 27) ∧ wx.heap[w.heap.size + 1]? = some (.cells #[.int .i64 0, .int .i64 0, .int .i64 0, .int .i64 0, .slice none 0 0, .slice none 0 0] 27) ∧ Below w.heap.size w wx)
  case first =>
    refine region_z (S := fun W => W.cell? ⟨w.heap.size, 0, none⟩ = some (.int .i64 2) ∧ W.cell? ⟨w.heap.size, 1, none⟩ = some (.int .i64 3) ∧ W.cell? ⟨w.heap.size, 2, none⟩ = some (.int .i64 0) ∧ W.cell? ⟨w.heap.size, 3, none⟩ = some (.int .i64 0) ∧ W.cell? ⟨w.heap.size, 4, none⟩ = some (.slice none 0 0)) 9 (by kernel_rfl) (by exact ⟨cell_of_row _ _ 0 _ _ _ x1, cell_of_row _ _ 1 _ _ _ x1, cell_of_row _ _ 2 _ _ _ x1, cell_of_row _ _ 3 _ _ _ x1, cell_of_row _ _ 4 _ _ _ x1⟩) (fun hHeld => ?_)
    have hbw0 : Below w.heap.size w V.drew := hb.drew
    generalize hV : V.drew = V0 at *
    have x1 := x1d
    have x2 := x2d
    refine take_z (z := 9) (i := 0) (oi := { dst := some 6, op := Op.fieldAddr 27 (Operand.tmp 1) 0, type := 0, pos := "steps.go:107", after := #[], guard := none }) (v := ?_) (by kernel_rfl) (by decide) rfl (by kernel_rfl) (by kernel_rfl) (by kernel_rfl) (fun _ _ _ h => h) (Or.inl ⟨by rfl, ?_⟩) (by assumption) ?_
    case refine_2 => intro w hSw; (try dsimp only at hSw); obtain ⟨hA, hB, hC, hD, hE⟩ := hSw; go_simp; (try with_reducible rfl)
    simp only [Act.put, List.setIfInBounds_toArray, List.set_cons_zero, List.set_cons_succ]
    refine take_z (z := 9) (i := 1) (oi := { dst := some 7, op := Op.load 3 (Operand.tmp 6), type := 3, pos := "steps.go:107", after := #[{ on := 0, ground := Ground.data }], guard := none }) (v := ?_) (by kernel_rfl) (by decide) rfl (by kernel_rfl) (by kernel_rfl) (by kernel_rfl) (fun _ _ _ h => h) (Or.inl ⟨by rfl, ?_⟩) (by assumption) ?_
    case refine_2 => intro w hSw; (try dsimp only at hSw); obtain ⟨hA, hB, hC, hD, hE⟩ := hSw; go_simp; (try with_reducible rfl)
    simp only [Act.put, List.setIfInBounds_toArray, List.set_cons_zero, List.set_cons_succ]
    refine take_z (z := 9) (i := 2) (oi := { dst := some 8, op := Op.fieldAddr 27 (Operand.tmp 1) 1, type := 0, pos := "steps.go:107", after := #[], guard := none }) (v := ?_) (by kernel_rfl) (by decide) rfl (by kernel_rfl) (by kernel_rfl) (by kernel_rfl) (fun _ _ _ h => h) (Or.inl ⟨by rfl, ?_⟩) (by assumption) ?_
    case refine_2 => intro w hSw; (try dsimp only at hSw); obtain ⟨hA, hB, hC, hD, hE⟩ := hSw; go_simp; (try with_reducible rfl)
    simp only [Act.put, List.setIfInBounds_toArray, List.set_cons_zero, List.set_cons_succ]
    refine take_z (z := 9) (i := 3) (oi := { dst := some 9, op := Op.load 3 (Operand.tmp 8), type := 3, pos := "steps.go:107", after := #[{ on := 2, ground := Ground.data }], guard := none }) (v := ?_) (by kernel_rfl) (by decide) rfl (by kernel_rfl) (by kernel_rfl) (by kernel_rfl) (fun _ _ _ h => h) (Or.inl ⟨by rfl, ?_⟩) (by assumption) ?_
    case refine_2 => intro w hSw; (try dsimp only at hSw); obtain ⟨hA, hB, hC, hD, hE⟩ := hSw; go_simp; (try with_reducible rfl)
    simp only [Act.put, List.setIfInBounds_toArray, List.set_cons_zero, List.set_cons_succ]
    refine take_z (z := 9) (i := 4) (oi := { dst := some 10, op := Op.fieldAddr 27 (Operand.tmp 1) 2, type := 0, pos := "steps.go:107", after := #[], guard := none }) (v := ?_) (by kernel_rfl) (by decide) rfl (by kernel_rfl) (by kernel_rfl) (by kernel_rfl) (fun _ _ _ h => h) (Or.inl ⟨by rfl, ?_⟩) (by assumption) ?_
    case refine_2 => intro w hSw; (try dsimp only at hSw); obtain ⟨hA, hB, hC, hD, hE⟩ := hSw; go_simp; (try with_reducible rfl)
    simp only [Act.put, List.setIfInBounds_toArray, List.set_cons_zero, List.set_cons_succ]
    refine take_z (z := 9) (i := 5) (oi := { dst := some 11, op := Op.load 24 (Operand.tmp 10), type := 24, pos := "steps.go:107", after := #[{ on := 4, ground := Ground.data }], guard := none }) (v := ?_) (by kernel_rfl) (by decide) rfl (by kernel_rfl) (by kernel_rfl) (by kernel_rfl) (fun _ _ _ h => h) (Or.inl ⟨by rfl, ?_⟩) (by assumption) ?_
    case refine_2 => intro w hSw; (try dsimp only at hSw); obtain ⟨hA, hB, hC, hD, hE⟩ := hSw; go_simp; (try with_reducible rfl)
    simp only [Act.put, List.setIfInBounds_toArray, List.set_cons_zero, List.set_cons_succ]
    refine ready_z (rs := [6, 8]) (by kernel_rfl) (by simp) ?_
    refine (AllZ.cons (o := { dst := some 12, op := Op.call { callee := Callee.value (Operand.func 14), args := #[Operand.tmp 11], argTypes := #[24] }, type := 24, pos := "steps.go:107", after := #[{ on := 5, ground := Ground.data }], guard := none }) rfl (fun K hK => ?_) (AllZ.cons (o := { dst := some 3, op := Op.alloc 27, type := 0, pos := "steps.go:107", after := #[], guard := none }) rfl (fun K hK => ?_) AllZ.nil))
    · skip
      go_simp
      (with_reducible refine (K14 _).mono ?_)
      rintro e w1 ⟨a', c', rfl, _, hb1⟩
      dsimp only
      have hbw1 := hbw0.trans (hb1.mono hbw0.size)
      have y1_1 := (hb1.block w.heap.size (by have := lt_of_get x1; exact this)).trans x1
      have y2_1 := (hb1.block (w.heap.size + 1) (by have := lt_of_get x2; exact this)).trans x2
      refine hK.out _ _ ?_ (fun hHeld => ?_)
      · exact ⟨cell_of_row _ _ 0 _ _ _ y1_1, cell_of_row _ _ 1 _ _ _ y1_1, cell_of_row _ _ 2 _ _ _ y1_1, cell_of_row _ _ 3 _ _ _ y1_1, cell_of_row _ _ 4 _ _ _ y1_1⟩
      clear hK K
      try simp only [Act.put, List.setIfInBounds_toArray, List.set_cons_zero, List.set_cons_succ]
      refine take_z (z := 9) (i := 7) (oi := { dst := some 13, op := Op.build 27 #[(0, Operand.tmp 7), (1, Operand.tmp 9), (2, Operand.tmp 12)], type := 27, pos := "steps.go:107", after := #[{ on := 1, ground := Ground.data }, { on := 3, ground := Ground.data }, { on := 6, ground := Ground.data }], guard := none }) (v := ?_) (by kernel_rfl) (by decide) rfl (by kernel_rfl) (by kernel_rfl) (by kernel_rfl) (fun _ _ _ h => h) (Or.inl ⟨by rfl, ?_⟩) (by assumption) ?_
      case refine_2 => intro w hSw; (try dsimp only at hSw); obtain ⟨hA, hB, hC, hD, hE⟩ := hSw; go_simp; (try with_reducible rfl)
      simp only [Act.put, List.setIfInBounds_toArray, List.set_cons_zero, List.set_cons_succ]
      refine ready_z (rs := [8]) (by kernel_rfl) (by simp) ?_
      refine (AllZ.cons (o := { dst := some 3, op := Op.alloc 27, type := 0, pos := "steps.go:107", after := #[], guard := none }) rfl (fun K hK => ?_) AllZ.nil)
      go_simp
      have hbA : Below w1.heap.size w1 (w1.alloc (.cells #[.int .i64 0, .int .i64 0, .int .i64 0, .int .i64 0, .slice none 0 0, .slice none 0 0] 27)) := (Below.refl _ _).alloc (Nat.le_refl _) _
      have hA := heap_alloc_new w1 (.cells #[.int .i64 0, .int .i64 0, .int .i64 0, .int .i64 0, .slice none 0 0, .slice none 0 0] 27)
      have hbw2 := hbw1.trans (hbA.mono hbw1.size)
      have y1_2 := (hbA.block w.heap.size (by have := lt_of_get y1_1; exact this)).trans y1_1
      have y2_2 := (hbA.block (w.heap.size + 1) (by have := lt_of_get y2_1; exact this)).trans y2_1
      have hRge : w.heap.size + 2 ≤ w1.heap.size := (by have := lt_of_get y2_1; omega)
      have hR := hA
      refine hK.out _ _ ?_ (fun hHeld => ?_)
      · exact ⟨cell_of_row _ _ 0 _ _ _ y1_2, cell_of_row _ _ 1 _ _ _ y1_2, cell_of_row _ _ 2 _ _ _ y1_2, cell_of_row _ _ 3 _ _ _ y1_2, cell_of_row _ _ 4 _ _ _ y1_2⟩
      clear hK K
      try simp only [Act.put, List.setIfInBounds_toArray, List.set_cons_zero, List.set_cons_succ]
      generalize hV : w1.alloc (.cells #[.int .i64 0, .int .i64 0, .int .i64 0, .int .i64 0, .slice none 0 0, .slice none 0 0] 27) = A2 at *
      clear hV
      refine ready_z (rs := [9]) (by kernel_rfl) (by simp) ?_
      refine (AllZ.last (o := { dst := none, op := Op.store 27 (Operand.tmp 3) (Operand.tmp 13), type := 0, pos := "steps.go:107", after := #[{ on := 8, ground := Ground.data }, { on := 7, ground := Ground.data }, { on := 6, ground := Ground.chain }, { on := 0, ground := Ground.phase }, { on := 1, ground := Ground.phase }, { on := 2, ground := Ground.phase }, { on := 3, ground := Ground.phase }, { on := 4, ground := Ground.phase }, { on := 5, ground := Ground.phase }, { on := 6, ground := Ground.phase }, { on := 7, ground := Ground.phase }, { on := 8, ground := Ground.phase }], guard := none }) rfl (fun K hK => ?_) AllZ.nil)
      have m0 := cell_of_row _ _ 0 _ _ _ hR
      have m1 := cell_of_row _ _ 1 _ _ _ hR
      have m2 := cell_of_row _ _ 2 _ _ _ hR
      have m3 := cell_of_row _ _ 3 _ _ _ hR
      have m4 := cell_of_row _ _ 4 _ _ _ hR
      have m5 := cell_of_row _ _ 5 _ _ _ hR
      have f0 := frozen_of_row _ _ 0 _ 27 hR
      have f1 := frozen_of_row _ _ 1 _ 27 hR
      have f2 := frozen_of_row _ _ 2 _ 27 hR
      have f3 := frozen_of_row _ _ 3 _ 27 hR
      have f4 := frozen_of_row _ _ 4 _ 27 hR
      have f5 := frozen_of_row _ _ 5 _ 27 hR
      go_simp
      refine hK.out _ _ ?_
      clear hK K
      try simp only [Act.put, List.setIfInBounds_toArray, List.set_cons_zero, List.set_cons_succ]
      refine done_z (by kernel_rfl) ?_ _
      clear m0 m1 m2 m3 m4 m5 f0 f1 f2 f3 f4 f5
      go_wp2_with fail
      go_meet
      case rel => exact ⟨_, a', c', rfl, hRge, laid6 hR _ _ _ _ _ _, (ko6 _ _ _ _ _ _ _ _ _ (by omega)).trans y1_2, (ko6 _ _ _ _ _ _ _ _ _ (by omega)).trans y2_2, bel6 hbw2 (by omega) _ _ _ _ _ _⟩
    · skip
      go_simp
      have hbA : Below V0.heap.size V0 (V0.alloc (.cells #[.int .i64 0, .int .i64 0, .int .i64 0, .int .i64 0, .slice none 0 0, .slice none 0 0] 27)) := (Below.refl _ _).alloc (Nat.le_refl _) _
      have hA := heap_alloc_new V0 (.cells #[.int .i64 0, .int .i64 0, .int .i64 0, .int .i64 0, .slice none 0 0, .slice none 0 0] 27)
      have hbw1 := hbw0.trans (hbA.mono hbw0.size)
      have y1_1 := (hbA.block w.heap.size (by have := lt_of_get x1; exact this)).trans x1
      have y2_1 := (hbA.block (w.heap.size + 1) (by have := lt_of_get x2; exact this)).trans x2
      have hRge : w.heap.size + 2 ≤ V0.heap.size := (by have := lt_of_get x2; omega)
      refine hK.out _ _ ?_ (fun hHeld => ?_)
      · exact ⟨cell_of_row _ _ 0 _ _ _ y1_1, cell_of_row _ _ 1 _ _ _ y1_1, cell_of_row _ _ 2 _ _ _ y1_1, cell_of_row _ _ 3 _ _ _ y1_1, cell_of_row _ _ 4 _ _ _ y1_1⟩
      clear hK K
      try simp only [Act.put, List.setIfInBounds_toArray, List.set_cons_zero, List.set_cons_succ]
      generalize hV : V0.alloc (.cells #[.int .i64 0, .int .i64 0, .int .i64 0, .int .i64 0, .slice none 0 0, .slice none 0 0] 27) = A1 at *
      clear hV
      refine ready_z (rs := [6]) (by kernel_rfl) (by simp) ?_
      refine (AllZ.cons (o := { dst := some 12, op := Op.call { callee := Callee.value (Operand.func 14), args := #[Operand.tmp 11], argTypes := #[24] }, type := 24, pos := "steps.go:107", after := #[{ on := 5, ground := Ground.data }], guard := none }) rfl (fun K hK => ?_) AllZ.nil)
      go_simp
      (with_reducible refine (K14 _).mono ?_)
      rintro e w1 ⟨a', c', rfl, _, hb1⟩
      dsimp only
      have hbw2 := hbw1.trans (hb1.mono hbw1.size)
      have y1_2 := (hb1.block w.heap.size (by have := lt_of_get y1_1; exact this)).trans y1_1
      have y2_2 := (hb1.block (w.heap.size + 1) (by have := lt_of_get y2_1; exact this)).trans y2_1
      have hR := (hb1.block _ (lt_of_get hA)).trans hA
      refine hK.out _ _ ?_ (fun hHeld => ?_)
      · exact ⟨cell_of_row _ _ 0 _ _ _ y1_2, cell_of_row _ _ 1 _ _ _ y1_2, cell_of_row _ _ 2 _ _ _ y1_2, cell_of_row _ _ 3 _ _ _ y1_2, cell_of_row _ _ 4 _ _ _ y1_2⟩
      clear hK K
      try simp only [Act.put, List.setIfInBounds_toArray, List.set_cons_zero, List.set_cons_succ]
      refine take_z (z := 9) (i := 7) (oi := { dst := some 13, op := Op.build 27 #[(0, Operand.tmp 7), (1, Operand.tmp 9), (2, Operand.tmp 12)], type := 27, pos := "steps.go:107", after := #[{ on := 1, ground := Ground.data }, { on := 3, ground := Ground.data }, { on := 6, ground := Ground.data }], guard := none }) (v := ?_) (by kernel_rfl) (by decide) rfl (by kernel_rfl) (by kernel_rfl) (by kernel_rfl) (fun _ _ _ h => h) (Or.inl ⟨by rfl, ?_⟩) (by assumption) ?_
      case refine_2 => intro w hSw; (try dsimp only at hSw); obtain ⟨hA, hB, hC, hD, hE⟩ := hSw; go_simp; (try with_reducible rfl)
      simp only [Act.put, List.setIfInBounds_toArray, List.set_cons_zero, List.set_cons_succ]
      refine ready_z (rs := [9]) (by kernel_rfl) (by simp) ?_
      refine (AllZ.last (o := { dst := none, op := Op.store 27 (Operand.tmp 3) (Operand.tmp 13), type := 0, pos := "steps.go:107", after := #[{ on := 8, ground := Ground.data }, { on := 7, ground := Ground.data }, { on := 6, ground := Ground.chain }, { on := 0, ground := Ground.phase }, { on := 1, ground := Ground.phase }, { on := 2, ground := Ground.phase }, { on := 3, ground := Ground.phase }, { on := 4, ground := Ground.phase }, { on := 5, ground := Ground.phase }, { on := 6, ground := Ground.phase }, { on := 7, ground := Ground.phase }, { on := 8, ground := Ground.phase }], guard := none }) rfl (fun K hK => ?_) AllZ.nil)
      have m0 := cell_of_row _ _ 0 _ _ _ hR
      have m1 := cell_of_row _ _ 1 _ _ _ hR
      have m2 := cell_of_row _ _ 2 _ _ _ hR
      have m3 := cell_of_row _ _ 3 _ _ _ hR
      have m4 := cell_of_row _ _ 4 _ _ _ hR
      have m5 := cell_of_row _ _ 5 _ _ _ hR
      have f0 := frozen_of_row _ _ 0 _ 27 hR
      have f1 := frozen_of_row _ _ 1 _ 27 hR
      have f2 := frozen_of_row _ _ 2 _ 27 hR
      have f3 := frozen_of_row _ _ 3 _ 27 hR
      have f4 := frozen_of_row _ _ 4 _ 27 hR
      have f5 := frozen_of_row _ _ 5 _ 27 hR
      go_simp
      refine hK.out _ _ ?_
      clear hK K
      try simp only [Act.put, List.setIfInBounds_toArray, List.set_cons_zero, List.set_cons_succ]
      refine done_z (by kernel_rfl) ?_ _
      clear m0 m1 m2 m3 m4 m5 f0 f1 f2 f3 f4 f5
      go_wp2_with fail
      go_meet
      case rel => exact ⟨_, a', c', rfl, hRge, laid6 hR _ _ _ _ _ _, (ko6 _ _ _ _ _ _ _ _ _ (by omega)).trans y1_2, (ko6 _ _ _ _ _ _ _ _ _ (by omega)).trans y2_2, bel6 hbw2 (by omega) _ _ _ _ _ _⟩
  case rest =>
  obtain ⟨R, a', c', rfl, hRge, hR, y1, y2, hbw⟩ := hcut
  clear x1 x2 x1d x2d K14
  have m5 := cell_of_row _ _ 5 _ _ _ y1
  go_wp2
  go_loopw [5, 17] (fun _ iv wr => iv = .int .i64 0 ∧ Below wc.heap.size wc wr) (fun _ _ _ => 0)
  case atStart => exact ⟨rfl, Below.refl _ _⟩
  case round =>
    obtain ⟨rfl, hB⟩ := hrel
    have z1 := (hB.block R (lt_of_get hR)).trans hR
    have z2 := (hB.block (w.heap.size + 1) (lt_of_get y2)).trans y2
    have hbr : Below w.heap.size w wr := hbw.trans (hB.mono hbw.size)
    clear m5
    have m0 := cell_of_row _ _ 0 _ _ _ z2
    have m1 := cell_of_row _ _ 1 _ _ _ z2
    have m2 := cell_of_row _ _ 2 _ _ _ z2
    have m3 := cell_of_row _ _ 3 _ _ _ z2
    have m4 := cell_of_row _ _ 4 _ _ _ z2
    have m5 := cell_of_row _ _ 5 _ _ _ z2
    have f0 := frozen_of_row _ _ 0 _ 27 z2
    have f1 := frozen_of_row _ _ 1 _ 27 z2
    have f2 := frozen_of_row _ _ 2 _ 27 z2
    have f3 := frozen_of_row _ _ 3 _ 27 z2
    have f4 := frozen_of_row _ _ 4 _ 27 z2
    have f5 := frozen_of_row _ _ 5 _ 27 z2
    have k0 := cell_of_row _ _ 0 _ _ _ z1
    have k1 := cell_of_row _ _ 1 _ _ _ z1
    have k2 := cell_of_row _ _ 2 _ _ _ z1
    have k3 := cell_of_row _ _ 3 _ _ _ z1
    have k4 := cell_of_row _ _ 4 _ _ _ z1
    have k5 := cell_of_row _ _ 5 _ _ _ z1
    go_wp2
    have hl := laid6 z2 (.int .i64 2) (.int .i64 3) (.int .i64 0) (.int .i64 0) (.slice a' 0 c') (.slice none 0 0)
    refine bodyPost_ret (results_row6 rfl _ _ (w.heap.size + 1) _ _ _ _ _ _ rfl hl) rfl ?_
    exact ⟨⟨_, _, rfl⟩, bel6 hbr (by omega) _ _ _ _ _ _⟩
end Go.Proofs.Ytofbnfpncekddaa.Te
