/- The pieces of a flat tree in memory; fill's three closures (52, 53, 54). Conditions: the numbers are small, the places within the table. -/
import Derived.Test.YtpolnkdbebjpnaaMe
namespace Go.Proofs.Ytpolnkdbebjpnaa.Hd
open Go.RowKit

/-- a table of 1352 numbers -/
def Pz (W : World) (p : Nat) (C : Nat → Int) : Prop := ∃ arr : Array Value, W.heap[p]? = some (.cells arr 58 (0, 0)) ∧ arr.size = 1352 ∧ ∀ i, i < 1352 → arr[i]? = some (.int .i64 (C i))
theorem Pz.lt {W : World} {p : Nat} {C : Nat → Int} (h : Pz W p C) : p < W.heap.size := by obtain ⟨arr, h1, _⟩ := h; exact lt_at h1
theorem Pz.cell {W : World} {p : Nat} {C : Nat → Int} (h : Pz W p C) {i : Nat} (hi : i < 1352) : W.cell? ⟨p, i, none⟩ = some (.int .i64 (C i)) := by
  obtain ⟨arr, h1, _, h3⟩ := h
  exact (cell_of_row _ _ i _ _ _ h1).trans (h3 i hi)
theorem Pz.froz {W : World} {p : Nat} {C : Nat → Int} (h : Pz W p C) (i : Nat) : W.frozen? ⟨p, i, none⟩ = false := by
  obtain ⟨arr, h1, _, _⟩ := h
  exact frozen_of_row _ _ i _ _ h1
def upC (C : Nat → Int) (i : Nat) (x : Int) : Nat → Int := fun j => if j = i then x else C j
theorem Pz.set {W : World} {p : Nat} {C : Nat → Int} (h : Pz W p C) (i : Nat) (x : Int) (hi : i < 1352) : Pz (W.setCell ⟨p, i, none⟩ (.int .i64 x)) p (upC C i x) := by
  obtain ⟨arr, h1, h2, h3⟩ := h
  refine ⟨_, heap_setCell_same W p i arr 58 _ h1, by simp [h2], fun j hj => ?_⟩
  unfold upC
  by_cases e : j = i
  · subst e; rw [if_pos rfl]; simp [h2, hj]
  · rw [if_neg e, ← h3 j hj]
    exact Array.getElem?_setIfInBounds_ne (fun e2 => e e2.symm)
theorem Pz.kept {W W' : World} {p : Nat} {C : Nat → Int} {X : Nat → Prop} (h : Pz W p C) (hk : Kp X W W') (hx : ¬ X p) : Pz W' p C := by
  have hl := h.lt
  obtain ⟨arr, h1, h2, h3⟩ := h
  exact ⟨arr, (hk.block p hl hx).trans h1, h2, h3⟩
theorem Pz.below {W W' : World} {p : Nat} {C : Nat → Int} (h : Pz W p C) (hb : Below W.heap.size W W') : Pz W' p C := h.kept (kp_below hb (fun _ => False)) id
/-- a place: which table, which end, from where to where -/
def ix (f e a b : Nat) : Nat := 676 * f + 338 * e + a * 26 + b * 2
theorem ix_lt {f e a b : Nat} (hf : f < 2) (he : e < 2) (ha : a < 13) (hb : b < 13) : ix f e a b + 1 < 1352 := by unfold ix; omega
/-- what the closures see -/
structure Fv (W : World) (q1 q2 q3 p a b : Nat) (C : Nat → Int) : Prop where
  c1 : W.cell? ⟨q1, 0, none⟩ = some (.pointer (some ⟨p, 0, none⟩))
  c2 : W.cell? ⟨q2, 0, none⟩ = some (.int .i64 (a : Int))
  c3 : W.cell? ⟨q3, 0, none⟩ = some (.int .i64 (b : Int))
  pz : Pz W p C
theorem Fv.below {W W' : World} {q1 q2 q3 p a b : Nat} {C : Nat → Int} (h : Fv W q1 q2 q3 p a b C) (hb : Below W.heap.size W W') : Fv W' q1 q2 q3 p a b C :=
  ⟨(hb.cell (World.block_lt_of_cell? _ _ h.c1)).trans h.c1, (hb.cell (World.block_lt_of_cell? _ _ h.c2)).trans h.c2, (hb.cell (World.block_lt_of_cell? _ _ h.c3)).trans h.c3, h.pz.below hb⟩
theorem Fv.drewN {W : World} {q1 q2 q3 p a b : Nat} {C : Nat → Int} (h : Fv W q1 q2 q3 p a b C) (d : Nat) : Fv (W.drewN d) q1 q2 q3 p a b C := ⟨h.c1, h.c2, h.c3, h.pz⟩
def Cs (C : Nat → Int) : Prop := ∀ i, i < 1352 → -1000000000 ≤ C i ∧ C i ≤ 1000000000
section
variable {q1 q2 q3 p a b : Nat} {C : Nat → Int}
set_option maxHeartbeats 4000000 in
set_option maxRecDepth 100000 in
theorem fill1_any (x : Nat) (w : World) (hV : Fv w q1 q2 q3 p a b C) (hC : Cs C) (ha : a < 13) (hb : b < 13) (hx : a ≤ x) (hx2 : x < b) :
    Calls Try.prog 52 #[.int .i64 (x : Int), .pointer (some ⟨q1, 0, none⟩), .pointer (some ⟨q2, 0, none⟩), .pointer (some ⟨q3, 0, none⟩)] w fun e w' => e = .returned (.int .i64 (C (ix 1 0 a x) + C (ix 1 1 (x + 1) b))) ∧ Below w.heap.size w w' := by
  have HV : Hid (Fv w q1 q2 q3 p a b C) := hV
  have HI1 : Hid (ix 1 0 a x < 1352) := by have h := @ix_lt; show _ < _; unfold ix; omega
  have HI2 : Hid (ix 1 1 (x + 1) b < 1352) := by show _ < _; unfold ix; omega
  have hai : (a : Int) < 13 := by omega
  have hbi : (b : Int) < 13 := by omega
  have hxi : (x : Int) < 13 := by omega
  have hxi1 : (0 : Int) ≤ (x : Int) + 1 ∧ (x : Int) + 1 < 13 := by omega
  have wx1 : IntKind.i64.wrap ((x : Int) + 1) = ((x + 1 : Nat) : Int) := by rw [IntKind.wrap_i64]; omega
  obtain ⟨y1, hy1⟩ : ∃ y, C (ix 1 0 a x) = y := ⟨_, rfl⟩
  obtain ⟨y2, hy2⟩ : ∃ y, C (ix 1 1 (x + 1) b) = y := ⟨_, rfl⟩
  have HY : Hid (C (ix 1 0 a x) = y1 ∧ C (ix 1 1 (x + 1) b) = y2) := ⟨hy1, hy2⟩
  have wy : IntKind.i64.wrap (y1 + y2) = y1 + y2 := by have h1 := hC _ HI1.out; have h2 := hC _ HI2.out; rw [hy1] at h1; rw [hy2] at h2; rw [IntKind.wrap_i64]; omega
  have HZ1 : Hid (∀ W, Fv W q1 q2 q3 p a b C → W.cell? ⟨p, 676 + a * 26 + x * 2, none⟩ = some (.int .i64 y1)) := fun W hW => by
    have h := hW.pz.cell HI1.out
    rw [hy1, show ix 1 0 a x = 676 + a * 26 + x * 2 by unfold ix; omega] at h
    exact h
  have HZ2 : Hid (∀ W, Fv W q1 q2 q3 p a b C → W.cell? ⟨p, 1014 + (x + 1) * 26 + b * 2, none⟩ = some (.int .i64 y2)) := fun W hW => by
    have h := hW.pz.cell HI2.out
    rw [hy2, show ix 1 1 (x + 1) b = 1014 + (x + 1) * 26 + b * 2 by unfold ix; omega] at h
    exact h
  rw [hy1, hy2]
  clear hV hC ha hb hx hx2 hy1 hy2
  go_enter Try.func52, Try.ntmps52
  go_upto_region 1 with fail
  have HCE : Hid _ := fun (W : World) (hSw : Fv W q1 q2 q3 p a b C) => (And.intro (hSw.c1) (And.intro (hSw.c2) (And.intro (hSw.c3) (And.intro (HZ1.out _ hSw) (HZ2.out _ hSw)))))
  refine wp_region_held_drew (S := fun W => Fv W q1 q2 q3 p a b C) (by kernel_rfl) (by exact HV.out.drewN 1) (fun hHeld => ?_)
  refine wpAnyH_take (i := 0) (oi := { dst := some 6, op := Op.load 71 (Operand.tmp 1), type := 71, pos := "flat.go:39", after := #[], guard := none }) (v := ?_) rfl (by kernel_rfl) (by kernel_rfl) (by kernel_rfl) (fun _ _ _ h => h) (Or.inl ⟨by rfl, ?_⟩) (by assumption) ?_
  case refine_2 => intro w hSw; (try dsimp only at hSw); obtain ⟨z0, z1, z2, z3, z4⟩ := HCE.out _ hSw; go_simp; (try with_reducible rfl)
  simp only [Act.put, List.setIfInBounds_toArray, List.set_cons_zero, List.set_cons_succ]
  refine wpAnyH_take (i := 1) (oi := { dst := some 7, op := Op.load 3 (Operand.tmp 2), type := 3, pos := "flat.go:39", after := #[], guard := none }) (v := ?_) rfl (by kernel_rfl) (by kernel_rfl) (by kernel_rfl) (fun _ _ _ h => h) (Or.inl ⟨by rfl, ?_⟩) (by assumption) ?_
  case refine_2 => intro w hSw; (try dsimp only at hSw); obtain ⟨z0, z1, z2, z3, z4⟩ := HCE.out _ hSw; go_simp; (try with_reducible rfl)
  simp only [Act.put, List.setIfInBounds_toArray, List.set_cons_zero, List.set_cons_succ]
  refine wpAnyH_take (i := 2) (oi := { dst := some 8, op := Op.move (Operand.tmp 0), type := 3, pos := "flat.go:39", after := #[], guard := none }) (v := ?_) rfl (by kernel_rfl) (by kernel_rfl) (by kernel_rfl) (fun _ _ _ h => h) (Or.inl ⟨by rfl, ?_⟩) (by assumption) ?_
  case refine_2 => intro w hSw; (try dsimp only at hSw); obtain ⟨z0, z1, z2, z3, z4⟩ := HCE.out _ hSw; go_simp; (try with_reducible rfl)
  simp only [Act.put, List.setIfInBounds_toArray, List.set_cons_zero, List.set_cons_succ]
  refine wpAnyH_take (i := 3) (oi := { dst := some 9, op := Op.nilCheck (Operand.tmp 6), type := 0, pos := "flat.go:39", after := #[{ on := 0, ground := Ground.data }], guard := none }) (v := ?_) rfl (by kernel_rfl) (by kernel_rfl) (by kernel_rfl) (fun _ _ _ h => h) (Or.inl ⟨by rfl, ?_⟩) (by assumption) ?_
  case refine_2 => intro w hSw; (try dsimp only at hSw); obtain ⟨z0, z1, z2, z3, z4⟩ := HCE.out _ hSw; go_simp; (try with_reducible rfl)
  simp only [Act.put, List.setIfInBounds_toArray, List.set_cons_zero, List.set_cons_succ]
  refine wpAnyH_take (i := 4) (oi := { dst := some 10, op := Op.fieldAddr 58 (Operand.tmp 9) 1, type := 0, pos := "flat.go:39", after := #[{ on := 3, ground := Ground.data }], guard := none }) (v := ?_) rfl (by kernel_rfl) (by kernel_rfl) (by kernel_rfl) (fun _ _ _ h => h) (Or.inl ⟨by rfl, ?_⟩) (by assumption) ?_
  case refine_2 => intro w hSw; (try dsimp only at hSw); obtain ⟨z0, z1, z2, z3, z4⟩ := HCE.out _ hSw; go_simp; (try with_reducible rfl)
  simp only [Act.put, List.setIfInBounds_toArray, List.set_cons_zero, List.set_cons_succ]
  refine wpAnyH_take (i := 5) (oi := { dst := some 11, op := Op.indexAddr 56 (Operand.tmp 10) (Operand.const (Value.int IntKind.i64 0)), type := 0, pos := "flat.go:39", after := #[{ on := 4, ground := Ground.data }], guard := none }) (v := ?_) rfl (by kernel_rfl) (by kernel_rfl) (by kernel_rfl) (fun _ _ _ h => h) (Or.inl ⟨by rfl, ?_⟩) (by assumption) ?_
  case refine_2 => intro w hSw; (try dsimp only at hSw); obtain ⟨z0, z1, z2, z3, z4⟩ := HCE.out _ hSw; go_simp; (try with_reducible rfl)
  simp only [Act.put, List.setIfInBounds_toArray, List.set_cons_zero, List.set_cons_succ]
  refine wpAnyH_take (i := 6) (oi := { dst := some 12, op := Op.indexAddr 55 (Operand.tmp 11) (Operand.tmp 7), type := 0, pos := "flat.go:39", after := #[{ on := 5, ground := Ground.data }, { on := 1, ground := Ground.data }], guard := none }) (v := ?_) rfl (by kernel_rfl) (by kernel_rfl) (by kernel_rfl) (fun _ _ _ h => h) (Or.inl ⟨by rfl, ?_⟩) (by assumption) ?_
  case refine_2 => intro w hSw; (try dsimp only at hSw); obtain ⟨z0, z1, z2, z3, z4⟩ := HCE.out _ hSw; go_simp; (try with_reducible rfl)
  simp only [Act.put, List.setIfInBounds_toArray, List.set_cons_zero, List.set_cons_succ]
  refine wpAnyH_take (i := 7) (oi := { dst := some 13, op := Op.indexAddr 53 (Operand.tmp 12) (Operand.tmp 8), type := 0, pos := "flat.go:39", after := #[{ on := 6, ground := Ground.data }, { on := 2, ground := Ground.data }], guard := none }) (v := ?_) rfl (by kernel_rfl) (by kernel_rfl) (by kernel_rfl) (fun _ _ _ h => h) (Or.inl ⟨by rfl, ?_⟩) (by assumption) ?_
  case refine_2 => intro w hSw; (try dsimp only at hSw); obtain ⟨z0, z1, z2, z3, z4⟩ := HCE.out _ hSw; go_simp; (try with_reducible rfl)
  simp only [Act.put, List.setIfInBounds_toArray, List.set_cons_zero, List.set_cons_succ]
  refine wpAnyH_take (i := 8) (oi := { dst := some 14, op := Op.fieldAddr 52 (Operand.tmp 13) 0, type := 0, pos := "flat.go:39", after := #[{ on := 7, ground := Ground.data }], guard := none }) (v := ?_) rfl (by kernel_rfl) (by kernel_rfl) (by kernel_rfl) (fun _ _ _ h => h) (Or.inl ⟨by rfl, ?_⟩) (by assumption) ?_
  case refine_2 => intro w hSw; (try dsimp only at hSw); obtain ⟨z0, z1, z2, z3, z4⟩ := HCE.out _ hSw; go_simp; (try with_reducible rfl)
  simp only [Act.put, List.setIfInBounds_toArray, List.set_cons_zero, List.set_cons_succ]
  refine wpAnyH_take (i := 9) (oi := { dst := some 15, op := Op.load 3 (Operand.tmp 14), type := 3, pos := "flat.go:39", after := #[{ on := 8, ground := Ground.data }], guard := none }) (v := ?_) rfl (by kernel_rfl) (by kernel_rfl) (by kernel_rfl) (fun _ _ _ h => h) (Or.inl ⟨by rfl, ?_⟩) (by assumption) ?_
  case refine_2 => intro w hSw; (try dsimp only at hSw); obtain ⟨z0, z1, z2, z3, z4⟩ := HCE.out _ hSw; go_simp; (try with_reducible rfl)
  simp only [Act.put, List.setIfInBounds_toArray, List.set_cons_zero, List.set_cons_succ]
  refine wpAnyH_take (i := 10) (oi := { dst := some 16, op := Op.load 71 (Operand.tmp 1), type := 71, pos := "flat.go:39", after := #[], guard := none }) (v := ?_) rfl (by kernel_rfl) (by kernel_rfl) (by kernel_rfl) (fun _ _ _ h => h) (Or.inl ⟨by rfl, ?_⟩) (by assumption) ?_
  case refine_2 => intro w hSw; (try dsimp only at hSw); obtain ⟨z0, z1, z2, z3, z4⟩ := HCE.out _ hSw; go_simp; (try with_reducible rfl)
  simp only [Act.put, List.setIfInBounds_toArray, List.set_cons_zero, List.set_cons_succ]
  refine wpAnyH_take (i := 11) (oi := { dst := some 17, op := Op.move (Operand.tmp 0), type := 3, pos := "flat.go:39", after := #[], guard := none }) (v := ?_) rfl (by kernel_rfl) (by kernel_rfl) (by kernel_rfl) (fun _ _ _ h => h) (Or.inl ⟨by rfl, ?_⟩) (by assumption) ?_
  case refine_2 => intro w hSw; (try dsimp only at hSw); obtain ⟨z0, z1, z2, z3, z4⟩ := HCE.out _ hSw; go_simp; (try with_reducible rfl)
  simp only [Act.put, List.setIfInBounds_toArray, List.set_cons_zero, List.set_cons_succ]
  refine wpAnyH_take (i := 12) (oi := { dst := some 18, op := Op.binOp BinOp.add 3 (Operand.tmp 17) (Operand.const (Value.int IntKind.i64 1)) 3, type := 3, pos := "flat.go:39", after := #[{ on := 11, ground := Ground.data }], guard := none }) (v := ?_) rfl (by kernel_rfl) (by kernel_rfl) (by kernel_rfl) (fun _ _ _ h => h) (Or.inl ⟨by rfl, ?_⟩) (by assumption) ?_
  case refine_2 => intro w hSw; (try dsimp only at hSw); obtain ⟨z0, z1, z2, z3, z4⟩ := HCE.out _ hSw; go_simp; (try with_reducible rfl)
  simp only [Act.put, List.setIfInBounds_toArray, List.set_cons_zero, List.set_cons_succ]
  refine wpAnyH_take (i := 13) (oi := { dst := some 19, op := Op.load 3 (Operand.tmp 3), type := 3, pos := "flat.go:39", after := #[], guard := none }) (v := ?_) rfl (by kernel_rfl) (by kernel_rfl) (by kernel_rfl) (fun _ _ _ h => h) (Or.inl ⟨by rfl, ?_⟩) (by assumption) ?_
  case refine_2 => intro w hSw; (try dsimp only at hSw); obtain ⟨z0, z1, z2, z3, z4⟩ := HCE.out _ hSw; go_simp; (try with_reducible rfl)
  simp only [Act.put, List.setIfInBounds_toArray, List.set_cons_zero, List.set_cons_succ]
  refine wpAnyH_take (i := 14) (oi := { dst := some 20, op := Op.nilCheck (Operand.tmp 16), type := 0, pos := "flat.go:39", after := #[{ on := 10, ground := Ground.data }], guard := none }) (v := ?_) rfl (by kernel_rfl) (by kernel_rfl) (by kernel_rfl) (fun _ _ _ h => h) (Or.inl ⟨by rfl, ?_⟩) (by assumption) ?_
  case refine_2 => intro w hSw; (try dsimp only at hSw); obtain ⟨z0, z1, z2, z3, z4⟩ := HCE.out _ hSw; go_simp; (try with_reducible rfl)
  simp only [Act.put, List.setIfInBounds_toArray, List.set_cons_zero, List.set_cons_succ]
  refine wpAnyH_take (i := 15) (oi := { dst := some 21, op := Op.fieldAddr 58 (Operand.tmp 20) 1, type := 0, pos := "flat.go:39", after := #[{ on := 14, ground := Ground.data }], guard := none }) (v := ?_) rfl (by kernel_rfl) (by kernel_rfl) (by kernel_rfl) (fun _ _ _ h => h) (Or.inl ⟨by rfl, ?_⟩) (by assumption) ?_
  case refine_2 => intro w hSw; (try dsimp only at hSw); obtain ⟨z0, z1, z2, z3, z4⟩ := HCE.out _ hSw; go_simp; (try with_reducible rfl)
  simp only [Act.put, List.setIfInBounds_toArray, List.set_cons_zero, List.set_cons_succ]
  refine wpAnyH_take (i := 16) (oi := { dst := some 22, op := Op.indexAddr 56 (Operand.tmp 21) (Operand.const (Value.int IntKind.i64 1)), type := 0, pos := "flat.go:39", after := #[{ on := 15, ground := Ground.data }], guard := none }) (v := ?_) rfl (by kernel_rfl) (by kernel_rfl) (by kernel_rfl) (fun _ _ _ h => h) (Or.inl ⟨by rfl, ?_⟩) (by assumption) ?_
  case refine_2 => intro w hSw; (try dsimp only at hSw); obtain ⟨z0, z1, z2, z3, z4⟩ := HCE.out _ hSw; go_simp; (try with_reducible rfl)
  simp only [Act.put, List.setIfInBounds_toArray, List.set_cons_zero, List.set_cons_succ]
  refine wpAnyH_take (i := 17) (oi := { dst := some 23, op := Op.indexAddr 55 (Operand.tmp 22) (Operand.tmp 18), type := 0, pos := "flat.go:39", after := #[{ on := 16, ground := Ground.data }, { on := 12, ground := Ground.data }], guard := none }) (v := ?_) rfl (by kernel_rfl) (by kernel_rfl) (by kernel_rfl) (fun _ _ _ h => h) (Or.inl ⟨by rfl, ?_⟩) (by assumption) ?_
  case refine_2 => intro w hSw; (try dsimp only at hSw); obtain ⟨z0, z1, z2, z3, z4⟩ := HCE.out _ hSw; go_simp; (try with_reducible rfl)
  simp only [Act.put, List.setIfInBounds_toArray, List.set_cons_zero, List.set_cons_succ]
  refine wpAnyH_take (i := 18) (oi := { dst := some 24, op := Op.indexAddr 53 (Operand.tmp 23) (Operand.tmp 19), type := 0, pos := "flat.go:39", after := #[{ on := 17, ground := Ground.data }, { on := 13, ground := Ground.data }], guard := none }) (v := ?_) rfl (by kernel_rfl) (by kernel_rfl) (by kernel_rfl) (fun _ _ _ h => h) (Or.inl ⟨by rfl, ?_⟩) (by assumption) ?_
  case refine_2 => intro w hSw; (try dsimp only at hSw); obtain ⟨z0, z1, z2, z3, z4⟩ := HCE.out _ hSw; go_simp; (try with_reducible rfl)
  simp only [Act.put, List.setIfInBounds_toArray, List.set_cons_zero, List.set_cons_succ]
  refine wpAnyH_take (i := 19) (oi := { dst := some 25, op := Op.fieldAddr 52 (Operand.tmp 24) 0, type := 0, pos := "flat.go:39", after := #[{ on := 18, ground := Ground.data }], guard := none }) (v := ?_) rfl (by kernel_rfl) (by kernel_rfl) (by kernel_rfl) (fun _ _ _ h => h) (Or.inl ⟨by rfl, ?_⟩) (by assumption) ?_
  case refine_2 => intro w hSw; (try dsimp only at hSw); obtain ⟨z0, z1, z2, z3, z4⟩ := HCE.out _ hSw; go_simp; (try with_reducible rfl)
  simp only [Act.put, List.setIfInBounds_toArray, List.set_cons_zero, List.set_cons_succ]
  refine wpAnyH_take (i := 20) (oi := { dst := some 26, op := Op.load 3 (Operand.tmp 25), type := 3, pos := "flat.go:39", after := #[{ on := 19, ground := Ground.data }], guard := none }) (v := ?_) rfl (by kernel_rfl) (by kernel_rfl) (by kernel_rfl) (fun _ _ _ h => h) (Or.inl ⟨by rfl, ?_⟩) (by assumption) ?_
  case refine_2 => intro w hSw; (try dsimp only at hSw); obtain ⟨z0, z1, z2, z3, z4⟩ := HCE.out _ hSw; go_simp; (try with_reducible rfl)
  simp only [Act.put, List.setIfInBounds_toArray, List.set_cons_zero, List.set_cons_succ]
  refine wpAnyH_take (i := 21) (oi := { dst := some 27, op := Op.binOp BinOp.add 3 (Operand.tmp 15) (Operand.tmp 26) 3, type := 3, pos := "flat.go:39", after := #[{ on := 9, ground := Ground.data }, { on := 20, ground := Ground.data }], guard := none }) (v := ?_) rfl (by kernel_rfl) (by kernel_rfl) (by kernel_rfl) (fun _ _ _ h => h) (Or.inl ⟨by rfl, ?_⟩) (by assumption) ?_
  case refine_2 => intro w hSw; (try dsimp only at hSw); obtain ⟨z0, z1, z2, z3, z4⟩ := HCE.out _ hSw; go_simp; (try with_reducible rfl)
  simp only [Act.put, List.setIfInBounds_toArray, List.set_cons_zero, List.set_cons_succ]
  refine wpAnyH_take (i := 22) (oi := { dst := some 5, op := Op.assign (Operand.tmp 27), type := 3, pos := "flat.go:39", after := #[{ on := 21, ground := Ground.data }, { on := 0, ground := Ground.phase }, { on := 1, ground := Ground.phase }, { on := 2, ground := Ground.phase }, { on := 3, ground := Ground.phase }, { on := 4, ground := Ground.phase }, { on := 5, ground := Ground.phase }, { on := 6, ground := Ground.phase }, { on := 7, ground := Ground.phase }, { on := 8, ground := Ground.phase }, { on := 9, ground := Ground.phase }, { on := 10, ground := Ground.phase }, { on := 11, ground := Ground.phase }, { on := 12, ground := Ground.phase }, { on := 13, ground := Ground.phase }, { on := 14, ground := Ground.phase }, { on := 15, ground := Ground.phase }, { on := 16, ground := Ground.phase }, { on := 17, ground := Ground.phase }, { on := 18, ground := Ground.phase }, { on := 19, ground := Ground.phase }, { on := 20, ground := Ground.phase }, { on := 21, ground := Ground.phase }], guard := none }) (v := ?_) rfl (by kernel_rfl) (by kernel_rfl) (by kernel_rfl) (fun _ _ _ h => h) (Or.inl ⟨by rfl, ?_⟩) (by assumption) ?_
  case refine_2 => intro w hSw; (try dsimp only at hSw); obtain ⟨z0, z1, z2, z3, z4⟩ := HCE.out _ hSw; go_simp; (try with_reducible rfl)
  simp only [Act.put, List.setIfInBounds_toArray, List.set_cons_zero, List.set_cons_succ]
  refine wpAnyH_done (by kernel_rfl) ?_ _
  go_wp2
  go_ret
  exact ⟨rfl, by first | exact Below.refl _ _ | exact below_drewN (Below.refl _ _) 1⟩
set_option maxHeartbeats 4000000 in
set_option maxRecDepth 100000 in
theorem fill2_any (x : Nat) (w : World) (hV : Fv w q1 q2 q3 p a b C) (hC : Cs C) (ha : a < 13) (hb : b < 13) (hx : a < x) (hx2 : x ≤ b) :
    Calls Try.prog 53 #[.int .i64 (x : Int), .pointer (some ⟨q1, 0, none⟩), .pointer (some ⟨q2, 0, none⟩), .pointer (some ⟨q3, 0, none⟩)] w fun e w' => e = .returned (.int .i64 (C (ix 0 0 a x) + C (ix 1 0 x b))) ∧ Below w.heap.size w w' := by
  have HV : Hid (Fv w q1 q2 q3 p a b C) := hV
  have HI1 : Hid (ix 0 0 a x < 1352) := by have h := @ix_lt; show _ < _; unfold ix; omega
  have HI2 : Hid (ix 1 0 x b < 1352) := by show _ < _; unfold ix; omega
  have hai : (a : Int) < 13 := by omega
  have hbi : (b : Int) < 13 := by omega
  have hxi : (x : Int) < 13 := by omega
  obtain ⟨y1, hy1⟩ : ∃ y, C (ix 0 0 a x) = y := ⟨_, rfl⟩
  obtain ⟨y2, hy2⟩ : ∃ y, C (ix 1 0 x b) = y := ⟨_, rfl⟩
  have HY : Hid (C (ix 0 0 a x) = y1 ∧ C (ix 1 0 x b) = y2) := ⟨hy1, hy2⟩
  have wy : IntKind.i64.wrap (y1 + y2) = y1 + y2 := by have h1 := hC _ HI1.out; have h2 := hC _ HI2.out; rw [hy1] at h1; rw [hy2] at h2; rw [IntKind.wrap_i64]; omega
  have HZ1 : Hid (∀ W, Fv W q1 q2 q3 p a b C → W.cell? ⟨p, a * 26 + x * 2, none⟩ = some (.int .i64 y1)) := fun W hW => by
    have h := hW.pz.cell HI1.out
    rw [hy1, show ix 0 0 a x = a * 26 + x * 2 by unfold ix; omega] at h
    exact h
  have HZ2 : Hid (∀ W, Fv W q1 q2 q3 p a b C → W.cell? ⟨p, 676 + x * 26 + b * 2, none⟩ = some (.int .i64 y2)) := fun W hW => by
    have h := hW.pz.cell HI2.out
    rw [hy2, show ix 1 0 x b = 676 + x * 26 + b * 2 by unfold ix; omega] at h
    exact h
  rw [hy1, hy2]
  clear hV hC ha hb hx hx2 hy1 hy2
  go_enter Try.func53, Try.ntmps53
  go_upto_region 1 with fail
  have HCE : Hid _ := fun (W : World) (hSw : Fv W q1 q2 q3 p a b C) => (And.intro (hSw.c1) (And.intro (hSw.c2) (And.intro (hSw.c3) (And.intro (HZ1.out _ hSw) (HZ2.out _ hSw)))))
  refine wp_region_held_drew (S := fun W => Fv W q1 q2 q3 p a b C) (by kernel_rfl) (by exact HV.out.drewN 1) (fun hHeld => ?_)
  refine wpAnyH_take (i := 0) (oi := { dst := some 6, op := Op.load 71 (Operand.tmp 1), type := 71, pos := "flat.go:43", after := #[], guard := none }) (v := ?_) rfl (by kernel_rfl) (by kernel_rfl) (by kernel_rfl) (fun _ _ _ h => h) (Or.inl ⟨by rfl, ?_⟩) (by assumption) ?_
  case refine_2 => intro w hSw; (try dsimp only at hSw); obtain ⟨z0, z1, z2, z3, z4⟩ := HCE.out _ hSw; go_simp; (try with_reducible rfl)
  simp only [Act.put, List.setIfInBounds_toArray, List.set_cons_zero, List.set_cons_succ]
  refine wpAnyH_take (i := 1) (oi := { dst := some 7, op := Op.load 3 (Operand.tmp 2), type := 3, pos := "flat.go:43", after := #[], guard := none }) (v := ?_) rfl (by kernel_rfl) (by kernel_rfl) (by kernel_rfl) (fun _ _ _ h => h) (Or.inl ⟨by rfl, ?_⟩) (by assumption) ?_
  case refine_2 => intro w hSw; (try dsimp only at hSw); obtain ⟨z0, z1, z2, z3, z4⟩ := HCE.out _ hSw; go_simp; (try with_reducible rfl)
  simp only [Act.put, List.setIfInBounds_toArray, List.set_cons_zero, List.set_cons_succ]
  refine wpAnyH_take (i := 2) (oi := { dst := some 8, op := Op.move (Operand.tmp 0), type := 3, pos := "flat.go:43", after := #[], guard := none }) (v := ?_) rfl (by kernel_rfl) (by kernel_rfl) (by kernel_rfl) (fun _ _ _ h => h) (Or.inl ⟨by rfl, ?_⟩) (by assumption) ?_
  case refine_2 => intro w hSw; (try dsimp only at hSw); obtain ⟨z0, z1, z2, z3, z4⟩ := HCE.out _ hSw; go_simp; (try with_reducible rfl)
  simp only [Act.put, List.setIfInBounds_toArray, List.set_cons_zero, List.set_cons_succ]
  refine wpAnyH_take (i := 3) (oi := { dst := some 9, op := Op.nilCheck (Operand.tmp 6), type := 0, pos := "flat.go:43", after := #[{ on := 0, ground := Ground.data }], guard := none }) (v := ?_) rfl (by kernel_rfl) (by kernel_rfl) (by kernel_rfl) (fun _ _ _ h => h) (Or.inl ⟨by rfl, ?_⟩) (by assumption) ?_
  case refine_2 => intro w hSw; (try dsimp only at hSw); obtain ⟨z0, z1, z2, z3, z4⟩ := HCE.out _ hSw; go_simp; (try with_reducible rfl)
  simp only [Act.put, List.setIfInBounds_toArray, List.set_cons_zero, List.set_cons_succ]
  refine wpAnyH_take (i := 4) (oi := { dst := some 10, op := Op.fieldAddr 58 (Operand.tmp 9) 0, type := 0, pos := "flat.go:43", after := #[{ on := 3, ground := Ground.data }], guard := none }) (v := ?_) rfl (by kernel_rfl) (by kernel_rfl) (by kernel_rfl) (fun _ _ _ h => h) (Or.inl ⟨by rfl, ?_⟩) (by assumption) ?_
  case refine_2 => intro w hSw; (try dsimp only at hSw); obtain ⟨z0, z1, z2, z3, z4⟩ := HCE.out _ hSw; go_simp; (try with_reducible rfl)
  simp only [Act.put, List.setIfInBounds_toArray, List.set_cons_zero, List.set_cons_succ]
  refine wpAnyH_take (i := 5) (oi := { dst := some 11, op := Op.indexAddr 56 (Operand.tmp 10) (Operand.const (Value.int IntKind.i64 0)), type := 0, pos := "flat.go:43", after := #[{ on := 4, ground := Ground.data }], guard := none }) (v := ?_) rfl (by kernel_rfl) (by kernel_rfl) (by kernel_rfl) (fun _ _ _ h => h) (Or.inl ⟨by rfl, ?_⟩) (by assumption) ?_
  case refine_2 => intro w hSw; (try dsimp only at hSw); obtain ⟨z0, z1, z2, z3, z4⟩ := HCE.out _ hSw; go_simp; (try with_reducible rfl)
  simp only [Act.put, List.setIfInBounds_toArray, List.set_cons_zero, List.set_cons_succ]
  refine wpAnyH_take (i := 6) (oi := { dst := some 12, op := Op.indexAddr 55 (Operand.tmp 11) (Operand.tmp 7), type := 0, pos := "flat.go:43", after := #[{ on := 5, ground := Ground.data }, { on := 1, ground := Ground.data }], guard := none }) (v := ?_) rfl (by kernel_rfl) (by kernel_rfl) (by kernel_rfl) (fun _ _ _ h => h) (Or.inl ⟨by rfl, ?_⟩) (by assumption) ?_
  case refine_2 => intro w hSw; (try dsimp only at hSw); obtain ⟨z0, z1, z2, z3, z4⟩ := HCE.out _ hSw; go_simp; (try with_reducible rfl)
  simp only [Act.put, List.setIfInBounds_toArray, List.set_cons_zero, List.set_cons_succ]
  refine wpAnyH_take (i := 7) (oi := { dst := some 13, op := Op.indexAddr 53 (Operand.tmp 12) (Operand.tmp 8), type := 0, pos := "flat.go:43", after := #[{ on := 6, ground := Ground.data }, { on := 2, ground := Ground.data }], guard := none }) (v := ?_) rfl (by kernel_rfl) (by kernel_rfl) (by kernel_rfl) (fun _ _ _ h => h) (Or.inl ⟨by rfl, ?_⟩) (by assumption) ?_
  case refine_2 => intro w hSw; (try dsimp only at hSw); obtain ⟨z0, z1, z2, z3, z4⟩ := HCE.out _ hSw; go_simp; (try with_reducible rfl)
  simp only [Act.put, List.setIfInBounds_toArray, List.set_cons_zero, List.set_cons_succ]
  refine wpAnyH_take (i := 8) (oi := { dst := some 14, op := Op.fieldAddr 52 (Operand.tmp 13) 0, type := 0, pos := "flat.go:43", after := #[{ on := 7, ground := Ground.data }], guard := none }) (v := ?_) rfl (by kernel_rfl) (by kernel_rfl) (by kernel_rfl) (fun _ _ _ h => h) (Or.inl ⟨by rfl, ?_⟩) (by assumption) ?_
  case refine_2 => intro w hSw; (try dsimp only at hSw); obtain ⟨z0, z1, z2, z3, z4⟩ := HCE.out _ hSw; go_simp; (try with_reducible rfl)
  simp only [Act.put, List.setIfInBounds_toArray, List.set_cons_zero, List.set_cons_succ]
  refine wpAnyH_take (i := 9) (oi := { dst := some 15, op := Op.load 3 (Operand.tmp 14), type := 3, pos := "flat.go:43", after := #[{ on := 8, ground := Ground.data }], guard := none }) (v := ?_) rfl (by kernel_rfl) (by kernel_rfl) (by kernel_rfl) (fun _ _ _ h => h) (Or.inl ⟨by rfl, ?_⟩) (by assumption) ?_
  case refine_2 => intro w hSw; (try dsimp only at hSw); obtain ⟨z0, z1, z2, z3, z4⟩ := HCE.out _ hSw; go_simp; (try with_reducible rfl)
  simp only [Act.put, List.setIfInBounds_toArray, List.set_cons_zero, List.set_cons_succ]
  refine wpAnyH_take (i := 10) (oi := { dst := some 16, op := Op.load 71 (Operand.tmp 1), type := 71, pos := "flat.go:43", after := #[], guard := none }) (v := ?_) rfl (by kernel_rfl) (by kernel_rfl) (by kernel_rfl) (fun _ _ _ h => h) (Or.inl ⟨by rfl, ?_⟩) (by assumption) ?_
  case refine_2 => intro w hSw; (try dsimp only at hSw); obtain ⟨z0, z1, z2, z3, z4⟩ := HCE.out _ hSw; go_simp; (try with_reducible rfl)
  simp only [Act.put, List.setIfInBounds_toArray, List.set_cons_zero, List.set_cons_succ]
  refine wpAnyH_take (i := 11) (oi := { dst := some 17, op := Op.move (Operand.tmp 0), type := 3, pos := "flat.go:43", after := #[], guard := none }) (v := ?_) rfl (by kernel_rfl) (by kernel_rfl) (by kernel_rfl) (fun _ _ _ h => h) (Or.inl ⟨by rfl, ?_⟩) (by assumption) ?_
  case refine_2 => intro w hSw; (try dsimp only at hSw); obtain ⟨z0, z1, z2, z3, z4⟩ := HCE.out _ hSw; go_simp; (try with_reducible rfl)
  simp only [Act.put, List.setIfInBounds_toArray, List.set_cons_zero, List.set_cons_succ]
  refine wpAnyH_take (i := 12) (oi := { dst := some 18, op := Op.load 3 (Operand.tmp 3), type := 3, pos := "flat.go:43", after := #[], guard := none }) (v := ?_) rfl (by kernel_rfl) (by kernel_rfl) (by kernel_rfl) (fun _ _ _ h => h) (Or.inl ⟨by rfl, ?_⟩) (by assumption) ?_
  case refine_2 => intro w hSw; (try dsimp only at hSw); obtain ⟨z0, z1, z2, z3, z4⟩ := HCE.out _ hSw; go_simp; (try with_reducible rfl)
  simp only [Act.put, List.setIfInBounds_toArray, List.set_cons_zero, List.set_cons_succ]
  refine wpAnyH_take (i := 13) (oi := { dst := some 19, op := Op.nilCheck (Operand.tmp 16), type := 0, pos := "flat.go:43", after := #[{ on := 10, ground := Ground.data }], guard := none }) (v := ?_) rfl (by kernel_rfl) (by kernel_rfl) (by kernel_rfl) (fun _ _ _ h => h) (Or.inl ⟨by rfl, ?_⟩) (by assumption) ?_
  case refine_2 => intro w hSw; (try dsimp only at hSw); obtain ⟨z0, z1, z2, z3, z4⟩ := HCE.out _ hSw; go_simp; (try with_reducible rfl)
  simp only [Act.put, List.setIfInBounds_toArray, List.set_cons_zero, List.set_cons_succ]
  refine wpAnyH_take (i := 14) (oi := { dst := some 20, op := Op.fieldAddr 58 (Operand.tmp 19) 1, type := 0, pos := "flat.go:43", after := #[{ on := 13, ground := Ground.data }], guard := none }) (v := ?_) rfl (by kernel_rfl) (by kernel_rfl) (by kernel_rfl) (fun _ _ _ h => h) (Or.inl ⟨by rfl, ?_⟩) (by assumption) ?_
  case refine_2 => intro w hSw; (try dsimp only at hSw); obtain ⟨z0, z1, z2, z3, z4⟩ := HCE.out _ hSw; go_simp; (try with_reducible rfl)
  simp only [Act.put, List.setIfInBounds_toArray, List.set_cons_zero, List.set_cons_succ]
  refine wpAnyH_take (i := 15) (oi := { dst := some 21, op := Op.indexAddr 56 (Operand.tmp 20) (Operand.const (Value.int IntKind.i64 0)), type := 0, pos := "flat.go:43", after := #[{ on := 14, ground := Ground.data }], guard := none }) (v := ?_) rfl (by kernel_rfl) (by kernel_rfl) (by kernel_rfl) (fun _ _ _ h => h) (Or.inl ⟨by rfl, ?_⟩) (by assumption) ?_
  case refine_2 => intro w hSw; (try dsimp only at hSw); obtain ⟨z0, z1, z2, z3, z4⟩ := HCE.out _ hSw; go_simp; (try with_reducible rfl)
  simp only [Act.put, List.setIfInBounds_toArray, List.set_cons_zero, List.set_cons_succ]
  refine wpAnyH_take (i := 16) (oi := { dst := some 22, op := Op.indexAddr 55 (Operand.tmp 21) (Operand.tmp 17), type := 0, pos := "flat.go:43", after := #[{ on := 15, ground := Ground.data }, { on := 11, ground := Ground.data }], guard := none }) (v := ?_) rfl (by kernel_rfl) (by kernel_rfl) (by kernel_rfl) (fun _ _ _ h => h) (Or.inl ⟨by rfl, ?_⟩) (by assumption) ?_
  case refine_2 => intro w hSw; (try dsimp only at hSw); obtain ⟨z0, z1, z2, z3, z4⟩ := HCE.out _ hSw; go_simp; (try with_reducible rfl)
  simp only [Act.put, List.setIfInBounds_toArray, List.set_cons_zero, List.set_cons_succ]
  refine wpAnyH_take (i := 17) (oi := { dst := some 23, op := Op.indexAddr 53 (Operand.tmp 22) (Operand.tmp 18), type := 0, pos := "flat.go:43", after := #[{ on := 16, ground := Ground.data }, { on := 12, ground := Ground.data }], guard := none }) (v := ?_) rfl (by kernel_rfl) (by kernel_rfl) (by kernel_rfl) (fun _ _ _ h => h) (Or.inl ⟨by rfl, ?_⟩) (by assumption) ?_
  case refine_2 => intro w hSw; (try dsimp only at hSw); obtain ⟨z0, z1, z2, z3, z4⟩ := HCE.out _ hSw; go_simp; (try with_reducible rfl)
  simp only [Act.put, List.setIfInBounds_toArray, List.set_cons_zero, List.set_cons_succ]
  refine wpAnyH_take (i := 18) (oi := { dst := some 24, op := Op.fieldAddr 52 (Operand.tmp 23) 0, type := 0, pos := "flat.go:43", after := #[{ on := 17, ground := Ground.data }], guard := none }) (v := ?_) rfl (by kernel_rfl) (by kernel_rfl) (by kernel_rfl) (fun _ _ _ h => h) (Or.inl ⟨by rfl, ?_⟩) (by assumption) ?_
  case refine_2 => intro w hSw; (try dsimp only at hSw); obtain ⟨z0, z1, z2, z3, z4⟩ := HCE.out _ hSw; go_simp; (try with_reducible rfl)
  simp only [Act.put, List.setIfInBounds_toArray, List.set_cons_zero, List.set_cons_succ]
  refine wpAnyH_take (i := 19) (oi := { dst := some 25, op := Op.load 3 (Operand.tmp 24), type := 3, pos := "flat.go:43", after := #[{ on := 18, ground := Ground.data }], guard := none }) (v := ?_) rfl (by kernel_rfl) (by kernel_rfl) (by kernel_rfl) (fun _ _ _ h => h) (Or.inl ⟨by rfl, ?_⟩) (by assumption) ?_
  case refine_2 => intro w hSw; (try dsimp only at hSw); obtain ⟨z0, z1, z2, z3, z4⟩ := HCE.out _ hSw; go_simp; (try with_reducible rfl)
  simp only [Act.put, List.setIfInBounds_toArray, List.set_cons_zero, List.set_cons_succ]
  refine wpAnyH_take (i := 20) (oi := { dst := some 26, op := Op.binOp BinOp.add 3 (Operand.tmp 15) (Operand.tmp 25) 3, type := 3, pos := "flat.go:43", after := #[{ on := 9, ground := Ground.data }, { on := 19, ground := Ground.data }], guard := none }) (v := ?_) rfl (by kernel_rfl) (by kernel_rfl) (by kernel_rfl) (fun _ _ _ h => h) (Or.inl ⟨by rfl, ?_⟩) (by assumption) ?_
  case refine_2 => intro w hSw; (try dsimp only at hSw); obtain ⟨z0, z1, z2, z3, z4⟩ := HCE.out _ hSw; go_simp; (try with_reducible rfl)
  simp only [Act.put, List.setIfInBounds_toArray, List.set_cons_zero, List.set_cons_succ]
  refine wpAnyH_take (i := 21) (oi := { dst := some 5, op := Op.assign (Operand.tmp 26), type := 3, pos := "flat.go:43", after := #[{ on := 20, ground := Ground.data }, { on := 0, ground := Ground.phase }, { on := 1, ground := Ground.phase }, { on := 2, ground := Ground.phase }, { on := 3, ground := Ground.phase }, { on := 4, ground := Ground.phase }, { on := 5, ground := Ground.phase }, { on := 6, ground := Ground.phase }, { on := 7, ground := Ground.phase }, { on := 8, ground := Ground.phase }, { on := 9, ground := Ground.phase }, { on := 10, ground := Ground.phase }, { on := 11, ground := Ground.phase }, { on := 12, ground := Ground.phase }, { on := 13, ground := Ground.phase }, { on := 14, ground := Ground.phase }, { on := 15, ground := Ground.phase }, { on := 16, ground := Ground.phase }, { on := 17, ground := Ground.phase }, { on := 18, ground := Ground.phase }, { on := 19, ground := Ground.phase }, { on := 20, ground := Ground.phase }], guard := none }) (v := ?_) rfl (by kernel_rfl) (by kernel_rfl) (by kernel_rfl) (fun _ _ _ h => h) (Or.inl ⟨by rfl, ?_⟩) (by assumption) ?_
  case refine_2 => intro w hSw; (try dsimp only at hSw); obtain ⟨z0, z1, z2, z3, z4⟩ := HCE.out _ hSw; go_simp; (try with_reducible rfl)
  simp only [Act.put, List.setIfInBounds_toArray, List.set_cons_zero, List.set_cons_succ]
  refine wpAnyH_done (by kernel_rfl) ?_ _
  go_wp2
  go_ret
  exact ⟨rfl, by first | exact Below.refl _ _ | exact below_drewN (Below.refl _ _) 1⟩
set_option maxHeartbeats 4000000 in
set_option maxRecDepth 100000 in
theorem fill3_any (x : Nat) (w : World) (hV : Fv w q1 q2 q3 p a b C) (hC : Cs C) (ha : a < 13) (hb : b < 13) (hx : a ≤ x) (hx2 : x < b) :
    Calls Try.prog 54 #[.int .i64 (x : Int), .pointer (some ⟨q1, 0, none⟩), .pointer (some ⟨q2, 0, none⟩), .pointer (some ⟨q3, 0, none⟩)] w fun e w' => e = .returned (.int .i64 (C (ix 1 1 a x) + C (ix 0 1 x b))) ∧ Below w.heap.size w w' := by
  have HV : Hid (Fv w q1 q2 q3 p a b C) := hV
  have HI1 : Hid (ix 1 1 a x < 1352) := by have h := @ix_lt; show _ < _; unfold ix; omega
  have HI2 : Hid (ix 0 1 x b < 1352) := by show _ < _; unfold ix; omega
  have hai : (a : Int) < 13 := by omega
  have hbi : (b : Int) < 13 := by omega
  have hxi : (x : Int) < 13 := by omega
  obtain ⟨y1, hy1⟩ : ∃ y, C (ix 1 1 a x) = y := ⟨_, rfl⟩
  obtain ⟨y2, hy2⟩ : ∃ y, C (ix 0 1 x b) = y := ⟨_, rfl⟩
  have HY : Hid (C (ix 1 1 a x) = y1 ∧ C (ix 0 1 x b) = y2) := ⟨hy1, hy2⟩
  have wy : IntKind.i64.wrap (y1 + y2) = y1 + y2 := by have h1 := hC _ HI1.out; have h2 := hC _ HI2.out; rw [hy1] at h1; rw [hy2] at h2; rw [IntKind.wrap_i64]; omega
  have HZ1 : Hid (∀ W, Fv W q1 q2 q3 p a b C → W.cell? ⟨p, 1014 + a * 26 + x * 2, none⟩ = some (.int .i64 y1)) := fun W hW => by
    have h := hW.pz.cell HI1.out
    rw [hy1, show ix 1 1 a x = 1014 + a * 26 + x * 2 by unfold ix; omega] at h
    exact h
  have HZ2 : Hid (∀ W, Fv W q1 q2 q3 p a b C → W.cell? ⟨p, 338 + x * 26 + b * 2, none⟩ = some (.int .i64 y2)) := fun W hW => by
    have h := hW.pz.cell HI2.out
    rw [hy2, show ix 0 1 x b = 338 + x * 26 + b * 2 by unfold ix; omega] at h
    exact h
  rw [hy1, hy2]
  clear hV hC ha hb hx hx2 hy1 hy2
  go_enter Try.func54, Try.ntmps54
  go_upto_region 1 with fail
  have HCE : Hid _ := fun (W : World) (hSw : Fv W q1 q2 q3 p a b C) => (And.intro (hSw.c1) (And.intro (hSw.c2) (And.intro (hSw.c3) (And.intro (HZ1.out _ hSw) (HZ2.out _ hSw)))))
  refine wp_region_held_drew (S := fun W => Fv W q1 q2 q3 p a b C) (by kernel_rfl) (by exact HV.out.drewN 1) (fun hHeld => ?_)
  refine wpAnyH_take (i := 0) (oi := { dst := some 6, op := Op.load 71 (Operand.tmp 1), type := 71, pos := "flat.go:50", after := #[], guard := none }) (v := ?_) rfl (by kernel_rfl) (by kernel_rfl) (by kernel_rfl) (fun _ _ _ h => h) (Or.inl ⟨by rfl, ?_⟩) (by assumption) ?_
  case refine_2 => intro w hSw; (try dsimp only at hSw); obtain ⟨z0, z1, z2, z3, z4⟩ := HCE.out _ hSw; go_simp; (try with_reducible rfl)
  simp only [Act.put, List.setIfInBounds_toArray, List.set_cons_zero, List.set_cons_succ]
  refine wpAnyH_take (i := 1) (oi := { dst := some 7, op := Op.load 3 (Operand.tmp 2), type := 3, pos := "flat.go:50", after := #[], guard := none }) (v := ?_) rfl (by kernel_rfl) (by kernel_rfl) (by kernel_rfl) (fun _ _ _ h => h) (Or.inl ⟨by rfl, ?_⟩) (by assumption) ?_
  case refine_2 => intro w hSw; (try dsimp only at hSw); obtain ⟨z0, z1, z2, z3, z4⟩ := HCE.out _ hSw; go_simp; (try with_reducible rfl)
  simp only [Act.put, List.setIfInBounds_toArray, List.set_cons_zero, List.set_cons_succ]
  refine wpAnyH_take (i := 2) (oi := { dst := some 8, op := Op.move (Operand.tmp 0), type := 3, pos := "flat.go:50", after := #[], guard := none }) (v := ?_) rfl (by kernel_rfl) (by kernel_rfl) (by kernel_rfl) (fun _ _ _ h => h) (Or.inl ⟨by rfl, ?_⟩) (by assumption) ?_
  case refine_2 => intro w hSw; (try dsimp only at hSw); obtain ⟨z0, z1, z2, z3, z4⟩ := HCE.out _ hSw; go_simp; (try with_reducible rfl)
  simp only [Act.put, List.setIfInBounds_toArray, List.set_cons_zero, List.set_cons_succ]
  refine wpAnyH_take (i := 3) (oi := { dst := some 9, op := Op.nilCheck (Operand.tmp 6), type := 0, pos := "flat.go:50", after := #[{ on := 0, ground := Ground.data }], guard := none }) (v := ?_) rfl (by kernel_rfl) (by kernel_rfl) (by kernel_rfl) (fun _ _ _ h => h) (Or.inl ⟨by rfl, ?_⟩) (by assumption) ?_
  case refine_2 => intro w hSw; (try dsimp only at hSw); obtain ⟨z0, z1, z2, z3, z4⟩ := HCE.out _ hSw; go_simp; (try with_reducible rfl)
  simp only [Act.put, List.setIfInBounds_toArray, List.set_cons_zero, List.set_cons_succ]
  refine wpAnyH_take (i := 4) (oi := { dst := some 10, op := Op.fieldAddr 58 (Operand.tmp 9) 1, type := 0, pos := "flat.go:50", after := #[{ on := 3, ground := Ground.data }], guard := none }) (v := ?_) rfl (by kernel_rfl) (by kernel_rfl) (by kernel_rfl) (fun _ _ _ h => h) (Or.inl ⟨by rfl, ?_⟩) (by assumption) ?_
  case refine_2 => intro w hSw; (try dsimp only at hSw); obtain ⟨z0, z1, z2, z3, z4⟩ := HCE.out _ hSw; go_simp; (try with_reducible rfl)
  simp only [Act.put, List.setIfInBounds_toArray, List.set_cons_zero, List.set_cons_succ]
  refine wpAnyH_take (i := 5) (oi := { dst := some 11, op := Op.indexAddr 56 (Operand.tmp 10) (Operand.const (Value.int IntKind.i64 1)), type := 0, pos := "flat.go:50", after := #[{ on := 4, ground := Ground.data }], guard := none }) (v := ?_) rfl (by kernel_rfl) (by kernel_rfl) (by kernel_rfl) (fun _ _ _ h => h) (Or.inl ⟨by rfl, ?_⟩) (by assumption) ?_
  case refine_2 => intro w hSw; (try dsimp only at hSw); obtain ⟨z0, z1, z2, z3, z4⟩ := HCE.out _ hSw; go_simp; (try with_reducible rfl)
  simp only [Act.put, List.setIfInBounds_toArray, List.set_cons_zero, List.set_cons_succ]
  refine wpAnyH_take (i := 6) (oi := { dst := some 12, op := Op.indexAddr 55 (Operand.tmp 11) (Operand.tmp 7), type := 0, pos := "flat.go:50", after := #[{ on := 5, ground := Ground.data }, { on := 1, ground := Ground.data }], guard := none }) (v := ?_) rfl (by kernel_rfl) (by kernel_rfl) (by kernel_rfl) (fun _ _ _ h => h) (Or.inl ⟨by rfl, ?_⟩) (by assumption) ?_
  case refine_2 => intro w hSw; (try dsimp only at hSw); obtain ⟨z0, z1, z2, z3, z4⟩ := HCE.out _ hSw; go_simp; (try with_reducible rfl)
  simp only [Act.put, List.setIfInBounds_toArray, List.set_cons_zero, List.set_cons_succ]
  refine wpAnyH_take (i := 7) (oi := { dst := some 13, op := Op.indexAddr 53 (Operand.tmp 12) (Operand.tmp 8), type := 0, pos := "flat.go:50", after := #[{ on := 6, ground := Ground.data }, { on := 2, ground := Ground.data }], guard := none }) (v := ?_) rfl (by kernel_rfl) (by kernel_rfl) (by kernel_rfl) (fun _ _ _ h => h) (Or.inl ⟨by rfl, ?_⟩) (by assumption) ?_
  case refine_2 => intro w hSw; (try dsimp only at hSw); obtain ⟨z0, z1, z2, z3, z4⟩ := HCE.out _ hSw; go_simp; (try with_reducible rfl)
  simp only [Act.put, List.setIfInBounds_toArray, List.set_cons_zero, List.set_cons_succ]
  refine wpAnyH_take (i := 8) (oi := { dst := some 14, op := Op.fieldAddr 52 (Operand.tmp 13) 0, type := 0, pos := "flat.go:50", after := #[{ on := 7, ground := Ground.data }], guard := none }) (v := ?_) rfl (by kernel_rfl) (by kernel_rfl) (by kernel_rfl) (fun _ _ _ h => h) (Or.inl ⟨by rfl, ?_⟩) (by assumption) ?_
  case refine_2 => intro w hSw; (try dsimp only at hSw); obtain ⟨z0, z1, z2, z3, z4⟩ := HCE.out _ hSw; go_simp; (try with_reducible rfl)
  simp only [Act.put, List.setIfInBounds_toArray, List.set_cons_zero, List.set_cons_succ]
  refine wpAnyH_take (i := 9) (oi := { dst := some 15, op := Op.load 3 (Operand.tmp 14), type := 3, pos := "flat.go:50", after := #[{ on := 8, ground := Ground.data }], guard := none }) (v := ?_) rfl (by kernel_rfl) (by kernel_rfl) (by kernel_rfl) (fun _ _ _ h => h) (Or.inl ⟨by rfl, ?_⟩) (by assumption) ?_
  case refine_2 => intro w hSw; (try dsimp only at hSw); obtain ⟨z0, z1, z2, z3, z4⟩ := HCE.out _ hSw; go_simp; (try with_reducible rfl)
  simp only [Act.put, List.setIfInBounds_toArray, List.set_cons_zero, List.set_cons_succ]
  refine wpAnyH_take (i := 10) (oi := { dst := some 16, op := Op.load 71 (Operand.tmp 1), type := 71, pos := "flat.go:50", after := #[], guard := none }) (v := ?_) rfl (by kernel_rfl) (by kernel_rfl) (by kernel_rfl) (fun _ _ _ h => h) (Or.inl ⟨by rfl, ?_⟩) (by assumption) ?_
  case refine_2 => intro w hSw; (try dsimp only at hSw); obtain ⟨z0, z1, z2, z3, z4⟩ := HCE.out _ hSw; go_simp; (try with_reducible rfl)
  simp only [Act.put, List.setIfInBounds_toArray, List.set_cons_zero, List.set_cons_succ]
  refine wpAnyH_take (i := 11) (oi := { dst := some 17, op := Op.move (Operand.tmp 0), type := 3, pos := "flat.go:50", after := #[], guard := none }) (v := ?_) rfl (by kernel_rfl) (by kernel_rfl) (by kernel_rfl) (fun _ _ _ h => h) (Or.inl ⟨by rfl, ?_⟩) (by assumption) ?_
  case refine_2 => intro w hSw; (try dsimp only at hSw); obtain ⟨z0, z1, z2, z3, z4⟩ := HCE.out _ hSw; go_simp; (try with_reducible rfl)
  simp only [Act.put, List.setIfInBounds_toArray, List.set_cons_zero, List.set_cons_succ]
  refine wpAnyH_take (i := 12) (oi := { dst := some 18, op := Op.load 3 (Operand.tmp 3), type := 3, pos := "flat.go:50", after := #[], guard := none }) (v := ?_) rfl (by kernel_rfl) (by kernel_rfl) (by kernel_rfl) (fun _ _ _ h => h) (Or.inl ⟨by rfl, ?_⟩) (by assumption) ?_
  case refine_2 => intro w hSw; (try dsimp only at hSw); obtain ⟨z0, z1, z2, z3, z4⟩ := HCE.out _ hSw; go_simp; (try with_reducible rfl)
  simp only [Act.put, List.setIfInBounds_toArray, List.set_cons_zero, List.set_cons_succ]
  refine wpAnyH_take (i := 13) (oi := { dst := some 19, op := Op.nilCheck (Operand.tmp 16), type := 0, pos := "flat.go:50", after := #[{ on := 10, ground := Ground.data }], guard := none }) (v := ?_) rfl (by kernel_rfl) (by kernel_rfl) (by kernel_rfl) (fun _ _ _ h => h) (Or.inl ⟨by rfl, ?_⟩) (by assumption) ?_
  case refine_2 => intro w hSw; (try dsimp only at hSw); obtain ⟨z0, z1, z2, z3, z4⟩ := HCE.out _ hSw; go_simp; (try with_reducible rfl)
  simp only [Act.put, List.setIfInBounds_toArray, List.set_cons_zero, List.set_cons_succ]
  refine wpAnyH_take (i := 14) (oi := { dst := some 20, op := Op.fieldAddr 58 (Operand.tmp 19) 0, type := 0, pos := "flat.go:50", after := #[{ on := 13, ground := Ground.data }], guard := none }) (v := ?_) rfl (by kernel_rfl) (by kernel_rfl) (by kernel_rfl) (fun _ _ _ h => h) (Or.inl ⟨by rfl, ?_⟩) (by assumption) ?_
  case refine_2 => intro w hSw; (try dsimp only at hSw); obtain ⟨z0, z1, z2, z3, z4⟩ := HCE.out _ hSw; go_simp; (try with_reducible rfl)
  simp only [Act.put, List.setIfInBounds_toArray, List.set_cons_zero, List.set_cons_succ]
  refine wpAnyH_take (i := 15) (oi := { dst := some 21, op := Op.indexAddr 56 (Operand.tmp 20) (Operand.const (Value.int IntKind.i64 1)), type := 0, pos := "flat.go:50", after := #[{ on := 14, ground := Ground.data }], guard := none }) (v := ?_) rfl (by kernel_rfl) (by kernel_rfl) (by kernel_rfl) (fun _ _ _ h => h) (Or.inl ⟨by rfl, ?_⟩) (by assumption) ?_
  case refine_2 => intro w hSw; (try dsimp only at hSw); obtain ⟨z0, z1, z2, z3, z4⟩ := HCE.out _ hSw; go_simp; (try with_reducible rfl)
  simp only [Act.put, List.setIfInBounds_toArray, List.set_cons_zero, List.set_cons_succ]
  refine wpAnyH_take (i := 16) (oi := { dst := some 22, op := Op.indexAddr 55 (Operand.tmp 21) (Operand.tmp 17), type := 0, pos := "flat.go:50", after := #[{ on := 15, ground := Ground.data }, { on := 11, ground := Ground.data }], guard := none }) (v := ?_) rfl (by kernel_rfl) (by kernel_rfl) (by kernel_rfl) (fun _ _ _ h => h) (Or.inl ⟨by rfl, ?_⟩) (by assumption) ?_
  case refine_2 => intro w hSw; (try dsimp only at hSw); obtain ⟨z0, z1, z2, z3, z4⟩ := HCE.out _ hSw; go_simp; (try with_reducible rfl)
  simp only [Act.put, List.setIfInBounds_toArray, List.set_cons_zero, List.set_cons_succ]
  refine wpAnyH_take (i := 17) (oi := { dst := some 23, op := Op.indexAddr 53 (Operand.tmp 22) (Operand.tmp 18), type := 0, pos := "flat.go:50", after := #[{ on := 16, ground := Ground.data }, { on := 12, ground := Ground.data }], guard := none }) (v := ?_) rfl (by kernel_rfl) (by kernel_rfl) (by kernel_rfl) (fun _ _ _ h => h) (Or.inl ⟨by rfl, ?_⟩) (by assumption) ?_
  case refine_2 => intro w hSw; (try dsimp only at hSw); obtain ⟨z0, z1, z2, z3, z4⟩ := HCE.out _ hSw; go_simp; (try with_reducible rfl)
  simp only [Act.put, List.setIfInBounds_toArray, List.set_cons_zero, List.set_cons_succ]
  refine wpAnyH_take (i := 18) (oi := { dst := some 24, op := Op.fieldAddr 52 (Operand.tmp 23) 0, type := 0, pos := "flat.go:50", after := #[{ on := 17, ground := Ground.data }], guard := none }) (v := ?_) rfl (by kernel_rfl) (by kernel_rfl) (by kernel_rfl) (fun _ _ _ h => h) (Or.inl ⟨by rfl, ?_⟩) (by assumption) ?_
  case refine_2 => intro w hSw; (try dsimp only at hSw); obtain ⟨z0, z1, z2, z3, z4⟩ := HCE.out _ hSw; go_simp; (try with_reducible rfl)
  simp only [Act.put, List.setIfInBounds_toArray, List.set_cons_zero, List.set_cons_succ]
  refine wpAnyH_take (i := 19) (oi := { dst := some 25, op := Op.load 3 (Operand.tmp 24), type := 3, pos := "flat.go:50", after := #[{ on := 18, ground := Ground.data }], guard := none }) (v := ?_) rfl (by kernel_rfl) (by kernel_rfl) (by kernel_rfl) (fun _ _ _ h => h) (Or.inl ⟨by rfl, ?_⟩) (by assumption) ?_
  case refine_2 => intro w hSw; (try dsimp only at hSw); obtain ⟨z0, z1, z2, z3, z4⟩ := HCE.out _ hSw; go_simp; (try with_reducible rfl)
  simp only [Act.put, List.setIfInBounds_toArray, List.set_cons_zero, List.set_cons_succ]
  refine wpAnyH_take (i := 20) (oi := { dst := some 26, op := Op.binOp BinOp.add 3 (Operand.tmp 15) (Operand.tmp 25) 3, type := 3, pos := "flat.go:50", after := #[{ on := 9, ground := Ground.data }, { on := 19, ground := Ground.data }], guard := none }) (v := ?_) rfl (by kernel_rfl) (by kernel_rfl) (by kernel_rfl) (fun _ _ _ h => h) (Or.inl ⟨by rfl, ?_⟩) (by assumption) ?_
  case refine_2 => intro w hSw; (try dsimp only at hSw); obtain ⟨z0, z1, z2, z3, z4⟩ := HCE.out _ hSw; go_simp; (try with_reducible rfl)
  simp only [Act.put, List.setIfInBounds_toArray, List.set_cons_zero, List.set_cons_succ]
  refine wpAnyH_take (i := 21) (oi := { dst := some 5, op := Op.assign (Operand.tmp 26), type := 3, pos := "flat.go:50", after := #[{ on := 20, ground := Ground.data }, { on := 0, ground := Ground.phase }, { on := 1, ground := Ground.phase }, { on := 2, ground := Ground.phase }, { on := 3, ground := Ground.phase }, { on := 4, ground := Ground.phase }, { on := 5, ground := Ground.phase }, { on := 6, ground := Ground.phase }, { on := 7, ground := Ground.phase }, { on := 8, ground := Ground.phase }, { on := 9, ground := Ground.phase }, { on := 10, ground := Ground.phase }, { on := 11, ground := Ground.phase }, { on := 12, ground := Ground.phase }, { on := 13, ground := Ground.phase }, { on := 14, ground := Ground.phase }, { on := 15, ground := Ground.phase }, { on := 16, ground := Ground.phase }, { on := 17, ground := Ground.phase }, { on := 18, ground := Ground.phase }, { on := 19, ground := Ground.phase }, { on := 20, ground := Ground.phase }], guard := none }) (v := ?_) rfl (by kernel_rfl) (by kernel_rfl) (by kernel_rfl) (fun _ _ _ h => h) (Or.inl ⟨by rfl, ?_⟩) (by assumption) ?_
  case refine_2 => intro w hSw; (try dsimp only at hSw); obtain ⟨z0, z1, z2, z3, z4⟩ := HCE.out _ hSw; go_simp; (try with_reducible rfl)
  simp only [Act.put, List.setIfInBounds_toArray, List.set_cons_zero, List.set_cons_succ]
  refine wpAnyH_done (by kernel_rfl) ?_ _
  go_wp2
  go_ret
  exact ⟨rfl, by first | exact Below.refl _ _ | exact below_drewN (Below.refl _ _) 1⟩
end
end Go.Proofs.Ytpolnkdbebjpnaa.Hd
