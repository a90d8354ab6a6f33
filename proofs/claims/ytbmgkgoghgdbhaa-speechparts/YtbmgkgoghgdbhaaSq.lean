/- sides: all lies in blocks of which P holds. No conditions. -/
import Derived.Test.YtbmgkgoghgdbhaaSa
namespace Go.Proofs.Ytbmgkgoghgdbhaa.Te
open Go.RowKit

set_option maxHeartbeats 4000000 in
theorem sides_ovP {P : Nat → Prop} {d : Nat} (x y : Ty) (a : Option Addr) (c : Nat) (w0 w : World) (h0 : Below w0.heap.size w0 w) (h : TyP P w0 (d + 1) (ov x y) a c) : Calls Try.prog 82 #[vty (ov x y) a c] w fun e w' => ∃ ax cx ay cy, e = .returned (.tuple #[vty x ax cx, vty y ay cy]) ∧ TyP P w0 d x ax cx ∧ TyP P w0 d y ay cy ∧ Below w.heap.size w w' := by
  have hw0 := h0.size
  obtain ⟨g, off, a1, c1, ga, hg, _, u0, u1, u2, ht1⟩ := h.kid (j := 0) (by simp [ov])
  obtain ⟨g', off', a2, c2, ga', hg', _, v0, v1, v2, ht2⟩ := h.kid (j := 1) (by simp [ov])
  subst ga
  simp only [Option.some.injEq, Addr.mk.injEq, and_true] at ga'
  obtain ⟨rfl, rfl⟩ := ga'
  simp only [ov, List.getElem_cons_zero, List.getElem_cons_succ, Nat.zero_mul, Nat.add_zero, Nat.one_mul] at u0 u1 u2 v0 v1 v2 ht1 ht2
  have htx := ht1
  have hty := ht2
  unfold vty ov
  dsimp only
  rw [show ([x, y] : List Ty).length = 2 from rfl]
  go_enter Try.func82, Try.ntmps82
  go_upto_region 2 with fail
  have h3 := three_boxes w (.cells #[.int .i64 2, .int .i64 0, .slice (some ⟨g, off, none⟩) 2 c] 24) (.cells #[.int .i64 0, .int .i64 0, .slice none 0 0] 24) (.cells #[.int .i64 0, .int .i64 0, .slice none 0 0] 24)
  generalize hV : ((w.alloc (.cells #[.int .i64 2, .int .i64 0, .slice (some ⟨g, off, none⟩) 2 c] 24)).alloc (.cells #[.int .i64 0, .int .i64 0, .slice none 0 0] 24)).alloc (.cells #[.int .i64 0, .int .i64 0, .slice none 0 0] 24) = V at *
  obtain ⟨x1, x2, x3, hs, hb⟩ := h3
  have hbb := h0.trans (hb.mono hw0)
  have q0 := (hbb.cell (p := ⟨g, _, none⟩) hg).trans u0
  have q1 := (hbb.cell (p := ⟨g, _, none⟩) hg).trans u1
  have q2 := (hbb.cell (p := ⟨g, _, none⟩) hg).trans u2
  have q3 := (hbb.cell (p := ⟨g, _, none⟩) hg).trans v0
  have q4 := (hbb.cell (p := ⟨g, _, none⟩) hg).trans v1
  have q5 := (hbb.cell (p := ⟨g, _, none⟩) hg).trans v2
  clear hV u0 u1 u2 v0 v1 v2 ht1 ht2 h
  refine wp_region_held_drew (S := fun W => W.cell? ⟨w.heap.size, 2, none⟩ = some (.slice (some ⟨g, off, none⟩) 2 c) ∧ W.cell? ⟨g, off, none⟩ = some (.int .i64 x.kind) ∧ W.cell? ⟨g, off + 1, none⟩ = some (.int .i64 x.n) ∧ W.cell? ⟨g, off + 2, none⟩ = some (.slice a1 x.kids.length c1) ∧ W.cell? ⟨g, off + 3, none⟩ = some (.int .i64 y.kind) ∧ W.cell? ⟨g, off + 3 + 1, none⟩ = some (.int .i64 y.n) ∧ W.cell? ⟨g, off + 3 + 2, none⟩ = some (.slice a2 y.kids.length c2)) (by kernel_rfl) (by exact ⟨cell_of_row _ _ 2 _ _ _ x1, q0, q1, q2, q3, q4, q5⟩) (fun hHeld => ?_)
  have hHeld' := hHeld
  have hb := hb.drew
  have x2 : V.drew.heap[w.heap.size + 1]? = some (.cells #[.int .i64 0, .int .i64 0, .slice none 0 0] 24) := x2
  have x3 : V.drew.heap[w.heap.size + 2]? = some (.cells #[.int .i64 0, .int .i64 0, .slice none 0 0] 24) := x3
  generalize hV : V.drew = V0 at *
  clear hV
  refine wpAnyH_take (i := 0) (oi := { dst := some 7, op := Op.fieldAddr 24 (Operand.tmp 1) 2, type := 0, pos := "parts.go:18", after := #[], guard := none }) (v := ?_) rfl (by kernel_rfl) (by kernel_rfl) (by kernel_rfl) (fun _ _ _ h => h) (Or.inl ⟨by rfl, ?_⟩) (by assumption) ?_
  case refine_2 => intro w hSw; (try dsimp only at hSw); obtain ⟨hA, hB, hC, hD, hE, hF, hG⟩ := hSw; go_simp; (try with_reducible rfl)
  simp only [Act.put, List.setIfInBounds_toArray, List.set_cons_zero, List.set_cons_succ]
  refine wpAnyH_take (i := 1) (oi := { dst := some 8, op := Op.load 22 (Operand.tmp 7), type := 22, pos := "parts.go:18", after := #[{ on := 0, ground := Ground.data }], guard := none }) (v := ?_) rfl (by kernel_rfl) (by kernel_rfl) (by kernel_rfl) (fun _ _ _ h => h) (Or.inl ⟨by rfl, ?_⟩) (by assumption) ?_
  case refine_2 => intro w hSw; (try dsimp only at hSw); obtain ⟨hA, hB, hC, hD, hE, hF, hG⟩ := hSw; go_simp; (try with_reducible rfl)
  simp only [Act.put, List.setIfInBounds_toArray, List.set_cons_zero, List.set_cons_succ]
  refine wpAnyH_take (i := 2) (oi := { dst := some 9, op := Op.indexAddr 22 (Operand.tmp 8) (Operand.const (Value.int IntKind.i64 0)), type := 0, pos := "parts.go:18", after := #[{ on := 1, ground := Ground.data }], guard := none }) (v := ?_) rfl (by kernel_rfl) (by kernel_rfl) (by kernel_rfl) (fun _ _ _ h => h) (Or.inl ⟨by rfl, ?_⟩) (by assumption) ?_
  case refine_2 => intro w hSw; (try dsimp only at hSw); obtain ⟨hA, hB, hC, hD, hE, hF, hG⟩ := hSw; go_simp; (try with_reducible rfl)
  simp only [Act.put, List.setIfInBounds_toArray, List.set_cons_zero, List.set_cons_succ]
  refine wpAnyH_take (i := 3) (oi := { dst := some 10, op := Op.load 24 (Operand.tmp 9), type := 24, pos := "parts.go:18", after := #[{ on := 2, ground := Ground.data }], guard := none }) (v := ?_) rfl (by kernel_rfl) (by kernel_rfl) (by kernel_rfl) (fun _ _ _ h => h) (Or.inl ⟨by rfl, ?_⟩) (by assumption) ?_
  case refine_2 => intro w hSw; (try dsimp only at hSw); obtain ⟨hA, hB, hC, hD, hE, hF, hG⟩ := hSw; go_simp; (try with_reducible rfl)
  simp only [Act.put, List.setIfInBounds_toArray, List.set_cons_zero, List.set_cons_succ]
  refine wpAnyH_take (i := 4) (oi := { dst := some 11, op := Op.fieldAddr 24 (Operand.tmp 1) 2, type := 0, pos := "parts.go:18", after := #[{ on := 8, ground := Ground.gcOnly Departure.lateStores }], guard := none }) (v := ?_) rfl (by kernel_rfl) (by kernel_rfl) (by kernel_rfl) (fun _ _ _ h => h) (Or.inl ⟨by rfl, ?_⟩) (by assumption) ?_
  case refine_2 => intro w hSw; (try dsimp only at hSw); obtain ⟨hA, hB, hC, hD, hE, hF, hG⟩ := hSw; go_simp; (try with_reducible rfl)
  simp only [Act.put, List.setIfInBounds_toArray, List.set_cons_zero, List.set_cons_succ]
  refine wpAnyH_take (i := 5) (oi := { dst := some 12, op := Op.load 22 (Operand.tmp 11), type := 22, pos := "parts.go:18", after := #[{ on := 4, ground := Ground.data }, { on := 8, ground := Ground.gcOnly Departure.lateStores }], guard := none }) (v := ?_) rfl (by kernel_rfl) (by kernel_rfl) (by kernel_rfl) (fun _ _ _ h => h) (Or.inl ⟨by rfl, ?_⟩) (by assumption) ?_
  case refine_2 => intro w hSw; (try dsimp only at hSw); obtain ⟨hA, hB, hC, hD, hE, hF, hG⟩ := hSw; go_simp; (try with_reducible rfl)
  simp only [Act.put, List.setIfInBounds_toArray, List.set_cons_zero, List.set_cons_succ]
  refine wpAnyH_take (i := 6) (oi := { dst := some 13, op := Op.indexAddr 22 (Operand.tmp 12) (Operand.const (Value.int IntKind.i64 1)), type := 0, pos := "parts.go:18", after := #[{ on := 5, ground := Ground.data }, { on := 8, ground := Ground.gcOnly Departure.lateStores }], guard := none }) (v := ?_) rfl (by kernel_rfl) (by kernel_rfl) (by kernel_rfl) (fun _ _ _ h => h) (Or.inl ⟨by rfl, ?_⟩) (by assumption) ?_
  case refine_2 => intro w hSw; (try dsimp only at hSw); obtain ⟨hA, hB, hC, hD, hE, hF, hG⟩ := hSw; go_simp; (try with_reducible rfl)
  simp only [Act.put, List.setIfInBounds_toArray, List.set_cons_zero, List.set_cons_succ]
  refine wpAnyH_take (i := 7) (oi := { dst := some 14, op := Op.load 24 (Operand.tmp 13), type := 24, pos := "parts.go:18", after := #[{ on := 6, ground := Ground.data }, { on := 8, ground := Ground.gcOnly Departure.lateStores }], guard := none }) (v := ?_) rfl (by kernel_rfl) (by kernel_rfl) (by kernel_rfl) (fun _ _ _ h => h) (Or.inl ⟨by rfl, ?_⟩) (by assumption) ?_
  case refine_2 => intro w hSw; (try dsimp only at hSw); obtain ⟨hA, hB, hC, hD, hE, hF, hG⟩ := hSw; go_simp; (try with_reducible rfl)
  simp only [Act.put, List.setIfInBounds_toArray, List.set_cons_zero, List.set_cons_succ]
  refine wpAnyH_ready (rs := [8]) (by kernel_rfl) (by simp) ?_
  refine (AllReadyH.cons (o := { dst := none, op := Op.store 24 (Operand.tmp 2) (Operand.tmp 10), type := 0, pos := "parts.go:18", after := #[{ on := 3, ground := Ground.data }, { on := 0, ground := Ground.phase }, { on := 1, ground := Ground.phase }, { on := 2, ground := Ground.phase }, { on := 3, ground := Ground.phase }, { on := 4, ground := Ground.textOnly Departure.lateStores }, { on := 5, ground := Ground.textOnly Departure.lateStores }, { on := 6, ground := Ground.textOnly Departure.lateStores }, { on := 7, ground := Ground.textOnly Departure.lateStores }], guard := none }) rfl (fun K hK => ?_) AllReadyH.nil)
  have m0 := cell_of_row _ _ 0 _ _ _ x2
  have m1 := cell_of_row _ _ 1 _ _ _ x2
  have m2 := cell_of_row _ _ 2 _ _ _ x2
  have f0 := frozen_of_row _ _ 0 _ 24 x2
  have f1 := frozen_of_row _ _ 1 _ 24 x2
  have f2 := frozen_of_row _ _ 2 _ 24 x2
  go_simp
  have hl1 := laid_box x2 x.kind x.n a1 x.kids.length c1
  have k1 := ko3 V0 (w.heap.size + 1) (.int .i64 x.kind) (.int .i64 x.n) (.slice a1 x.kids.length c1)
  have y3 := (k1 (w.heap.size + 2) (by omega)).trans x3
  have hb1 := ((hb.setCell (p := ⟨w.heap.size + 1, 0, none⟩) (by show w.heap.size ≤ w.heap.size + 1; omega) (.int .i64 x.kind)).setCell (p := ⟨w.heap.size + 1, 1, none⟩) (by show w.heap.size ≤ w.heap.size + 1; omega) (.int .i64 x.n)).setCell (p := ⟨w.heap.size + 1, 2, none⟩) (by show w.heap.size ≤ w.heap.size + 1; omega) (.slice a1 x.kids.length c1)
  have hc1 := held_after hHeld' k1 (by omega) (by omega)
  refine hK.out _ _ ?_ (fun hHeld => ?_)
  · exact hc1
  clear hK K
  try simp only [Act.put, List.setIfInBounds_toArray, List.set_cons_zero, List.set_cons_succ]
  clear m0 m1 m2 f0 f1 f2
  generalize hV : ((V0.setCell ⟨w.heap.size + 1, 0, none⟩ (.int .i64 x.kind)).setCell ⟨w.heap.size + 1, 1, none⟩ (.int .i64 x.n)).setCell ⟨w.heap.size + 1, 2, none⟩ (.slice a1 x.kids.length c1) = V1 at *
  clear hV
  refine wpAnyH_ready (rs := [9]) (by kernel_rfl) (by simp) ?_
  refine (AllReadyH.cons (o := { dst := none, op := Op.store 24 (Operand.tmp 3) (Operand.tmp 14), type := 0, pos := "parts.go:18", after := #[{ on := 7, ground := Ground.data }, { on := 8, ground := Ground.chain }, { on := 0, ground := Ground.phase }, { on := 1, ground := Ground.phase }, { on := 2, ground := Ground.phase }, { on := 3, ground := Ground.phase }, { on := 4, ground := Ground.phase }, { on := 5, ground := Ground.phase }, { on := 6, ground := Ground.phase }, { on := 7, ground := Ground.phase }, { on := 8, ground := Ground.phase }], guard := none }) rfl (fun K hK => ?_) AllReadyH.nil)
  have m0 := cell_of_row _ _ 0 _ _ _ y3
  have m1 := cell_of_row _ _ 1 _ _ _ y3
  have m2 := cell_of_row _ _ 2 _ _ _ y3
  have f0 := frozen_of_row _ _ 0 _ 24 y3
  have f1 := frozen_of_row _ _ 1 _ 24 y3
  have f2 := frozen_of_row _ _ 2 _ 24 y3
  go_simp
  have hl2 := laid_box y3 y.kind y.n a2 y.kids.length c2
  have k2 := ko3 V1 (w.heap.size + 2) (.int .i64 y.kind) (.int .i64 y.n) (.slice a2 y.kids.length c2)
  have z2 := (k2 (w.heap.size + 1) (by omega)).trans hl1
  have hb2 := ((hb1.setCell (p := ⟨w.heap.size + 2, 0, none⟩) (by show w.heap.size ≤ w.heap.size + 2; omega) (.int .i64 y.kind)).setCell (p := ⟨w.heap.size + 2, 1, none⟩) (by show w.heap.size ≤ w.heap.size + 2; omega) (.int .i64 y.n)).setCell (p := ⟨w.heap.size + 2, 2, none⟩) (by show w.heap.size ≤ w.heap.size + 2; omega) (.slice a2 y.kids.length c2)
  have hc2 := held_after hc1 k2 (by omega) (by omega)
  refine hK.out _ _ ?_ (fun hHeld => ?_)
  · exact hc2
  clear hK K
  try simp only [Act.put, List.setIfInBounds_toArray, List.set_cons_zero, List.set_cons_succ]
  clear m0 m1 m2 f0 f1 f2
  generalize hV : ((V1.setCell ⟨w.heap.size + 2, 0, none⟩ (.int .i64 y.kind)).setCell ⟨w.heap.size + 2, 1, none⟩ (.int .i64 y.n)).setCell ⟨w.heap.size + 2, 2, none⟩ (.slice a2 y.kids.length c2) = V2 at *
  clear hV
  refine wpAnyH_done (by kernel_rfl) ?_ _
  go_wp2_with fail
  refine bodyPost_ret (results_two24 rfl _ _ (w.heap.size + 1) (w.heap.size + 2) _ _ _ _ _ _ rfl rfl z2 hl2) rfl ?_
  exact ⟨a1, c1, a2, c2, rfl, htx, hty, hb2⟩
set_option maxHeartbeats 4000000 in
theorem sides_unP {P : Nat → Prop} {d : Nat} (x y : Ty) (a : Option Addr) (c : Nat) (w0 w : World) (h0 : Below w0.heap.size w0 w) (h : TyP P w0 (d + 1) (un y x) a c) : Calls Try.prog 82 #[vty (un y x) a c] w fun e w' => ∃ ax cx ay cy, e = .returned (.tuple #[vty x ax cx, vty y ay cy]) ∧ TyP P w0 d x ax cx ∧ TyP P w0 d y ay cy ∧ Below w.heap.size w w' := by
  have hw0 := h0.size
  obtain ⟨g, off, a1, c1, ga, hg, _, u0, u1, u2, ht1⟩ := h.kid (j := 0) (by simp [un])
  obtain ⟨g', off', a2, c2, ga', hg', _, v0, v1, v2, ht2⟩ := h.kid (j := 1) (by simp [un])
  subst ga
  simp only [Option.some.injEq, Addr.mk.injEq, and_true] at ga'
  obtain ⟨rfl, rfl⟩ := ga'
  simp only [un, List.getElem_cons_zero, List.getElem_cons_succ, Nat.zero_mul, Nat.add_zero, Nat.one_mul] at u0 u1 u2 v0 v1 v2 ht1 ht2
  have htx := ht2
  have hty := ht1
  unfold vty un
  dsimp only
  rw [show ([y, x] : List Ty).length = 2 from rfl]
  go_enter Try.func82, Try.ntmps82
  go_upto_region 3 with fail
  have h3 := three_boxes w (.cells #[.int .i64 3, .int .i64 0, .slice (some ⟨g, off, none⟩) 2 c] 24) (.cells #[.int .i64 0, .int .i64 0, .slice none 0 0] 24) (.cells #[.int .i64 0, .int .i64 0, .slice none 0 0] 24)
  generalize hV : ((w.alloc (.cells #[.int .i64 3, .int .i64 0, .slice (some ⟨g, off, none⟩) 2 c] 24)).alloc (.cells #[.int .i64 0, .int .i64 0, .slice none 0 0] 24)).alloc (.cells #[.int .i64 0, .int .i64 0, .slice none 0 0] 24) = V at *
  obtain ⟨x1, x2, x3, hs, hb⟩ := h3
  have hbb := h0.trans (hb.mono hw0)
  have q0 := (hbb.cell (p := ⟨g, _, none⟩) hg).trans u0
  have q1 := (hbb.cell (p := ⟨g, _, none⟩) hg).trans u1
  have q2 := (hbb.cell (p := ⟨g, _, none⟩) hg).trans u2
  have q3 := (hbb.cell (p := ⟨g, _, none⟩) hg).trans v0
  have q4 := (hbb.cell (p := ⟨g, _, none⟩) hg).trans v1
  have q5 := (hbb.cell (p := ⟨g, _, none⟩) hg).trans v2
  clear hV u0 u1 u2 v0 v1 v2 ht1 ht2 h
  refine wp_region_held_drew (S := fun W => W.cell? ⟨w.heap.size, 2, none⟩ = some (.slice (some ⟨g, off, none⟩) 2 c) ∧ W.cell? ⟨g, off, none⟩ = some (.int .i64 y.kind) ∧ W.cell? ⟨g, off + 1, none⟩ = some (.int .i64 y.n) ∧ W.cell? ⟨g, off + 2, none⟩ = some (.slice a1 y.kids.length c1) ∧ W.cell? ⟨g, off + 3, none⟩ = some (.int .i64 x.kind) ∧ W.cell? ⟨g, off + 3 + 1, none⟩ = some (.int .i64 x.n) ∧ W.cell? ⟨g, off + 3 + 2, none⟩ = some (.slice a2 x.kids.length c2)) (by kernel_rfl) (by exact ⟨cell_of_row _ _ 2 _ _ _ x1, q0, q1, q2, q3, q4, q5⟩) (fun hHeld => ?_)
  have hHeld' := hHeld
  have hb := hb.drew
  have x2 : V.drew.heap[w.heap.size + 1]? = some (.cells #[.int .i64 0, .int .i64 0, .slice none 0 0] 24) := x2
  have x3 : V.drew.heap[w.heap.size + 2]? = some (.cells #[.int .i64 0, .int .i64 0, .slice none 0 0] 24) := x3
  generalize hV : V.drew = V0 at *
  clear hV
  refine wpAnyH_take (i := 0) (oi := { dst := some 15, op := Op.fieldAddr 24 (Operand.tmp 1) 2, type := 0, pos := "parts.go:20", after := #[], guard := none }) (v := ?_) rfl (by kernel_rfl) (by kernel_rfl) (by kernel_rfl) (fun _ _ _ h => h) (Or.inl ⟨by rfl, ?_⟩) (by assumption) ?_
  case refine_2 => intro w hSw; (try dsimp only at hSw); obtain ⟨hA, hB, hC, hD, hE, hF, hG⟩ := hSw; go_simp; (try with_reducible rfl)
  simp only [Act.put, List.setIfInBounds_toArray, List.set_cons_zero, List.set_cons_succ]
  refine wpAnyH_take (i := 1) (oi := { dst := some 16, op := Op.load 22 (Operand.tmp 15), type := 22, pos := "parts.go:20", after := #[{ on := 0, ground := Ground.data }], guard := none }) (v := ?_) rfl (by kernel_rfl) (by kernel_rfl) (by kernel_rfl) (fun _ _ _ h => h) (Or.inl ⟨by rfl, ?_⟩) (by assumption) ?_
  case refine_2 => intro w hSw; (try dsimp only at hSw); obtain ⟨hA, hB, hC, hD, hE, hF, hG⟩ := hSw; go_simp; (try with_reducible rfl)
  simp only [Act.put, List.setIfInBounds_toArray, List.set_cons_zero, List.set_cons_succ]
  refine wpAnyH_take (i := 2) (oi := { dst := some 17, op := Op.indexAddr 22 (Operand.tmp 16) (Operand.const (Value.int IntKind.i64 1)), type := 0, pos := "parts.go:20", after := #[{ on := 1, ground := Ground.data }], guard := none }) (v := ?_) rfl (by kernel_rfl) (by kernel_rfl) (by kernel_rfl) (fun _ _ _ h => h) (Or.inl ⟨by rfl, ?_⟩) (by assumption) ?_
  case refine_2 => intro w hSw; (try dsimp only at hSw); obtain ⟨hA, hB, hC, hD, hE, hF, hG⟩ := hSw; go_simp; (try with_reducible rfl)
  simp only [Act.put, List.setIfInBounds_toArray, List.set_cons_zero, List.set_cons_succ]
  refine wpAnyH_take (i := 3) (oi := { dst := some 18, op := Op.load 24 (Operand.tmp 17), type := 24, pos := "parts.go:20", after := #[{ on := 2, ground := Ground.data }], guard := none }) (v := ?_) rfl (by kernel_rfl) (by kernel_rfl) (by kernel_rfl) (fun _ _ _ h => h) (Or.inl ⟨by rfl, ?_⟩) (by assumption) ?_
  case refine_2 => intro w hSw; (try dsimp only at hSw); obtain ⟨hA, hB, hC, hD, hE, hF, hG⟩ := hSw; go_simp; (try with_reducible rfl)
  simp only [Act.put, List.setIfInBounds_toArray, List.set_cons_zero, List.set_cons_succ]
  refine wpAnyH_take (i := 4) (oi := { dst := some 19, op := Op.fieldAddr 24 (Operand.tmp 1) 2, type := 0, pos := "parts.go:20", after := #[{ on := 8, ground := Ground.gcOnly Departure.lateStores }], guard := none }) (v := ?_) rfl (by kernel_rfl) (by kernel_rfl) (by kernel_rfl) (fun _ _ _ h => h) (Or.inl ⟨by rfl, ?_⟩) (by assumption) ?_
  case refine_2 => intro w hSw; (try dsimp only at hSw); obtain ⟨hA, hB, hC, hD, hE, hF, hG⟩ := hSw; go_simp; (try with_reducible rfl)
  simp only [Act.put, List.setIfInBounds_toArray, List.set_cons_zero, List.set_cons_succ]
  refine wpAnyH_take (i := 5) (oi := { dst := some 20, op := Op.load 22 (Operand.tmp 19), type := 22, pos := "parts.go:20", after := #[{ on := 4, ground := Ground.data }, { on := 8, ground := Ground.gcOnly Departure.lateStores }], guard := none }) (v := ?_) rfl (by kernel_rfl) (by kernel_rfl) (by kernel_rfl) (fun _ _ _ h => h) (Or.inl ⟨by rfl, ?_⟩) (by assumption) ?_
  case refine_2 => intro w hSw; (try dsimp only at hSw); obtain ⟨hA, hB, hC, hD, hE, hF, hG⟩ := hSw; go_simp; (try with_reducible rfl)
  simp only [Act.put, List.setIfInBounds_toArray, List.set_cons_zero, List.set_cons_succ]
  refine wpAnyH_take (i := 6) (oi := { dst := some 21, op := Op.indexAddr 22 (Operand.tmp 20) (Operand.const (Value.int IntKind.i64 0)), type := 0, pos := "parts.go:20", after := #[{ on := 5, ground := Ground.data }, { on := 8, ground := Ground.gcOnly Departure.lateStores }], guard := none }) (v := ?_) rfl (by kernel_rfl) (by kernel_rfl) (by kernel_rfl) (fun _ _ _ h => h) (Or.inl ⟨by rfl, ?_⟩) (by assumption) ?_
  case refine_2 => intro w hSw; (try dsimp only at hSw); obtain ⟨hA, hB, hC, hD, hE, hF, hG⟩ := hSw; go_simp; (try with_reducible rfl)
  simp only [Act.put, List.setIfInBounds_toArray, List.set_cons_zero, List.set_cons_succ]
  refine wpAnyH_take (i := 7) (oi := { dst := some 22, op := Op.load 24 (Operand.tmp 21), type := 24, pos := "parts.go:20", after := #[{ on := 6, ground := Ground.data }, { on := 8, ground := Ground.gcOnly Departure.lateStores }], guard := none }) (v := ?_) rfl (by kernel_rfl) (by kernel_rfl) (by kernel_rfl) (fun _ _ _ h => h) (Or.inl ⟨by rfl, ?_⟩) (by assumption) ?_
  case refine_2 => intro w hSw; (try dsimp only at hSw); obtain ⟨hA, hB, hC, hD, hE, hF, hG⟩ := hSw; go_simp; (try with_reducible rfl)
  simp only [Act.put, List.setIfInBounds_toArray, List.set_cons_zero, List.set_cons_succ]
  refine wpAnyH_ready (rs := [8]) (by kernel_rfl) (by simp) ?_
  refine (AllReadyH.cons (o := { dst := none, op := Op.store 24 (Operand.tmp 2) (Operand.tmp 18), type := 0, pos := "parts.go:20", after := #[{ on := 3, ground := Ground.data }, { on := 0, ground := Ground.phase }, { on := 1, ground := Ground.phase }, { on := 2, ground := Ground.phase }, { on := 3, ground := Ground.phase }, { on := 4, ground := Ground.textOnly Departure.lateStores }, { on := 5, ground := Ground.textOnly Departure.lateStores }, { on := 6, ground := Ground.textOnly Departure.lateStores }, { on := 7, ground := Ground.textOnly Departure.lateStores }], guard := none }) rfl (fun K hK => ?_) AllReadyH.nil)
  have m0 := cell_of_row _ _ 0 _ _ _ x2
  have m1 := cell_of_row _ _ 1 _ _ _ x2
  have m2 := cell_of_row _ _ 2 _ _ _ x2
  have f0 := frozen_of_row _ _ 0 _ 24 x2
  have f1 := frozen_of_row _ _ 1 _ 24 x2
  have f2 := frozen_of_row _ _ 2 _ 24 x2
  go_simp
  have hl1 := laid_box x2 x.kind x.n a2 x.kids.length c2
  have k1 := ko3 V0 (w.heap.size + 1) (.int .i64 x.kind) (.int .i64 x.n) (.slice a2 x.kids.length c2)
  have y3 := (k1 (w.heap.size + 2) (by omega)).trans x3
  have hb1 := ((hb.setCell (p := ⟨w.heap.size + 1, 0, none⟩) (by show w.heap.size ≤ w.heap.size + 1; omega) (.int .i64 x.kind)).setCell (p := ⟨w.heap.size + 1, 1, none⟩) (by show w.heap.size ≤ w.heap.size + 1; omega) (.int .i64 x.n)).setCell (p := ⟨w.heap.size + 1, 2, none⟩) (by show w.heap.size ≤ w.heap.size + 1; omega) (.slice a2 x.kids.length c2)
  have hc1 := held_after hHeld' k1 (by omega) (by omega)
  refine hK.out _ _ ?_ (fun hHeld => ?_)
  · exact hc1
  clear hK K
  try simp only [Act.put, List.setIfInBounds_toArray, List.set_cons_zero, List.set_cons_succ]
  clear m0 m1 m2 f0 f1 f2
  generalize hV : ((V0.setCell ⟨w.heap.size + 1, 0, none⟩ (.int .i64 x.kind)).setCell ⟨w.heap.size + 1, 1, none⟩ (.int .i64 x.n)).setCell ⟨w.heap.size + 1, 2, none⟩ (.slice a2 x.kids.length c2) = V1 at *
  clear hV
  refine wpAnyH_ready (rs := [9]) (by kernel_rfl) (by simp) ?_
  refine (AllReadyH.cons (o := { dst := none, op := Op.store 24 (Operand.tmp 3) (Operand.tmp 22), type := 0, pos := "parts.go:20", after := #[{ on := 7, ground := Ground.data }, { on := 8, ground := Ground.chain }, { on := 0, ground := Ground.phase }, { on := 1, ground := Ground.phase }, { on := 2, ground := Ground.phase }, { on := 3, ground := Ground.phase }, { on := 4, ground := Ground.phase }, { on := 5, ground := Ground.phase }, { on := 6, ground := Ground.phase }, { on := 7, ground := Ground.phase }, { on := 8, ground := Ground.phase }], guard := none }) rfl (fun K hK => ?_) AllReadyH.nil)
  have m0 := cell_of_row _ _ 0 _ _ _ y3
  have m1 := cell_of_row _ _ 1 _ _ _ y3
  have m2 := cell_of_row _ _ 2 _ _ _ y3
  have f0 := frozen_of_row _ _ 0 _ 24 y3
  have f1 := frozen_of_row _ _ 1 _ 24 y3
  have f2 := frozen_of_row _ _ 2 _ 24 y3
  go_simp
  have hl2 := laid_box y3 y.kind y.n a1 y.kids.length c1
  have k2 := ko3 V1 (w.heap.size + 2) (.int .i64 y.kind) (.int .i64 y.n) (.slice a1 y.kids.length c1)
  have z2 := (k2 (w.heap.size + 1) (by omega)).trans hl1
  have hb2 := ((hb1.setCell (p := ⟨w.heap.size + 2, 0, none⟩) (by show w.heap.size ≤ w.heap.size + 2; omega) (.int .i64 y.kind)).setCell (p := ⟨w.heap.size + 2, 1, none⟩) (by show w.heap.size ≤ w.heap.size + 2; omega) (.int .i64 y.n)).setCell (p := ⟨w.heap.size + 2, 2, none⟩) (by show w.heap.size ≤ w.heap.size + 2; omega) (.slice a1 y.kids.length c1)
  have hc2 := held_after hc1 k2 (by omega) (by omega)
  refine hK.out _ _ ?_ (fun hHeld => ?_)
  · exact hc2
  clear hK K
  try simp only [Act.put, List.setIfInBounds_toArray, List.set_cons_zero, List.set_cons_succ]
  clear m0 m1 m2 f0 f1 f2
  generalize hV : ((V1.setCell ⟨w.heap.size + 2, 0, none⟩ (.int .i64 y.kind)).setCell ⟨w.heap.size + 2, 1, none⟩ (.int .i64 y.n)).setCell ⟨w.heap.size + 2, 2, none⟩ (.slice a1 y.kids.length c1) = V2 at *
  clear hV
  refine wpAnyH_done (by kernel_rfl) ?_ _
  go_wp2_with fail
  refine bodyPost_ret (results_two24 rfl _ _ (w.heap.size + 1) (w.heap.size + 2) _ _ _ _ _ _ rfl rfl z2 hl2) rfl ?_
  exact ⟨a2, c2, a1, c1, rfl, htx, hty, hb2⟩
end Go.Proofs.Ytbmgkgoghgdbhaa.Te
