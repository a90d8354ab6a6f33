/- sides, inTheEnd. No conditions. -/
import Derived.Test.YtbmgkgoghgdbhaaZy
import Derived.Test.YtbmgkgoghgdbhaaPa
import Derived.Deep.CutRange
import Derived.Deep.LoopGhost
namespace Go.Proofs.Ytbmgkgoghgdbhaa.Te
open Go.RowKit

theorem size24 : (Try.prog.info? 24).map (·.size) = some 3 := by kernel_rfl
theorem ko3 (w : World) (b : Nat) (u v x : Value) (g : Nat) (hg : g ≠ b) : (((w.setCell ⟨b, 0, none⟩ u).setCell ⟨b, 1, none⟩ v).setCell ⟨b, 2, none⟩ x).heap[g]? = w.heap[g]? := by
  rw [heap_setCell_other _ _ _ _ hg, heap_setCell_other _ _ _ _ hg, heap_setCell_other _ _ _ _ hg]
theorem laid_box {w : World} {b : Nat} {u v x : Value} (h : w.heap[b]? = some (.cells #[u, v, x] 24 (0, 0))) (k n : Int) (a : Option Addr) (l m : Nat) : (((w.setCell ⟨b, 0, none⟩ (.int .i64 k)).setCell ⟨b, 1, none⟩ (.int .i64 n)).setCell ⟨b, 2, none⟩ (.slice a l m)).heap[b]? = some (.cells #[.int .i64 k, .int .i64 n, .slice a l m] 24 (0, 0)) := by
  have h1 := heap_setCell_same w b 0 _ 24 (.int .i64 k) h
  have h2 := heap_setCell_same _ b 1 _ 24 (.int .i64 n) h1
  have h3 := heap_setCell_same _ b 2 _ 24 (.slice a l m) h2
  simpa using h3
theorem three_boxes (w : World) (a b c : Obj) : (((w.alloc a).alloc b).alloc c).heap[w.heap.size]? = some a ∧ (((w.alloc a).alloc b).alloc c).heap[w.heap.size + 1]? = some b ∧ (((w.alloc a).alloc b).alloc c).heap[w.heap.size + 2]? = some c ∧ (((w.alloc a).alloc b).alloc c).heap.size = w.heap.size + 3 ∧ Below w.heap.size w (((w.alloc a).alloc b).alloc c) := by
  obtain ⟨h1, h2, h3, h4⟩ := two_boxes w a b
  have hb : Below ((w.alloc a).alloc b).heap.size ((w.alloc a).alloc b) (((w.alloc a).alloc b).alloc c) := (Below.refl _ _).alloc (Nat.le_refl _) c
  refine ⟨(hb.block _ (by omega)).trans h1, (hb.block _ (by omega)).trans h2, ?_, by simp, h4.trans (hb.mono h4.size)⟩
  rw [← h3]
  exact heap_alloc_new _ _
theorem lt_of_get {w : World} {g : Nat} {o : Obj} (h : w.heap[g]? = some o) : g < w.heap.size := (Array.getElem?_eq_some_iff.1 h).1
theorem results_two24 {fn : Func} {p u : Tmp} (h : fn.results = #[.cell p 24, .cell u 24]) (tmps : Array Value) (w : World) (g1 g2 : Nat) (v0 v1 v2 u0 u1 u2 : Value) (hp : tmps.getD p undef = .pointer (some ⟨g1, 0, none⟩)) (hu : tmps.getD u undef = .pointer (some ⟨g2, 0, none⟩)) (h1 : w.heap[g1]? = some (.cells #[v0, v1, v2] 24 (0, 0))) (h2 : w.heap[g2]? = some (.cells #[u0, u1, u2] 24 (0, 0))) : (results fn tmps).run Try.prog w = .ok (.tuple #[.agg #[v0, v1, v2], .agg #[u0, u1, u2]]) w := by
  have l1 := run_loadVar_row (P := Try.prog) w g1 24 24 #[v0, v1, v2] (0, 0) _ h1 Try.underlying24 rfl size24
  have l2 := run_loadVar_row (P := Try.prog) w g2 24 24 #[u0, u1, u2] (0, 0) _ h2 Try.underlying24 rfl size24
  unfold results
  rw [h]
  rw [Array.getD_eq_getD_getElem?] at hp hu
  simp [hp, hu, asAddr, l1, l2]
theorem held_after {W V : World} {b g B : Nat} {c0 : Value} {o1 o2 o3 o4 o5 o6 : Nat} {c1 c2 c3 c4 c5 c6 : Value} (h : W.cell? ⟨b, 2, none⟩ = some c0 ∧ W.cell? ⟨g, o1, none⟩ = some c1 ∧ W.cell? ⟨g, o2, none⟩ = some c2 ∧ W.cell? ⟨g, o3, none⟩ = some c3 ∧ W.cell? ⟨g, o4, none⟩ = some c4 ∧ W.cell? ⟨g, o5, none⟩ = some c5 ∧ W.cell? ⟨g, o6, none⟩ = some c6) (hk : ∀ q, q ≠ B → V.heap[q]? = W.heap[q]?) (hb : b ≠ B) (hg : g ≠ B) :
    V.cell? ⟨b, 2, none⟩ = some c0 ∧ V.cell? ⟨g, o1, none⟩ = some c1 ∧ V.cell? ⟨g, o2, none⟩ = some c2 ∧ V.cell? ⟨g, o3, none⟩ = some c3 ∧ V.cell? ⟨g, o4, none⟩ = some c4 ∧ V.cell? ⟨g, o5, none⟩ = some c5 ∧ V.cell? ⟨g, o6, none⟩ = some c6 :=
  ⟨(cell_same (hk b hb)).trans h.1, (cell_same (hk g hg)).trans h.2.1, (cell_same (hk g hg)).trans h.2.2.1, (cell_same (hk g hg)).trans h.2.2.2.1, (cell_same (hk g hg)).trans h.2.2.2.2.1, (cell_same (hk g hg)).trans h.2.2.2.2.2.1, (cell_same (hk g hg)).trans h.2.2.2.2.2.2⟩
set_option maxHeartbeats 4000000 in
theorem sides_ov {d : Nat} (x y : Ty) (a : Option Addr) (c : Nat) (w0 w : World) (h0 : Below w0.heap.size w0 w) (h : TyAt w0 (d + 1) (ov x y) a c) : Calls Try.prog 82 #[vty (ov x y) a c] w fun e w' => ∃ ax cx ay cy, e = .returned (.tuple #[vty x ax cx, vty y ay cy]) ∧ TyAt w0 d x ax cx ∧ TyAt w0 d y ay cy ∧ Below w.heap.size w w' := by
  have hw0 := h0.size
  obtain ⟨g, off, a1, c1, ga, hg, u0, u1, u2, ht1⟩ := h.kid (j := 0) (by simp [ov])
  obtain ⟨g', off', a2, c2, ga', hg', v0, v1, v2, ht2⟩ := h.kid (j := 1) (by simp [ov])
  subst ga
  simp only [Option.some.injEq, Addr.mk.injEq, and_true] at ga'
  obtain ⟨rfl, rfl⟩ := ga'
  simp only [ov, List.getElem_cons_zero, List.getElem_cons_succ, Nat.zero_mul, Nat.add_zero, Nat.one_mul] at u0 u1 u2 v0 v1 v2 ht1 ht2
  have htx := ht1
  have hty := ht2
  unfold vty ov
  dsimp only
  rw [show ([x, y] : List Ty).length = 2 from rfl]
  go_enter Try.func82, Try.ntmps82
  go_upto_region 2 with fail
  have h3 := three_boxes w (.cells #[.int .i64 2, .int .i64 0, .slice (some ⟨g, off, none⟩) 2 c] 24) (.cells #[.int .i64 0, .int .i64 0, .slice none 0 0] 24) (.cells #[.int .i64 0, .int .i64 0, .slice none 0 0] 24)
  generalize hV : ((w.alloc (.cells #[.int .i64 2, .int .i64 0, .slice (some ⟨g, off, none⟩) 2 c] 24)).alloc (.cells #[.int .i64 0, .int .i64 0, .slice none 0 0] 24)).alloc (.cells #[.int .i64 0, .int .i64 0, .slice none 0 0] 24) = V at *
  obtain ⟨x1, x2, x3, hs, hb⟩ := h3
  have hbb := h0.trans (hb.mono hw0)
  have q0 := (hbb.cell (p := ⟨g, _, none⟩) hg).trans u0
  have q1 := (hbb.cell (p := ⟨g, _, none⟩) hg).trans u1
  have q2 := (hbb.cell (p := ⟨g, _, none⟩) hg).trans u2
  have q3 := (hbb.cell (p := ⟨g, _, none⟩) hg).trans v0
  have q4 := (hbb.cell (p := ⟨g, _, none⟩) hg).trans v1
  have q5 := (hbb.cell (p := ⟨g, _, none⟩) hg).trans v2
  clear hV u0 u1 u2 v0 v1 v2 ht1 ht2 h
  refine wp_region_held_drew (S := fun W => W.cell? ⟨w.heap.size, 2, none⟩ = some (.slice (some ⟨g, off, none⟩) 2 c) ∧ W.cell? ⟨g, off, none⟩ = some (.int .i64 x.kind) ∧ W.cell? ⟨g, off + 1, none⟩ = some (.int .i64 x.n) ∧ W.cell? ⟨g, off + 2, none⟩ = some (.slice a1 x.kids.length c1) ∧ W.cell? ⟨g, off + 3, none⟩ = some (.int .i64 y.kind) ∧ W.cell? ⟨g, off + 3 + 1, none⟩ = some (.int .i64 y.n) ∧ W.cell? ⟨g, off + 3 + 2, none⟩ = some (.slice a2 y.kids.length c2)) (by kernel_rfl) (by exact ⟨cell_of_row _ _ 2 _ _ _ x1, q0, q1, q2, q3, q4, q5⟩) (fun hHeld => ?_)
  have hHeld' := hHeld
  have hb := hb.drew
  have x2 : V.drew.heap[w.heap.size + 1]? = some (.cells #[.int .i64 0, .int .i64 0, .slice none 0 0] 24) := x2
  have x3 : V.drew.heap[w.heap.size + 2]? = some (.cells #[.int .i64 0, .int .i64 0, .slice none 0 0] 24) := x3
  generalize hV : V.drew = V0 at *
  clear hV
  refine wpAnyH_take (i := 0) (oi := { dst := some 7, op := Op.fieldAddr 24 (Operand.tmp 1) 2, type := 0, pos := "parts.go:18", after := #[], guard := none }) (v := ?_) rfl (by kernel_rfl) (by kernel_rfl) (by kernel_rfl) (fun _ _ _ h => h) (Or.inl ⟨by rfl, ?_⟩) (by assumption) ?_
  case refine_2 => intro w hSw; (try dsimp only at hSw); obtain ⟨hA, hB, hC, hD, hE, hF, hG⟩ := hSw; go_simp; (try with_reducible rfl)
  simp only [Act.put, List.setIfInBounds_toArray, List.set_cons_zero, List.set_cons_succ]
  refine wpAnyH_take (i := 1) (oi := { dst := some 8, op := Op.load 22 (Operand.tmp 7), type := 22, pos := "parts.go:18", after := #[{ on := 0, ground := Ground.data }], guard := none }) (v := ?_) rfl (by kernel_rfl) (by kernel_rfl) (by kernel_rfl) (fun _ _ _ h => h) (Or.inl ⟨by rfl, ?_⟩) (by assumption) ?_
  case refine_2 => intro w hSw; (try dsimp only at hSw); obtain ⟨hA, hB, hC, hD, hE, hF, hG⟩ := hSw; go_simp; (try with_reducible rfl)
  simp only [Act.put, List.setIfInBounds_toArray, List.set_cons_zero, List.set_cons_succ]
  refine wpAnyH_take (i := 2) (oi := { dst := some 9, op := Op.indexAddr 22 (Operand.tmp 8) (Operand.const (Value.int IntKind.i64 0)), type := 0, pos := "parts.go:18", after := #[{ on := 1, ground := Ground.data }], guard := none }) (v := ?_) rfl (by kernel_rfl) (by kernel_rfl) (by kernel_rfl) (fun _ _ _ h => h) (Or.inl ⟨by rfl, ?_⟩) (by assumption) ?_
  case refine_2 => intro w hSw; (try dsimp only at hSw); obtain ⟨hA, hB, hC, hD, hE, hF, hG⟩ := hSw; go_simp; (try with_reducible rfl)
  simp only [Act.put, List.setIfInBounds_toArray, List.set_cons_zero, List.set_cons_succ]
  refine wpAnyH_take (i := 3) (oi := { dst := some 10, op := Op.load 24 (Operand.tmp 9), type := 24, pos := "parts.go:18", after := #[{ on := 2, ground := Ground.data }], guard := none }) (v := ?_) rfl (by kernel_rfl) (by kernel_rfl) (by kernel_rfl) (fun _ _ _ h => h) (Or.inl ⟨by rfl, ?_⟩) (by assumption) ?_
  case refine_2 => intro w hSw; (try dsimp only at hSw); obtain ⟨hA, hB, hC, hD, hE, hF, hG⟩ := hSw; go_simp; (try with_reducible rfl)
  simp only [Act.put, List.setIfInBounds_toArray, List.set_cons_zero, List.set_cons_succ]
  refine wpAnyH_take (i := 4) (oi := { dst := some 11, op := Op.fieldAddr 24 (Operand.tmp 1) 2, type := 0, pos := "parts.go:18", after := #[{ on := 8, ground := Ground.gcOnly Departure.lateStores }], guard := none }) (v := ?_) rfl (by kernel_rfl) (by kernel_rfl) (by kernel_rfl) (fun _ _ _ h => h) (Or.inl ⟨by rfl, ?_⟩) (by assumption) ?_
  case refine_2 => intro w hSw; (try dsimp only at hSw); obtain ⟨hA, hB, hC, hD, hE, hF, hG⟩ := hSw; go_simp; (try with_reducible rfl)
  simp only [Act.put, List.setIfInBounds_toArray, List.set_cons_zero, List.set_cons_succ]
  refine wpAnyH_take (i := 5) (oi := { dst := some 12, op := Op.load 22 (Operand.tmp 11), type := 22, pos := "parts.go:18", after := #[{ on := 4, ground := Ground.data }, { on := 8, ground := Ground.gcOnly Departure.lateStores }], guard := none }) (v := ?_) rfl (by kernel_rfl) (by kernel_rfl) (by kernel_rfl) (fun _ _ _ h => h) (Or.inl ⟨by rfl, ?_⟩) (by assumption) ?_
  case refine_2 => intro w hSw; (try dsimp only at hSw); obtain ⟨hA, hB, hC, hD, hE, hF, hG⟩ := hSw; go_simp; (try with_reducible rfl)
  simp only [Act.put, List.setIfInBounds_toArray, List.set_cons_zero, List.set_cons_succ]
  refine wpAnyH_take (i := 6) (oi := { dst := some 13, op := Op.indexAddr 22 (Operand.tmp 12) (Operand.const (Value.int IntKind.i64 1)), type := 0, pos := "parts.go:18", after := #[{ on := 5, ground := Ground.data }, { on := 8, ground := Ground.gcOnly Departure.lateStores }], guard := none }) (v := ?_) rfl (by kernel_rfl) (by kernel_rfl) (by kernel_rfl) (fun _ _ _ h => h) (Or.inl ⟨by rfl, ?_⟩) (by assumption) ?_
  case refine_2 => intro w hSw; (try dsimp only at hSw); obtain ⟨hA, hB, hC, hD, hE, hF, hG⟩ := hSw; go_simp; (try with_reducible rfl)
  simp only [Act.put, List.setIfInBounds_toArray, List.set_cons_zero, List.set_cons_succ]
  refine wpAnyH_take (i := 7) (oi := { dst := some 14, op := Op.load 24 (Operand.tmp 13), type := 24, pos := "parts.go:18", after := #[{ on := 6, ground := Ground.data }, { on := 8, ground := Ground.gcOnly Departure.lateStores }], guard := none }) (v := ?_) rfl (by kernel_rfl) (by kernel_rfl) (by kernel_rfl) (fun _ _ _ h => h) (Or.inl ⟨by rfl, ?_⟩) (by assumption) ?_
  case refine_2 => intro w hSw; (try dsimp only at hSw); obtain ⟨hA, hB, hC, hD, hE, hF, hG⟩ := hSw; go_simp; (try with_reducible rfl)
  simp only [Act.put, List.setIfInBounds_toArray, List.set_cons_zero, List.set_cons_succ]
  refine wpAnyH_ready (rs := [8]) (by kernel_rfl) (by simp) ?_
  refine (AllReadyH.cons (o := { dst := none, op := Op.store 24 (Operand.tmp 2) (Operand.tmp 10), type := 0, pos := "parts.go:18", after := #[{ on := 3, ground := Ground.data }, { on := 0, ground := Ground.phase }, { on := 1, ground := Ground.phase }, { on := 2, ground := Ground.phase }, { on := 3, ground := Ground.phase }, { on := 4, ground := Ground.textOnly Departure.lateStores }, { on := 5, ground := Ground.textOnly Departure.lateStores }, { on := 6, ground := Ground.textOnly Departure.lateStores }, { on := 7, ground := Ground.textOnly Departure.lateStores }], guard := none }) rfl (fun K hK => ?_) AllReadyH.nil)
  have m0 := cell_of_row _ _ 0 _ _ _ x2
  have m1 := cell_of_row _ _ 1 _ _ _ x2
  have m2 := cell_of_row _ _ 2 _ _ _ x2
  have f0 := frozen_of_row _ _ 0 _ 24 x2
  have f1 := frozen_of_row _ _ 1 _ 24 x2
  have f2 := frozen_of_row _ _ 2 _ 24 x2
  go_simp
  have hl1 := laid_box x2 x.kind x.n a1 x.kids.length c1
  have k1 := ko3 V0 (w.heap.size + 1) (.int .i64 x.kind) (.int .i64 x.n) (.slice a1 x.kids.length c1)
  have y3 := (k1 (w.heap.size + 2) (by omega)).trans x3
  have hb1 := ((hb.setCell (p := ⟨w.heap.size + 1, 0, none⟩) (by show w.heap.size ≤ w.heap.size + 1; omega) (.int .i64 x.kind)).setCell (p := ⟨w.heap.size + 1, 1, none⟩) (by show w.heap.size ≤ w.heap.size + 1; omega) (.int .i64 x.n)).setCell (p := ⟨w.heap.size + 1, 2, none⟩) (by show w.heap.size ≤ w.heap.size + 1; omega) (.slice a1 x.kids.length c1)
  have hc1 := held_after hHeld' k1 (by omega) (by omega)
  refine hK.out _ _ ?_ (fun hHeld => ?_)
  · exact hc1
  clear hK K
  try simp only [Act.put, List.setIfInBounds_toArray, List.set_cons_zero, List.set_cons_succ]
  clear m0 m1 m2 f0 f1 f2
  generalize hV : ((V0.setCell ⟨w.heap.size + 1, 0, none⟩ (.int .i64 x.kind)).setCell ⟨w.heap.size + 1, 1, none⟩ (.int .i64 x.n)).setCell ⟨w.heap.size + 1, 2, none⟩ (.slice a1 x.kids.length c1) = V1 at *
  clear hV
  refine wpAnyH_ready (rs := [9]) (by kernel_rfl) (by simp) ?_
  refine (AllReadyH.cons (o := { dst := none, op := Op.store 24 (Operand.tmp 3) (Operand.tmp 14), type := 0, pos := "parts.go:18", after := #[{ on := 7, ground := Ground.data }, { on := 8, ground := Ground.chain }, { on := 0, ground := Ground.phase }, { on := 1, ground := Ground.phase }, { on := 2, ground := Ground.phase }, { on := 3, ground := Ground.phase }, { on := 4, ground := Ground.phase }, { on := 5, ground := Ground.phase }, { on := 6, ground := Ground.phase }, { on := 7, ground := Ground.phase }, { on := 8, ground := Ground.phase }], guard := none }) rfl (fun K hK => ?_) AllReadyH.nil)
  have m0 := cell_of_row _ _ 0 _ _ _ y3
  have m1 := cell_of_row _ _ 1 _ _ _ y3
  have m2 := cell_of_row _ _ 2 _ _ _ y3
  have f0 := frozen_of_row _ _ 0 _ 24 y3
  have f1 := frozen_of_row _ _ 1 _ 24 y3
  have f2 := frozen_of_row _ _ 2 _ 24 y3
  go_simp
  have hl2 := laid_box y3 y.kind y.n a2 y.kids.length c2
  have k2 := ko3 V1 (w.heap.size + 2) (.int .i64 y.kind) (.int .i64 y.n) (.slice a2 y.kids.length c2)
  have z2 := (k2 (w.heap.size + 1) (by omega)).trans hl1
  have hb2 := ((hb1.setCell (p := ⟨w.heap.size + 2, 0, none⟩) (by show w.heap.size ≤ w.heap.size + 2; omega) (.int .i64 y.kind)).setCell (p := ⟨w.heap.size + 2, 1, none⟩) (by show w.heap.size ≤ w.heap.size + 2; omega) (.int .i64 y.n)).setCell (p := ⟨w.heap.size + 2, 2, none⟩) (by show w.heap.size ≤ w.heap.size + 2; omega) (.slice a2 y.kids.length c2)
  have hc2 := held_after hc1 k2 (by omega) (by omega)
  refine hK.out _ _ ?_ (fun hHeld => ?_)
  · exact hc2
  clear hK K
  try simp only [Act.put, List.setIfInBounds_toArray, List.set_cons_zero, List.set_cons_succ]
  clear m0 m1 m2 f0 f1 f2
  generalize hV : ((V1.setCell ⟨w.heap.size + 2, 0, none⟩ (.int .i64 y.kind)).setCell ⟨w.heap.size + 2, 1, none⟩ (.int .i64 y.n)).setCell ⟨w.heap.size + 2, 2, none⟩ (.slice a2 y.kids.length c2) = V2 at *
  clear hV
  refine wpAnyH_done (by kernel_rfl) ?_ _
  go_wp2_with fail
  refine bodyPost_ret (results_two24 rfl _ _ (w.heap.size + 1) (w.heap.size + 2) _ _ _ _ _ _ rfl rfl z2 hl2) rfl ?_
  exact ⟨a1, c1, a2, c2, rfl, htx, hty, hb2⟩
set_option maxHeartbeats 4000000 in
theorem sides_un {d : Nat} (x y : Ty) (a : Option Addr) (c : Nat) (w0 w : World) (h0 : Below w0.heap.size w0 w) (h : TyAt w0 (d + 1) (un y x) a c) : Calls Try.prog 82 #[vty (un y x) a c] w fun e w' => ∃ ax cx ay cy, e = .returned (.tuple #[vty x ax cx, vty y ay cy]) ∧ TyAt w0 d x ax cx ∧ TyAt w0 d y ay cy ∧ Below w.heap.size w w' := by
  have hw0 := h0.size
  obtain ⟨g, off, a1, c1, ga, hg, u0, u1, u2, ht1⟩ := h.kid (j := 0) (by simp [un])
  obtain ⟨g', off', a2, c2, ga', hg', v0, v1, v2, ht2⟩ := h.kid (j := 1) (by simp [un])
  subst ga
  simp only [Option.some.injEq, Addr.mk.injEq, and_true] at ga'
  obtain ⟨rfl, rfl⟩ := ga'
  simp only [un, List.getElem_cons_zero, List.getElem_cons_succ, Nat.zero_mul, Nat.add_zero, Nat.one_mul] at u0 u1 u2 v0 v1 v2 ht1 ht2
  have htx := ht2
  have hty := ht1
  unfold vty un
  dsimp only
  rw [show ([y, x] : List Ty).length = 2 from rfl]
  go_enter Try.func82, Try.ntmps82
  go_upto_region 3 with fail
  have h3 := three_boxes w (.cells #[.int .i64 3, .int .i64 0, .slice (some ⟨g, off, none⟩) 2 c] 24) (.cells #[.int .i64 0, .int .i64 0, .slice none 0 0] 24) (.cells #[.int .i64 0, .int .i64 0, .slice none 0 0] 24)
  generalize hV : ((w.alloc (.cells #[.int .i64 3, .int .i64 0, .slice (some ⟨g, off, none⟩) 2 c] 24)).alloc (.cells #[.int .i64 0, .int .i64 0, .slice none 0 0] 24)).alloc (.cells #[.int .i64 0, .int .i64 0, .slice none 0 0] 24) = V at *
  obtain ⟨x1, x2, x3, hs, hb⟩ := h3
  have hbb := h0.trans (hb.mono hw0)
  have q0 := (hbb.cell (p := ⟨g, _, none⟩) hg).trans u0
  have q1 := (hbb.cell (p := ⟨g, _, none⟩) hg).trans u1
  have q2 := (hbb.cell (p := ⟨g, _, none⟩) hg).trans u2
  have q3 := (hbb.cell (p := ⟨g, _, none⟩) hg).trans v0
  have q4 := (hbb.cell (p := ⟨g, _, none⟩) hg).trans v1
  have q5 := (hbb.cell (p := ⟨g, _, none⟩) hg).trans v2
  clear hV u0 u1 u2 v0 v1 v2 ht1 ht2 h
  refine wp_region_held_drew (S := fun W => W.cell? ⟨w.heap.size, 2, none⟩ = some (.slice (some ⟨g, off, none⟩) 2 c) ∧ W.cell? ⟨g, off, none⟩ = some (.int .i64 y.kind) ∧ W.cell? ⟨g, off + 1, none⟩ = some (.int .i64 y.n) ∧ W.cell? ⟨g, off + 2, none⟩ = some (.slice a1 y.kids.length c1) ∧ W.cell? ⟨g, off + 3, none⟩ = some (.int .i64 x.kind) ∧ W.cell? ⟨g, off + 3 + 1, none⟩ = some (.int .i64 x.n) ∧ W.cell? ⟨g, off + 3 + 2, none⟩ = some (.slice a2 x.kids.length c2)) (by kernel_rfl) (by exact ⟨cell_of_row _ _ 2 _ _ _ x1, q0, q1, q2, q3, q4, q5⟩) (fun hHeld => ?_)
  have hHeld' := hHeld
  have hb := hb.drew
  have x2 : V.drew.heap[w.heap.size + 1]? = some (.cells #[.int .i64 0, .int .i64 0, .slice none 0 0] 24) := x2
  have x3 : V.drew.heap[w.heap.size + 2]? = some (.cells #[.int .i64 0, .int .i64 0, .slice none 0 0] 24) := x3
  generalize hV : V.drew = V0 at *
  clear hV
  refine wpAnyH_take (i := 0) (oi := { dst := some 15, op := Op.fieldAddr 24 (Operand.tmp 1) 2, type := 0, pos := "parts.go:20", after := #[], guard := none }) (v := ?_) rfl (by kernel_rfl) (by kernel_rfl) (by kernel_rfl) (fun _ _ _ h => h) (Or.inl ⟨by rfl, ?_⟩) (by assumption) ?_
  case refine_2 => intro w hSw; (try dsimp only at hSw); obtain ⟨hA, hB, hC, hD, hE, hF, hG⟩ := hSw; go_simp; (try with_reducible rfl)
  simp only [Act.put, List.setIfInBounds_toArray, List.set_cons_zero, List.set_cons_succ]
  refine wpAnyH_take (i := 1) (oi := { dst := some 16, op := Op.load 22 (Operand.tmp 15), type := 22, pos := "parts.go:20", after := #[{ on := 0, ground := Ground.data }], guard := none }) (v := ?_) rfl (by kernel_rfl) (by kernel_rfl) (by kernel_rfl) (fun _ _ _ h => h) (Or.inl ⟨by rfl, ?_⟩) (by assumption) ?_
  case refine_2 => intro w hSw; (try dsimp only at hSw); obtain ⟨hA, hB, hC, hD, hE, hF, hG⟩ := hSw; go_simp; (try with_reducible rfl)
  simp only [Act.put, List.setIfInBounds_toArray, List.set_cons_zero, List.set_cons_succ]
  refine wpAnyH_take (i := 2) (oi := { dst := some 17, op := Op.indexAddr 22 (Operand.tmp 16) (Operand.const (Value.int IntKind.i64 1)), type := 0, pos := "parts.go:20", after := #[{ on := 1, ground := Ground.data }], guard := none }) (v := ?_) rfl (by kernel_rfl) (by kernel_rfl) (by kernel_rfl) (fun _ _ _ h => h) (Or.inl ⟨by rfl, ?_⟩) (by assumption) ?_
  case refine_2 => intro w hSw; (try dsimp only at hSw); obtain ⟨hA, hB, hC, hD, hE, hF, hG⟩ := hSw; go_simp; (try with_reducible rfl)
  simp only [Act.put, List.setIfInBounds_toArray, List.set_cons_zero, List.set_cons_succ]
  refine wpAnyH_take (i := 3) (oi := { dst := some 18, op := Op.load 24 (Operand.tmp 17), type := 24, pos := "parts.go:20", after := #[{ on := 2, ground := Ground.data }], guard := none }) (v := ?_) rfl (by kernel_rfl) (by kernel_rfl) (by kernel_rfl) (fun _ _ _ h => h) (Or.inl ⟨by rfl, ?_⟩) (by assumption) ?_
  case refine_2 => intro w hSw; (try dsimp only at hSw); obtain ⟨hA, hB, hC, hD, hE, hF, hG⟩ := hSw; go_simp; (try with_reducible rfl)
  simp only [Act.put, List.setIfInBounds_toArray, List.set_cons_zero, List.set_cons_succ]
  refine wpAnyH_take (i := 4) (oi := { dst := some 19, op := Op.fieldAddr 24 (Operand.tmp 1) 2, type := 0, pos := "parts.go:20", after := #[{ on := 8, ground := Ground.gcOnly Departure.lateStores }], guard := none }) (v := ?_) rfl (by kernel_rfl) (by kernel_rfl) (by kernel_rfl) (fun _ _ _ h => h) (Or.inl ⟨by rfl, ?_⟩) (by assumption) ?_
  case refine_2 => intro w hSw; (try dsimp only at hSw); obtain ⟨hA, hB, hC, hD, hE, hF, hG⟩ := hSw; go_simp; (try with_reducible rfl)
  simp only [Act.put, List.setIfInBounds_toArray, List.set_cons_zero, List.set_cons_succ]
  refine wpAnyH_take (i := 5) (oi := { dst := some 20, op := Op.load 22 (Operand.tmp 19), type := 22, pos := "parts.go:20", after := #[{ on := 4, ground := Ground.data }, { on := 8, ground := Ground.gcOnly Departure.lateStores }], guard := none }) (v := ?_) rfl (by kernel_rfl) (by kernel_rfl) (by kernel_rfl) (fun _ _ _ h => h) (Or.inl ⟨by rfl, ?_⟩) (by assumption) ?_
  case refine_2 => intro w hSw; (try dsimp only at hSw); obtain ⟨hA, hB, hC, hD, hE, hF, hG⟩ := hSw; go_simp; (try with_reducible rfl)
  simp only [Act.put, List.setIfInBounds_toArray, List.set_cons_zero, List.set_cons_succ]
  refine wpAnyH_take (i := 6) (oi := { dst := some 21, op := Op.indexAddr 22 (Operand.tmp 20) (Operand.const (Value.int IntKind.i64 0)), type := 0, pos := "parts.go:20", after := #[{ on := 5, ground := Ground.data }, { on := 8, ground := Ground.gcOnly Departure.lateStores }], guard := none }) (v := ?_) rfl (by kernel_rfl) (by kernel_rfl) (by kernel_rfl) (fun _ _ _ h => h) (Or.inl ⟨by rfl, ?_⟩) (by assumption) ?_
  case refine_2 => intro w hSw; (try dsimp only at hSw); obtain ⟨hA, hB, hC, hD, hE, hF, hG⟩ := hSw; go_simp; (try with_reducible rfl)
  simp only [Act.put, List.setIfInBounds_toArray, List.set_cons_zero, List.set_cons_succ]
  refine wpAnyH_take (i := 7) (oi := { dst := some 22, op := Op.load 24 (Operand.tmp 21), type := 24, pos := "parts.go:20", after := #[{ on := 6, ground := Ground.data }, { on := 8, ground := Ground.gcOnly Departure.lateStores }], guard := none }) (v := ?_) rfl (by kernel_rfl) (by kernel_rfl) (by kernel_rfl) (fun _ _ _ h => h) (Or.inl ⟨by rfl, ?_⟩) (by assumption) ?_
  case refine_2 => intro w hSw; (try dsimp only at hSw); obtain ⟨hA, hB, hC, hD, hE, hF, hG⟩ := hSw; go_simp; (try with_reducible rfl)
  simp only [Act.put, List.setIfInBounds_toArray, List.set_cons_zero, List.set_cons_succ]
  refine wpAnyH_ready (rs := [8]) (by kernel_rfl) (by simp) ?_
  refine (AllReadyH.cons (o := { dst := none, op := Op.store 24 (Operand.tmp 2) (Operand.tmp 18), type := 0, pos := "parts.go:20", after := #[{ on := 3, ground := Ground.data }, { on := 0, ground := Ground.phase }, { on := 1, ground := Ground.phase }, { on := 2, ground := Ground.phase }, { on := 3, ground := Ground.phase }, { on := 4, ground := Ground.textOnly Departure.lateStores }, { on := 5, ground := Ground.textOnly Departure.lateStores }, { on := 6, ground := Ground.textOnly Departure.lateStores }, { on := 7, ground := Ground.textOnly Departure.lateStores }], guard := none }) rfl (fun K hK => ?_) AllReadyH.nil)
  have m0 := cell_of_row _ _ 0 _ _ _ x2
  have m1 := cell_of_row _ _ 1 _ _ _ x2
  have m2 := cell_of_row _ _ 2 _ _ _ x2
  have f0 := frozen_of_row _ _ 0 _ 24 x2
  have f1 := frozen_of_row _ _ 1 _ 24 x2
  have f2 := frozen_of_row _ _ 2 _ 24 x2
  go_simp
  have hl1 := laid_box x2 x.kind x.n a2 x.kids.length c2
  have k1 := ko3 V0 (w.heap.size + 1) (.int .i64 x.kind) (.int .i64 x.n) (.slice a2 x.kids.length c2)
  have y3 := (k1 (w.heap.size + 2) (by omega)).trans x3
  have hb1 := ((hb.setCell (p := ⟨w.heap.size + 1, 0, none⟩) (by show w.heap.size ≤ w.heap.size + 1; omega) (.int .i64 x.kind)).setCell (p := ⟨w.heap.size + 1, 1, none⟩) (by show w.heap.size ≤ w.heap.size + 1; omega) (.int .i64 x.n)).setCell (p := ⟨w.heap.size + 1, 2, none⟩) (by show w.heap.size ≤ w.heap.size + 1; omega) (.slice a2 x.kids.length c2)
  have hc1 := held_after hHeld' k1 (by omega) (by omega)
  refine hK.out _ _ ?_ (fun hHeld => ?_)
  · exact hc1
  clear hK K
  try simp only [Act.put, List.setIfInBounds_toArray, List.set_cons_zero, List.set_cons_succ]
  clear m0 m1 m2 f0 f1 f2
  generalize hV : ((V0.setCell ⟨w.heap.size + 1, 0, none⟩ (.int .i64 x.kind)).setCell ⟨w.heap.size + 1, 1, none⟩ (.int .i64 x.n)).setCell ⟨w.heap.size + 1, 2, none⟩ (.slice a2 x.kids.length c2) = V1 at *
  clear hV
  refine wpAnyH_ready (rs := [9]) (by kernel_rfl) (by simp) ?_
  refine (AllReadyH.cons (o := { dst := none, op := Op.store 24 (Operand.tmp 3) (Operand.tmp 22), type := 0, pos := "parts.go:20", after := #[{ on := 7, ground := Ground.data }, { on := 8, ground := Ground.chain }, { on := 0, ground := Ground.phase }, { on := 1, ground := Ground.phase }, { on := 2, ground := Ground.phase }, { on := 3, ground := Ground.phase }, { on := 4, ground := Ground.phase }, { on := 5, ground := Ground.phase }, { on := 6, ground := Ground.phase }, { on := 7, ground := Ground.phase }, { on := 8, ground := Ground.phase }], guard := none }) rfl (fun K hK => ?_) AllReadyH.nil)
  have m0 := cell_of_row _ _ 0 _ _ _ y3
  have m1 := cell_of_row _ _ 1 _ _ _ y3
  have m2 := cell_of_row _ _ 2 _ _ _ y3
  have f0 := frozen_of_row _ _ 0 _ 24 y3
  have f1 := frozen_of_row _ _ 1 _ 24 y3
  have f2 := frozen_of_row _ _ 2 _ 24 y3
  go_simp
  have hl2 := laid_box y3 y.kind y.n a1 y.kids.length c1
  have k2 := ko3 V1 (w.heap.size + 2) (.int .i64 y.kind) (.int .i64 y.n) (.slice a1 y.kids.length c1)
  have z2 := (k2 (w.heap.size + 1) (by omega)).trans hl1
  have hb2 := ((hb1.setCell (p := ⟨w.heap.size + 2, 0, none⟩) (by show w.heap.size ≤ w.heap.size + 2; omega) (.int .i64 y.kind)).setCell (p := ⟨w.heap.size + 2, 1, none⟩) (by show w.heap.size ≤ w.heap.size + 2; omega) (.int .i64 y.n)).setCell (p := ⟨w.heap.size + 2, 2, none⟩) (by show w.heap.size ≤ w.heap.size + 2; omega) (.slice a1 y.kids.length c1)
  have hc2 := held_after hc1 k2 (by omega) (by omega)
  refine hK.out _ _ ?_ (fun hHeld => ?_)
  · exact hc2
  clear hK K
  try simp only [Act.put, List.setIfInBounds_toArray, List.set_cons_zero, List.set_cons_succ]
  clear m0 m1 m2 f0 f1 f2
  generalize hV : ((V1.setCell ⟨w.heap.size + 2, 0, none⟩ (.int .i64 y.kind)).setCell ⟨w.heap.size + 2, 1, none⟩ (.int .i64 y.n)).setCell ⟨w.heap.size + 2, 2, none⟩ (.slice a1 y.kids.length c1) = V2 at *
  clear hV
  refine wpAnyH_done (by kernel_rfl) ?_ _
  go_wp2_with fail
  refine bodyPost_ret (results_two24 rfl _ _ (w.heap.size + 1) (w.heap.size + 2) _ _ _ _ _ _ rfl rfl z2 hl2) rfl ?_
  exact ⟨a2, c2, a1, c1, rfl, htx, hty, hb2⟩
set_option maxHeartbeats 4000000 in
theorem end_any (d : Nat) (p : Ty) (a : Option Addr) (c : Nat) (w : World) (hp : Gp p) (h : TyAt w d p a c) : Calls Try.prog 72 #[vty p a c] w fun e w' => ∃ a' c', e = .returned (vty (bs (endN p)) a' c') ∧ Below w.heap.size w w' := by
  obtain ⟨k, n, ks⟩ := p
  obtain ⟨e, he⟩ : ∃ e, endN ⟨k, n, ks⟩ = e := ⟨_, rfl⟩
  rw [he]
  unfold vty
  dsimp only
  go_enter Try.func72, Try.ntmps72
  have h2 := two_boxes w (.cells #[.int .i64 k, .int .i64 n, .slice a ks.length c] 24) (.cells #[.int .i64 0, .int .i64 0, .slice none 0 0] 24)
  go_wp2
  generalize hV : (w.alloc (.cells #[.int .i64 k, .int .i64 n, .slice a ks.length c] 24)).alloc (.cells #[.int .i64 0, .int .i64 0, .slice none 0 0] 24) = V at *
  obtain ⟨x1, x2, hs, hb⟩ := h2
  go_loopg [] (sz ⟨k, n, ks⟩) (fun gk wr => ∃ (q : Ty) (a' : Option Addr) (c' d' : Nat), gk = sz q ∧ Below w.heap.size w wr ∧ wr.heap[w.heap.size + 1]? = some (.cells #[.int .i64 0, .int .i64 0, .slice none 0 0] 24) ∧ Gp q ∧ endN q = e ∧ wr.heap[w.heap.size]? = some (.cells #[.int .i64 q.kind, .int .i64 q.n, .slice a' q.kids.length c'] 24 (0, 0)) ∧ TyAt w d' q a' c')
  case atStart => exact ⟨⟨k, n, ks⟩, a, c, d, rfl, hb, x2, hp, he, x1, h⟩
  case round =>
    obtain ⟨q, a', c', d', rfl, hB, r2, hq, heq, r1, hT⟩ := hrel
    clear hp h he x1 x2 hV
    rcases gp_cases hq with ⟨z, rfl, _⟩ | ⟨x, y, rfl, hx, hy⟩ | ⟨y, x, rfl, hy, hx⟩
    · rw [endN_bs] at heq
      subst heq
      have r1' : wr.heap[w.heap.size]? = some (.cells #[.int .i64 1, .int .i64 z, .slice a' 0 c'] 24 (0, 0)) := r1
      have m0 := cell_of_row _ _ 0 _ _ _ r2
      have m1 := cell_of_row _ _ 1 _ _ _ r2
      have m2 := cell_of_row _ _ 2 _ _ _ r2
      have f0 := frozen_of_row _ _ 0 _ 24 r2
      have f1 := frozen_of_row _ _ 1 _ 24 r2
      have f2 := frozen_of_row _ _ 2 _ 24 r2
      have k0 := cell_of_row _ _ 0 _ _ _ r1'
      have k1 := cell_of_row _ _ 1 _ _ _ r1'
      have k2 := cell_of_row _ _ 2 _ _ _ r1'
      go_wp2
      have hl := laid_box r2 1 z a' 0 c'
      refine bodyPost_ret (results_cell_row rfl _ _ (w.heap.size + 1) 24 _ (0, 0) _ rfl hl Try.underlying24 rfl size24) rfl ⟨a', c', rfl, ?_⟩
      exact ((hB.setCell (p := ⟨w.heap.size + 1, 0, none⟩) (by show w.heap.size ≤ w.heap.size + 1; omega) _).setCell (p := ⟨w.heap.size + 1, 1, none⟩) (by show w.heap.size ≤ w.heap.size + 1; omega) _).setCell (p := ⟨w.heap.size + 1, 2, none⟩) (by show w.heap.size ≤ w.heap.size + 1; omega) _
    · have r1' : wr.heap[w.heap.size]? = some (.cells #[.int .i64 2, .int .i64 0, .slice a' 2 c'] 24 (0, 0)) := r1
      obtain ⟨d2, rfl⟩ := hT.pos
      have K82 := sides_ov x y a' c' w wr hB hT
      unfold vty ov at K82
      dsimp only at K82
      rw [show ([x, y] : List Ty).length = 2 from rfl] at K82
      have k0 := cell_of_row _ _ 0 _ _ _ r1'
      have k1 := cell_of_row _ _ 1 _ _ _ r1'
      have k2 := cell_of_row _ _ 2 _ _ _ r1'
      go_wp2_with (go_at_call 82; (with_reducible refine K82.mono ?_); rintro e3 w3 ⟨ax, cx, ay, cy, rfl, tx, ty, hb3⟩; have s1 := (hb3.block w.heap.size (lt_of_get r1')).trans r1'; have m0 := cell_of_row _ _ 0 _ _ _ s1; have m1 := cell_of_row _ _ 1 _ _ _ s1; have m2 := cell_of_row _ _ 2 _ _ _ s1; have f0 := frozen_of_row _ _ 0 _ 24 s1; have f1 := frozen_of_row _ _ 1 _ 24 s1; have f2 := frozen_of_row _ _ 2 _ 24 s1)
      have hl := laid_box s1 x.kind x.n ax x.kids.length cx
      have kk := ko3 w3 w.heap.size (.int .i64 x.kind) (.int .i64 x.n) (.slice ax x.kids.length cx)
      have s2 := (kk (w.heap.size + 1) (by omega)).trans ((hb3.block (w.heap.size + 1) (lt_of_get r2)).trans r2)
      have hb4 := hB.trans (hb3.mono hB.size)
      have hb5 := ((hb4.setCell (p := ⟨w.heap.size, 0, none⟩) (Nat.le_refl _) (.int .i64 x.kind)).setCell (p := ⟨w.heap.size, 1, none⟩) (Nat.le_refl _) (.int .i64 x.n)).setCell (p := ⟨w.heap.size, 2, none⟩) (Nat.le_refl _) (.slice ax x.kids.length cx)
      go_roundg (sz x)
      case measure => rw [sz_ov]; omega
      case rel => exact ⟨x, ax, cx, d2, rfl, hb5, s2, hx, by rw [← heq, endN_ov], hl, tx⟩
    · have r1' : wr.heap[w.heap.size]? = some (.cells #[.int .i64 3, .int .i64 0, .slice a' 2 c'] 24 (0, 0)) := r1
      obtain ⟨d2, rfl⟩ := hT.pos
      have K82 := sides_un x y a' c' w wr hB hT
      unfold vty un at K82
      dsimp only at K82
      rw [show ([y, x] : List Ty).length = 2 from rfl] at K82
      have k0 := cell_of_row _ _ 0 _ _ _ r1'
      have k1 := cell_of_row _ _ 1 _ _ _ r1'
      have k2 := cell_of_row _ _ 2 _ _ _ r1'
      go_wp2_with (go_at_call 82; (with_reducible refine K82.mono ?_); rintro e3 w3 ⟨ax, cx, ay, cy, rfl, tx, ty, hb3⟩; have s1 := (hb3.block w.heap.size (lt_of_get r1')).trans r1'; have m0 := cell_of_row _ _ 0 _ _ _ s1; have m1 := cell_of_row _ _ 1 _ _ _ s1; have m2 := cell_of_row _ _ 2 _ _ _ s1; have f0 := frozen_of_row _ _ 0 _ 24 s1; have f1 := frozen_of_row _ _ 1 _ 24 s1; have f2 := frozen_of_row _ _ 2 _ 24 s1)
      have hl := laid_box s1 x.kind x.n ax x.kids.length cx
      have kk := ko3 w3 w.heap.size (.int .i64 x.kind) (.int .i64 x.n) (.slice ax x.kids.length cx)
      have s2 := (kk (w.heap.size + 1) (by omega)).trans ((hb3.block (w.heap.size + 1) (lt_of_get r2)).trans r2)
      have hb4 := hB.trans (hb3.mono hB.size)
      have hb5 := ((hb4.setCell (p := ⟨w.heap.size, 0, none⟩) (Nat.le_refl _) (.int .i64 x.kind)).setCell (p := ⟨w.heap.size, 1, none⟩) (Nat.le_refl _) (.int .i64 x.n)).setCell (p := ⟨w.heap.size, 2, none⟩) (Nat.le_refl _) (.slice ax x.kids.length cx)
      go_roundg (sz x)
      case measure => rw [sz_un]; omega
      case rel => exact ⟨x, ax, cx, d2, rfl, hb5, s2, hx, by rw [← heq, endN_un], hl, tx⟩
end Go.Proofs.Ytbmgkgoghgdbhaa.Te
