/- The law's own base, over, under. No conditions. -/
import Derived.Test.YtbmgkgoghgdbhaaRdM
namespace Go.Proofs.Ytbmgkgoghgdbhaa.Te
open Go.RowKit

theorem ty_bs {w : World} {d : Nat} {k : Int} (hk : i64B k) (a : Option Addr) (c : Nat) : TyAt w (d + 1) (bs k) a c := ⟨by show i64B 1; constructor <;> decide, hk, by simp [bs], .inl rfl⟩
theorem ty_two {w : World} {d g : Nat} {kd : Int} {x y : Ty} {ax ay : Option Addr} {cx cy : Nat} (hkd : i64B kd) (hx : TyAt w d x ax cx) (hy : TyAt w d y ay cy) (hh : w.heap[g]? = some (.cells #[.int .i64 x.kind, .int .i64 x.n, .slice ax x.kids.length cx, .int .i64 y.kind, .int .i64 y.n, .slice ay y.kids.length cy] 24 (0, 0))) (c : Nat) : TyAt w (d + 1) ⟨kd, 0, [x, y]⟩ (some ⟨g, 0, none⟩) c := by
  refine ⟨hkd, by show i64B 0; constructor <;> decide, by simp, .inr ⟨g, 0, rfl, lt_of_get hh, fun j hj => ?_⟩⟩
  have hj2 : j = 0 ∨ j = 1 := by simp at hj; omega
  rcases hj2 with rfl | rfl
  · exact ⟨ax, cx, cell_of_row _ _ 0 _ _ _ hh, cell_of_row _ _ 1 _ _ _ hh, cell_of_row _ _ 2 _ _ _ hh, hx⟩
  · exact ⟨ay, cy, cell_of_row _ _ 3 _ _ _ hh, cell_of_row _ _ 4 _ _ _ hh, cell_of_row _ _ 5 _ _ _ hh, hy⟩
set_option maxHeartbeats 1000000 in
theorem base_any (k : Int) (w : World) : Calls Try.prog 36 #[.int .i64 k] w fun e w' => e = .returned (vty (bs k) none 0) ∧ Below w.heap.size w w' := by
  go_enter Try.func36, Try.ntmps36
  go_upto_region 1 with fail
  have hVb : Below w.heap.size w (w.alloc (.cells #[.int .i64 0, .int .i64 0, .slice none 0 0] 24)) := (Below.refl _ w).alloc (Nat.le_refl _) _
  have x1 := heap_alloc_new w (.cells #[.int .i64 0, .int .i64 0, .slice none 0 0] 24)
  generalize hV : w.alloc (.cells #[.int .i64 0, .int .i64 0, .slice none 0 0] 24) = V at *
  clear hV
  have m0 := cell_of_row _ _ 0 _ _ _ x1
  have m1 := cell_of_row _ _ 1 _ _ _ x1
  have m2 := cell_of_row _ _ 2 _ _ _ x1
  have f0 := frozen_of_row _ _ 0 _ 24 x1
  have f1 := frozen_of_row _ _ 1 _ 24 x1
  have f2 := frozen_of_row _ _ 2 _ 24 x1
  go_wp2_with fail
  have hl3 := laid_box x1 1 k none 0 0
  refine bodyPost_ret (results_cell_row rfl _ _ w.heap.size 24 _ (0, 0) _ rfl hl3 Try.underlying24 rfl size24) rfl ⟨rfl, ?_⟩
  exact ((hVb.setCell (p := ⟨w.heap.size, 0, none⟩) (Nat.le_refl _) _).setCell (p := ⟨w.heap.size, 1, none⟩) (Nat.le_refl _) _).setCell (p := ⟨w.heap.size, 2, none⟩) (Nat.le_refl _) _
set_option maxHeartbeats 1000000 in
theorem over_any {d : Nat} (x y : Ty) (ax : Option Addr) (cx : Nat) (ay : Option Addr) (cy : Nat) (w : World) (hx : TyAt w d x ax cx) (hy : TyAt w d y ay cy) : Calls Try.prog 31 #[vty x ax cx, vty y ay cy] w fun e w' => ∃ a c, e = .returned (vty ⟨2, 0, [x, y]⟩ a c) ∧ TyAt w' (d + 1) ⟨2, 0, [x, y]⟩ a c ∧ Below w.heap.size w w' := by
  have HX : Hid (TyAt w d x ax cx) := hx
  have HY : Hid (TyAt w d y ay cy) := hy
  clear hx hy
  unfold vty
  dsimp only
  go_enter Try.func31, Try.ntmps31
  go_upto_region 1 with fail
  obtain ⟨x1, x2, x3, hVs, hVb⟩ := three_boxes w (.cells #[.int .i64 x.kind, .int .i64 x.n, .slice ax x.kids.length cx] 24) (.cells #[.int .i64 y.kind, .int .i64 y.n, .slice ay y.kids.length cy] 24) (.cells #[.int .i64 0, .int .i64 0, .slice none 0 0] 24)
  generalize hV : ((w.alloc (.cells #[.int .i64 x.kind, .int .i64 x.n, .slice ax x.kids.length cx] 24)).alloc (.cells #[.int .i64 y.kind, .int .i64 y.n, .slice ay y.kids.length cy] 24)).alloc (.cells #[.int .i64 0, .int .i64 0, .slice none 0 0] 24) = V at *
  clear hV
  have hb4 : Below V.heap.size V (V.alloc (.cells #[.int .i64 x.kind, .int .i64 x.n, .slice ax x.kids.length cx, .int .i64 y.kind, .int .i64 y.n, .slice ay y.kids.length cy] 24)) := (Below.refl _ V).alloc (Nat.le_refl _) _
  have x4 := heap_alloc_new V (.cells #[.int .i64 x.kind, .int .i64 x.n, .slice ax x.kids.length cx, .int .i64 y.kind, .int .i64 y.n, .slice ay y.kids.length cy] 24)
  have x5 := (hb4.block _ (lt_of_get x3)).trans x3
  have HVS : Hid (V.heap.size = w.heap.size + 3) := hVs
  have i0 := cell_of_row _ _ 0 _ _ _ x1
  have i1 := cell_of_row _ _ 1 _ _ _ x1
  have i2 := cell_of_row _ _ 2 _ _ _ x1
  have j0 := cell_of_row _ _ 0 _ _ _ x2
  have j1 := cell_of_row _ _ 1 _ _ _ x2
  have j2 := cell_of_row _ _ 2 _ _ _ x2
  have m0 := cell_of_row _ _ 0 _ _ _ x5
  have m1 := cell_of_row _ _ 1 _ _ _ x5
  have m2 := cell_of_row _ _ 2 _ _ _ x5
  have f0 := frozen_of_row _ _ 0 _ 24 x5
  have f1 := frozen_of_row _ _ 1 _ 24 x5
  have f2 := frozen_of_row _ _ 2 _ 24 x5
  have X4 : Hid _ := x4
  have X5 : Hid _ := x5
  clear x4 x5 hVs
  go_wp2_with fail
  have hl3 := laid_box X5.out 2 0 (some ⟨V.heap.size, 0, none⟩) 2 2
  have hB := hVb.trans (hb4.mono hVb.size)
  have hBF := ((hB.setCell (p := ⟨w.heap.size + 2, 0, none⟩) (by show w.heap.size ≤ w.heap.size + 2; omega) (.int .i64 2)).setCell (p := ⟨w.heap.size + 2, 1, none⟩) (by show w.heap.size ≤ w.heap.size + 2; omega) (.int .i64 0)).setCell (p := ⟨w.heap.size + 2, 2, none⟩) (by show w.heap.size ≤ w.heap.size + 2; omega) (.slice (some ⟨V.heap.size, 0, none⟩) 2 2)
  have kF := ko3 (V.alloc (.cells #[.int .i64 x.kind, .int .i64 x.n, .slice ax x.kids.length cx, .int .i64 y.kind, .int .i64 y.n, .slice ay y.kids.length cy] 24)) (w.heap.size + 2) (.int .i64 2) (.int .i64 0) (.slice (some ⟨V.heap.size, 0, none⟩) 2 2)
  refine bodyPost_ret (results_cell_row rfl _ _ (w.heap.size + 2) 24 _ (0, 0) _ rfl hl3 Try.underlying24 rfl size24) rfl ⟨some ⟨V.heap.size, 0, none⟩, 2, rfl, ?_, hBF⟩
  exact ty_two (by constructor <;> decide) (HX.out.below hBF) (HY.out.below hBF) ((kF _ (by have := HVS.out; omega)).trans X4.out) 2
set_option maxHeartbeats 1000000 in
theorem under_any {d : Nat} (x y : Ty) (ax : Option Addr) (cx : Nat) (ay : Option Addr) (cy : Nat) (w : World) (hx : TyAt w d x ax cx) (hy : TyAt w d y ay cy) : Calls Try.prog 32 #[vty x ax cx, vty y ay cy] w fun e w' => ∃ a c, e = .returned (vty ⟨3, 0, [x, y]⟩ a c) ∧ TyAt w' (d + 1) ⟨3, 0, [x, y]⟩ a c ∧ Below w.heap.size w w' := by
  have HX : Hid (TyAt w d x ax cx) := hx
  have HY : Hid (TyAt w d y ay cy) := hy
  clear hx hy
  unfold vty
  dsimp only
  go_enter Try.func32, Try.ntmps32
  go_upto_region 1 with fail
  obtain ⟨x1, x2, x3, hVs, hVb⟩ := three_boxes w (.cells #[.int .i64 x.kind, .int .i64 x.n, .slice ax x.kids.length cx] 24) (.cells #[.int .i64 y.kind, .int .i64 y.n, .slice ay y.kids.length cy] 24) (.cells #[.int .i64 0, .int .i64 0, .slice none 0 0] 24)
  generalize hV : ((w.alloc (.cells #[.int .i64 x.kind, .int .i64 x.n, .slice ax x.kids.length cx] 24)).alloc (.cells #[.int .i64 y.kind, .int .i64 y.n, .slice ay y.kids.length cy] 24)).alloc (.cells #[.int .i64 0, .int .i64 0, .slice none 0 0] 24) = V at *
  clear hV
  have hb4 : Below V.heap.size V (V.alloc (.cells #[.int .i64 x.kind, .int .i64 x.n, .slice ax x.kids.length cx, .int .i64 y.kind, .int .i64 y.n, .slice ay y.kids.length cy] 24)) := (Below.refl _ V).alloc (Nat.le_refl _) _
  have x4 := heap_alloc_new V (.cells #[.int .i64 x.kind, .int .i64 x.n, .slice ax x.kids.length cx, .int .i64 y.kind, .int .i64 y.n, .slice ay y.kids.length cy] 24)
  have x5 := (hb4.block _ (lt_of_get x3)).trans x3
  have HVS : Hid (V.heap.size = w.heap.size + 3) := hVs
  have i0 := cell_of_row _ _ 0 _ _ _ x1
  have i1 := cell_of_row _ _ 1 _ _ _ x1
  have i2 := cell_of_row _ _ 2 _ _ _ x1
  have j0 := cell_of_row _ _ 0 _ _ _ x2
  have j1 := cell_of_row _ _ 1 _ _ _ x2
  have j2 := cell_of_row _ _ 2 _ _ _ x2
  have m0 := cell_of_row _ _ 0 _ _ _ x5
  have m1 := cell_of_row _ _ 1 _ _ _ x5
  have m2 := cell_of_row _ _ 2 _ _ _ x5
  have f0 := frozen_of_row _ _ 0 _ 24 x5
  have f1 := frozen_of_row _ _ 1 _ 24 x5
  have f2 := frozen_of_row _ _ 2 _ 24 x5
  have X4 : Hid _ := x4
  have X5 : Hid _ := x5
  clear x4 x5 hVs
  go_wp2_with fail
  have hl3 := laid_box X5.out 3 0 (some ⟨V.heap.size, 0, none⟩) 2 2
  have hB := hVb.trans (hb4.mono hVb.size)
  have hBF := ((hB.setCell (p := ⟨w.heap.size + 2, 0, none⟩) (by show w.heap.size ≤ w.heap.size + 2; omega) (.int .i64 3)).setCell (p := ⟨w.heap.size + 2, 1, none⟩) (by show w.heap.size ≤ w.heap.size + 2; omega) (.int .i64 0)).setCell (p := ⟨w.heap.size + 2, 2, none⟩) (by show w.heap.size ≤ w.heap.size + 2; omega) (.slice (some ⟨V.heap.size, 0, none⟩) 2 2)
  have kF := ko3 (V.alloc (.cells #[.int .i64 x.kind, .int .i64 x.n, .slice ax x.kids.length cx, .int .i64 y.kind, .int .i64 y.n, .slice ay y.kids.length cy] 24)) (w.heap.size + 2) (.int .i64 3) (.int .i64 0) (.slice (some ⟨V.heap.size, 0, none⟩) 2 2)
  refine bodyPost_ret (results_cell_row rfl _ _ (w.heap.size + 2) 24 _ (0, 0) _ rfl hl3 Try.underlying24 rfl size24) rfl ⟨some ⟨V.heap.size, 0, none⟩, 2, rfl, ?_, hBF⟩
  exact ty_two (by constructor <;> decide) (HX.out.below hBF) (HY.out.below hBF) ((kF _ (by have := HVS.out; omega)).trans X4.out) 2
end Go.Proofs.Ytbmgkgoghgdbhaa.Te
