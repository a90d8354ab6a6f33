/- lifted, put: at the fixed term. -/
import Derived.Test.YtofbnfpncekddaaVd
namespace Go.Proofs.Ytofbnfpncekddaa.Te
open Go.RowKit

theorem con_lift (x : Option Addr) (c : Nat) (w : World) : Calls Try.prog 51 #[vcon x c, .int .i64 0] w fun e w' => Con w e w' := by
  have K47 := con_with x c 53
  unfold vcon at K47 ⊢
  go_enter Try.func51, Try.ntmps51
  go_upto_region 1 with fail
  have h3 := three_boxes w (.cells #[.int .i64 2, .int .i64 3, .int .i64 0, .int .i64 0, .slice none 0 0, .slice x 0 c] 27) (.cells #[.int .i64 0] 3) (.cells #[.int .i64 0, .int .i64 0, .int .i64 0, .int .i64 0, .slice none 0 0, .slice none 0 0] 27)
  generalize hV : ((w.alloc (.cells #[.int .i64 2, .int .i64 3, .int .i64 0, .int .i64 0, .slice none 0 0, .slice x 0 c] 27)).alloc (.cells #[.int .i64 0] 3)).alloc (.cells #[.int .i64 0, .int .i64 0, .int .i64 0, .int .i64 0, .slice none 0 0, .slice none 0 0] 27) = V at *
  obtain ⟨x1, x2, x3, hs, hb⟩ := h3
  clear hV
  have k0 := cell_of_row _ _ 0 _ _ _ x1
  have k1 := cell_of_row _ _ 1 _ _ _ x1
  have k2 := cell_of_row _ _ 2 _ _ _ x1
  have k3 := cell_of_row _ _ 3 _ _ _ x1
  have k4 := cell_of_row _ _ 4 _ _ _ x1
  have k5 := cell_of_row _ _ 5 _ _ _ x1
  go_wp2_with (go_at_call 47; (with_reducible refine (K47 _ _).mono ?_); rintro e w1 ⟨⟨x5, c5, rfl⟩, hb1⟩; unfold vcon; have hU := (hb1.block (w.heap.size + 2) (by omega)).trans x3; have m0 := cell_of_row _ _ 0 _ _ _ hU; have m1 := cell_of_row _ _ 1 _ _ _ hU; have m2 := cell_of_row _ _ 2 _ _ _ hU; have m3 := cell_of_row _ _ 3 _ _ _ hU; have m4 := cell_of_row _ _ 4 _ _ _ hU; have m5 := cell_of_row _ _ 5 _ _ _ hU; have f0 := frozen_of_row _ _ 0 _ 27 hU; have f1 := frozen_of_row _ _ 1 _ 27 hU; have f2 := frozen_of_row _ _ 2 _ 27 hU; have f3 := frozen_of_row _ _ 3 _ 27 hU; have f4 := frozen_of_row _ _ 4 _ 27 hU; have f5 := frozen_of_row _ _ 5 _ 27 hU)
  have hl := laid6 hU (.int .i64 2) (.int .i64 3) (.int .i64 0) (.int .i64 0) (.slice none 0 0) (.slice x5 0 c5)
  refine bodyPost_ret (results_row6 rfl _ _ (w.heap.size + 2) _ _ _ _ _ _ rfl hl) rfl ?_
  exact ⟨⟨_, _, rfl⟩, bel6 (hb.trans (hb1.mono hb.size)) (by omega) _ _ _ _ _ _⟩
theorem not_inner (w : World) : Calls Try.prog 49 #[.int .i64 0, .int .i64 0] w fun e w' => e = .returned (.bool false) ∧ w' = w := by
  go_enter Try.func49, Try.ntmps49
  go_wp2
  go_ret
  exact ⟨rfl, rfl⟩
theorem con_put1 (x : Option Addr) (c B : Nat) (w : World) (hB : w.heap[B]? = some (.cells #[.int .i64 2, .int .i64 3, .int .i64 0, .int .i64 0, .slice none 0 0, .slice x 0 c] 27)) : Calls Try.prog 48 #[.int .i64 0, .int .i64 0, .pointer (some ⟨B, 0, none⟩)] w fun e w' => Con w e w' := by
  have K51 := con_lift x c
  have K49 := not_inner
  unfold vcon at K51
  go_enter Try.func48, Try.ntmps48
  go_upto_region 1 with fail
  have x1 := heap_alloc_new w (.cells #[.int .i64 0, .int .i64 0, .int .i64 0, .int .i64 0, .slice none 0 0, .slice none 0 0] 27)
  have hb : Below w.heap.size w (w.alloc (.cells #[.int .i64 0, .int .i64 0, .int .i64 0, .int .i64 0, .slice none 0 0, .slice none 0 0] 27)) := (Below.refl _ w).alloc (Nat.le_refl _) _
  have hs : (w.alloc (.cells #[.int .i64 0, .int .i64 0, .int .i64 0, .int .i64 0, .slice none 0 0, .slice none 0 0] 27)).heap.size = w.heap.size + 1 := by simp
  generalize hV : w.alloc (.cells #[.int .i64 0, .int .i64 0, .int .i64 0, .int .i64 0, .slice none 0 0, .slice none 0 0] 27) = V at *
  have y1 := (hb.block B (lt_of_get hB)).trans hB
  clear hV
  have k0 := cell_of_row _ _ 0 _ _ _ y1
  have k1 := cell_of_row _ _ 1 _ _ _ y1
  have k2 := cell_of_row _ _ 2 _ _ _ y1
  have k3 := cell_of_row _ _ 3 _ _ _ y1
  have k4 := cell_of_row _ _ 4 _ _ _ y1
  have k5 := cell_of_row _ _ 5 _ _ _ y1
  go_wp2_with (first | (go_at_call 49; (with_reducible refine (K49 _).mono ?_); rintro e w1 ⟨rfl, rfl⟩) | (go_at_call 51; (with_reducible refine (K51 _).mono ?_); rintro e w1 ⟨⟨x5, c5, rfl⟩, hb1⟩; unfold vcon; have hU := (hb1.block w.heap.size (by omega)).trans x1; have m0 := cell_of_row _ _ 0 _ _ _ hU; have m1 := cell_of_row _ _ 1 _ _ _ hU; have m2 := cell_of_row _ _ 2 _ _ _ hU; have m3 := cell_of_row _ _ 3 _ _ _ hU; have m4 := cell_of_row _ _ 4 _ _ _ hU; have m5 := cell_of_row _ _ 5 _ _ _ hU; have f0 := frozen_of_row _ _ 0 _ 27 hU; have f1 := frozen_of_row _ _ 1 _ 27 hU; have f2 := frozen_of_row _ _ 2 _ 27 hU; have f3 := frozen_of_row _ _ 3 _ 27 hU; have f4 := frozen_of_row _ _ 4 _ 27 hU; have f5 := frozen_of_row _ _ 5 _ 27 hU))
  have hl := laid6 hU (.int .i64 2) (.int .i64 3) (.int .i64 0) (.int .i64 0) (.slice none 0 0) (.slice x5 0 c5)
  refine bodyPost_ret (results_row6 rfl _ _ w.heap.size _ _ _ _ _ _ rfl hl) rfl ?_
  exact ⟨⟨_, _, rfl⟩, bel6 (hb.trans (hb1.mono hb.size)) (Nat.le_refl _) _ _ _ _ _ _⟩
def vvar (x : Option Addr) (c : Nat) : Value := .agg #[.int .i64 1, .int .i64 0, .int .i64 0, .int .i64 0, .slice none 0 0, .slice x 0 c]
theorem var_with (x xv : Option Addr) (c cv B : Nat) (w : World) (hB : w.heap[B]? = some (.cells #[.int .i64 2, .int .i64 3, .int .i64 0, .int .i64 0, .slice none 0 0, .slice x 0 c] 27)) : Calls Try.prog 47 #[vvar xv cv, .int .i64 0, .func (.func 48) #[] #[.pointer (some ⟨B, 0, none⟩)]] w fun e w' => Con w e w' := by
  have K48 := fun W (h : Below w.heap.size w W) => con_put1 x c B W ((h.block B (lt_of_get hB)).trans hB)
  unfold vvar
  go_enter Try.func47, Try.ntmps47
  go_upto_region 1 with fail
  have h2 := two_boxes w (.cells #[.int .i64 1, .int .i64 0, .int .i64 0, .int .i64 0, .slice none 0 0, .slice xv 0 cv] 27) (.cells #[.int .i64 0, .int .i64 0, .int .i64 0, .int .i64 0, .slice none 0 0, .slice none 0 0] 27)
  generalize hV : (w.alloc (.cells #[.int .i64 1, .int .i64 0, .int .i64 0, .int .i64 0, .slice none 0 0, .slice xv 0 cv] 27)).alloc (.cells #[.int .i64 0, .int .i64 0, .int .i64 0, .int .i64 0, .slice none 0 0, .slice none 0 0] 27) = V at *
  obtain ⟨x1, x2, hs, hb⟩ := h2
  clear hV
  have k0 := cell_of_row _ _ 0 _ _ _ x1
  have k1 := cell_of_row _ _ 1 _ _ _ x1
  have k2 := cell_of_row _ _ 2 _ _ _ x1
  have k3 := cell_of_row _ _ 3 _ _ _ x1
  have k4 := cell_of_row _ _ 4 _ _ _ x1
  have k5 := cell_of_row _ _ 5 _ _ _ x1
  go_wp2_with (go_at_call 48; (with_reducible refine (K48 _ hb).mono ?_); rintro e w1 ⟨⟨x5, c5, rfl⟩, hb1⟩; unfold vcon; have hU := (hb1.block (w.heap.size + 1) (by omega)).trans x2; have m0 := cell_of_row _ _ 0 _ _ _ hU; have m1 := cell_of_row _ _ 1 _ _ _ hU; have m2 := cell_of_row _ _ 2 _ _ _ hU; have m3 := cell_of_row _ _ 3 _ _ _ hU; have m4 := cell_of_row _ _ 4 _ _ _ hU; have m5 := cell_of_row _ _ 5 _ _ _ hU; have f0 := frozen_of_row _ _ 0 _ 27 hU; have f1 := frozen_of_row _ _ 1 _ 27 hU; have f2 := frozen_of_row _ _ 2 _ 27 hU; have f3 := frozen_of_row _ _ 3 _ 27 hU; have f4 := frozen_of_row _ _ 4 _ 27 hU; have f5 := frozen_of_row _ _ 5 _ 27 hU)
  have hl := laid6 hU (.int .i64 2) (.int .i64 3) (.int .i64 0) (.int .i64 0) (.slice none 0 0) (.slice x5 0 c5)
  refine bodyPost_ret (results_row6 rfl _ _ (w.heap.size + 1) _ _ _ _ _ _ rfl hl) rfl ?_
  exact ⟨⟨_, _, rfl⟩, bel6 (hb.trans (hb1.mono hb.size)) (by omega) _ _ _ _ _ _⟩
theorem con_put (x xv : Option Addr) (c cv : Nat) (w : World) : Calls Try.prog 41 #[vcon x c, vvar xv cv] w fun e w' => Con w e w' := by
  have K47 := fun W (hB : W.heap[w.heap.size]? = some (.cells #[.int .i64 2, .int .i64 3, .int .i64 0, .int .i64 0, .slice none 0 0, .slice x 0 c] 27)) => var_with x xv c cv w.heap.size W hB
  unfold vvar at K47
  unfold vcon vvar
  go_enter Try.func41, Try.ntmps41
  go_upto_region 1 with fail
  have h3 := three_boxes w (.cells #[.int .i64 2, .int .i64 3, .int .i64 0, .int .i64 0, .slice none 0 0, .slice x 0 c] 27) (.cells #[.int .i64 1, .int .i64 0, .int .i64 0, .int .i64 0, .slice none 0 0, .slice xv 0 cv] 27) (.cells #[.int .i64 0, .int .i64 0, .int .i64 0, .int .i64 0, .slice none 0 0, .slice none 0 0] 27)
  generalize hV : ((w.alloc (.cells #[.int .i64 2, .int .i64 3, .int .i64 0, .int .i64 0, .slice none 0 0, .slice x 0 c] 27)).alloc (.cells #[.int .i64 1, .int .i64 0, .int .i64 0, .int .i64 0, .slice none 0 0, .slice xv 0 cv] 27)).alloc (.cells #[.int .i64 0, .int .i64 0, .int .i64 0, .int .i64 0, .slice none 0 0, .slice none 0 0] 27) = V at *
  obtain ⟨x1, x2, x3, hs, hb⟩ := h3
  clear hV
  have k0 := cell_of_row _ _ 0 _ _ _ x2
  have k1 := cell_of_row _ _ 1 _ _ _ x2
  have k2 := cell_of_row _ _ 2 _ _ _ x2
  have k3 := cell_of_row _ _ 3 _ _ _ x2
  have k4 := cell_of_row _ _ 4 _ _ _ x2
  have k5 := cell_of_row _ _ 5 _ _ _ x2
  go_wp2_with (go_at_call 47; (with_reducible refine (K47 _ x1).mono ?_); rintro e w1 ⟨⟨x5, c5, rfl⟩, hb1⟩; unfold vcon; have hU := (hb1.block (w.heap.size + 2) (by omega)).trans x3; have m0 := cell_of_row _ _ 0 _ _ _ hU; have m1 := cell_of_row _ _ 1 _ _ _ hU; have m2 := cell_of_row _ _ 2 _ _ _ hU; have m3 := cell_of_row _ _ 3 _ _ _ hU; have m4 := cell_of_row _ _ 4 _ _ _ hU; have m5 := cell_of_row _ _ 5 _ _ _ hU; have f0 := frozen_of_row _ _ 0 _ 27 hU; have f1 := frozen_of_row _ _ 1 _ 27 hU; have f2 := frozen_of_row _ _ 2 _ 27 hU; have f3 := frozen_of_row _ _ 3 _ 27 hU; have f4 := frozen_of_row _ _ 4 _ 27 hU; have f5 := frozen_of_row _ _ 5 _ 27 hU)
  have hl := laid6 hU (.int .i64 2) (.int .i64 3) (.int .i64 0) (.int .i64 0) (.slice none 0 0) (.slice x5 0 c5)
  refine bodyPost_ret (results_row6 rfl _ _ (w.heap.size + 2) _ _ _ _ _ _ rfl hl) rfl ?_
  exact ⟨⟨_, _, rfl⟩, bel6 (hb.trans (hb1.mono hb.size)) (by omega) _ _ _ _ _ _⟩
end Go.Proofs.Ytofbnfpncekddaa.Te
