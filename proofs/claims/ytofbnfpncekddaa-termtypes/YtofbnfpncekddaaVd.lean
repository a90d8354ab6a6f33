/- withVars, lifted, put, step: at the fixed term. -/
import Derived.Test.YtofbnfpncekddaaVc
import Derived.Test.YtofbnfpncekddaaTv
import Derived.Laws.MakeOwn
namespace Go.Proofs.Ytofbnfpncekddaa.Te
open Go.RowKit

/-- a constant, the third one -/
def vcon (x : Option Addr) (c : Nat) : Value := .agg #[.int .i64 2, .int .i64 3, .int .i64 0, .int .i64 0, .slice none 0 0, .slice x 0 c]
/-- it is handed back -/
structure Con (w : World) (e : Ending) (w' : World) : Prop where
  ret : ∃ x c, e = .returned (vcon x c)
  bel : Below w.heap.size w w'
theorem size27 : (Try.prog.info? 27).map (·.size) = some 6 := by kernel_rfl
theorem results_row6 {fn : Func} {p : Tmp} (h : fn.results = #[.cell p 27]) (tmps : Array Value) (w : World) (g : Nat) (v0 v1 v2 v3 v4 v5 : Value) (hp : tmps.getD p undef = .pointer (some ⟨g, 0, none⟩)) (hg : w.heap[g]? = some (.cells #[v0, v1, v2, v3, v4, v5] 27 (0, 0))) : (results fn tmps).run Try.prog w = .ok (.agg #[v0, v1, v2, v3, v4, v5]) w :=
  results_cell_row h tmps w g 27 _ (0, 0) _ hp hg Try.underlying27 rfl size27
theorem info27 : (Try.prog.info? 27).map (fun i => (i.zero, i.size, i.bytes)) = some (some (.agg #[.int .i64 0, .int .i64 0, .int .i64 0, .int .i64 0, .slice none 0 0, .slice none 0 0]), 6, 80) := by kernel_rfl
theorem make_none (w : World) : (Instr.makeSlice 25 (.int .i64 0) (.int .i64 0)).run Try.prog w = .ok (.slice (some ⟨w.heap.size, 0, none⟩) 0 0) (w.alloc (.cells #[] 27)) := by
  obtain ⟨i, hi, h0, h1, h2⟩ := info_parts info27
  have := run_makeSlice (P := Try.prog) w 25 27 i _ Try.underlying25 hi h0 .i64 .i64 0 0 (by omega) (by omega) (by simp) (by simp) (by omega)
  rw [this]
  simp [madeCells, Array.range_zero']
theorem laid6 {W : World} {b : Nat} {u0 u1 u2 u3 u4 u5 : Value} (h : W.heap[b]? = some (.cells #[u0, u1, u2, u3, u4, u5] 27 (0, 0))) (v0 v1 v2 v3 v4 v5 : Value) : ((((((W.setCell ⟨b, 0, none⟩ v0).setCell ⟨b, 1, none⟩ v1).setCell ⟨b, 2, none⟩ v2).setCell ⟨b, 3, none⟩ v3).setCell ⟨b, 4, none⟩ v4).setCell ⟨b, 5, none⟩ v5).heap[b]? = some (.cells #[v0, v1, v2, v3, v4, v5] 27 (0, 0)) := by
  have h1 := heap_setCell_same _ b 0 _ 27 v0 h
  have h2 := heap_setCell_same _ b 1 _ 27 v1 h1
  have h3 := heap_setCell_same _ b 2 _ 27 v2 h2
  have h4 := heap_setCell_same _ b 3 _ 27 v3 h3
  have h5 := heap_setCell_same _ b 4 _ 27 v4 h4
  have h6 := heap_setCell_same _ b 5 _ 27 v5 h5
  simpa using h6
theorem ko6 (W : World) (b : Nat) (v0 v1 v2 v3 v4 v5 : Value) (g : Nat) (hg : g ≠ b) : ((((((W.setCell ⟨b, 0, none⟩ v0).setCell ⟨b, 1, none⟩ v1).setCell ⟨b, 2, none⟩ v2).setCell ⟨b, 3, none⟩ v3).setCell ⟨b, 4, none⟩ v4).setCell ⟨b, 5, none⟩ v5).heap[g]? = W.heap[g]? := by
  rw [heap_setCell_other _ _ _ _ hg, heap_setCell_other _ _ _ _ hg, heap_setCell_other _ _ _ _ hg, heap_setCell_other _ _ _ _ hg, heap_setCell_other _ _ _ _ hg, heap_setCell_other _ _ _ _ hg]
theorem bel6 {n : Nat} {w W : World} (h : Below n w W) {b : Nat} (hb : n ≤ b) (v0 v1 v2 v3 v4 v5 : Value) : Below n w ((((((W.setCell ⟨b, 0, none⟩ v0).setCell ⟨b, 1, none⟩ v1).setCell ⟨b, 2, none⟩ v2).setCell ⟨b, 3, none⟩ v3).setCell ⟨b, 4, none⟩ v4).setCell ⟨b, 5, none⟩ v5) :=
  (((((h.setCell (p := ⟨b, 0, none⟩) hb v0).setCell (p := ⟨b, 1, none⟩) hb v1).setCell (p := ⟨b, 2, none⟩) hb v2).setCell (p := ⟨b, 3, none⟩) hb v3).setCell (p := ⟨b, 4, none⟩) hb v4).setCell (p := ⟨b, 5, none⟩) hb v5
set_option maxHeartbeats 4000000 in
theorem con_with (x : Option Addr) (c q : Nat) (caps : Array Value) (w : World) : Calls Try.prog 47 #[vcon x c, .int .i64 0, .func (.func q) #[] caps] w fun e w' => Con w e w' := by
  have hmk := make_none
  unfold vcon
  go_enter Try.func47, Try.ntmps47
  go_upto_region 7 with fail
  have h3 := three_boxes w (.cells #[.int .i64 2, .int .i64 3, .int .i64 0, .int .i64 0, .slice none 0 0, .slice x 0 c] 27) (.cells #[.int .i64 0, .int .i64 0, .int .i64 0, .int .i64 0, .slice none 0 0, .slice none 0 0] 27) (.cells #[] 27)
  generalize hV : ((w.alloc (.cells #[.int .i64 2, .int .i64 3, .int .i64 0, .int .i64 0, .slice none 0 0, .slice x 0 c] 27)).alloc (.cells #[.int .i64 0, .int .i64 0, .int .i64 0, .int .i64 0, .slice none 0 0, .slice none 0 0] 27)).alloc (.cells #[] 27) = V at *
  obtain ⟨x1, x2, x3, hs, hb⟩ := h3
  clear hV hmk
  have m0 := cell_of_row _ _ 0 _ _ _ x1
  have m1 := cell_of_row _ _ 1 _ _ _ x1
  have m2 := cell_of_row _ _ 2 _ _ _ x1
  have m3 := cell_of_row _ _ 3 _ _ _ x1
  have m4 := cell_of_row _ _ 4 _ _ _ x1
  have m5 := cell_of_row _ _ 5 _ _ _ x1
  have f0 := frozen_of_row _ _ 0 _ 27 x1
  have f1 := frozen_of_row _ _ 1 _ 27 x1
  have f2 := frozen_of_row _ _ 2 _ 27 x1
  have f3 := frozen_of_row _ _ 3 _ 27 x1
  have f4 := frozen_of_row _ _ 4 _ 27 x1
  have f5 := frozen_of_row _ _ 5 _ 27 x1
  go_wp2
  go_loopw [8, 9, 30] (fun _ _ iv wr => iv = .int .i64 0 ∧ Below V.heap.size V wr) (fun _ _ _ _ => 0)
  case atStart => exact ⟨rfl, Below.refl _ _⟩
  case round =>
    obtain ⟨rfl, hB⟩ := hrel
    clear m0 m1 m2 m3 m4 m5 f0 f1 f2 f3 f4 f5
    have y1 := (hB.block w.heap.size (by omega)).trans x1
    have y2 := (hB.block (w.heap.size + 1) (by omega)).trans x2
    have hbr : Below w.heap.size w wr := hb.trans (hB.mono hb.size)
    have z1 : (wr.setCell ⟨w.heap.size, 5, none⟩ (.slice (some ⟨w.heap.size + 2, 0, none⟩) 0 0)).heap[w.heap.size]? = some (.cells #[.int .i64 2, .int .i64 3, .int .i64 0, .int .i64 0, .slice none 0 0, .slice (some ⟨w.heap.size + 2, 0, none⟩) 0 0] 27) := by
      have := heap_setCell_same wr w.heap.size 5 _ 27 (.slice (some ⟨w.heap.size + 2, 0, none⟩) 0 0) y1
      simpa using this
    have z2 : (wr.setCell ⟨w.heap.size, 5, none⟩ (.slice (some ⟨w.heap.size + 2, 0, none⟩) 0 0)).heap[w.heap.size + 1]? = some (.cells #[.int .i64 0, .int .i64 0, .int .i64 0, .int .i64 0, .slice none 0 0, .slice none 0 0] 27) := (heap_setCell_other _ _ _ _ (by show w.heap.size + 1 ≠ w.heap.size; omega)).trans y2
    have hbz : Below w.heap.size w (wr.setCell ⟨w.heap.size, 5, none⟩ (.slice (some ⟨w.heap.size + 2, 0, none⟩) 0 0)) := hbr.setCell (p := ⟨w.heap.size, 5, none⟩) (Nat.le_refl _) _
    have m5 := cell_of_row _ _ 5 _ _ _ y1
    have f5 := frozen_of_row _ _ 5 _ 27 y1
    go_upto_region 13 with fail
    generalize hU : wr.setCell ⟨w.heap.size, 5, none⟩ (.slice (some ⟨w.heap.size + 2, 0, none⟩) 0 0) = U at *
    clear m5 f5 hU y1 y2
    have m0 := cell_of_row _ _ 0 _ _ _ z2
    have m1 := cell_of_row _ _ 1 _ _ _ z2
    have m2 := cell_of_row _ _ 2 _ _ _ z2
    have m3 := cell_of_row _ _ 3 _ _ _ z2
    have m4 := cell_of_row _ _ 4 _ _ _ z2
    have m5 := cell_of_row _ _ 5 _ _ _ z2
    have f0 := frozen_of_row _ _ 0 _ 27 z2
    have f1 := frozen_of_row _ _ 1 _ 27 z2
    have f2 := frozen_of_row _ _ 2 _ 27 z2
    have f3 := frozen_of_row _ _ 3 _ 27 z2
    have f4 := frozen_of_row _ _ 4 _ 27 z2
    have f5 := frozen_of_row _ _ 5 _ 27 z2
    have k0 := cell_of_row _ _ 0 _ _ _ z1
    have k1 := cell_of_row _ _ 1 _ _ _ z1
    have k2 := cell_of_row _ _ 2 _ _ _ z1
    have k3 := cell_of_row _ _ 3 _ _ _ z1
    have k4 := cell_of_row _ _ 4 _ _ _ z1
    have k5 := cell_of_row _ _ 5 _ _ _ z1
    go_wp2
    have hl := laid6 z2 (.int .i64 2) (.int .i64 3) (.int .i64 0) (.int .i64 0) (.slice none 0 0) (.slice (some ⟨w.heap.size + 2, 0, none⟩) 0 0)
    refine bodyPost_ret (results_row6 rfl _ _ (w.heap.size + 1) _ _ _ _ _ _ rfl hl) rfl ?_
    exact ⟨⟨_, _, rfl⟩, bel6 hbz (by omega) _ _ _ _ _ _⟩
end Go.Proofs.Ytofbnfpncekddaa.Te
