/- Either, Chain, Repeat, Turn, Side: what is refused. Condition: none. -/
import Derived.Test.YtegfhbjdfcoajaaMr
namespace Go.Proofs.Ytegfhbjdfcoajaa.Mc
open Go.RowKit Mv Wk Sy Rz

/-- no machine -/
def noM : Value := .agg #[.int .i64 0, .slice none 0 0, .slice none 0 0]
theorem at_third {w wr : World} {a b c : Obj} (h : Below (((w.alloc a).alloc b).alloc c).heap.size (((w.alloc a).alloc b).alloc c) wr) : wr.heap[w.heap.size + 1 + 1]? = some c ∧ Below w.heap.size w wr := by
  have s2 : ((w.alloc a).alloc b).heap.size = w.heap.size + 1 + 1 := by simp
  have s3 : (((w.alloc a).alloc b).alloc c).heap.size = w.heap.size + 1 + 1 + 1 := by simp
  have hb0 : Below w.heap.size w (((w.alloc a).alloc b).alloc c) := (((Below.refl _ w).alloc (Nat.le_refl _) a).alloc (by simp) b).alloc (by simp; omega) c
  refine ⟨(h.block _ (by omega)).trans ?_, hb0.trans (h.mono (by omega))⟩
  rw [← s2]
  exact heap_alloc_new _ _
theorem at_second {w wr : World} {a b : Obj} (h : Below ((w.alloc a).alloc b).heap.size ((w.alloc a).alloc b) wr) : wr.heap[w.heap.size + 1]? = some b ∧ Below w.heap.size w wr := by
  have s3 : ((w.alloc a).alloc b).heap.size = w.heap.size + 1 + 1 := by simp
  have hb0 : Below w.heap.size w ((w.alloc a).alloc b) := ((Below.refl _ w).alloc (Nat.le_refl _) a).alloc (by simp) b
  exact ⟨(h.block _ (by omega)).trans (second w a b), hb0.trans (h.mono (by omega))⟩
/-- a machine is laid into a block -/
theorem laid3 {w w1 : World} {g : Nat} {a b c x y z : Value} (h : w1.heap[g]? = some (.cells #[a, b, c] 25 (0, 0))) (hb : Below w.heap.size w w1) (hg : w.heap.size ≤ g) : (((w1.setCell ⟨g, 0, none⟩ x).setCell ⟨g, 1, none⟩ y).setCell ⟨g, 2, none⟩ z).heap[g]? = some (.cells #[x, y, z] 25 (0, 0)) ∧ Below w.heap.size w (((w1.setCell ⟨g, 0, none⟩ x).setCell ⟨g, 1, none⟩ y).setCell ⟨g, 2, none⟩ z) := by
  have e1 := heap_setCell_same w1 g 0 _ 25 x h
  have e2 := heap_setCell_same _ g 1 _ 25 y e1
  have e3 := heap_setCell_same _ g 2 _ 25 z e2
  exact ⟨e3, ((hb.setCell (p := ⟨g, 0, none⟩) hg x).setCell (p := ⟨g, 1, none⟩) hg y).setCell (p := ⟨g, 2, none⟩) hg z⟩

set_option maxHeartbeats 1000000 in
theorem either_bad (a b : M) (va vb : Value) (x y : Int) (w : World) (ha : IsM w va a) (hb : IsM w vb b) (hx : checkP a x) (hy : checkP b y) (hne : both x y ≠ 0) : Calls Try.prog 11 #[va, vb] w fun e w' => e = .returned (.tuple #[noM, .int .i64 (both x y)]) ∧ Below w.heap.size w w' := by
  have c22 := fun W (hW : Below w.heap.size w W) => both_any a b va vb x y W (ha.below hW) (hb.below hW) hx hy
  obtain ⟨a1, a2, rfl, ⟨_, aa, ca, rfl, _, _⟩, ⟨_, af, cf, rfl, _, _⟩⟩ := ha
  obtain ⟨b1, b2, rfl, ⟨_, ba, cb, rfl, _, _⟩, ⟨_, bf, cg, rfl, _, _⟩⟩ := hb
  have hb0 : ∀ o o' o'', Below w.heap.size w (((w.alloc o).alloc o').alloc o'') := fun o o' o'' => (((Below.refl _ w).alloc (Nat.le_refl _) o).alloc (by simp) o').alloc (by simp; omega) o''
  generalize both x y = z at *
  have e0 : (z != 0) = true := by simpa using hne
  clear hx hy
  go_enter Try.func11, Try.ntmps11
  go_wp2_with (go_at_call 22; with_reducible refine (c22 _ (hb0 _ _ _)).mono ?_; rintro e w1 ⟨rfl, hb1⟩; have h3 := at_third hb1; have g3 := h3.1; have q0 := cell_of_row _ _ 0 _ _ _ g3; have q1 := cell_of_row _ _ 1 _ _ _ g3; have q2 := cell_of_row _ _ 2 _ _ _ g3; have f0 := frozen_of_row _ _ 0 _ _ g3; have f1 := frozen_of_row _ _ 1 _ _ g3; have f2 := frozen_of_row _ _ 2 _ _ g3)
  have hl := laid3 (x := .int .i64 0) (y := .slice none 0 0) (z := .slice none 0 0) g3 h3.2 (by omega)
  exact bodyPost_ret (results_row_tmp rfl _ _ (w.heap.size + 1 + 1) 25 _ (0, 0) _ rfl hl.1 Try.underlying25 rfl row25) rfl ⟨rfl, hl.2⟩

set_option maxHeartbeats 1000000 in
theorem chain_bad (a b : M) (va vb : Value) (x y : Int) (w : World) (ha : IsM w va a) (hb : IsM w vb b) (hx : checkP a x) (hy : checkP b y) (hne : both x y ≠ 0) : Calls Try.prog 13 #[va, vb] w fun e w' => e = .returned (.tuple #[noM, .int .i64 (both x y)]) ∧ Below w.heap.size w w' := by
  have c22 := fun W (hW : Below w.heap.size w W) => both_any a b va vb x y W (ha.below hW) (hb.below hW) hx hy
  obtain ⟨a1, a2, rfl, ⟨_, aa, ca, rfl, _, _⟩, ⟨_, af, cf, rfl, _, _⟩⟩ := ha
  obtain ⟨b1, b2, rfl, ⟨_, ba, cb, rfl, _, _⟩, ⟨_, bf, cg, rfl, _, _⟩⟩ := hb
  have hb0 : ∀ o o' o'', Below w.heap.size w (((w.alloc o).alloc o').alloc o'') := fun o o' o'' => (((Below.refl _ w).alloc (Nat.le_refl _) o).alloc (by simp) o').alloc (by simp; omega) o''
  generalize both x y = z at *
  have e0 : (z != 0) = true := by simpa using hne
  clear hx hy
  go_enter Try.func13, Try.ntmps13
  go_wp2_with (go_at_call 22; with_reducible refine (c22 _ (hb0 _ _ _)).mono ?_; rintro e w1 ⟨rfl, hb1⟩; have h3 := at_third hb1; have g3 := h3.1; have q0 := cell_of_row _ _ 0 _ _ _ g3; have q1 := cell_of_row _ _ 1 _ _ _ g3; have q2 := cell_of_row _ _ 2 _ _ _ g3; have f0 := frozen_of_row _ _ 0 _ _ g3; have f1 := frozen_of_row _ _ 1 _ _ g3; have f2 := frozen_of_row _ _ 2 _ _ g3)
  have hl := laid3 (x := .int .i64 0) (y := .slice none 0 0) (z := .slice none 0 0) g3 h3.2 (by omega)
  exact bodyPost_ret (results_row_tmp rfl _ _ (w.heap.size + 1 + 1) 25 _ (0, 0) _ rfl hl.1 Try.underlying25 rfl row25) rfl ⟨rfl, hl.2⟩

set_option maxHeartbeats 1000000 in
theorem repeat_bad (a : M) (va : Value) (x : Int) (w : World) (ha : IsM w va a) (hx : checkP a x) (hne : x ≠ 0) : Calls Try.prog 16 #[va] w fun e w' => e = .returned (.tuple #[noM, .int .i64 x]) ∧ Below w.heap.size w w' := by
  have c26 : ∀ W, Below w.heap.size w W → Calls Try.prog 26 #[va] W fun e W' => e = .returned (.int .i64 x) ∧ Below W.heap.size W W' := fun W hW => (CkP.check_any a va W (ha.below hW)).mono (fun e W' ⟨⟨z, h1, h2⟩, h3⟩ => ⟨by rw [h1, checkP_one h2 hx], h3⟩)
  obtain ⟨a1, a2, rfl, ⟨_, aa, ca, rfl, _, _⟩, ⟨_, af, cf, rfl, _, _⟩⟩ := ha
  have hb0 : ∀ o o', Below w.heap.size w ((w.alloc o).alloc o') := fun o o' => ((Below.refl _ w).alloc (Nat.le_refl _) o).alloc (by simp) o'
  have e0 : (x != 0) = true := by simpa using hne
  clear hx
  go_enter Try.func16, Try.ntmps16
  go_wp2_with (go_at_call 26; with_reducible refine (c26 _ (hb0 _ _)).mono ?_; rintro e w1 ⟨rfl, hb1⟩; have h3 := at_second hb1; have g3 := h3.1; have q0 := cell_of_row _ _ 0 _ _ _ g3; have q1 := cell_of_row _ _ 1 _ _ _ g3; have q2 := cell_of_row _ _ 2 _ _ _ g3; have f0 := frozen_of_row _ _ 0 _ _ g3; have f1 := frozen_of_row _ _ 1 _ _ g3; have f2 := frozen_of_row _ _ 2 _ _ g3)
  have hl := laid3 (x := .int .i64 0) (y := .slice none 0 0) (z := .slice none 0 0) g3 h3.2 (by omega)
  exact bodyPost_ret (results_row_tmp rfl _ _ (w.heap.size + 1) 25 _ (0, 0) _ rfl hl.1 Try.underlying25 rfl row25) rfl ⟨rfl, hl.2⟩

set_option maxHeartbeats 1000000 in
theorem turn_bad (a : M) (va : Value) (x : Int) (w : World) (ha : IsM w va a) (hx : checkP a x) (hne : x ≠ 0) : Calls Try.prog 17 #[va] w fun e w' => e = .returned (.tuple #[noM, .int .i64 x]) ∧ Below w.heap.size w w' := by
  have c26 : ∀ W, Below w.heap.size w W → Calls Try.prog 26 #[va] W fun e W' => e = .returned (.int .i64 x) ∧ Below W.heap.size W W' := fun W hW => (CkP.check_any a va W (ha.below hW)).mono (fun e W' ⟨⟨z, h1, h2⟩, h3⟩ => ⟨by rw [h1, checkP_one h2 hx], h3⟩)
  obtain ⟨a1, a2, rfl, ⟨_, aa, ca, rfl, _, _⟩, ⟨_, af, cf, rfl, _, _⟩⟩ := ha
  have hb0 : ∀ o o', Below w.heap.size w ((w.alloc o).alloc o') := fun o o' => ((Below.refl _ w).alloc (Nat.le_refl _) o).alloc (by simp) o'
  have e0 : (x != 0) = true := by simpa using hne
  clear hx
  go_enter Try.func17, Try.ntmps17
  go_wp2_with (go_at_call 26; with_reducible refine (c26 _ (hb0 _ _)).mono ?_; rintro e w1 ⟨rfl, hb1⟩; have h3 := at_second hb1; have g3 := h3.1; have q0 := cell_of_row _ _ 0 _ _ _ g3; have q1 := cell_of_row _ _ 1 _ _ _ g3; have q2 := cell_of_row _ _ 2 _ _ _ g3; have f0 := frozen_of_row _ _ 0 _ _ g3; have f1 := frozen_of_row _ _ 1 _ _ g3; have f2 := frozen_of_row _ _ 2 _ _ g3)
  have hl := laid3 (x := .int .i64 0) (y := .slice none 0 0) (z := .slice none 0 0) g3 h3.2 (by omega)
  exact bodyPost_ret (results_row_tmp rfl _ _ (w.heap.size + 1) 25 _ (0, 0) _ rfl hl.1 Try.underlying25 rfl row25) rfl ⟨rfl, hl.2⟩

set_option maxHeartbeats 1000000 in
theorem side_bad (a : M) (va : Value) (x : Int) (w : World) (ha : IsM w va a) (hx : checkP a x) (hne : x ≠ 0) : Calls Try.prog 18 #[va] w fun e w' => e = .returned (.tuple #[noM, .int .i64 x]) ∧ Below w.heap.size w w' := by
  have c26 : ∀ W, Below w.heap.size w W → Calls Try.prog 26 #[va] W fun e W' => e = .returned (.int .i64 x) ∧ Below W.heap.size W W' := fun W hW => (CkP.check_any a va W (ha.below hW)).mono (fun e W' ⟨⟨z, h1, h2⟩, h3⟩ => ⟨by rw [h1, checkP_one h2 hx], h3⟩)
  obtain ⟨a1, a2, rfl, ⟨_, aa, ca, rfl, _, _⟩, ⟨_, af, cf, rfl, _, _⟩⟩ := ha
  have hb0 : ∀ o o', Below w.heap.size w ((w.alloc o).alloc o') := fun o o' => ((Below.refl _ w).alloc (Nat.le_refl _) o).alloc (by simp) o'
  have e0 : (x != 0) = true := by simpa using hne
  clear hx
  go_enter Try.func18, Try.ntmps18
  go_wp2_with (go_at_call 26; with_reducible refine (c26 _ (hb0 _ _)).mono ?_; rintro e w1 ⟨rfl, hb1⟩; have h3 := at_second hb1; have g3 := h3.1; have q0 := cell_of_row _ _ 0 _ _ _ g3; have q1 := cell_of_row _ _ 1 _ _ _ g3; have q2 := cell_of_row _ _ 2 _ _ _ g3; have f0 := frozen_of_row _ _ 0 _ _ g3; have f1 := frozen_of_row _ _ 1 _ _ g3; have f2 := frozen_of_row _ _ 2 _ _ g3)
  have hl := laid3 (x := .int .i64 0) (y := .slice none 0 0) (z := .slice none 0 0) g3 h3.2 (by omega)
  exact bodyPost_ret (results_row_tmp rfl _ _ (w.heap.size + 1) 25 _ (0, 0) _ rfl hl.1 Try.underlying25 rfl row25) rfl ⟨rfl, hl.2⟩
end Go.Proofs.Ytegfhbjdfcoajaa.Mc
