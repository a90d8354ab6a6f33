/- checkBoth. No conditions. -/
import Derived.Test.YtfjocafepigijaaDoorRz
import Derived.Laws.ResultCell
namespace Go.Proofs.YtfjocafepigijaaDoor.Mc
open Go.RowKit Mv Wk Sy Rz

theorem box3 {w wr : World} {a b c : Value} (h : Below (w.alloc (.cells #[a, b, c] 25)).heap.size (w.alloc (.cells #[a, b, c] 25)) wr) : wr.cell? ⟨w.heap.size, 0, none⟩ = some a ∧ wr.cell? ⟨w.heap.size, 1, none⟩ = some b ∧ wr.cell? ⟨w.heap.size, 2, none⟩ = some c := by
  have hl : w.heap.size < (w.alloc (.cells #[a, b, c] 25)).heap.size := by simp
  have hn := heap_alloc_new w (.cells #[a, b, c] 25)
  exact ⟨(h.cell (p := ⟨w.heap.size, 0, none⟩) hl).trans (cell_of_row _ _ 0 _ 25 (0, 0) hn), (h.cell (p := ⟨w.heap.size, 1, none⟩) hl).trans (cell_of_row _ _ 1 _ 25 (0, 0) hn), (h.cell (p := ⟨w.heap.size, 2, none⟩) hl).trans (cell_of_row _ _ 2 _ 25 (0, 0) hn)⟩
/-- the second of two boxes -/
theorem box3' {w wr : World} {a b c : Value} {o : Obj} (h : Below ((w.alloc o).alloc (.cells #[a, b, c] 25)).heap.size ((w.alloc o).alloc (.cells #[a, b, c] 25)) wr) : wr.cell? ⟨w.heap.size + 1, 0, none⟩ = some a ∧ wr.cell? ⟨w.heap.size + 1, 1, none⟩ = some b ∧ wr.cell? ⟨w.heap.size + 1, 2, none⟩ = some c := by
  have e : (w.alloc o).heap.size = w.heap.size + 1 := by simp
  have := box3 h
  rw [e] at this
  exact this

def both (x y : Int) : Int := if x = 0 then y else x
set_option maxHeartbeats 1000000 in
theorem both_any (a b : M) (va vb : Value) (x y : Int) (w : World) (ha : IsM w va a) (hb : IsM w vb b) (hx : checkP a x) (hy : checkP b y) : Calls Tryd.prog 37 #[va, vb] w fun e w' => e = .returned (.int .i64 (both x y)) ∧ Below w.heap.size w w' := by
  have cA : ∀ W, Below w.heap.size w W → Calls Tryd.prog 30 #[va] W fun e W' => e = .returned (.int .i64 x) ∧ Below W.heap.size W W' := fun W hW => (CkP.check_any a va W (ha.below hW)).mono (fun e W' ⟨⟨z, h1, h2⟩, h3⟩ => ⟨by rw [h1, checkP_one h2 hx], h3⟩)
  have cB : ∀ W, Below w.heap.size w W → Calls Tryd.prog 30 #[vb] W fun e W' => e = .returned (.int .i64 y) ∧ Below W.heap.size W W' := fun W hW => (CkP.check_any b vb W (hb.below hW)).mono (fun e W' ⟨⟨z, h1, h2⟩, h3⟩ => ⟨by rw [h1, checkP_one h2 hy], h3⟩)
  obtain ⟨a1, a2, rfl, _, _⟩ := ha
  obtain ⟨b1, b2, rfl, _, _⟩ := hb
  have hb0 : ∀ o o', Below w.heap.size w ((w.alloc o).alloc o') := fun o o' => ((Below.refl _ w).alloc (Nat.le_refl _) o).alloc (by simp) o'
  clear hx hy
  by_cases h : x = 0
  · have HR : Hid (both x y = y) := if_pos h
    subst h
    go_enter Tryd.func37, Tryd.ntmps37
    go_wp2_with (first | (go_at_call 30; with_reducible refine (cA _ (hb0 _ _)).mono ?_; rintro e w1 ⟨rfl, hb1⟩; have hw1 : Below w.heap.size w w1 := (hb0 _ _).trans (hb1.mono (by simp; omega)); have bx := box3' hb1; obtain ⟨bx0, bx1, bx2⟩ := bx) | (go_at_call 30; with_reducible refine (cB w1 hw1).mono ?_; rintro e w2 ⟨rfl, hb2⟩; have hw2 : Below w.heap.size w w2 := hw1.trans (hb2.mono hw1.size)))
    go_ret
    exact ⟨by rw [HR.out]; rfl, hw2⟩
  · have HR : Hid (both x y = x) := if_neg h
    have e0 : (x != 0) = true := by simpa using h
    go_enter Tryd.func37, Tryd.ntmps37
    go_wp2_with (go_at_call 30; with_reducible refine (cA _ (hb0 _ _)).mono ?_; rintro e w1 ⟨rfl, hb1⟩; have hw1 : Below w.heap.size w w1 := (hb0 _ _).trans (hb1.mono (by simp; omega)); have bx := box3' hb1; obtain ⟨bx0, bx1, bx2⟩ := bx)
    go_ret
    exact ⟨by rw [HR.out]; rfl, hw1⟩

end Go.Proofs.YtfjocafepigijaaDoor.Mc
