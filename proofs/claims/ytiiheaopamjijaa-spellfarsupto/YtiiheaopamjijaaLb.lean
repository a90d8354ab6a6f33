/- The program's last edit: a unit is turned. -/
import Derived.Test.YtiiheaopamjijaaLa
namespace Go.Proofs.Ytiiheaopamjijaa.Lb
open Go.RowKit Rw Ay Fi Nx Ap Ro La

theorem below_heap {w W0 : World} {o : Obj} (e : W0.heap = (w.alloc o).heap) (e1 : W0.os = w.os) (e2 : W0.tape = w.tape) (e3 : W0.output = w.output) : Below w.heap.size w W0 :=
  ⟨e1, e2, e3, by rw [e]; simp, fun k hk => by rw [e]; exact Below.heap_alloc w o k hk⟩
theorem box_keep {w W0 w5 : World} (hb : Below W0.heap.size W0 w5) (e : W0.heap = (w.alloc (.cells #[.int .i64 0, .string ⟨#[]⟩] 34)).heap) (e1 : W0.os = w.os) (e2 : W0.tape = w.tape) (e3 : W0.output = w.output) :
    w5.cell? ⟨w.heap.size, 0, none⟩ = some (.int .i64 0) ∧ w5.cell? ⟨w.heap.size, 1, none⟩ = some (.string ⟨#[]⟩) ∧ w5.frozen? ⟨w.heap.size, 0, none⟩ = false ∧ w5.frozen? ⟨w.heap.size, 1, none⟩ = false ∧ Below w.heap.size w w5 := by
  have hl : w.heap.size < W0.heap.size := by rw [e]; simp
  have hblk : w5.heap[w.heap.size]? = some (.cells #[.int .i64 0, .string ⟨#[]⟩] 34) := by
    rw [hb.block _ hl, e]
    exact heap_alloc_last w _
  refine ⟨?_, ?_, frozen_of_row _ _ _ _ _ hblk, frozen_of_row _ _ _ _ _ hblk, ⟨hb.os.trans e1, hb.tape.trans e2, hb.output.trans e3, by have := hb.size; omega, fun k hk => ?_⟩⟩
  · rw [cell_of_row _ _ _ _ _ _ hblk]; rfl
  · rw [cell_of_row _ _ _ _ _ _ hblk]; rfl
  · rw [hb.block k (by omega), e]
    exact Below.heap_alloc w _ k hk

set_option maxHeartbeats 1000000 in
set_option maxRecDepth 100000 in
theorem turn_walk (bp op cp bq oq cq br or n cr : Nat) (i j : Nat) (x y : ByteArray) (A B : Int) (w : World) (hi2 : i ≤ 200) (hj2 : j < 200) (hin : i + 1 < n) (h1 : w.cell? ⟨bp, op + i, none⟩ = some (.string x)) (h2 : w.cell? ⟨bq, oq + j, none⟩ = some (.string y)) (hxy : (x.toList == y.toList) = false)
    (h3 : w.cell? ⟨br, or + (i + 1) * 201 + (j + 1), none⟩ = some (.int .i64 A)) (h4 : w.cell? ⟨br, or + i * 201 + j, none⟩ = some (.int .i64 B)) (hB : 0 ≤ B ∧ B ≤ 1000) (hAB : (A == B + 1) = true) (hy : y.size ≤ 1048576) :
    Calls Try.prog 23 #[.slice (some ⟨bp, op, none⟩) (i + 1) cp, .slice (some ⟨bq, oq, none⟩) (j + 1) cq, .slice (some ⟨br, or, none⟩) n cr] w fun e w' => e = .returned (.agg #[.int .i64 2, .string y]) ∧ Below w.heap.size w w' := by
  have b1 : (0 : Int) < (i : Int) + 1 := by omega
  have b2 : (0 : Int) < (j : Int) + 1 := by omega
  have b3 : (i : Int) < (i : Int) + 1 := by omega
  have b4 : (j : Int) < (j : Int) + 1 := by omega
  have b5 : (i : Int) + 1 < (n : Int) := by omega
  have b6 : (i : Int) < (n : Int) := by omega
  have b7 : (j : Int) + 1 < 201 := by omega
  have b8 : (j : Int) < 201 := by omega
  have k1 : bp < w.heap.size := World.block_lt_of_cell? _ _ h1
  have k2 : bq < w.heap.size := World.block_lt_of_cell? _ _ h2
  have k3 : br < w.heap.size := World.block_lt_of_cell? _ _ h3
  have l1 : ∀ o, (w.alloc o).cell? ⟨bp, op + i, none⟩ = some (.string x) := fun o => (World.cell?_alloc_lt _ _ _ k1).trans h1
  have l2 : ∀ o, (w.alloc o).cell? ⟨bq, oq + j, none⟩ = some (.string y) := fun o => (World.cell?_alloc_lt _ _ _ k2).trans h2
  have l3 : ∀ o, (w.alloc o).cell? ⟨br, or + (i + 1) * 201 + (j + 1), none⟩ = some (.int .i64 A) := fun o => (World.cell?_alloc_lt _ _ _ k3).trans h3
  have l4 : ∀ o, (w.alloc o).cell? ⟨br, or + i * 201 + j, none⟩ = some (.int .i64 B) := fun o => (World.cell?_alloc_lt _ _ _ k3).trans h4
  have w1 : IntKind.i64.wrap (i : Int) = i := by rw [IntKind.wrap_i64]; omega
  have w2 : IntKind.i64.wrap (j : Int) = j := by rw [IntKind.wrap_i64]; omega
  have w3 : IntKind.i64.wrap (B + 1) = B + 1 := by rw [IntKind.wrap_i64]; omega
  go_enter Try.func23, Try.ntmps23
  go_wp2
  go_quiet (fail)
  go_wp2
  go_quiet (fail)
  go_wp2_with (go_at_call 30; refine (clone_any y _ (by omega)).mono ?_; rintro e w5 ⟨rfl, hb5⟩; obtain ⟨q0, q1, q2, q3, qb⟩ := box_keep hb5 rfl rfl rfl rfl)
  refine bodyPost_ret (results_edit rfl rfl (k := 2) (t := y) ?_ ?_) rfl ⟨rfl, (qb.setCell (Nat.le_refl _) _).setCell (Nat.le_refl _) _⟩
  · go_simp
  · go_simp
end Go.Proofs.Ytiiheaopamjijaa.Lb
