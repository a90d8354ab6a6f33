/- The program's last edit: a unit is put. -/
import Derived.Test.YtiiheaopamjijaaLb
namespace Go.Proofs.Ytiiheaopamjijaa.Ld
open Go.RowKit Rw Ay Fi Nx Ap Ro La Lb

set_option maxHeartbeats 1000000 in
set_option maxRecDepth 100000 in
theorem put_walk (bp op cp bq oq cq br or n cr : Nat) (i j : Nat) (x y : ByteArray) (A B : Int) (w : World) (hi2 : i ≤ 200) (hj2 : j < 200) (hin : i + 1 < n) (h1 : w.cell? ⟨bp, op + i, none⟩ = some (.string x)) (h2 : w.cell? ⟨bq, oq + j, none⟩ = some (.string y)) (hxy : (x.toList == y.toList) = false)
    (h3 : w.cell? ⟨br, or + (i + 1) * 201 + (j + 1), none⟩ = some (.int .i64 A)) (h4 : w.cell? ⟨br, or + i * 201 + j, none⟩ = some (.int .i64 B)) (hB : 0 ≤ B ∧ B ≤ 1000) (hAB : (A == B + 1) = false) (C : Int) (h5 : w.cell? ⟨br, or + i * 201 + (j + 1), none⟩ = some (.int .i64 C)) (hC : 0 ≤ C ∧ C ≤ 1000) (hAC : (A == C + 1) = false) (hy : y.size ≤ 1048576) :
    Calls Try.prog 23 #[.slice (some ⟨bp, op, none⟩) (i + 1) cp, .slice (some ⟨bq, oq, none⟩) (j + 1) cq, .slice (some ⟨br, or, none⟩) n cr] w fun e w' => e = .returned (.agg #[.int .i64 4, .string y]) ∧ Below w.heap.size w w' := by
  have b1 : (0 : Int) < (i : Int) + 1 := by omega
  have b2 : (0 : Int) < (j : Int) + 1 := by omega
  have b3 : (i : Int) < (i : Int) + 1 := by omega
  have b4 : (j : Int) < (j : Int) + 1 := by omega
  have b5 : (i : Int) + 1 < (n : Int) := by omega
  have b6 : (i : Int) < (n : Int) := by omega
  have b7 : (j : Int) + 1 < 201 := by omega
  have b8 : (j : Int) < 201 := by omega
  have k1 : bp < w.heap.size := World.block_lt_of_cell? _ _ h1
  have k2 : bq < w.heap.size := World.block_lt_of_cell? _ _ h2
  have k3 : br < w.heap.size := World.block_lt_of_cell? _ _ h3
  have l1 : ∀ o, (w.alloc o).cell? ⟨bp, op + i, none⟩ = some (.string x) := fun o => (World.cell?_alloc_lt _ _ _ k1).trans h1
  have l2 : ∀ o, (w.alloc o).cell? ⟨bq, oq + j, none⟩ = some (.string y) := fun o => (World.cell?_alloc_lt _ _ _ k2).trans h2
  have l3 : ∀ o, (w.alloc o).cell? ⟨br, or + (i + 1) * 201 + (j + 1), none⟩ = some (.int .i64 A) := fun o => (World.cell?_alloc_lt _ _ _ k3).trans h3
  have l4 : ∀ o, (w.alloc o).cell? ⟨br, or + i * 201 + j, none⟩ = some (.int .i64 B) := fun o => (World.cell?_alloc_lt _ _ _ k3).trans h4
  have w1 : IntKind.i64.wrap (i : Int) = i := by rw [IntKind.wrap_i64]; omega
  have w2 : IntKind.i64.wrap (j : Int) = j := by rw [IntKind.wrap_i64]; omega
  have l5 : ∀ o, (w.alloc o).cell? ⟨br, or + i * 201 + (j + 1), none⟩ = some (.int .i64 C) := fun o => (World.cell?_alloc_lt _ _ _ k3).trans h5
  have w4 : IntKind.i64.wrap (C + 1) = C + 1 := by rw [IntKind.wrap_i64]; omega
  have w3 : IntKind.i64.wrap (B + 1) = B + 1 := by rw [IntKind.wrap_i64]; omega
  go_enter Try.func23, Try.ntmps23
  go_wp2
  go_quiet (fail)
  go_wp2
  go_quiet (fail)
  go_wp2
  go_quiet (fail)
  go_wp2_with (go_at_call 30; refine (clone_any y _ (by omega)).mono ?_; rintro e w5 ⟨rfl, hb5⟩; obtain ⟨q0, q1, q2, q3, qb⟩ := box_keep hb5 rfl rfl rfl rfl)
  refine bodyPost_ret (results_edit rfl rfl (k := 4) (t := y) ?_ ?_) rfl ⟨rfl, (qb.setCell (Nat.le_refl _) _).setCell (Nat.le_refl _) _⟩
  · go_simp
  · go_simp
end Go.Proofs.Ytiiheaopamjijaa.Ld
