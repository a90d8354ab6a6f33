/- The program's last edit: a unit is put, nothing is left. -/
import Derived.Test.YtiiheaopamjijaaLb
namespace Go.Proofs.Ytiiheaopamjijaa.Lf
open Go.RowKit Rw Ay Fi Nx Ap Ro La Lb

set_option maxHeartbeats 1000000 in
set_option maxRecDepth 100000 in
theorem put0_walk (ap : Option Addr) (cp bq oq cq : Nat) (r : Value) (j : Nat) (y : ByteArray) (w : World) (hj2 : j < 200) (h2 : w.cell? ⟨bq, oq + j, none⟩ = some (.string y)) (hy : y.size ≤ 1048576) :
    Calls Try.prog 23 #[.slice ap 0 cp, .slice (some ⟨bq, oq, none⟩) (j + 1) cq, r] w fun e w' => e = .returned (.agg #[.int .i64 4, .string y]) ∧ Below w.heap.size w w' := by
  have b4 : (j : Int) < (j : Int) + 1 := by omega
  have k2 : bq < w.heap.size := World.block_lt_of_cell? _ _ h2
  have l2 : ∀ o, (w.alloc o).cell? ⟨bq, oq + j, none⟩ = some (.string y) := fun o => (World.cell?_alloc_lt _ _ _ k2).trans h2
  have w2 : IntKind.i64.wrap (j : Int) = j := by rw [IntKind.wrap_i64]; omega
  go_enter Try.func23, Try.ntmps23
  go_wp2
  go_quiet (fail)
  go_wp2
  go_quiet (fail)
  go_wp2
  go_quiet (fail)
  go_wp2_with (go_at_call 30; refine (clone_any y _ (by omega)).mono ?_; rintro e w5 ⟨rfl, hb5⟩; obtain ⟨q0, q1, q2, q3, qb⟩ := box_keep hb5 rfl rfl rfl rfl)
  refine bodyPost_ret (results_edit rfl rfl (k := 4) (t := y) ?_ ?_) rfl ⟨rfl, (qb.setCell (Nat.le_refl _) _).setCell (Nat.le_refl _) _⟩
  · go_simp
  · go_simp
end Go.Proofs.Ytiiheaopamjijaa.Lf
