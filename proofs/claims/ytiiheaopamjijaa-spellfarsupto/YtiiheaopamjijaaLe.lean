/- The program's last edit: a unit is dropped, nothing is left. -/
import Derived.Test.YtiiheaopamjijaaLb
namespace Go.Proofs.Ytiiheaopamjijaa.Le
open Go.RowKit Rw Ay Fi Nx Ap Ro La Lb

set_option maxHeartbeats 1000000 in
set_option maxRecDepth 100000 in
theorem drop0_walk (bp op cp cq br or n cr : Nat) (aq : Option Addr) (i : Nat) (A C : Int) (w : World) (hi2 : i ≤ 200) (hin : i + 1 < n)
    (h3 : w.cell? ⟨br, or + (i + 1) * 201, none⟩ = some (.int .i64 A)) (h5 : w.cell? ⟨br, or + i * 201, none⟩ = some (.int .i64 C)) (hC : 0 ≤ C ∧ C ≤ 1000) (hAC : (A == C + 1) = true) :
    Calls Try.prog 23 #[.slice (some ⟨bp, op, none⟩) (i + 1) cp, .slice aq 0 cq, .slice (some ⟨br, or, none⟩) n cr] w fun e w' => e = .returned (.agg #[.int .i64 3, .string ByteArray.empty]) ∧ Below w.heap.size w w' := by
  have b1 : (0 : Int) < (i : Int) + 1 := by omega
  have b5 : (i : Int) + 1 < (n : Int) := by omega
  have b6 : (i : Int) < (n : Int) := by omega
  have k3 : br < w.heap.size := World.block_lt_of_cell? _ _ h3
  have l3 : ∀ o, (w.alloc o).cell? ⟨br, or + (i + 1) * 201, none⟩ = some (.int .i64 A) := fun o => (World.cell?_alloc_lt _ _ _ k3).trans h3
  have l5 : ∀ o, (w.alloc o).cell? ⟨br, or + i * 201, none⟩ = some (.int .i64 C) := fun o => (World.cell?_alloc_lt _ _ _ k3).trans h5
  have w1 : IntKind.i64.wrap (i : Int) = i := by rw [IntKind.wrap_i64]; omega
  have w4 : IntKind.i64.wrap (C + 1) = C + 1 := by rw [IntKind.wrap_i64]; omega
  go_enter Try.func23, Try.ntmps23
  go_wp2
  go_quiet (fail)
  go_wp2
  go_quiet (fail)
  go_wp2
  go_quiet (fail)
  go_wp2
  refine bodyPost_ret (results_edit rfl rfl (k := 3) (t := ByteArray.empty) ?_ ?_) rfl ⟨rfl, ?_⟩
  · go_simp
  · go_simp
    rfl
  · refine Below.setCell (p := ⟨w.heap.size, 1, none⟩) (Below.setCell (p := ⟨w.heap.size, 0, none⟩) ?_ (Nat.le_refl _) _) (Nat.le_refl _) _
    exact below_heap (o := .cells #[.int .i64 0, .string ⟨#[]⟩] 34) rfl rfl rfl rfl
end Go.Proofs.Ytiiheaopamjijaa.Le
