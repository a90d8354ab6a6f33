/- slices.Concat of lists of parts: a new list that holds them. Condition: together they have at most 1000 parts. -/
import Derived.Shelf.Spec.SlicesGrow
import Derived.Ground.Names8Prog
import Derived.Test.YtbmgkgoghgdbhaaSa
namespace Go.Proofs
open Go.Shelf
def Ytbmgkgoghgdbhaa.Try.laysGrow_ren : Go.Shelf.Ren := ⟨fun | 4 => 89 | n => n, fun | 22 => 22 | 25 => 24 | 3 => 3 | 4 => 4 | 9 => 9 | 20 => 20 | 0 => 0 | n => n, fun | n => n⟩
theorem Ytbmgkgoghgdbhaa.Try.laysGrow : Go.Proofs.Lays8.n4 Try.prog Ytbmgkgoghgdbhaa.Try.laysGrow_ren := {
  mixed := by kernel_rfl
  f4 := ⟨Try.f89.name, by decide, Try.func89.trans (congrArg some (by kernel_rfl))⟩
  t0 := Try.underlying0
  a0 := Try.isAgg0
  z0 := Try.sizeOf0
  v0 := Try.zeroValue0
  t3 := Try.underlying3
  a3 := Try.isAgg3
  z3 := Try.sizeOf3
  v3 := Try.zeroValue3
  t4 := Try.underlying4
  a4 := Try.isAgg4
  z4 := Try.sizeOf4
  v4 := Try.zeroValue4
  t9 := Try.underlying9
  a9 := Try.isAgg9
  z9 := Try.sizeOf9
  v9 := Try.zeroValue9
  t20 := Try.underlying20
  a20 := Try.isAgg20
  z20 := Try.sizeOf20
  v20 := Try.zeroValue20
  t22 := Try.underlying22
  a22 := Try.isAgg22
  z22 := Try.sizeOf22
  v22 := Try.zeroValue22 }
end Go.Proofs
namespace Go.Proofs.Ytbmgkgoghgdbhaa.Te
open Go.RowKit Go.Shelf

theorem grow_any (n : Nat) (w : World) (h : n ≤ 1000) : Calls Try.prog 89 #[.slice none 0 0, .int .i64 n] w fun e w' => ∃ v, e = .returned v ∧ w'.ownsRow w.heap.size 24 3 v 0 [] ∧ Below w.heap.size w w' := by
  rcases Nat.eq_zero_or_pos n with rfl | h0
  · refine Calls.mono (Any8.slices_Grow_room Ytbmgkgoghgdbhaa.Try.laysGrow none 0 0 0 w (by omega) (by omega) (by omega) (by omega)) ?_
    rintro e w' ⟨rfl, rfl⟩
    exact ⟨_, rfl, World.ownsRow_nil _ _ _ _, Below.refl _ _⟩
  · obtain ⟨i0, hi, hz0, hz1, hz2⟩ := info_parts info24
    have := Any8.slices_Grow_grow Ytbmgkgoghgdbhaa.Try.laysGrow i0 _ hi hz0 (by omega) none 0 0 n [] w (by omega) (by omega) (by rw [hz2]; omega) (by omega) (by simp) (fun _ => rfl) (fun a h => by cases h)
    refine Calls.mono this ?_
    rintro e w' ⟨rfl, rfl⟩
    have hge := grownCap_ge w (0 + n) 0 24
    refine ⟨_, rfl, ?_, ?_⟩
    · refine World.ownsRow_made w.drew _ _ (Nat.le_refl _) (grownCap_le_maxLen w (0 + n) 0 24 (by unfold maxLen; omega)) ?_
      change _ = grownCap w (0 + n) 0 24 * 3
      simp only [Array.size_append, size_zeroCells]
      change 0 + (0 + n - 0) * 3 + (grownCap w (0 + n) 0 24 - (0 + n)) * 3 = grownCap w (0 + n) 0 24 * 3
      omega
    · exact (Below.refl _ _).drew.alloc (Nat.le_refl _) _
end Go.Proofs.Ytbmgkgoghgdbhaa.Te
