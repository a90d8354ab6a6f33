/- What must be in any case: Far of two short texts. No conditions. -/
import Derived.Test.YtiiheaopamjijaaFa
namespace Go.Proofs.Ytiiheaopamjijaa.Be
open Go.RowKit Rw Ap Bo Fa

theorem tx1 : tx { data := #[97, 98, 255] } = [{ data := #[97] }, { data := #[98] }, { data := #[255] }] := by decide
theorem tx2 : tx { data := #[98, 255, 254] } = [{ data := #[98] }, { data := #[255] }, { data := #[254] }] := by decide
theorem fits_two : fits { data := #[97, 98, 255] } { data := #[98, 255, 254] } = true := by unfold fits; rw [tx1, tx2]; decide
theorem far_two : farP { data := #[97, 98, 255] } { data := #[98, 255, 254] } = 2 := by unfold farP; rw [tx1, tx2]; decide
theorem begun_any (w : World) : Calls Try.prog 9 #[] w fun e w' => e = .returned (.bool true) ∧ Below w.heap.size w w' := by
  have c := fun W => far_any { data := #[97, 98, 255] } { data := #[98, 255, 254] } W
  simp only [fits_two, far_two, if_true] at c
  go_enter Try.func9, Try.ntmps9
  go_wp2_with (go_at_call 4; refine (c _).mono ?_; rintro e w1 ⟨rfl, hb⟩)
  go_ret
  exact ⟨rfl, hb⟩
end Go.Proofs.Ytiiheaopamjijaa.Be
