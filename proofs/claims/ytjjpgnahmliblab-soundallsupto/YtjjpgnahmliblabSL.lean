/- SoundAlls: at every list of changes and text as they lie in memory the law returns true. No conditions beyond how they lie. -/
import Derived.Test.YtjjpgnahmliblabAm
import Derived.Test.YtjjpgnahmliblabSb
namespace Go.Proofs.Ytjjpgnahmliblab.SL
open Go.RowKit Go.Shelf Sd Md Sc Aq Sm Ls

set_option maxHeartbeats 2000000 in
theorem walk (v vx : Value) (xs : List VC) (text : List Int) (w : World) (h : IsL w v xs) (hx : IsI w vx text) :
    Calls Try.prog 4 #[v, vx] w fun e w' => e = .returned (.bool true) ∧ Below w.heap.size w w' := by
  have con11 := fun W (hW : Below w.heap.size w W) => Al.all_any v vx xs text W (h.below (Nat.le_refl _) hW) (hx.below (Nat.le_refl _) hW)
  have con12 := fun W (hW : Below w.heap.size w W) => Am.all_any v vx xs text W (h.below (Nat.le_refl _) hW) (hx.below (Nat.le_refl _) hW)
  generalize allR (chs xs) text = res at con11 con12
  generalize allE (chs xs) text = er at con11 con12
  have de : (er == er) = true := by simp
  clear h hx
  go_enter Try.func4, Try.ntmps4
  go_wp2_with (first
    | (go_at_call 11; refine (con11 _ (Below.refl _ _)).mono ?_; rintro e w1 ⟨v1, rfl, hI1, hb1⟩)
    | (go_at_call 12; refine (con12 _ hb1).mono ?_; rintro e w2 ⟨v2, rfl, hI2, hb2⟩; have B2 := hb1.trans (hb2.mono hb1.size); have J1 := hI1.below (Nat.le_refl _) hb2)
    | (go_at_call 7; refine (Sb.begun_any _).mono ?_; rintro e w3 ⟨rfl, hb3⟩; have B3 := B2.trans (hb3.mono B2.size))
    | (go_at_call 10; refine (same_any _ _ res _ (J1.below (Nat.le_refl _) hb3) (hI2.below (Nat.le_refl _) hb3)).mono ?_; rintro e w4 ⟨rfl, q, rfl⟩))
  go_ret
  exact ⟨rfl, below_drewN' B3 q⟩
end Go.Proofs.Ytjjpgnahmliblab.SL
