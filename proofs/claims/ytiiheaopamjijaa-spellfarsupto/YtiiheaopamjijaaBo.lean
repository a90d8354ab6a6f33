/- The program's both: the units of two texts. No conditions. -/
import Derived.Test.YtiiheaopamjijaaUn
namespace Go.Proofs.Ytiiheaopamjijaa.Bo
open Go.RowKit Uni UnitsP Rw

/-- both texts are short enough -/
def fits (a b : ByteArray) : Bool := decide ((tx a).length ≤ 200) && decide ((tx b).length ≤ 200)

set_option maxHeartbeats 1000000 in
set_option maxRecDepth 100000 in
theorem both_any (a b : ByteArray) (w : World) :
    Calls Try.prog 11 #[.string a, .string b] w fun e w' => ∃ u v, e = .returned (.tuple #[u, v, .bool (fits a b)]) ∧ (fits a b = true → IsZ w' u (tx a) ∧ IsZ w' v (tx b)) ∧ Below w.heap.size w w' := by
  have c1 := fun W => Un.units_any a W
  have c2 := fun W => Un.units_any b W
  unfold fits
  by_cases h1 : (tx a).length ≤ 200
  · by_cases h2 : (tx b).length ≤ 200
    · simp only [h1, h2, decide_true, Bool.and_self, forall_const] at c1 c2 ⊢
      go_enter Try.func11, Try.ntmps11
      go_wp2_with (first | (go_at_call 16; with_reducible refine (c1 _).mono ?_; rintro e w1 ⟨u, rfl, hu, -, hb1⟩) | (go_at_call 16; with_reducible refine (c2 _).mono ?_; rintro e w2 ⟨v, rfl, hv, -, hb2⟩))
      go_ret3
      exact ⟨u, v, rfl, ⟨hu.below hb2, hv⟩, hb1.trans (hb2.mono hb1.size)⟩
    · simp only [h1, h2, decide_true, decide_false, Bool.and_false, forall_const] at c1 c2 ⊢
      go_enter Try.func11, Try.ntmps11
      go_wp2_with (first | (go_at_call 16; with_reducible refine (c1 _).mono ?_; rintro e w1 ⟨u, rfl, -, -, hb1⟩) | (go_at_call 16; with_reducible refine (c2 _).mono ?_; rintro e w2 ⟨v, rfl, -, -, hb2⟩))
      go_ret3
      exact ⟨_, _, rfl, (fun h => by cases h), hb1.trans (hb2.mono hb1.size)⟩
  · simp only [h1, decide_false, Bool.false_and] at c1 ⊢
    go_enter Try.func11, Try.ntmps11
    go_wp2_with (go_at_call 16; with_reducible refine (c1 _).mono ?_; rintro e w1 ⟨u, rfl, -, -, hb1⟩)
    go_ret3
    exact ⟨_, _, rfl, (fun h => by cases h), hb1⟩
end Go.Proofs.Ytiiheaopamjijaa.Bo
