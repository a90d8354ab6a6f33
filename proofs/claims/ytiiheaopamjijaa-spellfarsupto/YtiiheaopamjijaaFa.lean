/- The program's Far. No conditions. -/
import Derived.Test.YtiiheaopamjijaaAp
import Derived.Test.YtiiheaopamjijaaBo
namespace Go.Proofs.Ytiiheaopamjijaa.Fa
open Go.RowKit Uni UnitsP Rw Ay Fi Nx Ap Bo

/-- how far two texts are apart, as the program reckons -/
def farP (a b : ByteArray) : Int := rowOf (tx b) (tx a) (tx b).length

set_option maxHeartbeats 1000000 in
set_option maxRecDepth 100000 in
theorem far_any (a b : ByteArray) (w : World) :
    Calls Try.prog 4 #[.string a, .string b] w fun e w' => e = .returned (.tuple #[.int .i64 (if fits a b then farP a b else 0), .int .i64 (if fits a b then 0 else 2)]) ∧ Below w.heap.size w w' := by
  have c1 := both_any a b w
  by_cases hf : fits a b = true
  · rw [hf] at c1 ⊢
    have hl : (tx a).length ≤ 200 ∧ (tx b).length ≤ 200 := by simpa [fits] using hf
    have c2 := fun v v' W h h' => apart_any v v' (tx a) (tx b) W h h' hl.1 hl.2
    go_enter Try.func4, Try.ntmps4
    go_wp2_with (first
      | (go_at_call 11; refine c1.mono ?_; rintro e w1 ⟨u, v, rfl, hz, hb1⟩; have hz1 := hz rfl; clear hz)
      | (go_at_call 12; refine (c2 _ _ _ hz1.1 hz1.2).mono ?_; rintro e w2 ⟨rfl, hb2⟩))
    go_ret2
    exact ⟨rfl, hb1.trans (hb2.mono hb1.size)⟩
  · have hf' : fits a b = false := by simpa using hf
    rw [hf'] at c1 ⊢
    go_enter Try.func4, Try.ntmps4
    go_wp2_with (go_at_call 11; refine c1.mono ?_; rintro e w1 ⟨u, v, rfl, -, hb1⟩)
    go_ret2
    exact ⟨rfl, hb1⟩
end Go.Proofs.Ytiiheaopamjijaa.Fa
