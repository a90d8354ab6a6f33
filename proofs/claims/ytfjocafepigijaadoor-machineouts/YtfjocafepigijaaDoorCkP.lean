/- The program's Check: what it answers of any machine. No conditions. -/
import Derived.Test.YtfjocafepigijaaDoorSet
import Derived.Test.YtfjocafepigijaaDoorCkR
namespace Go.Proofs.YtfjocafepigijaaDoor.CkP
open Go.RowKit Mv CkR Set

def wb (n l m : Int) : Bool := decide (l ≤ n ∧ n ≤ m)
theorem within_any (n l m : Int) (w : World) : Calls Tryd.prog 31 #[.int .i64 n, .int .i64 l, .int .i64 m] w fun e w' => e = .returned (.bool (wb n l m)) ∧ w' = w := by
  by_cases h1 : l ≤ n
  · by_cases h2 : n ≤ m
    · have e : wb n l m = true := by unfold wb; simp; omega
      rw [e]
      go_enter Tryd.func31, Tryd.ntmps31
      go_wp2
      go_ret
      exact ⟨rfl, rfl⟩
    · have e : wb n l m = false := by unfold wb; simp; omega
      rw [e]
      go_enter Tryd.func31, Tryd.ntmps31
      go_wp2
      go_ret
      exact ⟨rfl, rfl⟩
  · have e : wb n l m = false := by unfold wb; simp; omega
    rw [e]
    go_enter Tryd.func31, Tryd.ntmps31
    go_wp2
    go_ret
    exact ⟨rfl, rfl⟩

set_option maxHeartbeats 1000000 in
set_option maxRecDepth 100000 in
theorem fits_any (f t i o x st : Int) (w : World) (h1 : 1 ≤ st) (h2 : st ≤ 3000) : Calls Tryd.prog 58 #[.agg #[.int .i64 f, .int .i64 t, .int .i64 i, .int .i64 o, .int .i64 x], .int .i64 st] w fun e w' => e = .returned (.bool (arcB st (f, t, i, o, x))) ∧ Below w.heap.size w w' := by
  have ha : arcB st (f, t, i, o, x) = (wb f 0 (st - 1) && wb t 0 (st - 1) && wb i 0 60 && wb o 0 60 && wb x 0 1000000) := by
    unfold arcB wb
    rw [Bool.eq_iff_iff]
    simp only [Bool.and_eq_true, decide_eq_true_eq]
    omega
  rw [ha]
  cases q1 : wb f 0 (st - 1) <;> cases q2 : wb t 0 (st - 1) <;> cases q3 : wb i 0 60 <;> cases q4 : wb o 0 60 <;> cases q5 : wb x 0 1000000
  all_goals
    clear ha
    go_enter Tryd.func58, Tryd.ntmps58
    go_wp2_with (go_at_call 31; refine (within_any _ _ _ _).mono ?_; rintro e w' ⟨rfl, rfl⟩)
    go_ret
    exact ⟨rfl, (Below.refl _ _).alloc (Nat.le_refl _) _⟩
end Go.Proofs.YtfjocafepigijaaDoor.CkP
