/- The document's LetterAt and Units: what they answer. Condition: the place lies in the text (LetterAt); the text has at most 1048576 bytes. -/
import Derived.Test.YtiiheaopamjijaaUnitsP
namespace Go.Proofs.Ytiiheaopamjijaa.LetAt
open Go.RowKit Uni

theorem lead1 (b : Int) (w : World) (h : b < 128) : Calls Try.prog 31 #[.int .i64 b] w fun e w' => e = .returned (.tuple #[.int .i64 1, .int .i64 b, .int .i64 0]) ∧ w' = w := by
  go_enter Try.func31, Try.ntmps31
  go_wp2
  go_ret3
  exact ⟨rfl, rfl⟩
theorem lead2 (b : Int) (w : World) (h0 : 192 ≤ b) (h : b < 224) : Calls Try.prog 31 #[.int .i64 b] w fun e w' => e = .returned (.tuple #[.int .i64 2, .int .i64 (b - 192), .int .i64 128]) ∧ w' = w := by
  go_enter Try.func31, Try.ntmps31
  go_wp2
  go_ret3
  exact ⟨rfl, rfl⟩
theorem lead3 (b : Int) (w : World) (h0 : 224 ≤ b) (h : b < 240) : Calls Try.prog 31 #[.int .i64 b] w fun e w' => e = .returned (.tuple #[.int .i64 3, .int .i64 (b - 224), .int .i64 2048]) ∧ w' = w := by
  go_enter Try.func31, Try.ntmps31
  go_wp2
  go_ret3
  exact ⟨rfl, rfl⟩
theorem lead4 (b : Int) (w : World) (h0 : 240 ≤ b) (h : b < 248) : Calls Try.prog 31 #[.int .i64 b] w fun e w' => e = .returned (.tuple #[.int .i64 4, .int .i64 (b - 240), .int .i64 65536]) ∧ w' = w := by
  go_enter Try.func31, Try.ntmps31
  go_wp2
  go_ret3
  exact ⟨rfl, rfl⟩
theorem lead0 (b : Int) (w : World) (h0 : 128 ≤ b) (h : b < 192 ∨ 248 ≤ b) : Calls Try.prog 31 #[.int .i64 b] w fun e w' => e = .returned (.tuple #[.int .i64 0, .int .i64 0, .int .i64 0]) ∧ w' = w := by
  rcases h with h | h
  all_goals
    go_enter Try.func31, Try.ntmps31
    go_wp2
    go_ret3
    exact ⟨rfl, rfl⟩

def isLetB (c : Nat) : Bool := decide (isLet c)
theorem isLetter_any (c : Nat) (w : World) : Calls Try.prog 32 #[.int .i64 c] w fun e w' => e = .returned (.bool (isLetB c)) ∧ w' = w := by
  by_cases h1 : (c : Int) ≤ 1114111
  · by_cases h2 : (55296 : Int) ≤ c
    · by_cases h3 : (c : Int) ≤ 57343
      · have e : isLetB c = false := by unfold isLetB isLet isB; simp; omega
        rw [e]
        go_enter Try.func32, Try.ntmps32
        go_wp2
        go_ret
        exact ⟨rfl, rfl⟩
      · have e : isLetB c = true := by unfold isLetB isLet isB; simp; omega
        rw [e]
        go_enter Try.func32, Try.ntmps32
        go_wp2
        go_ret
        exact ⟨rfl, rfl⟩
    · have e : isLetB c = true := by unfold isLetB isLet isB; simp; omega
      rw [e]
      go_enter Try.func32, Try.ntmps32
      go_wp2
      go_ret
      exact ⟨rfl, rfl⟩
  · have e : isLetB c = false := by unfold isLetB isLet isB; simp; omega
    rw [e]
    go_enter Try.func32, Try.ntmps32
    go_wp2
    go_ret
    exact ⟨rfl, rfl⟩

end Go.Proofs.Ytiiheaopamjijaa.LetAt
