/- The program's small letter of a letter, and Fold: what they answer. Condition: the text has at most 1048576 bytes. -/
import Derived.Test.YtglfaibihckhnaaUnitAt
namespace Go.Proofs.Ytglfaibihckhnaa.FoldP
open Go.RowKit Uni

/-- the small letter of a great one, and any other itself -/
def small (c : Int) : Int :=
  if c = 215 ∨ c = 930 then c
  else if (65 ≤ c ∧ c ≤ 90) ∨ (192 ≤ c ∧ c ≤ 222) ∨ (913 ≤ c ∧ c ≤ 939) ∨ (1040 ≤ c ∧ c ≤ 1071) then c + 32
  else if 1024 ≤ c ∧ c ≤ 1039 then c + 80
  else c

theorem ret_eq {k : IntKind} {a b : Int} (h : a = b) : Ending.returned (.int k a) = .returned (.int k b) := by rw [h]

set_option maxHeartbeats 2000000 in
theorem small_any (c : Int) (w : World) (h0 : 0 ≤ c) (h1 : c ≤ 1114111) : Calls Try.prog 46 #[.int .i32 c] w fun e w' => e = .returned (.int .i32 (small c)) ∧ w' = w := by
  by_cases e1 : c = 215
  · subst e1
    go_enter Try.func46, Try.ntmps46
    go_wp2
    go_ret
    exact ⟨rfl, rfl⟩
  by_cases e2 : c = 930
  · subst e2
    go_enter Try.func46, Try.ntmps46
    go_wp2
    go_ret
    exact ⟨rfl, rfl⟩
  have q1 : (c == 215) = false := by simpa using e1
  have q2 : (c == 930) = false := by simpa using e2
  have hs : small c = if (65 ≤ c ∧ c ≤ 90) ∨ (192 ≤ c ∧ c ≤ 222) ∨ (913 ≤ c ∧ c ≤ 939) ∨ (1040 ≤ c ∧ c ≤ 1071) then c + 32
    else if 1024 ≤ c ∧ c ≤ 1039 then c + 80 else c := by unfold small; rw [if_neg (by omega)]
  rcases (show c < 65 ∨ (90 < c ∧ c < 192) ∨ (222 < c ∧ c < 913) ∨ (939 < c ∧ c < 1024) ∨ 1071 < c ∨ (65 ≤ c ∧ c ≤ 90) ∨ (192 ≤ c ∧ c ≤ 222) ∨ (913 ≤ c ∧ c ≤ 939) ∨ (1040 ≤ c ∧ c ≤ 1071) ∨ (1024 ≤ c ∧ c ≤ 1039) by omega) with h | h | h | h | h | h | h | h | h | h
  · rw [hs, if_neg (by omega), if_neg (by omega)]
    clear hs e1 e2
    go_enter Try.func46, Try.ntmps46
    go_wp2
    go_ret
    exact ⟨rfl, rfl⟩
  · rw [hs, if_neg (by omega), if_neg (by omega)]
    clear hs e1 e2
    obtain ⟨ha, hb⟩ := h
    go_enter Try.func46, Try.ntmps46
    go_wp2
    go_ret
    exact ⟨rfl, rfl⟩
  · rw [hs, if_neg (by omega), if_neg (by omega)]
    clear hs e1 e2
    obtain ⟨ha, hb⟩ := h
    go_enter Try.func46, Try.ntmps46
    go_wp2
    go_ret
    exact ⟨rfl, rfl⟩
  · rw [hs, if_neg (by omega), if_neg (by omega)]
    clear hs e1 e2
    obtain ⟨ha, hb⟩ := h
    go_enter Try.func46, Try.ntmps46
    go_wp2
    go_ret
    exact ⟨rfl, rfl⟩
  · rw [hs, if_neg (by omega), if_neg (by omega)]
    clear hs e1 e2
    go_enter Try.func46, Try.ntmps46
    go_wp2
    go_ret
    exact ⟨rfl, rfl⟩
  · rw [hs, if_pos (by omega)]
    clear hs e1 e2
    obtain ⟨ha, hb⟩ := h
    go_enter Try.func46, Try.ntmps46
    go_wp2
    go_ret
    exact ⟨rfl, rfl⟩
  · rw [hs, if_pos (by omega)]
    clear hs e1 e2
    obtain ⟨ha, hb⟩ := h
    go_enter Try.func46, Try.ntmps46
    go_wp2
    go_ret
    exact ⟨rfl, rfl⟩
  · rw [hs, if_pos (by omega)]
    clear hs e1 e2
    obtain ⟨ha, hb⟩ := h
    go_enter Try.func46, Try.ntmps46
    go_wp2
    go_ret
    exact ⟨rfl, rfl⟩
  · rw [hs, if_pos (by omega)]
    clear hs e1 e2
    obtain ⟨ha, hb⟩ := h
    go_enter Try.func46, Try.ntmps46
    go_wp2
    go_ret
    exact ⟨rfl, rfl⟩
  · rw [hs, if_neg (by omega), if_pos (by omega)]
    clear hs e1 e2
    obtain ⟨ha, hb⟩ := h
    go_enter Try.func46, Try.ntmps46
    go_wp2
    go_ret
    exact ⟨rfl, rfl⟩
end Go.Proofs.Ytglfaibihckhnaa.FoldP
