/- The document's kinds of units. Condition: the letter is at least -1. -/
import Derived.Test.YtglfaibihckhnaaKinds
namespace Go.Proofs.Ytglfaibihckhnaa.Kinds
open Go.RowKit Uni

set_option maxHeartbeats 4000000 in
theorem ref_any (c : Int) (w : World) (h0 : -1 ≤ c) (h1 : c ≤ 1114111) : Calls Try.prog 42 #[.int .i64 c] w fun e w' => e = .returned (.int .i64 (kind c)) ∧ w' = w := by
  by_cases em1 : c = (-1)
  · subst em1
    clear h0 h1
    go_enter Try.func42, Try.ntmps42
    go_wp2
    go_ret
    exact ⟨rfl, rfl⟩
  by_cases e215 : c = 215
  · subst e215
    clear h0 h1
    go_enter Try.func42, Try.ntmps42
    go_wp2
    go_ret
    exact ⟨rfl, rfl⟩
  by_cases e247 : c = 247
  · subst e247
    clear h0 h1
    go_enter Try.func42, Try.ntmps42
    go_wp2
    go_ret
    exact ⟨rfl, rfl⟩
  by_cases e32 : c = 32
  · subst e32
    clear h0 h1
    go_enter Try.func42, Try.ntmps42
    go_wp2
    go_ret
    exact ⟨rfl, rfl⟩
  by_cases e9 : c = 9
  · subst e9
    clear h0 h1
    go_enter Try.func42, Try.ntmps42
    go_wp2
    go_ret
    exact ⟨rfl, rfl⟩
  by_cases e10 : c = 10
  · subst e10
    clear h0 h1
    go_enter Try.func42, Try.ntmps42
    go_wp2
    go_ret
    exact ⟨rfl, rfl⟩
  have qm1 : (c == (-1)) = false := by simpa using em1
  have rm1 : (c != (-1)) = true := by simpa using em1
  have q215 : (c == 215) = false := by simpa using e215
  have r215 : (c != 215) = true := by simpa using e215
  have q247 : (c == 247) = false := by simpa using e247
  have r247 : (c != 247) = true := by simpa using e247
  have q32 : (c == 32) = false := by simpa using e32
  have r32 : (c != 32) = true := by simpa using e32
  have q9 : (c == 9) = false := by simpa using e9
  have r9 : (c != 9) = true := by simpa using e9
  have q10 : (c == 10) = false := by simpa using e10
  have r10 : (c != 10) = true := by simpa using e10
  rcases (show (65 ≤ c ∧ c ≤ 90) ∨ (97 ≤ c ∧ c ≤ 122) ∨ (192 ≤ c ∧ c ≤ 1114111) ∨ (48 ≤ c ∧ c ≤ 57) ∨ (0 ≤ c ∧ c ≤ 8) ∨ (11 ≤ c ∧ c ≤ 31) ∨ (33 ≤ c ∧ c ≤ 47) ∨ (58 ≤ c ∧ c ≤ 64) ∨ (91 ≤ c ∧ c ≤ 96) ∨ (123 ≤ c ∧ c ≤ 191) by omega) with ⟨ha, hb⟩ | ⟨ha, hb⟩ | ⟨ha, hb⟩ | ⟨ha, hb⟩ | ⟨ha, hb⟩ | ⟨ha, hb⟩ | ⟨ha, hb⟩ | ⟨ha, hb⟩ | ⟨ha, hb⟩ | ⟨ha, hb⟩
  · rw [k1 (by omega) (by omega) (by omega)]
    clear e215 e247 e32 e9 e10 em1
    go_enter Try.func42, Try.ntmps42
    go_wp2
    go_ret
    exact ⟨rfl, rfl⟩
  · rw [k1 (by omega) (by omega) (by omega)]
    clear e215 e247 e32 e9 e10 em1
    go_enter Try.func42, Try.ntmps42
    go_wp2
    go_ret
    exact ⟨rfl, rfl⟩
  · rw [k1 (by omega) (by omega) (by omega)]
    clear e215 e247 e32 e9 e10 em1
    go_enter Try.func42, Try.ntmps42
    go_wp2
    go_ret
    exact ⟨rfl, rfl⟩
  · rw [k2 (by omega)]
    clear e215 e247 e32 e9 e10 em1
    go_enter Try.func42, Try.ntmps42
    go_wp2
    go_ret
    exact ⟨rfl, rfl⟩
  · rw [k4 (by omega)]
    clear e215 e247 e32 e9 e10 em1
    go_enter Try.func42, Try.ntmps42
    go_wp2
    go_ret
    exact ⟨rfl, rfl⟩
  · rw [k4 (by omega)]
    clear e215 e247 e32 e9 e10 em1
    go_enter Try.func42, Try.ntmps42
    go_wp2
    go_ret
    exact ⟨rfl, rfl⟩
  · rw [k4 (by omega)]
    clear e215 e247 e32 e9 e10 em1
    go_enter Try.func42, Try.ntmps42
    go_wp2
    go_ret
    exact ⟨rfl, rfl⟩
  · rw [k4 (by omega)]
    clear e215 e247 e32 e9 e10 em1
    go_enter Try.func42, Try.ntmps42
    go_wp2
    go_ret
    exact ⟨rfl, rfl⟩
  · rw [k4 (by omega)]
    clear e215 e247 e32 e9 e10 em1
    go_enter Try.func42, Try.ntmps42
    go_wp2
    go_ret
    exact ⟨rfl, rfl⟩
  · rw [k4 (by omega)]
    clear e215 e247 e32 e9 e10 em1
    go_enter Try.func42, Try.ntmps42
    go_wp2
    go_ret
    exact ⟨rfl, rfl⟩
end Go.Proofs.Ytglfaibihckhnaa.Kinds
