/- The kinds of units: what the program's and the document's calls answer. Condition: the letter is at least -1. -/
import Derived.Test.YtglfaibihckhnaaUnitAt
namespace Go.Proofs.Ytglfaibihckhnaa.Kinds
open Go.RowKit Uni

/-- a unit's kind -/
def kind (c : Int) : Int :=
  if c < 0 then 5
  else if c = 215 ∨ c = 247 then 4
  else if (65 ≤ c ∧ c ≤ 90) ∨ (97 ≤ c ∧ c ≤ 122) ∨ 192 ≤ c then 1
  else if 48 ≤ c ∧ c ≤ 57 then 2
  else if c = 32 ∨ c = 9 ∨ c = 10 then 3
  else 4
theorem kind_bd (c : Int) : 1 ≤ kind c ∧ kind c ≤ 5 := by
  unfold kind
  split
  · omega
  · split
    · omega
    · split
      · omega
      · split
        · omega
        · split <;> omega
theorem k5 {c : Int} (h : c < 0) : kind c = 5 := by unfold kind; rw [if_pos h]
theorem k1 {c : Int} (h0 : 0 ≤ c) (hs : ¬ (c = 215 ∨ c = 247)) (h : (65 ≤ c ∧ c ≤ 90) ∨ (97 ≤ c ∧ c ≤ 122) ∨ 192 ≤ c) : kind c = 1 := by
  unfold kind; rw [if_neg (by omega), if_neg hs, if_pos h]
theorem k2 {c : Int} (h : 48 ≤ c ∧ c ≤ 57) : kind c = 2 := by
  unfold kind; rw [if_neg (by omega), if_neg (by omega), if_neg (by omega), if_pos h]
theorem k4 {c : Int} (h : (0 ≤ c ∧ c ≤ 8) ∨ (11 ≤ c ∧ c ≤ 31) ∨ (33 ≤ c ∧ c ≤ 47) ∨ (58 ≤ c ∧ c ≤ 64) ∨ (91 ≤ c ∧ c ≤ 96) ∨ (123 ≤ c ∧ c ≤ 191)) : kind c = 4 := by
  unfold kind; rw [if_neg (by omega), if_neg (by omega), if_neg (by omega), if_neg (by omega), if_neg (by omega)]

set_option maxHeartbeats 4000000 in
theorem prog_any (c : Int) (w : World) (h0 : -1 ≤ c) (h1 : c ≤ 1114111) : Calls Try.prog 40 #[.int .i64 c] w fun e w' => e = .returned (.int .i64 (kind c)) ∧ w' = w := by
  by_cases em1 : c = (-1)
  · subst em1
    clear h0 h1
    go_enter Try.func40, Try.ntmps40
    go_wp2
    go_ret
    exact ⟨rfl, rfl⟩
  by_cases e215 : c = 215
  · subst e215
    clear h0 h1
    go_enter Try.func40, Try.ntmps40
    go_wp2
    go_ret
    exact ⟨rfl, rfl⟩
  by_cases e247 : c = 247
  · subst e247
    clear h0 h1
    go_enter Try.func40, Try.ntmps40
    go_wp2
    go_ret
    exact ⟨rfl, rfl⟩
  by_cases e32 : c = 32
  · subst e32
    clear h0 h1
    go_enter Try.func40, Try.ntmps40
    go_wp2
    go_ret
    exact ⟨rfl, rfl⟩
  by_cases e9 : c = 9
  · subst e9
    clear h0 h1
    go_enter Try.func40, Try.ntmps40
    go_wp2
    go_ret
    exact ⟨rfl, rfl⟩
  by_cases e10 : c = 10
  · subst e10
    clear h0 h1
    go_enter Try.func40, Try.ntmps40
    go_wp2
    go_ret
    exact ⟨rfl, rfl⟩
  have qm1 : (c == (-1)) = false := by simpa using em1
  have rm1 : (c != (-1)) = true := by simpa using em1
  have q215 : (c == 215) = false := by simpa using e215
  have r215 : (c != 215) = true := by simpa using e215
  have q247 : (c == 247) = false := by simpa using e247
  have r247 : (c != 247) = true := by simpa using e247
  have q32 : (c == 32) = false := by simpa using e32
  have r32 : (c != 32) = true := by simpa using e32
  have q9 : (c == 9) = false := by simpa using e9
  have r9 : (c != 9) = true := by simpa using e9
  have q10 : (c == 10) = false := by simpa using e10
  have r10 : (c != 10) = true := by simpa using e10
  rcases (show (65 ≤ c ∧ c ≤ 90) ∨ (97 ≤ c ∧ c ≤ 122) ∨ (192 ≤ c ∧ c ≤ 1114111) ∨ (48 ≤ c ∧ c ≤ 57) ∨ (0 ≤ c ∧ c ≤ 8) ∨ (11 ≤ c ∧ c ≤ 31) ∨ (33 ≤ c ∧ c ≤ 47) ∨ (58 ≤ c ∧ c ≤ 64) ∨ (91 ≤ c ∧ c ≤ 96) ∨ (123 ≤ c ∧ c ≤ 191) by omega) with ⟨ha, hb⟩ | ⟨ha, hb⟩ | ⟨ha, hb⟩ | ⟨ha, hb⟩ | ⟨ha, hb⟩ | ⟨ha, hb⟩ | ⟨ha, hb⟩ | ⟨ha, hb⟩ | ⟨ha, hb⟩ | ⟨ha, hb⟩
  · rw [k1 (by omega) (by omega) (by omega)]
    clear e215 e247 e32 e9 e10 em1
    go_enter Try.func40, Try.ntmps40
    go_wp2
    go_ret
    exact ⟨rfl, rfl⟩
  · rw [k1 (by omega) (by omega) (by omega)]
    clear e215 e247 e32 e9 e10 em1
    go_enter Try.func40, Try.ntmps40
    go_wp2
    go_ret
    exact ⟨rfl, rfl⟩
  · rw [k1 (by omega) (by omega) (by omega)]
    clear e215 e247 e32 e9 e10 em1
    go_enter Try.func40, Try.ntmps40
    go_wp2
    go_ret
    exact ⟨rfl, rfl⟩
  · rw [k2 (by omega)]
    clear e215 e247 e32 e9 e10 em1
    go_enter Try.func40, Try.ntmps40
    go_wp2
    go_ret
    exact ⟨rfl, rfl⟩
  · rw [k4 (by omega)]
    clear e215 e247 e32 e9 e10 em1
    go_enter Try.func40, Try.ntmps40
    go_wp2
    go_ret
    exact ⟨rfl, rfl⟩
  · rw [k4 (by omega)]
    clear e215 e247 e32 e9 e10 em1
    go_enter Try.func40, Try.ntmps40
    go_wp2
    go_ret
    exact ⟨rfl, rfl⟩
  · rw [k4 (by omega)]
    clear e215 e247 e32 e9 e10 em1
    go_enter Try.func40, Try.ntmps40
    go_wp2
    go_ret
    exact ⟨rfl, rfl⟩
  · rw [k4 (by omega)]
    clear e215 e247 e32 e9 e10 em1
    go_enter Try.func40, Try.ntmps40
    go_wp2
    go_ret
    exact ⟨rfl, rfl⟩
  · rw [k4 (by omega)]
    clear e215 e247 e32 e9 e10 em1
    go_enter Try.func40, Try.ntmps40
    go_wp2
    go_ret
    exact ⟨rfl, rfl⟩
  · rw [k4 (by omega)]
    clear e215 e247 e32 e9 e10 em1
    go_enter Try.func40, Try.ntmps40
    go_wp2
    go_ret
    exact ⟨rfl, rfl⟩
end Go.Proofs.Ytglfaibihckhnaa.Kinds
