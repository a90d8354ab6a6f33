/- The document's small letter and Fold: what they answer. Condition: the text has at most 1048576 bytes. -/
import Derived.Test.YtglfaibihckhnaaFoldP2
import Derived.Test.YtglfaibihckhnaaBytes
import Derived.Test.YtglfaibihckhnaaLU
namespace Go.Proofs.Ytglfaibihckhnaa.FoldR
open Go.RowKit Uni FoldP

set_option maxHeartbeats 2000000 in
theorem small_any (c : Int) (w : World) (h0 : 0 ≤ c) (h1 : c ≤ 1114111) : Calls Try.prog 48 #[.int .i64 c] w fun e w' => e = .returned (.int .i64 (small c)) ∧ w' = w := by
  by_cases e1 : c = 215
  · subst e1
    go_enter Try.func48, Try.ntmps48
    go_wp2
    go_ret
    exact ⟨rfl, rfl⟩
  by_cases e2 : c = 930
  · subst e2
    go_enter Try.func48, Try.ntmps48
    go_wp2
    go_ret
    exact ⟨rfl, rfl⟩
  have q1 : (c != 215) = true := by simpa using e1
  have q2 : (c != 930) = true := by simpa using e2
  have hs : small c = if (65 ≤ c ∧ c ≤ 90) ∨ (192 ≤ c ∧ c ≤ 222) ∨ (913 ≤ c ∧ c ≤ 939) ∨ (1040 ≤ c ∧ c ≤ 1071) then c + 32
    else if 1024 ≤ c ∧ c ≤ 1039 then c + 80 else c := by unfold small; rw [if_neg (by omega)]
  rcases (show c < 65 ∨ (90 < c ∧ c < 192) ∨ (222 < c ∧ c < 913) ∨ (939 < c ∧ c < 1024) ∨ 1071 < c ∨ (65 ≤ c ∧ c ≤ 90) ∨ (192 ≤ c ∧ c ≤ 222) ∨ (913 ≤ c ∧ c ≤ 939) ∨ (1040 ≤ c ∧ c ≤ 1071) ∨ (1024 ≤ c ∧ c ≤ 1039) by omega) with h | h | h | h | h | h | h | h | h | h
  · rw [hs, if_neg (by omega), if_neg (by omega)]
    clear hs e1 e2
    go_enter Try.func48, Try.ntmps48
    go_wp2
    go_ret
    exact ⟨rfl, rfl⟩
  · rw [hs, if_neg (by omega), if_neg (by omega)]
    clear hs e1 e2
    obtain ⟨ha, hb⟩ := h
    go_enter Try.func48, Try.ntmps48
    go_wp2
    go_ret
    exact ⟨rfl, rfl⟩
  · rw [hs, if_neg (by omega), if_neg (by omega)]
    clear hs e1 e2
    obtain ⟨ha, hb⟩ := h
    go_enter Try.func48, Try.ntmps48
    go_wp2
    go_ret
    exact ⟨rfl, rfl⟩
  · rw [hs, if_neg (by omega), if_neg (by omega)]
    clear hs e1 e2
    obtain ⟨ha, hb⟩ := h
    go_enter Try.func48, Try.ntmps48
    go_wp2
    go_ret
    exact ⟨rfl, rfl⟩
  · rw [hs, if_neg (by omega), if_neg (by omega)]
    clear hs e1 e2
    go_enter Try.func48, Try.ntmps48
    go_wp2
    go_ret
    exact ⟨rfl, rfl⟩
  · rw [hs, if_pos (by omega)]
    clear hs e1 e2
    obtain ⟨ha, hb⟩ := h
    go_enter Try.func48, Try.ntmps48
    go_wp2
    go_ret
    exact ⟨rfl, rfl⟩
  · rw [hs, if_pos (by omega)]
    clear hs e1 e2
    obtain ⟨ha, hb⟩ := h
    go_enter Try.func48, Try.ntmps48
    go_wp2
    go_ret
    exact ⟨rfl, rfl⟩
  · rw [hs, if_pos (by omega)]
    clear hs e1 e2
    obtain ⟨ha, hb⟩ := h
    go_enter Try.func48, Try.ntmps48
    go_wp2
    go_ret
    exact ⟨rfl, rfl⟩
  · rw [hs, if_pos (by omega)]
    clear hs e1 e2
    obtain ⟨ha, hb⟩ := h
    go_enter Try.func48, Try.ntmps48
    go_wp2
    go_ret
    exact ⟨rfl, rfl⟩
  · rw [hs, if_neg (by omega), if_pos (by omega)]
    clear hs e1 e2
    obtain ⟨ha, hb⟩ := h
    go_enter Try.func48, Try.ntmps48
    go_wp2
    go_ret
    exact ⟨rfl, rfl⟩

/-- what a unit becomes -/
def foldU (s : ByteArray) (u : Nat × Nat × Int) : List UInt8 := if u.2.2 = -1 then [s.get! u.1] else Lib.encodeRune (small u.2.2)
theorem foldFrom_units (s : ByteArray) : ∀ f i, foldFrom s f i = (unitsFrom s f i).flatMap (foldU s)
  | 0, _ => rfl
  | f + 1, i => by
    unfold foldFrom unitsFrom
    split
    · rw [foldFrom_units s f, List.flatMap_cons]
      rfl
    · rfl
theorem fold_units (s : ByteArray) : fold s = (units s).flatMap (foldU s) := foldFrom_units s _ _
def foldK (s : ByteArray) (k : Nat) : List UInt8 := ((units s).take k).flatMap (foldU s)
theorem foldK_succ (s : ByteArray) (k : Nat) (h : k < (units s).length) : foldK s (k + 1) = foldK s k ++ foldU s (units s)[k] := by
  unfold foldK
  rw [List.take_succ_eq_append_getElem h, List.flatMap_append]
  simp
theorem foldK_le (s : ByteArray) (k : Nat) : (foldK s k).length ≤ 4 * k := by
  have : ∀ l : List (Nat × Nat × Int), (l.flatMap (foldU s)).length ≤ 4 * l.length := by
    intro l
    induction l with
    | nil => simp
    | cons a l ih =>
      have h4 : (foldU s a).length ≤ 4 := by
        unfold foldU
        split
        · simp
        · have := Lib.runeCells_le (small a.2.2)
          rw [Lib.runeCells_length] at this
          omega
      simp only [List.flatMap_cons, List.length_append, List.length_cons]
      omega
  have h := this ((units s).take k)
  have h2 : ((units s).take k).length ≤ k := List.length_take_le _ _
  unfold foldK
  omega
theorem foldK_all (s : ByteArray) (k : Nat) (h : (units s).length ≤ k) : foldK s k = fold s := by
  unfold foldK
  rw [List.take_of_length_le h, fold_units]
end Go.Proofs.Ytglfaibihckhnaa.FoldR
