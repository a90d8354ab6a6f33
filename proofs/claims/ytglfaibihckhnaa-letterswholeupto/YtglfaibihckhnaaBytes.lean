/- Plain facts: a letter's bytes in a text are the letter, written. Condition: the place lies in the text. -/
import Derived.Test.YtglfaibihckhnaaUni
namespace Go.Proofs.Ytglfaibihckhnaa.Uni

theorem ofNat_bt (s : ByteArray) (k : Nat) : (bt s k).toUInt8 = s.get! k := by
  unfold bt
  simp

theorem extract_get (s : ByteArray) (i n : Nat) (h : i + n ≤ s.size) : (s.extract i (i + n)).data.toList = (List.range n).map fun k => s.get! (i + k) := by
  have hx : (s.extract i (i + n)).data.toList = (s.data.toList.drop i).take n := by
    rw [ByteArray.data_extract, Array.toList_extract, List.extract_eq_take_drop]
    simp
  rw [hx]
  apply List.ext_getElem?
  intro k
  by_cases hk : k < n
  · rw [List.getElem?_take_of_lt hk]
    have h1 : i + k < s.size := by omega
    have e : (s.data.toList.drop i)[k]? = some (s.get! (i + k)) := by
      rw [at_drop]
      exact ⟨h1, rfl⟩
    rw [e]
    simp [hk]
  · rw [List.getElem?_take_eq_none (by omega)]
    simp [hk]

/-- the bytes of a letter in a text are the letter, written -/
theorem bytes_of (s : ByteArray) (i : Nat) (h : i < s.size) (hb : ¬ (ua s i).1 = -1) : (s.extract i (i + (ua s i).2)).data.toList = Lib.encodeRune (ua s i).1 := by
  have f := ua_facts s i h
  rw [extract_get s i _ f.2.1]
  have hb0 := bt_lt s i
  have hb1 := bt_lt s (i + 1)
  have hb2 := bt_lt s (i + 2)
  have hb3 := bt_lt s (i + 3)
  unfold Lib.encodeRune
  revert hb f
  unfold ua
  by_cases h0 : bt s i < 128
  · simp only [h0, if_true]
    intro _ _
    rw [Lib.encodeRuneZ_one (by omega) (by omega)]
    simp [List.range_succ, ← ofNat_bt]
  simp only [h0, if_false]
  by_cases h2 : 192 ≤ bt s i ∧ bt s i < 224 ∧ goB s (i + 1) = true ∧ 128 ≤ c2 s i
  · simp only [h2, and_self, if_true]
    intro _ _
    have g1 := (goesOn_iff _ _).1 h2.2.2.1
    have hc : c2 s i = (bt s i - 192) * 64 + (bt s (i + 1) - 128) := rfl
    rw [Lib.encodeRuneZ_two (by omega) (by omega)]
    have e1 : (192 + (c2 s i : Int) / 64) = (bt s i : Int) := by omega
    have e2 : (128 + (c2 s i : Int) % 64) = (bt s (i + 1) : Int) := by omega
    rw [e1, e2]
    simp [List.range_succ, ← ofNat_bt]
  simp only [h2, if_false]
  by_cases h3 : 224 ≤ bt s i ∧ bt s i < 240 ∧ goB s (i + 1) = true ∧ goB s (i + 2) = true ∧ 2048 ≤ c3 s i ∧ isB (c3 s i) = true
  · simp only [h3, and_self, if_true]
    intro _ _
    have g1 := (goesOn_iff _ _).1 h3.2.2.1
    have g2 := (goesOn_iff _ _).1 h3.2.2.2.1
    have hi := (isLet_iff _).1 h3.2.2.2.2.2
    have hc : c3 s i = ((bt s i - 224) * 64 + (bt s (i + 1) - 128)) * 64 + (bt s (i + 2) - 128) := rfl
    rw [Lib.encodeRuneZ_three (by omega)]
    have e1 : (224 + (c3 s i : Int) / 4096) = (bt s i : Int) := by omega
    have e2 : (128 + (c3 s i : Int) / 64 % 64) = (bt s (i + 1) : Int) := by omega
    have e3 : (128 + (c3 s i : Int) % 64) = (bt s (i + 2) : Int) := by omega
    rw [e1, e2, e3]
    simp [List.range_succ, ← ofNat_bt]
  simp only [h3, if_false]
  by_cases h4 : 240 ≤ bt s i ∧ bt s i < 248 ∧ goB s (i + 1) = true ∧ goB s (i + 2) = true ∧ goB s (i + 3) = true ∧ 65536 ≤ c4 s i ∧ isB (c4 s i) = true
  · simp only [h4, and_self, if_true]
    intro _ _
    have g1 := (goesOn_iff _ _).1 h4.2.2.1
    have g2 := (goesOn_iff _ _).1 h4.2.2.2.1
    have g3 := (goesOn_iff _ _).1 h4.2.2.2.2.1
    have hi := (isLet_iff _).1 h4.2.2.2.2.2.2
    have hc : c4 s i = (((bt s i - 240) * 64 + (bt s (i + 1) - 128)) * 64 + (bt s (i + 2) - 128)) * 64 + (bt s (i + 3) - 128) := rfl
    rw [Lib.encodeRuneZ_four (by omega) (by omega)]
    have e1 : (240 + (c4 s i : Int) / 262144) = (bt s i : Int) := by omega
    have e2 : (128 + (c4 s i : Int) / 4096 % 64) = (bt s (i + 1) : Int) := by omega
    have e3 : (128 + (c4 s i : Int) / 64 % 64) = (bt s (i + 2) : Int) := by omega
    have e4 : (128 + (c4 s i : Int) % 64) = (bt s (i + 3) : Int) := by omega
    rw [e1, e2, e3, e4]
    simp [List.range_succ, ← ofNat_bt]
  simp only [h4, if_false]
  intro hb _
  exact absurd trivial hb

theorem unitsFrom_mem (s : ByteArray) : ∀ f i u, u ∈ unitsFrom s f i → u.1 < s.size ∧ u.2.1 = (ua s u.1).2 ∧ u.2.2 = (ua s u.1).1
  | 0, _, _, h => by simp [unitsFrom] at h
  | f + 1, i, u, h => by
    unfold unitsFrom at h
    split at h
    · rename_i hi
      cases List.mem_cons.1 h with
      | inl e => subst e; exact ⟨hi, rfl, rfl⟩
      | inr e => exact unitsFrom_mem s f _ u e
    · simp at h
theorem unit_at (s : ByteArray) (k : Nat) (h : k < (units s).length) : ∃ i, i < s.size ∧ (units s)[k] = (i, (ua s i).2, (ua s i).1) := by
  have m := unitsFrom_mem s _ _ _ (List.getElem_mem h)
  refine ⟨((units s)[k]).1, m.1, ?_⟩
  rw [← m.2.1, ← m.2.2]
end Go.Proofs.Ytglfaibihckhnaa.Uni
