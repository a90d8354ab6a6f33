/- Plain facts: a folded text has the same units, each letter small; folded again it is itself. No conditions. -/
import Derived.Test.YtglfaibihckhnaaFoldR2
import Derived.Test.YtglfaibihckhnaaPcR
namespace Go.Proofs.Ytglfaibihckhnaa.Wh
open Uni FoldP FoldR Kinds Pc

theorem enc_len (r : Int) (h : Enc.okB r = true) : ((Lib.encodeRune r).length : Int) = Lib.runeLen r := by
  have hb : 0 ≤ r ∧ r ≤ 1114111 ∧ ¬ (55296 ≤ r ∧ r ≤ 57343) := by unfold Enc.okB at h; simp only [decide_eq_true_eq] at h; exact h
  unfold Lib.encodeRune Lib.runeLen
  rw [if_neg (by omega)]
  by_cases h1 : r ≤ 127
  · rw [Lib.encodeRuneZ_one hb.1 h1, if_pos h1]; rfl
  by_cases h2 : r ≤ 2047
  · rw [Lib.encodeRuneZ_two (by omega) h2, if_neg (by omega), if_pos h2]; rfl
  by_cases h3 : r ≤ 65535
  · rw [Lib.encodeRuneZ_three (by omega), if_neg (by omega), if_neg (by omega), if_neg (by omega), if_pos h3]; rfl
  · rw [Lib.encodeRuneZ_four (by omega) (by omega), if_neg (by omega), if_neg (by omega), if_neg (by omega), if_neg (by omega), if_pos (by omega)]; rfl

theorem small_len (c : Int) (h0 : 0 ≤ c) : Lib.runeLen (small c) = Lib.runeLen c := by
  unfold small
  split
  · rfl
  · split
    · unfold Lib.runeLen
      by_cases h1 : c ≤ 90
      · rw [if_neg (by omega), if_pos (by omega), if_neg (by omega), if_pos (by omega)]
      · rw [if_neg (by omega), if_neg (by omega), if_pos (by omega), if_neg (by omega), if_neg (by omega), if_pos (by omega)]
    · split
      · unfold Lib.runeLen
        rw [if_neg (by omega), if_neg (by omega), if_pos (by omega), if_neg (by omega), if_neg (by omega), if_pos (by omega)]
      · rfl

theorem small_small (c : Int) : small (small c) = small c := by
  by_cases h1 : c = 215 ∨ c = 930
  · have e : small c = c := by unfold small; rw [if_pos h1]
    rw [e, e]
  by_cases h2 : (65 ≤ c ∧ c ≤ 90) ∨ (192 ≤ c ∧ c ≤ 222) ∨ (913 ≤ c ∧ c ≤ 939) ∨ (1040 ≤ c ∧ c ≤ 1071)
  · have e : small c = c + 32 := by unfold small; rw [if_neg h1, if_pos h2]
    rw [e]
    unfold small
    rw [if_neg (by omega), if_neg (by omega), if_neg (by omega)]
  by_cases h3 : 1024 ≤ c ∧ c ≤ 1039
  · have e : small c = c + 80 := by unfold small; rw [if_neg h1, if_neg h2, if_pos h3]
    rw [e]
    unfold small
    rw [if_neg (by omega), if_neg (by omega), if_neg (by omega)]
  · have e : small c = c := by unfold small; rw [if_neg h1, if_neg h2, if_neg h3]
    rw [e, e]

theorem kind_small (c : Int) (h : 0 ≤ c) : kind (small c) = kind c := by
  by_cases h1 : c = 215 ∨ c = 930
  · have e : small c = c := by unfold small; rw [if_pos h1]
    rw [e]
  by_cases h2 : (65 ≤ c ∧ c ≤ 90) ∨ (192 ≤ c ∧ c ≤ 222) ∨ (913 ≤ c ∧ c ≤ 939) ∨ (1040 ≤ c ∧ c ≤ 1071)
  · have e : small c = c + 32 := by unfold small; rw [if_neg h1, if_pos h2]
    rw [e, k1 (by omega) (by omega) (by omega), k1 (by omega) (by omega) (by omega)]
  by_cases h3 : 1024 ≤ c ∧ c ≤ 1039
  · have e : small c = c + 80 := by unfold small; rw [if_neg h1, if_neg h2, if_pos h3]
    rw [e, k1 (by omega) (by omega) (by omega), k1 (by omega) (by omega) (by omega)]
  · have e : small c = c := by unfold small; rw [if_neg h1, if_neg h2, if_neg h3]
    rw [e]

/-- a letter that is written at a place is read there -/
theorem ua_of_bytes (f : ByteArray) (i : Nat) (r : Int) (h : Enc.okB r = true) (hb : ∀ k x, (Lib.encodeRune r)[k]? = some x → i + k < f.size ∧ bt f (i + k) = x.toNat) : ua f i = (r, (Lib.encodeRune r).length) := by
  have hr : 0 ≤ r ∧ r ≤ 1114111 ∧ ¬ (55296 ≤ r ∧ r ≤ 57343) := by unfold Enc.okB at h; simp only [decide_eq_true_eq] at h; exact h
  obtain ⟨n, rfl⟩ : ∃ n : Nat, r = n := ⟨r.toNat, by omega⟩
  have tn : ∀ x : Nat, x < 256 → (Nat.toUInt8 x).toNat = x := fun x hx => by simp; omega
  unfold Lib.encodeRune at hb ⊢
  by_cases h1 : (n : Int) ≤ 127
  · rw [Lib.encodeRuneZ_one hr.1 h1] at hb ⊢
    have b0 := (hb 0 _ rfl).2
    rw [tn _ (by omega)] at b0
    unfold ua
    rw [if_pos (by simp at b0; omega)]
    simp at b0
    rw [b0]
    rfl
  by_cases h2 : (n : Int) ≤ 2047
  · rw [Lib.encodeRuneZ_two (by omega) h2] at hb ⊢
    have b0 := (hb 0 _ rfl).2
    have b1 := hb 1 _ rfl
    rw [tn _ (by omega)] at b0
    rw [tn _ (by omega)] at b1
    have c2e : c2 f i = n := by unfold c2; rw [show i + 0 = i from rfl] at b0; omega
    have g1 : goB f (i + 1) = true := (goesOn_iff _ _).2 ⟨b1.1, by omega, by omega⟩
    rw [show i + 0 = i from rfl] at b0
    unfold ua
    rw [if_neg (by omega), if_pos ⟨by omega, by omega, g1, by omega⟩, c2e]
    rfl
  by_cases h3 : (n : Int) ≤ 65535
  · rw [Lib.encodeRuneZ_three (by omega)] at hb ⊢
    have b0 := (hb 0 _ rfl).2
    have b1 := hb 1 _ rfl
    have b2 := hb 2 _ rfl
    rw [tn _ (by omega)] at b0
    rw [tn _ (by omega)] at b1
    rw [tn _ (by omega)] at b2
    rw [show i + 0 = i from rfl] at b0
    have c3e : c3 f i = n := by unfold c3; omega
    have g1 : goB f (i + 1) = true := (goesOn_iff _ _).2 ⟨b1.1, by omega, by omega⟩
    have g2 : goB f (i + 2) = true := (goesOn_iff _ _).2 ⟨b2.1, by omega, by omega⟩
    unfold ua
    rw [if_neg (by omega), if_neg (fun h => by omega), if_pos ⟨by omega, by omega, g1, g2, by omega, by rw [c3e]; exact (isLet_iff _).2 (by omega)⟩, c3e]
    rfl
  · rw [Lib.encodeRuneZ_four (by omega) (by omega)] at hb ⊢
    have b0 := (hb 0 _ rfl).2
    have b1 := hb 1 _ rfl
    have b2 := hb 2 _ rfl
    have b3 := hb 3 _ rfl
    rw [tn _ (by omega)] at b0
    rw [tn _ (by omega)] at b1
    rw [tn _ (by omega)] at b2
    rw [tn _ (by omega)] at b3
    rw [show i + 0 = i from rfl] at b0
    have c4e : c4 f i = n := by unfold c4; omega
    have g1 : goB f (i + 1) = true := (goesOn_iff _ _).2 ⟨b1.1, by omega, by omega⟩
    have g2 : goB f (i + 2) = true := (goesOn_iff _ _).2 ⟨b2.1, by omega, by omega⟩
    have g3 : goB f (i + 3) = true := (goesOn_iff _ _).2 ⟨b3.1, by omega, by omega⟩
    unfold ua
    rw [if_neg (by omega), if_neg (fun h => by omega), if_neg (fun h => by omega), if_pos ⟨by omega, by omega, g1, g2, g3, by omega, by rw [c4e]; exact (isLet_iff _).2 (by omega)⟩, c4e]
    rfl
end Go.Proofs.Ytglfaibihckhnaa.Wh
