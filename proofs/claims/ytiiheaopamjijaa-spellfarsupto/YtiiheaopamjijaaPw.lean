/- The way, in plain words: it makes the other text, and costs what the texts are apart. No conditions beyond 200 units. -/
import Derived.Test.YtiiheaopamjijaaWy
import Derived.Test.YtiiheaopamjijaaDr
namespace Go.Proofs.Ytiiheaopamjijaa.Pw
open Rw Ay Fi Nx Ap Lp Lg Rv Bk Wf Dr

/-- the table's rule, within -/
theorem T_step (us l : List ByteArray) (i j : Nat) (hi : i < us.length) (hj : j < l.length) : T us l (i + 1) (j + 1) = if us[i] = l[j] then T us l i j else 1 + min (min (T us l i j) (T us l (i + 1) j)) (T us l i (j + 1)) := by
  unfold T
  rw [rowOf_take l us i hi, nx_lt us[i] l _ j hj]
theorem T_top (us l : List ByteArray) (j : Nat) (hj : j ≤ l.length) : T us l 0 j = j := by
  simp [T, rowOf, f0, hj]
/-- what an edit costs -/
def cost (L : List (Int × ByteArray)) : Nat := (L.filter fun e => e.1 != 1).length
theorem cost_cons (e : Int × ByteArray) (L : List (Int × ByteArray)) : cost (e :: L) = (if e.1 = 1 then 0 else 1) + cost L := by
  unfold cost
  by_cases h : e.1 = 1
  · simp [h]
  · have : (e.1 != 1) = true := by simpa using h
    rw [List.filter_cons_of_pos (by exact this), if_neg h, List.length_cons]
    omega
/-- the edits from a place back cost what is apart there -/
theorem backs_cost (us l : List ByteArray) : ∀ (n i j : Nat), i + j ≤ n → i ≤ us.length → j ≤ l.length → (cost (backs us l n i j) : Int) = T us l i j
  | 0, i, j, hn, _, _ => by
    obtain ⟨rfl, rfl⟩ : i = 0 ∧ j = 0 := by omega
    simp [backs, cost, T_top]
  | n + 1, 0, 0, _, _, _ => by simp [backs, cost, T_top]
  | n + 1, 0, j + 1, hn, hi, hj => by
    have ih := backs_cost us l n 0 j (by omega) hi (by omega)
    simp only [backs, lastE]
    rw [if_neg (by omega), cost_cons]
    simp only [show ((4 : Int) = 1) = False by simp, show ((4 : Int) = 3) = False by simp, if_false, if_true, Nat.add_sub_cancel]
    rw [T_top us l j (by omega)] at ih
    rw [T_top us l (j + 1) hj]
    omega
  | n + 1, i + 1, 0, hn, hi, hj => by
    have ih := backs_cost us l n i 0 (by omega) (by omega) hj
    simp only [backs, lastE]
    rw [if_neg (by omega), cost_cons]
    simp only [show ((3 : Int) = 1) = False by simp, show ((3 : Int) = 4) = False by simp, if_false, if_true, Nat.add_sub_cancel]
    rw [T_zero us l i (by omega)] at ih
    rw [T_zero us l (i + 1) hi]
    omega
  | n + 1, i + 1, j + 1, hn, hi, hj => by
    have ihk := backs_cost us l n i j (by omega) (by omega) (by omega)
    have ihd := backs_cost us l n i (j + 1) (by omega) (by omega) hj
    have ihp := backs_cost us l n (i + 1) j (by omega) hi (by omega)
    have hT := T_step us l i j (by omega) (by omega)
    have g1 : us[i]?.getD ByteArray.empty = us[i] := by simp [show i < us.length by omega]
    have g2 : l[j]?.getD ByteArray.empty = l[j] := by simp [show j < l.length by omega]
    simp only [backs, lastE, g1, g2]
    rw [if_neg (by omega)]
    by_cases hu : us[i] = l[j]
    · rw [if_pos hu] at hT
      simp only [if_pos hu]
      rw [cost_cons]
      simp only [show ((1 : Int) = 4) = False by simp, show ((1 : Int) = 3) = False by simp, if_false, if_true, Nat.add_sub_cancel]
      omega
    · rw [if_neg hu] at hT
      simp only [if_neg hu]
      by_cases e1 : T us l (i + 1) (j + 1) = T us l i j + 1
      · simp only [if_pos e1]
        rw [cost_cons]
        simp only [show ((2 : Int) = 1) = False by simp, show ((2 : Int) = 4) = False by simp, show ((2 : Int) = 3) = False by simp, if_false, Nat.add_sub_cancel]
        omega
      · simp only [if_neg e1]
        by_cases e2 : T us l (i + 1) (j + 1) = T us l i (j + 1) + 1
        · simp only [if_pos e2]
          rw [cost_cons]
          simp only [show ((3 : Int) = 1) = False by simp, show ((3 : Int) = 4) = False by simp, if_false, if_true, Nat.add_sub_cancel]
          omega
        · simp only [if_neg e2]
          rw [cost_cons]
          simp only [show ((4 : Int) = 1) = False by simp, show ((4 : Int) = 3) = False by simp, if_false, if_true, Nat.add_sub_cancel]
          omega
end Go.Proofs.Ytiiheaopamjijaa.Pw
