/- The edits of the way, done, make the other text. Condition: at most 200 units each. -/
import Derived.Test.YtiiheaopamjijaaPw
import Derived.Test.YtiiheaopamjijaaOs
namespace Go.Proofs.Ytiiheaopamjijaa.Px
open Rw Ay Fi Nx Ap Lp Lg Rv Bk Wf Dr Pw Go.Proofs.Ytiiheaopamjijaa.Os Bo Wy Fa

theorem run_keep (us : List ByteArray) (rest : List (Int × ByteArray)) (out : ByteArray) (i n : Nat) (h : i < us.length) : runE us ((1, ByteArray.empty) :: rest) out i n = runE us rest (out ++ us[i]) (i + 1) (n + 1) := by
  rw [runE.eq_def]
  simp [well, h]
  omega
theorem run_turn (us : List ByteArray) (rest : List (Int × ByteArray)) (out s : ByteArray) (i n : Nat) (h : i < us.length) (ho : one s = true) : runE us ((2, s) :: rest) out i n = runE us rest (out ++ s) (i + 1) (n + 1) := by
  rw [runE.eq_def]
  simp [well, ho]
  omega
theorem run_drop (us : List ByteArray) (rest : List (Int × ByteArray)) (out : ByteArray) (i n : Nat) (h : i < us.length) : runE us ((3, ByteArray.empty) :: rest) out i n = runE us rest out (i + 1) n := by
  rw [runE.eq_def]
  simp [well]
  omega
theorem run_put (us : List ByteArray) (rest : List (Int × ByteArray)) (out s : ByteArray) (i n : Nat) (ho : one s = true) : runE us ((4, s) :: rest) out i n = runE us rest (out ++ s) i (n + 1) := by
  rw [runE.eq_def]
  simp [well, ho]
theorem join_take (l : List ByteArray) (j : Nat) (h : j < l.length) : join (l.take (j + 1)) = join (l.take j) ++ l[j] := by
  rw [List.take_add_one, List.getElem?_eq_getElem h]
  exact join_snoc _ _
theorem run_backs (us l : List ByteArray) (hone : ∀ s ∈ l, one s = true) : ∀ (n i j : Nat), i + j ≤ n → i ≤ us.length → j ≤ l.length → ∀ rest, runE us ((backs us l n i j).reverse ++ rest) ByteArray.empty 0 0 = runE us rest (join (l.take j)) i j
  | 0, i, j, hn, _, _, rest => by
    obtain ⟨rfl, rfl⟩ : i = 0 ∧ j = 0 := by omega
    simp [backs, join]
  | n + 1, 0, 0, _, _, _, rest => by simp [backs, join]
  | n + 1, 0, j + 1, hn, hi, hj, rest => by
    have g2 : l[j]?.getD ByteArray.empty = l[j] := by simp [show j < l.length by omega]
    have ih := run_backs us l hone n 0 j (by omega) hi (by omega) ((4, l[j]) :: rest)
    simp only [backs, lastE, g2]
    rw [if_neg (by omega)]
    simp only [show ((4 : Int) = 3) = False by simp, if_false, if_true, Nat.add_sub_cancel, List.reverse_cons, List.append_assoc, List.singleton_append]
    rw [ih, run_put us rest _ _ _ _ (hone _ (List.getElem_mem _)), join_take l j (by omega)]
  | n + 1, i + 1, 0, hn, hi, hj, rest => by
    have ih := run_backs us l hone n i 0 (by omega) (by omega) hj ((3, ByteArray.empty) :: rest)
    simp only [backs, lastE]
    rw [if_neg (by omega)]
    simp only [show ((3 : Int) = 4) = False by simp, if_false, if_true, Nat.add_sub_cancel, List.reverse_cons, List.append_assoc, List.singleton_append]
    rw [ih, run_drop us rest _ _ _ (by omega)]
  | n + 1, i + 1, j + 1, hn, hi, hj, rest => by
    have g1 : us[i]?.getD ByteArray.empty = us[i] := by simp [show i < us.length by omega]
    have g2 : l[j]?.getD ByteArray.empty = l[j] := by simp [show j < l.length by omega]
    have ho := hone l[j] (List.getElem_mem _)
    simp only [backs, lastE, g1, g2]
    rw [if_neg (by omega), join_take l j (by omega)]
    by_cases hu : us[i] = l[j]
    · have ih := run_backs us l hone n i j (by omega) (by omega) (by omega) ((1, ByteArray.empty) :: rest)
      simp only [if_pos hu, show ((1 : Int) = 4) = False by simp, show ((1 : Int) = 3) = False by simp, if_false, Nat.add_sub_cancel, List.reverse_cons, List.append_assoc, List.singleton_append]
      rw [ih, run_keep us rest _ _ _ (by omega), hu]
    · simp only [if_neg hu]
      by_cases e1 : T us l (i + 1) (j + 1) = T us l i j + 1
      · have ih := run_backs us l hone n i j (by omega) (by omega) (by omega) ((2, l[j]) :: rest)
        simp only [if_pos e1, show ((2 : Int) = 4) = False by simp, show ((2 : Int) = 3) = False by simp, if_false, Nat.add_sub_cancel, List.reverse_cons, List.append_assoc, List.singleton_append]
        rw [ih, run_turn us rest _ _ _ _ (by omega) ho]
      · simp only [if_neg e1]
        by_cases e2 : T us l (i + 1) (j + 1) = T us l i (j + 1) + 1
        · have ih := run_backs us l hone n i (j + 1) (by omega) (by omega) hj ((3, ByteArray.empty) :: rest)
          simp only [if_pos e2, show ((3 : Int) = 4) = False by simp, if_false, if_true, Nat.add_sub_cancel, List.reverse_cons, List.append_assoc, List.singleton_append]
          rw [ih, run_drop us rest _ _ _ (by omega), join_take l j (by omega)]
        · have ih := run_backs us l hone n (i + 1) j (by omega) hi (by omega) ((4, l[j]) :: rest)
          simp only [if_neg e2, show ((4 : Int) = 3) = False by simp, if_false, if_true, Nat.add_sub_cancel, List.reverse_cons, List.append_assoc, List.singleton_append]
          rw [ih, run_put us rest _ _ _ _ ho]
/-- Do of Way: the other text -/
theorem do_way (a b : ByteArray) (h : fits a b = true) : doE a (wayE a b) = (b, 0) := by
  have hl : (tx a).length ≤ 200 ∧ (tx b).length ≤ 200 := by simpa [fits] using h
  unfold doE wayE
  rw [if_neg (by omega)]
  have := run_backs (tx a) (tx b) (tx_one b) ((tx a).length + (tx b).length) (tx a).length (tx b).length (Nat.le_refl _) (Nat.le_refl _) (Nat.le_refl _) []
  rw [List.append_nil] at this
  rw [this, List.take_length, join_tx]
  simp only [runE]
  rw [if_neg (by simp), if_neg (by omega)]
/-- the way costs what is apart -/
theorem cost_way (a b : ByteArray) : (cost (wayE a b) : Int) = farP a b := by
  have := backs_cost (tx a) (tx b) ((tx a).length + (tx b).length) (tx a).length (tx b).length (Nat.le_refl _) (Nat.le_refl _) (Nat.le_refl _)
  have e : cost (wayE a b) = cost (backs (tx a) (tx b) ((tx a).length + (tx b).length) (tx a).length (tx b).length) := by
    unfold cost wayE
    rw [List.filter_reverse, List.length_reverse]
  rw [e, this]
  unfold T farP
  rw [List.take_length]
end Go.Proofs.Ytiiheaopamjijaa.Px
