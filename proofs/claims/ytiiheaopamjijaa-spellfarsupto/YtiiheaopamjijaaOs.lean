/- A unit taken alone is one unit; the units of a text, one behind the other, are the text. No conditions. -/
import Derived.Test.YtiiheaopamjijaaWf
namespace Go.Proofs.Ytiiheaopamjijaa.Os
open Uni Rw Wf

theorem bt_extract (s : ByteArray) (i k j : Nat) (h : i + k ≤ s.size) (hj : j < k) : bt (s.extract i (i + k)) j = bt s (i + j) := by
  have hx : j < (s.extract i (i + k)).size := by rw [ByteArray.size_extract]; omega
  rw [← bt_eq _ j hx, ← bt_eq s (i + j) (by omega)]
  rw [ByteArray.getElem_extract]
theorem go_extract (s : ByteArray) (i k j : Nat) (h : i + k ≤ s.size) (hj : j < k) (hg : goB s (i + j) = true) : goB (s.extract i (i + k)) j = true := by
  rw [goesOn_iff] at hg ⊢
  rw [bt_extract s i k j h hj, ByteArray.size_extract]
  omega
theorem ua_two (s : ByteArray) (i : Nat) (h : (ua s i).2 = 2) : ¬ bt s i < 128 ∧ 192 ≤ bt s i ∧ bt s i < 224 ∧ (goB s (i + 1) = true) ∧ 128 ≤ c2 s i := by
  unfold ua at h
  split at h
  · simp at h
  · split at h
    · rename_i a b; exact ⟨a, b⟩
    · split at h
      · simp at h
      · split at h <;> simp at h
theorem ua_three (s : ByteArray) (i : Nat) (h : (ua s i).2 = 3) : ¬ bt s i < 128 ∧ 224 ≤ bt s i ∧ bt s i < 240 ∧ (goB s (i + 1) = true) ∧ (goB s (i + 2) = true) ∧ 2048 ≤ c3 s i ∧ (isB (c3 s i) = true) := by
  unfold ua at h
  split at h
  · simp at h
  · split at h
    · simp at h
    · split at h
      · rename_i a _ b; exact ⟨a, b⟩
      · split at h <;> simp at h
theorem ua_four (s : ByteArray) (i : Nat) (h : (ua s i).2 = 4) : ¬ bt s i < 128 ∧ 240 ≤ bt s i ∧ bt s i < 248 ∧ (goB s (i + 1) = true) ∧ (goB s (i + 2) = true) ∧ (goB s (i + 3) = true) ∧ 65536 ≤ c4 s i ∧ (isB (c4 s i) = true) := by
  unfold ua at h
  split at h
  · simp at h
  · split at h
    · simp at h
    · split at h
      · simp at h
      · split at h
        · rename_i a _ _ b; exact ⟨a, b⟩
        · simp at h
theorem ua_sub (s : ByteArray) (i : Nat) (hi : i < s.size) : (ua (s.extract i (i + (ua s i).2)) 0).2 = (ua s i).2 ∨ (ua s i).2 = 1 := by
  have hf := ua_facts s i hi
  obtain ⟨k, hk⟩ : ∃ k, (ua s i).2 = k := ⟨_, rfl⟩
  rw [hk] at hf ⊢
  obtain ⟨h1, h2, h3, _⟩ := hf
  have e : ∀ j, j < k → bt (s.extract i (i + k)) (0 + j) = bt s (i + j) := fun j hj => by rw [Nat.zero_add]; exact bt_extract s i k j h2 hj
  have g : ∀ j, j < k → goB s (i + j) = true → goB (s.extract i (i + k)) (0 + j) = true := fun j hj hg => by rw [Nat.zero_add]; exact go_extract s i k j h2 hj hg
  by_cases hk1 : k = 1
  · exact .inr hk1
  left
  have e0 := e 0 (by omega)
  rw [Nat.add_zero, Nat.add_zero] at e0
  by_cases hk2 : k = 2
  · subst hk2
    obtain ⟨a0, a1, a2, a3, a4⟩ := ua_two s i hk
    have q1 := e 1 (by omega)
    have z : c2 (s.extract i (i + 2)) 0 = c2 s i := by unfold c2; rw [e0, q1]
    unfold ua
    rw [e0, if_neg a0, z, if_pos ⟨a1, a2, g 1 (by omega) a3, a4⟩]
  · by_cases hk3 : k = 3
    · subst hk3
      obtain ⟨a0, a1, a2, a3, a4, a5, a6⟩ := ua_three s i hk
      have q1 := e 1 (by omega)
      have q2 := e 2 (by omega)
      have z : c3 (s.extract i (i + 3)) 0 = c3 s i := by unfold c3; rw [e0, q1, q2]
      unfold ua
      rw [e0, if_neg a0, if_neg (by omega), z, if_pos ⟨a1, a2, g 1 (by omega) a3, g 2 (by omega) a4, a5, a6⟩]
    · have hk4 : k = 4 := by omega
      subst hk4
      obtain ⟨a0, a1, a2, a3, a4, a5, a6, a7⟩ := ua_four s i hk
      have q1 := e 1 (by omega)
      have q2 := e 2 (by omega)
      have q3 := e 3 (by omega)
      have z : c4 (s.extract i (i + 4)) 0 = c4 s i := by unfold c4; rw [e0, q1, q2, q3]
      unfold ua
      rw [e0, if_neg a0, if_neg (by omega), if_neg (by omega), z, if_pos ⟨a1, a2, g 1 (by omega) a3, g 2 (by omega) a4, g 3 (by omega) a5, a6, a7⟩]
theorem one_sub (s : ByteArray) (i : Nat) (hi : i < s.size) : one (s.extract i (i + (ua s i).2)) = true := by
  have hf := ua_facts s i hi
  have hu := ua_sub s i hi
  have hz : (s.extract i (i + (ua s i).2)).size = (ua s i).2 := by rw [ByteArray.size_extract]; omega
  obtain ⟨x, hx⟩ : ∃ x, s.extract i (i + (ua s i).2) = x := ⟨_, rfl⟩
  rw [hx] at hu hz ⊢
  have hl : (units x).length = 1 := by
    have l1 := units_length x
    have l2 := units_size x
    rcases hu with hu | hu
    · unfold units
      obtain ⟨n, hn⟩ : ∃ n, x.size = n + 1 := ⟨x.size - 1, by omega⟩
      rw [hn, unitsFrom_step x n 0 (by omega), unitsFrom_end x n _ (by omega)]
      rfl
    · omega
  unfold one
  rw [tx_length, hl]
  rfl
theorem tx_one (b : ByteArray) : ∀ s ∈ tx b, one s = true := by
  have key : ∀ (f i : Nat) (u : Nat × Nat × Int), u ∈ unitsFrom b f i → one (sub b u) = true := by
    intro f
    induction f with
    | zero => intro i u hu; simp [unitsFrom] at hu
    | succ f ih =>
      intro i u hu
      by_cases h : i < b.size
      · rw [unitsFrom_step b f i h] at hu
        rcases List.mem_cons.1 hu with rfl | hu
        · exact one_sub b i h
        · exact ih _ u hu
      · rw [unitsFrom_end b _ i h] at hu
        cases hu
  intro s hs
  obtain ⟨u, hu, rfl⟩ := List.mem_map.1 hs
  exact key _ _ u hu
/-- texts, one behind the other -/
def join (l : List ByteArray) : ByteArray := l.foldl (· ++ ·) ByteArray.empty
theorem join_snoc (l : List ByteArray) (s : ByteArray) : join (l ++ [s]) = join l ++ s := by simp [join]
theorem join_from (b : ByteArray) : ∀ (f i : Nat), b.size - i ≤ f → i ≤ b.size → ∀ out, ((unitsFrom b f i).map (sub b)).foldl (· ++ ·) out = out ++ b.extract i b.size := by
  intro f
  induction f with
  | zero =>
    intro i h hi out
    have : i = b.size := by omega
    subst this
    simp [unitsFrom]
  | succ f ih =>
    intro i h hi out
    by_cases hl : i < b.size
    · have hf := ua_facts b i hl
      rw [unitsFrom_step b f i hl, List.map_cons, List.foldl_cons, ih _ (by omega) (by omega)]
      simp only [sub]
      rw [ByteArray.append_assoc, ByteArray.extract_append_extract]
      congr 2
      · omega
      · omega
    · have : i = b.size := by omega
      subst this
      rw [unitsFrom_end b _ _ hl]
      simp
theorem join_tx (b : ByteArray) : join (tx b) = b := by
  unfold join tx units
  rw [join_from b b.size 0 (by omega) (by omega)]
  simp
end Go.Proofs.Ytiiheaopamjijaa.Os
