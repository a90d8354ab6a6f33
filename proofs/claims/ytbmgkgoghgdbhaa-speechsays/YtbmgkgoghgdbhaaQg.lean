/- What a choice takes of right words is a right sequent. No conditions. -/
import Derived.Test.YtbmgkgoghgdbhaaQd
import Derived.Test.YtbmgkgoghgdbhaaQf
namespace Go.Proofs.Ytbmgkgoghgdbhaa.Te
open Go.RowKit

theorem crow_all : ∀ (l : List Ty) (g : Ty), (∀ t ∈ l, ck t = 0) → ck g = 0 → crow l g = 0
  | [], g, _, h => by rw [crow]; exact h
  | t :: l, g, hl, h => by
    rw [crow, if_pos (hl t (List.mem_cons_self ..))]
    exact crow_all l g (fun u hu => hl u (List.mem_cons_of_mem _ hu)) h
theorem pk_mem : ∀ (ws : List (List Ty)) (cs : List Nat), ∀ t ∈ pk ws cs, t ∈ ws.flatten
  | [], _, t, h => by simp [pk] at h
  | _ :: _, [], t, h => by simp [pk] at h
  | w :: ws, c :: cs, t, h => by
    rw [List.flatten_cons, List.mem_append]
    cases hc : w[c]? with
    | none =>
      simp only [pk, hc] at h
      exact .inr (pk_mem ws cs t h)
    | some u =>
      simp only [pk, hc, List.mem_cons] at h
      rcases h with rfl | h
      · exact .inl (List.mem_of_getElem? hc)
      · exact .inr (pk_mem ws cs t h)
theorem slN_mem {w : List Ty} {t : Ty} (h : t ∈ w) : slN t ≤ slS w := by
  induction w with
  | nil => cases h
  | cons u w ih =>
    rw [slS_cons]
    rcases List.mem_cons.1 h with rfl | h
    · omega
    · have := ih h; omega
theorem pk_sl : ∀ (ws : List (List Ty)) (cs : List Nat), slS (pk ws cs) ≤ slS ws.flatten
  | [], _ => by simp [pk]
  | _ :: _, [] => by simp [pk, slS]
  | w :: ws, c :: cs => by
    have ih := pk_sl ws cs
    rw [List.flatten_cons, slS_app]
    cases hc : w[c]? with
    | none => simp only [pk, hc]; omega
    | some u =>
      have := slN_mem (List.mem_of_getElem? hc)
      simp only [pk, hc]
      rw [slS_cons]
      omega
theorem cwords_zero {ws : List (List Ty)} {g : Ty} (h : cwords ws g = 0) : 1 ≤ ws.length ∧ ws.length ≤ 6 ∧ (∀ l ∈ ws, 0 < l.length ∧ l.length ≤ 3) ∧ cslash ws.flatten g = 0 := by
  unfold cwords at h
  by_cases hc : (ws.length < 1 ∨ 6 < ws.length) ∨ (ws.map wOff).any id = true
  · rw [if_pos hc] at h; cases h
  · rw [if_neg hc] at h
    have h1 : ¬ (ws.length < 1 ∨ 6 < ws.length) := fun e => hc (.inl e)
    have h2 : (ws.map wOff).any id = false := by
      cases e : (ws.map wOff).any id with
      | false => rfl
      | true => exact absurd (.inr e) hc
    exact ⟨by omega, by omega, (words_small ws h2).1, h⟩
theorem cseq_pk {ws : List (List Ty)} {g : Ty} {cs : List Nat} (h : cwords ws g = 0) (hf : Fits ws cs) : cseq (pk ws cs) g = 0 := by
  obtain ⟨h1, h6, _, hs⟩ := cwords_zero h
  have hl := (pk_at ws cs hf).1
  unfold cseq
  rw [if_neg (by omega)]
  unfold cslash at hs ⊢
  by_cases hr : crow ws.flatten g = 0
  · rw [if_pos hr] at hs
    have h0 := crow_of_zero hr
    have hz : crow (pk ws cs) g = 0 := crow_all _ _ (fun t ht => h0 t (List.mem_append_left _ (pk_mem ws cs t ht))) (h0 g (by simp))
    rw [if_pos hz]
    have hp := pk_sl ws cs
    by_cases h10 : 10 < slN g + slS ws.flatten
    · rw [if_pos h10] at hs; cases hs
    · rw [if_neg (by omega)]
  · rw [if_neg hr] at hs
    exact absurd hs hr
end Go.Proofs.Ytbmgkgoghgdbhaa.Te
