/- Plain facts: a folded text, folded, is itself, and has the same pieces; pieces stand side by side, and no two of one kind that grows. No conditions. -/
import Derived.Test.YtglfaibihckhnaaWh2
namespace Go.Proofs.Ytglfaibihckhnaa.Wh
open Uni FoldP FoldR Kinds Pc

theorem get_eq {s f : ByteArray} {p : Nat} (h : bt f p = bt s p) : f.get! p = s.get! p := by
  unfold bt at h
  exact UInt8.toNat_inj.1 h

theorem foldFrom_fold {s f : ByteArray} (hz : f.size = s.size) : ∀ fu p, D s f p → foldFrom f fu p = foldFrom s fu p
  | 0, _, _ => rfl
  | fu + 1, p, h => by
    by_cases hp : p < s.size
    · have e := ua_fold hz h hp
      have hpc : piece f p = piece s p := by
        unfold piece
        rw [e]
        by_cases hb : (ua s p).1 = -1
        · rw [show sm (ua s p).1 = -1 by unfold sm; rw [if_pos hb]]
          rw [if_pos rfl, if_pos hb, get_eq (D_stray h hp hb)]
        · have hok := ua_ok s p hp hb
          have h0 : 0 ≤ small (ua s p).1 := by unfold Enc.okB at hok; simp only [decide_eq_true_eq] at hok; omega
          rw [show sm (ua s p).1 = small (ua s p).1 by unfold sm; rw [if_neg hb]]
          rw [if_neg hb]
          simp only
          rw [if_neg (by omega), small_small]
      rw [foldFrom_step s fu p hp, foldFrom_step f fu p (by omega), hpc, e, foldFrom_fold hz fu _ (D_next h hp)]
    · rw [foldFrom_end s _ p hp, foldFrom_end f _ p (by omega)]
theorem fold_fold (s : ByteArray) : fold (ff s) = fold s := by
  unfold fold
  rw [ff_size]
  exact foldFrom_fold (ff_size s) _ _ (ff_D s)

theorem kind_sm (c : Int) : kind (sm c) = kind c := by
  unfold sm
  split
  · rename_i h; rw [h]
  · by_cases h0 : 0 ≤ c
    · exact kind_small c h0
    · have e : small c = c := by unfold small; rw [if_neg (by omega), if_neg (by omega), if_neg (by omega)]
      rw [e]
theorem addP_sm (acc : List (Int × Nat × Nat)) (u : Nat × Nat × Int) : addP acc (u.1, u.2.1, sm u.2.2) = addP acc u := by
  unfold addP mergesB newP
  simp only [kind_sm]
theorem pieces_fold (s : ByteArray) : pieces (ff s) = pieces s := by
  unfold pieces
  rw [units_fold, List.foldl_map]
  congr 1
  funext acc u
  exact addP_sm acc u

/-- side by side, none empty, no two of one kind that grows -/
def Fine (l : List (Int × Nat × Nat)) : Prop :=
  (∀ k (h : k < l.length), (l[k]).2.1 = lens (l.take k) ∧ 1 ≤ (l[k]).2.2) ∧ (∀ k (h : k + 1 < l.length), ¬ ((l[k + 1]).1 = (l[k]).1 ∧ (l[k + 1]).1 < 4))

theorem fine_snoc (a : List (Int × Nat × Nat)) (x : Int × Nat × Nat) : Fine (a ++ [x]) ↔ Fine a ∧ x.2.1 = lens a ∧ 1 ≤ x.2.2 ∧ (∀ h : 0 < a.length, ¬ (x.1 = (a[a.length - 1]).1 ∧ x.1 < 4)) := by
  constructor
  · rintro ⟨h1, h2⟩
    refine ⟨⟨fun k h => ?_, fun k h => ?_⟩, ?_, ?_, fun h => ?_⟩
    · have := h1 k (by simp; omega)
      rw [List.getElem_append_left h, List.take_append_of_le_length (by omega)] at this
      exact this
    · have := h2 k (by simp; omega)
      rw [List.getElem_append_left h, List.getElem_append_left (by omega)] at this
      exact this
    · have := (h1 a.length (by simp)).1
      simpa using this
    · have := (h1 a.length (by simp)).2
      simpa using this
    · have := h2 (a.length - 1) (by simp; omega)
      have e4 : (a ++ [x])[a.length - 1]'(by simp; omega) = a[a.length - 1]'(by omega) := List.getElem_append_left (by omega)
      rw [e4] at this
      have e : (a ++ [x])[a.length - 1 + 1]'(by simp; omega) = x := by
        rw [List.getElem_append_right (by omega)]
        simp
      rw [e] at this
      exact this
  · rintro ⟨⟨h1, h2⟩, h3, h4, h5⟩
    refine ⟨fun k h => ?_, fun k h => ?_⟩
    · by_cases hk : k < a.length
      · rw [List.getElem_append_left hk, List.take_append_of_le_length (by omega)]
        exact h1 k hk
      · have e : k = a.length := by simp at h; omega
        subst e
        simp [h3, h4]
    · by_cases hk : k + 1 < a.length
      · rw [List.getElem_append_left hk, List.getElem_append_left (by omega)]
        exact h2 k hk
      · have e : k + 1 = a.length := by simp at h; omega
        have e2 : (a ++ [x])[k + 1] = x := by
          rw [List.getElem_append_right (by omega)]
          simp
        rw [e2, List.getElem_append_left (h := by omega)]
        have := h5 (by omega)
        have e3 : a[a.length - 1]'(by omega) = a[k]'(by omega) := by congr 1; omega
        rw [e3] at this
        exact this

theorem fine_add (acc : List (Int × Nat × Nat)) (u : Nat × Nat × Int) (h : Fine acc) (hl : lens acc = u.1) (hw : 1 ≤ u.2.1) : Fine (addP acc u) := by
  rcases List.eq_nil_or_concat acc with rfl | ⟨a, p, rfl⟩
  · rw [addP_nil]
    have := (fine_snoc [] (newP u)).2 ⟨h, by unfold newP; simp [lens] at hl ⊢; omega, hw, fun h => by simp at h⟩
    simpa using this
  · rw [List.concat_eq_append] at h hl ⊢
    cases hm : mergesB p u with
    | true =>
      rw [addP_yes a p u hm, fine_snoc]
      have hh := (fine_snoc a p).1 h
      exact ⟨hh.1, hh.2.1, by have := hh.2.2.1; simp only; omega, hh.2.2.2⟩
    | false =>
      rw [addP_no a p u hm, fine_snoc]
      refine ⟨h, by unfold newP; simp only; omega, hw, fun _ hh => ?_⟩
      unfold mergesB at hm
      rw [decide_eq_false_iff_not] at hm
      apply hm
      unfold newP at hh
      simp at hh
      exact ⟨hh.1.symm, hh.2⟩

theorem fine_from (s : ByteArray) : ∀ fu p acc, s.size ≤ p + fu → p ≤ s.size → Fine acc → lens acc = p → Fine ((unitsFrom s fu p).foldl addP acc) ∧ lens ((unitsFrom s fu p).foldl addP acc) = s.size
  | 0, p, acc, h1, h2, hf, hl => by
    simp only [unitsFrom, List.foldl_nil]
    exact ⟨hf, by omega⟩
  | fu + 1, p, acc, h1, h2, hf, hl => by
    by_cases hp : p < s.size
    · have fc := ua_facts s p hp
      rw [unitsFrom_step s fu p hp, List.foldl_cons]
      refine fine_from s fu (p + (ua s p).2) _ (by omega) fc.2.1 (fine_add acc _ hf hl fc.1) ?_
      rw [addP_lens, hl]
    · rw [unitsFrom_end s _ p hp]
      simp only [List.foldl_nil]
      exact ⟨hf, by omega⟩
theorem fine_nil : Fine [] := ⟨fun k h => by simp at h, fun k h => by simp at h⟩
theorem fine_pieces (s : ByteArray) : Fine (pieces s) ∧ lens (pieces s) = s.size := fine_from s s.size 0 [] (by omega) (by omega) fine_nil rfl

theorem lens_take (l : List (Int × Nat × Nat)) (k : Nat) (h : k < l.length) : lens (l.take (k + 1)) = lens (l.take k) + (l[k]).2.2 := by
  rw [List.take_succ_eq_append_getElem h, lens_append, lens_one]
theorem lens_le (l : List (Int × Nat × Nat)) (k : Nat) : lens (l.take k) ≤ lens l := by
  have := lens_append (l.take k) (l.drop k)
  rw [List.take_append_drop] at this
  omega

theorem atU_zero (s : ByteArray) : atU s (units s) 0 = 0 := by
  unfold atU units
  by_cases h : 0 < s.size
  · cases hz : s.size with
    | zero => omega
    | succ n => rw [unitsFrom_step s n 0 h]; rfl
  · rw [unitsFrom_end s _ 0 h]
    show s.size = 0
    omega
end Go.Proofs.Ytglfaibihckhnaa.Wh
