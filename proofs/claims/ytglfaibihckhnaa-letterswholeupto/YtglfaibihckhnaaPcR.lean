/- Plain facts: a text's units stand side by side; its pieces, group by group. No conditions. -/
import Derived.Test.YtglfaibihckhnaaPc
namespace Go.Proofs.Ytglfaibihckhnaa.Pc
open Uni Kinds

/-- where the k-th unit begins; the text's end behind the last -/
def atU (s : ByteArray) (l : List (Nat × Nat × Int)) (k : Nat) : Nat := match l[k]? with | some u => u.1 | none => s.size

theorem next_unit (s : ByteArray) : ∀ f i, s.size ≤ i + f → i ≤ s.size → ∀ k (h : k < (unitsFrom s f i).length), ((unitsFrom s f i)[k]).1 + ((unitsFrom s f i)[k]).2.1 = atU s (unitsFrom s f i) (k + 1)
  | 0, i, _, _, k, h => by simp [unitsFrom] at h
  | f + 1, i, hf, hi, k, h => by
    by_cases hp : i < s.size
    · have fc := ua_facts s i hp
      have e := unitsFrom_step s f i hp
      have g : ∀ L, L = unitsFrom s (f + 1) i → ∀ h' : k < L.length, (L[k]).1 + (L[k]).2.1 = atU s L (k + 1) := by
        intro L hL
        rw [e] at hL
        subst hL
        intro h'
        cases k with
        | zero =>
          simp only [List.getElem_cons_zero, atU, List.getElem?_cons_succ]
          by_cases hq : i + (ua s i).2 < s.size
          · cases f with
            | zero => omega
            | succ f' => rw [unitsFrom_step s f' _ hq]; simp
          · rw [unitsFrom_end s f _ hq]
            simp
            omega
        | succ k =>
          have := next_unit s f (i + (ua s i).2) (by omega) fc.2.1 k (by simpa using h')
          simpa [atU] using this
      exact g _ rfl h
    · rw [unitsFrom_end s _ i hp] at h
      simp at h
theorem next_units (s : ByteArray) (k : Nat) (h : k < (units s).length) : ((units s)[k]).1 + ((units s)[k]).2.1 = atU s (units s) (k + 1) :=
  next_unit s s.size 0 (by omega) (by omega) k h
theorem atU_lt (s : ByteArray) (k : Nat) (h : k < (units s).length) : atU s (units s) k = ((units s)[k]).1 := by
  unfold atU; rw [List.getElem?_eq_getElem h]
theorem atU_end (s : ByteArray) (k : Nat) (h : (units s).length ≤ k) : atU s (units s) k = s.size := by
  unfold atU; rw [List.getElem?_eq_none h]

/-- the pieces of the first k units -/
def pk (s : ByteArray) (k : Nat) : List (Int × Nat × Nat) := ((units s).take k).foldl addP []
theorem pk_zero (s : ByteArray) : pk s 0 = [] := by simp [pk]
theorem pk_succ (s : ByteArray) (k : Nat) (h : k < (units s).length) : pk s (k + 1) = addP (pk s k) (units s)[k] := by
  unfold pk
  rw [List.take_succ_eq_append_getElem h, List.foldl_append]
  rfl
theorem pk_all (s : ByteArray) (k : Nat) (h : (units s).length ≤ k) : pk s k = pieces s := by
  unfold pk pieces
  rw [List.take_of_length_le h]
theorem pk_length (s : ByteArray) (k : Nat) : (pk s k).length ≤ k := by
  have : ∀ (l : List (Nat × Nat × Int)) (acc : List (Int × Nat × Nat)), (l.foldl addP acc).length ≤ acc.length + l.length := by
    intro l
    induction l with
    | nil => intro acc; simp
    | cons u l ih => intro acc; have := ih (addP acc u); have := addP_length acc u; simp only [List.foldl_cons, List.length_cons]; omega
  have h := this ((units s).take k) []
  have h2 : ((units s).take k).length ≤ k := List.length_take_le _ _
  unfold pk
  simp at h
  simp
  omega

/-- the k-th unit begins a piece -/
def begins (s : ByteArray) (k : Nat) : Prop := ∀ h : k < (units s).length, pk s (k + 1) = pk s k ++ [newP (units s)[k]]
/-- from the i-th unit up to the j-th is one piece -/
def group (s : ByteArray) (i j : Nat) (k : Int) (a : Nat) : Prop := pk s j = pk s i ++ [(k, a, atU s (units s) j - a)] ∧ a ≤ atU s (units s) j
theorem begins_zero (s : ByteArray) : begins s 0 := by
  intro h
  rw [pk_succ s 0 h, pk_zero]
  rfl
theorem group_one (s : ByteArray) (i : Nat) (h : i < (units s).length) (hb : begins s i) : group s i (i + 1) (kind (units s)[i].2.2) (units s)[i].1 := by
  have e := next_units s i h
  refine ⟨?_, by omega⟩
  rw [hb h]
  unfold newP
  have : (units s)[i].2.1 = atU s (units s) (i + 1) - (units s)[i].1 := by omega
  rw [this]
theorem group_more (s : ByteArray) (i j : Nat) (k : Int) (a : Nat) (h : j < (units s).length) (hg : group s i j k a) (hk : kind (units s)[j].2.2 = k) (h4 : k < 4) : group s i (j + 1) k a := by
  have e := next_units s j h
  have ej := atU_lt s j h
  have hle := hg.2
  refine ⟨?_, by omega⟩
  have hm : mergesB (k, a, atU s (units s) j - a) (units s)[j] = true := by
    unfold mergesB
    rw [decide_eq_true_eq]
    exact ⟨hk.symm, by rw [hk]; exact h4⟩
  rw [pk_succ s j h, hg.1, addP_yes _ _ _ hm]
  have : atU s (units s) j - a + (units s)[j].2.1 = atU s (units s) (j + 1) - a := by omega
  simp only [this]
theorem group_ends (s : ByteArray) (i j : Nat) (k : Int) (a : Nat) (hg : group s i j k a) (hn : ∀ h : j < (units s).length, ¬ (kind (units s)[j].2.2 = k ∧ k < 4)) : begins s j := by
  intro h
  have hm : mergesB (k, a, atU s (units s) j - a) (units s)[j] = false := by
    unfold mergesB
    rw [decide_eq_false_iff_not]
    rintro ⟨h1, h2⟩
    have h1' : k = kind (units s)[j].2.2 := h1
    exact hn h ⟨h1'.symm, by omega⟩
  rw [pk_succ s j h, hg.1, addP_no _ _ _ hm]
end Go.Proofs.Ytglfaibihckhnaa.Pc
