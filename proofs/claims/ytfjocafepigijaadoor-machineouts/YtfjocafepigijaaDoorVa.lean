/- told (14) in plain words: the symbols that arcs write, all texts of so many of them, how many of these are answers. No program text; no conditions. -/
import Derived.Test.YtfjocafepigijaaDoorUb
namespace Go.Proofs.YtfjocafepigijaaDoor.Ot
open Mv Wk Bw Wd Ra

/-- the symbols that arcs write, each once, in the order in which they come -/
def us : List A5 → List Int
  | [] => []
  | a :: A => a.2.2.2.1 :: us A
def addU (l : List Int) (c : Int) : List Int := if 0 < c ∧ c ∉ l then l ++ [c] else l
def usd (A : List A5) : List Int := A.foldl (fun l a => addU l a.2.2.2.1) []
theorem usd_up (A : List A5) (a : A5) : usd (A ++ [a]) = addU (usd A) a.2.2.2.1 := by unfold usd; rw [List.foldl_append]; rfl
theorem usd_ind (P : List A5 → List Int → Prop) (h0 : P [] []) (h1 : ∀ A a l, P A l → P (A ++ [a]) (addU l a.2.2.2.1)) (A : List A5) : P A (usd A) := by
  have key : ∀ n (A : List A5), A.length = n → P A (usd A) := by
    intro n
    induction n with
    | zero => intro A hA; rw [List.eq_nil_of_length_eq_zero hA]; exact h0
    | succ n ih =>
      intro A hA
      rcases List.eq_nil_or_concat A with rfl | ⟨B, a, rfl⟩
      · simp at hA
      · rw [List.concat_eq_append] at hA ⊢
        rw [usd_up]
        exact h1 B a _ (ih B (by simpa using hA))
  exact key A.length A rfl
theorem usd_nodup (A : List A5) : (usd A).Nodup := usd_ind (fun _ l => l.Nodup) List.nodup_nil (fun A a l h => by
  unfold addU
  split
  · rename_i hc
    refine List.nodup_append.2 ⟨h, by simp, fun x hx y hy e => ?_⟩
    rw [List.mem_singleton.1 hy] at e
    subst e
    exact hc.2 hx
  · exact h) A
theorem usd_mem (A : List A5) : ∀ c, c ∈ usd A ↔ 0 < c ∧ ∃ a ∈ A, a.2.2.2.1 = c := usd_ind (fun A l => ∀ c, c ∈ l ↔ 0 < c ∧ ∃ a ∈ A, a.2.2.2.1 = c) (fun c => by simp) (fun A a l h c => by
  unfold addU
  split
  · rename_i hc
    rw [List.mem_append, List.mem_singleton, h]
    constructor
    · rintro (⟨h1, b, hb, h2⟩ | rfl)
      · exact ⟨h1, b, by simp [hb], h2⟩
      · exact ⟨hc.1, a, by simp, rfl⟩
    · rintro ⟨h1, b, hb, h2⟩
      rcases List.mem_append.1 hb with hb | hb
      · exact .inl ⟨h1, b, hb, h2⟩
      · rw [List.mem_singleton.1 hb] at h2; exact .inr h2.symm
  · rename_i hc
    rw [h]
    constructor
    · rintro ⟨h1, b, hb, h2⟩
      exact ⟨h1, b, by simp [hb], h2⟩
    · rintro ⟨h1, b, hb, h2⟩
      rcases List.mem_append.1 hb with hb | hb
      · exact ⟨h1, b, hb, h2⟩
      · rw [List.mem_singleton.1 hb] at h2
        subst h2
        by_cases hm : a.2.2.2.1 ∈ l
        · exact (h _).1 hm
        · exact absurd ⟨h1, hm⟩ hc) A
/-- all texts of so many symbols -/
def lv (s : List Int) : Nat → List (List Int)
  | 0 => [[]]
  | k + 1 => (lv s k).flatMap fun t => s.map fun c => t ++ [c]
theorem lv_mem (s : List Int) : ∀ k t, t ∈ lv s k ↔ t.length = k ∧ ∀ c ∈ t, c ∈ s
  | 0, t => by
    unfold lv
    rw [List.mem_singleton]
    constructor
    · rintro rfl; exact ⟨rfl, fun c h => by cases h⟩
    · rintro ⟨h, _⟩; exact List.eq_nil_of_length_eq_zero h
  | k + 1, t => by
    unfold lv
    rw [List.mem_flatMap]
    constructor
    · rintro ⟨r, hr, ht⟩
      obtain ⟨c, hc, rfl⟩ := List.mem_map.1 ht
      obtain ⟨h1, h2⟩ := (lv_mem s k r).1 hr
      refine ⟨by simp [h1], fun d hd => ?_⟩
      rcases List.mem_append.1 hd with hd | hd
      · exact h2 d hd
      · rw [List.mem_singleton.1 hd]; exact hc
    · rintro ⟨h1, h2⟩
      rcases List.eq_nil_or_concat t with rfl | ⟨r, c, rfl⟩
      · simp at h1
      · rw [List.concat_eq_append] at h1 h2 ⊢
        exact ⟨r, (lv_mem s k r).2 ⟨by simpa using h1, fun d hd => h2 d (by simp [hd])⟩, List.mem_map.2 ⟨c, h2 c (by simp), rfl⟩⟩
theorem lv_nodup (s : List Int) (hs : s.Nodup) : ∀ k, (lv s k).Nodup
  | 0 => by unfold lv; simp
  | k + 1 => by
    unfold lv
    have ih := lv_nodup s hs k
    have hl : ∀ t ∈ lv s k, t.length = k := fun t ht => ((lv_mem s k t).1 ht).1
    generalize lv s k = T at ih hl
    induction T with
    | nil => simp
    | cons t T ihT =>
      rw [List.flatMap_cons]
      refine List.nodup_append.2 ⟨List.pairwise_map.2 (hs.imp (fun h e => h (by simpa using (List.append_inj' e rfl).2))), ihT (List.nodup_cons.1 ih).2 (fun x hx => hl x (by simp [hx])), fun a ha b hb e => ?_⟩
      obtain ⟨c, _, rfl⟩ := List.mem_map.1 ha
      obtain ⟨r, hr, hb⟩ := List.mem_flatMap.1 hb
      obtain ⟨d, _, rfl⟩ := List.mem_map.1 hb
      have := (List.append_inj' e rfl).1
      subst this
      exact (List.nodup_cons.1 ih).1 hr
theorem lv_len (s : List Int) : ∀ k, (lv s (k + 1)).length = (lv s k).length * s.length := fun k => by
  show ((lv s k).flatMap fun t => s.map fun c => t ++ [c]).length = _
  generalize lv s k = T
  induction T with
  | nil => simp
  | cons t T ih => rw [List.flatMap_cons, List.length_append, ih, List.length_map, List.length_cons, Nat.succ_mul]; omega
/-- the symbols of an answer are written by arcs -/
theorem wl_usd {S : Nat} {tx : List Int} {A : List A5} (h0 : ∀ a ∈ A, 0 ≤ a.2.2.2.1) : ∀ {n : Nat} {t : List Int} {v : Nat}, Wl (Eg S tx A) n t v → ∀ c ∈ t, c ∈ usd A
  | 0, t, v, ⟨h, _⟩, c, hc => by subst h; cases hc
  | n + 1, t, v, hw, c, hc => by
    rcases hw with ⟨u, hw, _⟩ | ⟨u, d, t', hd, rfl, hw, a, ha, h1, _⟩
    · exact wl_usd h0 hw c hc
    · rcases List.mem_append.1 hc with hc | hc
      · exact wl_usd h0 hw c hc
      · rw [List.mem_singleton.1 hc]
        exact (usd_mem A d).2 ⟨by have := h0 a ha; omega, a, ha, h1⟩
open Classical in
/-- the answers among all texts of at most so many symbols, length by length -/
noncomputable def alls (E : Int → Nat → Nat → Prop) (F : List Nat) (s : List Int) (k : Nat) : List (List Int) := ((List.range k).flatMap (lv s)).filter fun t => decide (An E F t)
open Classical in
theorem alls_up (E : Int → Nat → Nat → Prop) (F : List Nat) (s : List Int) (k : Nat) : alls E F s (k + 1) = alls E F s k ++ (lv s k).filter fun t => decide (An E F t) := by
  unfold alls
  rw [List.range_succ, List.flatMap_append, List.filter_append]
  simp
open Classical in
theorem alls_mem {S : Nat} {tx : List Int} {A : List A5} {F : List Nat} (h0 : ∀ a ∈ A, 0 ≤ a.2.2.2.1) (L : Nat) (t : List Int) : t ∈ alls (Eg S tx A) F (usd A) (L + 1) ↔ t.length ≤ L ∧ An (Eg S tx A) F t := by
  unfold alls
  rw [List.mem_filter, List.mem_flatMap, decide_eq_true_iff]
  constructor
  · rintro ⟨⟨k, hk, ht⟩, ha⟩
    exact ⟨by have := ((lv_mem _ k t).1 ht).1; have := List.mem_range.1 hk; omega, ha⟩
  · rintro ⟨hl, ha⟩
    refine ⟨⟨t.length, List.mem_range.2 (by omega), (lv_mem _ _ t).2 ⟨rfl, ?_⟩⟩, ha⟩
    obtain ⟨v, _, n, hw⟩ := ha
    exact wl_usd h0 hw
open Classical in
theorem alls_nodup {E : Int → Nat → Nat → Prop} {F : List Nat} {s : List Int} (hs : s.Nodup) (k : Nat) : (alls E F s k).Nodup := by
  induction k with
  | zero => unfold alls; simp
  | succ k ih =>
    rw [alls_up]
    refine List.nodup_append.2 ⟨ih, (lv_nodup s hs k).filter _, fun a ha b hb e => ?_⟩
    subst e
    have h1 := ((lv_mem s k a).1 (List.mem_filter.1 hb).1).1
    unfold alls at ha
    obtain ⟨j, hj, h2⟩ := List.mem_flatMap.1 (List.mem_filter.1 ha).1
    have h3 := ((lv_mem s j a).1 h2).1
    have := List.mem_range.1 hj
    omega
end Go.Proofs.YtfjocafepigijaaDoor.Ot
