/- The best tree of which just one word hangs on 0, in plain words: all scores of 0 made less. No program text. Condition: scores of at most a million, at most 12 words. -/
import Derived.Test.YtpolnkdbebjpnaaPa
namespace Go.Proofs.Ytpolnkdbebjpnaa.Hd

theorem sm_sub (f g : Nat → Int) (L : Int) : ∀ l : List Nat, sm (fun w => f w - L * g w) l = sm f l - L * sm g l
  | [] => by show (0 : Int) = 0 - L * 0; omega
  | x :: l => by
    show f x - L * g x + sm (fun w => f w - L * g w) l = f x + sm f l - L * (g x + sm g l)
    rw [sm_sub f g L l, Int.mul_add]
    omega
theorem sm_bound {f : Nat → Int} {M : Int} : ∀ {l : List Nat}, (∀ x ∈ l, -M ≤ f x ∧ f x ≤ M) → -(M * l.length) ≤ sm f l ∧ sm f l ≤ M * l.length
  | [], _ => by show -(M * 0) ≤ 0 ∧ 0 ≤ M * 0; omega
  | x :: l, h => by
    have h1 := h x List.mem_cons_self
    have h2 := sm_bound (l := l) fun y hy => h y (List.mem_cons_of_mem _ hy)
    show -(M * ((l.length + 1 : Nat) : Int)) ≤ f x + sm f l ∧ f x + sm f l ≤ M * ((l.length + 1 : Nat) : Int)
    have e : M * ((l.length + 1 : Nat) : Int) = M * l.length + M := by rw [Int.natCast_add, Int.mul_add]; omega
    rw [e]
    omega
theorem sm_nonneg {f : Nat → Int} : ∀ {l : List Nat}, (∀ x ∈ l, 0 ≤ f x) → 0 ≤ sm f l ∧ ∀ x ∈ l, f x ≤ sm f l
  | [], _ => ⟨Int.le_refl _, fun x hx => by cases hx⟩
  | x :: l, h => by
    have h1 := h x List.mem_cons_self
    have h2 := sm_nonneg (l := l) fun y hy => h y (List.mem_cons_of_mem _ hy)
    show 0 ≤ f x + sm f l ∧ ∀ y ∈ x :: l, f y ≤ f x + sm f l
    refine ⟨by omega, fun y hy => ?_⟩
    rcases List.mem_cons.1 hy with rfl | hy
    · omega
    · have := h2.2 y hy; omega
/-- how many words hang on 0 -/
def rt (n : Nat) (u : Nat → Nat) : Int := sm (fun w => if u w = 0 then 1 else 0) (List.range' 1 n)
/-- scores of 0 made less -/
def fw (L : Int) (s : Nat → Nat → Int) : Nat → Nat → Int := fun h w => if h = 0 then s h w - L else s h w
theorem wo_fw (L : Int) (s : Nat → Nat → Int) (n : Nat) (t : Nat → Nat) : wo (fw L s) n t = wo s n t - L * rt n t := by
  unfold wo rt
  rw [← sm_sub]
  refine sm_congr fun w _ => ?_
  show (if t w = 0 then s (t w) w - L else s (t w) w) = s (t w) w - L * (if t w = 0 then 1 else 0)
  split <;> omega
theorem wo_bound {s : Nat → Nat → Int} {n : Nat} {M : Int} {t : Nat → Nat} (ht : Tr n t) (hs : ∀ h w, h ≤ n → 1 ≤ w → w ≤ n → -M ≤ s h w ∧ s h w ≤ M) : -(M * n) ≤ wo s n t ∧ wo s n t ≤ M * n := by
  have h := sm_bound (f := fun w => s (t w) w) (M := M) (l := List.range' 1 n) fun w hw => by
    obtain ⟨h1, h2⟩ := mem_words.1 hw
    exact hs _ _ (ht.le w h1 h2) h1 h2
  rw [List.length_range'] at h
  exact h
theorem rt_pos {n : Nat} {t : Nat → Nat} (ht : Tr n t) (hn : 1 ≤ n) : 1 ≤ rt n t := by
  obtain ⟨k, hk⟩ := ht.r 1 (Nat.le_refl _) hn
  have key : ∀ (k w : Nat), 1 ≤ w → w ≤ n → it t k w = 0 → ∃ x, 1 ≤ x ∧ x ≤ n ∧ t x = 0 := by
    intro k
    induction k with
    | zero => intro w h1 _ h; have h : w = 0 := h; omega
    | succ k ih =>
      intro w h1 h2 h
      by_cases e : t w = 0
      · exact ⟨w, h1, h2, e⟩
      · exact ih (t w) (by omega) (ht.le w h1 h2) h
  obtain ⟨x, h1, h2, e⟩ := key k 1 (Nat.le_refl _) hn hk
  have h := (sm_nonneg (f := fun w => if t w = 0 then 1 else 0) (l := List.range' 1 n) fun w _ => by split <;> omega).2 x (mem_words.2 ⟨h1, h2⟩)
  rw [if_pos e] at h
  exact h
/-- all hang on the first word -/
def star (w : Nat) : Nat := if w ≤ 1 then 0 else 1
theorem star_tr {n : Nat} (hn : 1 ≤ n) : Tr n star := by
  refine ⟨rfl, fun w _ h2 => ?_, fun w h1 h2 => ?_⟩
  · unfold star; split <;> omega
  · by_cases e : w ≤ 1
    · exact ⟨1, by show star w = 0; unfold star; rw [if_pos e]⟩
    · exact ⟨2, by show star (star w) = 0; rw [show star w = 1 by unfold star; rw [if_neg e]]; rfl⟩
theorem star_rt {n : Nat} (hn : 1 ≤ n) : rt n star = 1 := by
  obtain ⟨m, rfl⟩ : ∃ m, n = m + 1 := ⟨n - 1, by omega⟩
  unfold rt
  rw [List.range'_succ]
  show 1 + sm _ _ = 1
  have h : sm (fun w => if star w = 0 then (1 : Int) else 0) (List.range' 2 m) = sm (fun _ => 0) (List.range' 2 m) := sm_congr fun w hw => by
    have h1 := List.mem_range'_1.1 hw
    show (if star w = 0 then (1 : Int) else 0) = 0
    rw [if_neg]
    unfold star
    rw [if_neg (by omega)]
    omega
  have z : ∀ l : List Nat, sm (fun _ => (0 : Int)) l = 0 := fun l => by
    induction l with
    | nil => rfl
    | cons x l ih => show 0 + sm _ l = 0; rw [ih]; rfl
  rw [show (1 : Nat) + 1 = 2 from rfl, h, z]
  rfl
/-- the best of the lessened scores has just one word on 0, and none such is worth more -/
theorem one_opt {n : Nat} {s : Nat → Nat → Int} {u : Nat → Nat} (hn : 1 ≤ n) (hn2 : n ≤ 12) (hs : ∀ h w, h ≤ n → 1 ≤ w → w ≤ n → -1000000 ≤ s h w ∧ s h w ≤ 1000000) (hu : Opt n (fw 24000001 s) u) : rt n u = 1 ∧ ∀ t, Tr n t → rt n t = 1 → wo s n t ≤ wo s n u := by
  have h1 := rt_pos hu.tr hn
  have h2 := hu.best star (star_tr hn)
  rw [wo_fw, wo_fw, star_rt hn] at h2
  have h3 := wo_bound (star_tr hn) hs
  have h4 := wo_bound hu.tr hs
  have e : rt n u = 1 := by omega
  refine ⟨e, fun t ht hr => ?_⟩
  have h5 := hu.best t ht
  rw [wo_fw, wo_fw, hr, e] at h5
  omega
end Go.Proofs.Ytpolnkdbebjpnaa.Hd
