/- A right proof without cuts is small, and so is all that is in it (PLAIN). No conditions. -/
import Derived.Test.YtbmgkgoghgdbhaaRf
namespace Go.Proofs.Ytbmgkgoghgdbhaa.Te
open Go.RowKit

theorem one_of {α : Type} {l : List α} (h : l.length = 1) : ∃ a, l = [a] := by
  match l, h with
  | [a], _ => exact ⟨a, rfl⟩
theorem two_of {α : Type} {l : List α} (h : l.length = 2) : ∃ a b, l = [a, b] := by
  match l, h with
  | [a, b], _ => exact ⟨a, b, rfl⟩
theorem small_of {p : Pf} (h1 : szs p.left + sz p.goal ≤ 900) (h2 : p.kids.length ≤ 2) (hg : (∀ t ∈ p.left, Gp t) ∧ Gp p.goal) (hk : ∀ x ∈ p.kids, Smp x ∧ Gpf x) : Smp p ∧ Gpf p := by
  constructor
  · rw [Smp]
    exact ⟨by omega, by omega, by omega, fun x => (hk x.1 x.2).1⟩
  · rw [Gpf]
    exact ⟨hg.1, hg.2, fun x => (hk x.1 x.2).2⟩
theorem rt_small : ∀ (s : Nat) (p : Pf), SizeOf.sizeOf p ≤ s → Rt p → noCut p → (∀ t ∈ p.left, Gp t) → Gp p.goal → szs p.left + sz p.goal ≤ 900 → (Smp p ∧ Gpf p) ∧ szp p + 1 ≤ szs p.left + sz p.goal := by
  intro s
  induction s with
  | zero => intro p h; obtain ⟨_, _, _, _, _, _⟩ := p; simp at h
  | succ s ih =>
    intro p hp hr hn gl gg hM
    rw [Rt] at hr
    obtain ⟨ss, hb, hl, hk⟩ := hr
    rw [noCut] at hn
    have kid : ∀ j (h : j < p.kids.length) (h' : j < ss.length), (∀ t ∈ ss[j].1, Gp t) → Gp ss[j].2 → szs ss[j].1 + sz ss[j].2 ≤ 900 → (Smp p.kids[j] ∧ Gpf p.kids[j]) ∧ szp p.kids[j] + 1 ≤ szs ss[j].1 + sz ss[j].2 := fun j h h' g1 g2 g3 => by
      obtain ⟨e1, e2, hr⟩ := hk j h h'
      have hm := List.getElem_mem h
      rw [← e1] at g1 g3 ⊢
      rw [← e2] at g2 g3 ⊢
      exact ih p.kids[j] (by have := Pf.lt_kids hm; omega) hr (hn.2 ⟨_, hm⟩) g1 g2 g3
    have one : ∀ l1 g1, ss = [(l1, g1)] → (∀ t ∈ l1, Gp t) → Gp g1 → szs l1 + sz g1 < szs p.left + sz p.goal → (Smp p ∧ Gpf p) ∧ szp p + 1 ≤ szs p.left + sz p.goal := by
      intro l1 g1 e q1 q2 q3
      subst e
      have hl1 : p.kids.length = 1 := hl
      obtain ⟨a, ea⟩ := one_of hl1
      have k0 := kid 0 (by omega) (by simp) q1 q2 (by simp only [List.getElem_cons_zero]; omega)
      simp only [ea, List.getElem_cons_zero] at k0
      refine ⟨small_of hM (by omega) ⟨gl, gg⟩ (fun x hx => ?_), ?_⟩
      · rw [ea] at hx
        simp only [List.mem_cons, List.not_mem_nil, or_false] at hx
        subst hx
        exact k0.1
      · rw [szp, ea]
        simp only [List.map_cons, List.map_nil, List.sum_cons, List.sum_nil]
        omega
    have two : ∀ l1 g1 l2 g2, ss = [(l1, g1), (l2, g2)] → (∀ t ∈ l1, Gp t) → Gp g1 → (∀ t ∈ l2, Gp t) → Gp g2 → szs l1 + sz g1 + (szs l2 + sz g2) < szs p.left + sz p.goal → (Smp p ∧ Gpf p) ∧ szp p + 1 ≤ szs p.left + sz p.goal := by
      intro l1 g1 l2 g2 e q1 q2 q3 q4 q5
      subst e
      have hl1 : p.kids.length = 2 := hl
      obtain ⟨a, b, ea⟩ := two_of hl1
      have k0 := kid 0 (by omega) (by simp) q1 q2 (by simp only [List.getElem_cons_zero]; omega)
      have k1 := kid 1 (by omega) (by simp) q3 q4 (by simp only [List.getElem_cons_succ, List.getElem_cons_zero]; omega)
      simp only [ea, List.getElem_cons_succ, List.getElem_cons_zero] at k0 k1
      refine ⟨small_of hM (by omega) ⟨gl, gg⟩ (fun x hx => ?_), ?_⟩
      · rw [ea] at hx
        simp only [List.mem_cons, List.not_mem_nil, or_false] at hx
        rcases hx with e | e
        · rw [e]; exact k0.1
        · rw [e]; exact k1.1
      · rw [szp, ea]
        simp only [List.map_cons, List.map_nil, List.sum_cons, List.sum_nil]
        omega
    by_cases hs : p.step = 4 ∨ p.step = 5 ∨ p.step = 6
    · rw [bef_two hs] at hb
      obtain ⟨i, m, h1, h2, hc⟩ := bef2_inv hs hb
      have h3 := three p.left i m
      rcases hc with ⟨_, t, ht, hk2, rfl⟩ | ⟨_, t, B, ht, hk3, rfl⟩ | ⟨h6, _⟩
      · obtain ⟨A, hA⟩ : ∃ A, p.left.take i = A ++ [t] := List.getLast?_eq_some_iff.1 ht
        have htm : t ∈ p.left := List.mem_of_mem_take (by rw [hA]; simp)
        have hto := gp_two (gl t htm) hk2
        have hgt := gl t htm
        rw [hto] at hgt
        obtain ⟨gx, gy⟩ := gp_ov hgt
        have hz := congrArg szs h3
        rw [hA, szs_app, szs_app, szs_app, szs_cons, szs_nil] at hz
        have hst : sz t = 1 + sz (isT t) + sz (waT t) := by
          have := congrArg sz hto
          rw [sz_ov] at this
          exact this
        refine two _ _ _ _ rfl (fun u hu => gl u (List.mem_of_mem_drop (List.mem_of_mem_take hu))) gy ?_ gg ?_
        · intro u hu
          rw [hA, List.dropLast_concat] at hu
          simp only [List.mem_append, List.mem_cons, List.not_mem_nil, or_false] at hu
          rcases hu with (hu | rfl) | hu
          · exact gl u (List.mem_of_mem_take (by rw [hA]; simp [hu]))
          · exact gx
          · exact gl u (List.mem_of_mem_drop hu)
        · rw [hA, List.dropLast_concat, szs_app, szs_app, szs_cons, szs_nil]
          omega
      · have htm : t ∈ p.left := List.mem_of_mem_drop (by rw [ht]; simp)
        have hto := gp_three (gl t htm) hk3
        have hgt := gl t htm
        rw [hto] at hgt
        obtain ⟨gx, gy⟩ := gp_un hgt
        have hz := congrArg szs h3
        rw [ht, szs_app, szs_app, szs_cons] at hz
        have hst : sz t = 1 + sz (waT t) + sz (isT t) := by
          have := congrArg sz hto
          rw [sz_un] at this
          exact this
        refine two _ _ _ _ rfl (fun u hu => gl u (List.mem_of_mem_drop (List.mem_of_mem_take hu))) gy ?_ gg ?_
        · intro u hu
          simp only [List.mem_append, List.mem_cons, List.not_mem_nil, or_false] at hu
          rcases hu with (hu | rfl) | hu
          · exact gl u (List.mem_of_mem_take hu)
          · exact gx
          · exact gl u (List.mem_of_mem_drop (by rw [ht]; simp [hu]))
        · rw [szs_app, szs_app, szs_cons, szs_nil]
          omega
      · exact absurd h6 hn.1
    · unfold bef at hb
      rw [if_neg hs] at hb
      by_cases h0 : p.ix ≠ 0 ∨ p.n ≠ 0 ∨ p.left = []
      · rw [if_pos h0] at hb; cases hb
      rw [if_neg h0] at hb
      by_cases h1 : p.step = 1
      · rw [if_pos h1] at hb
        by_cases h2 : p.left = [p.goal]
        · rw [if_pos h2] at hb
          obtain rfl := Option.some.inj hb
          have hl0 : p.kids = [] := List.length_eq_zero_iff.1 hl
          refine ⟨small_of hM (by rw [hl0]; simp) ⟨gl, gg⟩ (fun x hx => by rw [hl0] at hx; cases hx), ?_⟩
          rw [szp, hl0, h2, szs_cons, szs_nil]
          have := sz_pos p.goal
          simp only [List.map_nil, List.sum_nil]
          omega
        · rw [if_neg h2] at hb; cases hb
      rw [if_neg h1] at hb
      by_cases h2 : p.step = 2 ∧ p.goal.kind = 2
      · rw [if_pos h2] at hb
        obtain rfl := Option.some.inj hb
        have hto := gp_two gg h2.2
        have hgt := gg
        rw [hto] at hgt
        obtain ⟨gx, gy⟩ := gp_ov hgt
        have hst : sz p.goal = 1 + sz (isT p.goal) + sz (waT p.goal) := by
          have := congrArg sz hto
          rw [sz_ov] at this
          exact this
        refine one _ _ rfl ?_ gx ?_
        · intro u hu
          simp only [List.mem_append, List.mem_cons, List.not_mem_nil, or_false] at hu
          rcases hu with hu | rfl
          · exact gl u hu
          · exact gy
        · rw [szs_app, szs_app, szs_cons, szs_nil]
          omega
      rw [if_neg h2] at hb
      by_cases h3 : p.step = 3 ∧ p.goal.kind = 3
      · rw [if_pos h3] at hb
        obtain rfl := Option.some.inj hb
        have hto := gp_three gg h3.2
        have hgt := gg
        rw [hto] at hgt
        obtain ⟨gx, gy⟩ := gp_un hgt
        have hst : sz p.goal = 1 + sz (waT p.goal) + sz (isT p.goal) := by
          have := congrArg sz hto
          rw [sz_un] at this
          exact this
        refine one _ _ rfl ?_ gx ?_
        · intro u hu
          simp only [List.nil_append, List.mem_append, List.mem_cons, List.not_mem_nil, or_false] at hu
          rcases hu with rfl | hu
          · exact gy
          · exact gl u hu
        · rw [szs_app, szs_app, szs_cons, szs_nil]
          omega
      rw [if_neg h3] at hb
      cases hb
/-- of a sequent in which nothing is wrong -/
theorem cseq_zero {l : List Ty} {g : Ty} (h : cseq l g = 0) : (1 ≤ l.length ∧ l.length ≤ 6) ∧ (∀ t ∈ l, ck t = 0) ∧ ck g = 0 ∧ slN g + slS l ≤ 10 := by
  unfold cseq at h
  by_cases h1 : l.length < 1 ∨ 6 < l.length
  · rw [if_pos h1] at h; cases h
  · rw [if_neg h1] at h
    unfold cslash at h
    by_cases h2 : crow l g = 0
    · rw [if_pos h2] at h
      obtain ⟨h3, h4⟩ := crow_zero h2
      refine ⟨by omega, h3, h4, ?_⟩
      by_cases h5 : 10 < slN g + slS l
      · rw [if_pos h5] at h; cases h
      · omega
    · rw [if_neg h2] at h; exact absurd h h2
theorem ck_sz {t : Ty} (h : ck t = 0) : sz t ≤ 15 := by
  unfold ck at h
  by_cases h0 : 15 < sz t
  · rw [if_pos h0] at h; cases h
  · omega
theorem szs_of : ∀ {l : List Ty}, (∀ t ∈ l, ck t = 0) → szs l ≤ 15 * l.length
  | [], _ => by simp [szs]
  | t :: l, h => by
    have h1 := ck_sz (h t (by simp))
    have h2 := szs_of (l := l) (fun u hu => h u (by simp [hu]))
    rw [szs_cons, List.length_cons]
    omega
theorem cseq_small {l : List Ty} {g : Ty} (h : cseq l g = 0) : szs l + sz g ≤ 105 ∧ (∀ t ∈ l, Gp t) ∧ Gp g ∧ l ≠ [] := by
  obtain ⟨⟨h1, h2⟩, h3, h4, _⟩ := cseq_zero h
  have a := szs_of h3
  have b := ck_sz h4
  refine ⟨by omega, fun t ht => ck_gp (h3 t ht), ck_gp h4, ?_⟩
  intro e
  rw [e] at h1
  simp at h1
end Go.Proofs.Ytbmgkgoghgdbhaa.Te
