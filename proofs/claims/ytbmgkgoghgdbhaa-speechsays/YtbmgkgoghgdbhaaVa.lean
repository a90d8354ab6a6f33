/- A right proof without cuts of a sequent in which nothing is wrong has only parts that are right, and no long left (PLAIN). No conditions. -/
import Derived.Test.YtbmgkgoghgdbhaaRg
namespace Go.Proofs.Ytbmgkgoghgdbhaa.Te
open Go.RowKit

theorem ck_of {t : Ty} (h1 : sz t ≤ 15) (h2 : Gp t) : ck t = 0 := by
  unfold ck
  rw [if_neg (by omega)]
  exact h2
theorem ck_ov {x y : Ty} (h : ck (ov x y) = 0) : ck x = 0 ∧ ck y = 0 := by
  have h1 := ck_sz h
  have h2 := gp_ov (ck_gp h)
  rw [sz_ov] at h1
  exact ⟨ck_of (by omega) h2.1, ck_of (by omega) h2.2⟩
theorem ck_un {x y : Ty} (h : ck (un y x) = 0) : ck x = 0 ∧ ck y = 0 := by
  have h1 := ck_sz h
  have h2 := gp_un (ck_gp h)
  rw [sz_un] at h1
  exact ⟨ck_of (by omega) h2.1, ck_of (by omega) h2.2⟩
theorem gp_odd : ∀ (s : Nat) (t : Ty), sz t ≤ s → Gp t → sz t % 2 = 1 := by
  intro s
  induction s with
  | zero => intro t h; have := sz_pos t; omega
  | succ s ih =>
    intro t hs hg
    rcases gp_cases hg with ⟨k, rfl, _⟩ | ⟨x, y, rfl, hx, hy⟩ | ⟨y, x, rfl, hy, hx⟩
    · rw [sz_bs]
    · rw [sz_ov] at hs ⊢
      have := ih x (by omega) hx
      have := ih y (by omega) hy
      omega
    · rw [sz_un] at hs ⊢
      have := ih x (by omega) hx
      have := ih y (by omega) hy
      omega
theorem slN_of {t : Ty} (h : ck t = 0) : slN t = sz t / 2 := by
  unfold slN
  rw [cap_le (ck_sz h)]
theorem slN_ov {x y : Ty} (h : ck (ov x y) = 0) : slN (ov x y) = 1 + slN x + slN y := by
  obtain ⟨hx, hy⟩ := ck_ov h
  rw [slN_of h, slN_of hx, slN_of hy, sz_ov]
  have := gp_odd _ x (Nat.le_refl _) (ck_gp hx)
  have := gp_odd _ y (Nat.le_refl _) (ck_gp hy)
  omega
theorem slN_un {x y : Ty} (h : ck (un y x) = 0) : slN (un y x) = 1 + slN y + slN x := by
  obtain ⟨hx, hy⟩ := ck_un h
  rw [slN_of h, slN_of hx, slN_of hy, sz_un]
  have := gp_odd _ x (Nat.le_refl _) (ck_gp hx)
  have := gp_odd _ y (Nat.le_refl _) (ck_gp hy)
  omega
theorem slN_bs (k : Int) : slN (bs k) = 0 := by
  unfold slN
  rw [sz_bs]
  rfl
theorem slS_app (l m : List Ty) : slS (l ++ m) = slS l + slS m := by simp [slS]
theorem slS_cons (x : Ty) (l : List Ty) : slS (x :: l) = slN x + slS l := by simp [slS]
theorem slS_nil : slS [] = 0 := rfl
theorem crow_ok : ∀ {l : List Ty} {g : Ty}, (∀ t ∈ l, ck t = 0) → ck g = 0 → crow l g = 0
  | [], _, _, h => h
  | t :: l, g, h, hg => by
    rw [crow, if_pos (h t (by simp))]
    exact crow_ok (fun u hu => h u (by simp [hu])) hg
theorem fine_of {p : Pf} (h1 : ∀ t ∈ p.left, ck t = 0) (h2 : ck p.goal = 0) (h3 : p.left.length ≤ 20) (hk : ∀ x ∈ p.kids, cpf x = 0 ∧ lgp x = false) : cpf p = 0 ∧ lgp p = false := by
  constructor
  · rw [cpf, if_pos (crow_ok h1 h2)]
    refine fz_zero (fun z hz => ?_)
    obtain ⟨x, hx, rfl⟩ := List.mem_map.1 hz
    exact (hk x hx).1
  · rw [lgp, Bool.or_eq_false_iff]
    refine ⟨by simp; omega, ?_⟩
    rw [List.any_eq_false]
    intro b hb
    obtain ⟨x, hx, rfl⟩ := List.mem_map.1 hb
    rw [(hk x hx).2]
    decide
def mu (l : List Ty) (g : Ty) : Nat := l.length + slS l + slN g
theorem rt_fine : ∀ (s : Nat) (p : Pf), SizeOf.sizeOf p ≤ s → Rt p → noCut p → (∀ t ∈ p.left, ck t = 0) → ck p.goal = 0 → mu p.left p.goal ≤ 20 → cpf p = 0 ∧ lgp p = false := by
  intro s
  induction s with
  | zero => intro p h; obtain ⟨_, _, _, _, _, _⟩ := p; simp at h
  | succ s ih =>
    intro p hp hr hn gl gg hM
    have hlen : p.left.length ≤ 20 := by unfold mu at hM; omega
    rw [Rt] at hr
    obtain ⟨ss, hb, hl, hk⟩ := hr
    rw [noCut] at hn
    have kid : ∀ j (h : j < p.kids.length) (h' : j < ss.length), (∀ t ∈ ss[j].1, ck t = 0) → ck ss[j].2 = 0 → mu ss[j].1 ss[j].2 ≤ 20 → cpf p.kids[j] = 0 ∧ lgp p.kids[j] = false := fun j h h' g1 g2 g3 => by
      obtain ⟨e1, e2, hr⟩ := hk j h h'
      have hm := List.getElem_mem h
      rw [← e1] at g1 g3
      rw [← e2] at g2 g3
      exact ih p.kids[j] (by have := Pf.lt_kids hm; omega) hr (hn.2 ⟨_, hm⟩) g1 g2 g3
    have one : ∀ l1 g1, ss = [(l1, g1)] → (∀ t ∈ l1, ck t = 0) → ck g1 = 0 → mu l1 g1 ≤ mu p.left p.goal → cpf p = 0 ∧ lgp p = false := by
      intro l1 g1 e q1 q2 q3
      subst e
      have hl1 : p.kids.length = 1 := hl
      obtain ⟨a, ea⟩ := one_of hl1
      have k0 := kid 0 (by omega) (by simp) q1 q2 (by simp only [List.getElem_cons_zero]; omega)
      simp only [ea, List.getElem_cons_zero] at k0
      refine fine_of gl gg hlen (fun x hx => ?_)
      rw [ea] at hx
      simp only [List.mem_cons, List.not_mem_nil, or_false] at hx
      rw [hx]
      exact k0
    have two : ∀ l1 g1 l2 g2, ss = [(l1, g1), (l2, g2)] → (∀ t ∈ l1, ck t = 0) → ck g1 = 0 → (∀ t ∈ l2, ck t = 0) → ck g2 = 0 → mu l1 g1 ≤ mu p.left p.goal → mu l2 g2 ≤ mu p.left p.goal → cpf p = 0 ∧ lgp p = false := by
      intro l1 g1 l2 g2 e q1 q2 q3 q4 q5 q6
      subst e
      have hl1 : p.kids.length = 2 := hl
      obtain ⟨a, b, ea⟩ := two_of hl1
      have k0 := kid 0 (by omega) (by simp) q1 q2 (by simp only [List.getElem_cons_zero]; omega)
      have k1 := kid 1 (by omega) (by simp) q3 q4 (by simp only [List.getElem_cons_succ, List.getElem_cons_zero]; omega)
      simp only [ea, List.getElem_cons_succ, List.getElem_cons_zero] at k0 k1
      refine fine_of gl gg hlen (fun x hx => ?_)
      rw [ea] at hx
      simp only [List.mem_cons, List.not_mem_nil, or_false] at hx
      rcases hx with e | e
      · rw [e]; exact k0
      · rw [e]; exact k1
    by_cases hs : p.step = 4 ∨ p.step = 5 ∨ p.step = 6
    · rw [bef_two hs] at hb
      obtain ⟨i, m, h1, h2, hc⟩ := bef2_inv hs hb
      have h3 := three p.left i m
      rcases hc with ⟨_, t, ht, hk2, rfl⟩ | ⟨_, t, B, ht, hk3, rfl⟩ | ⟨h6, _⟩
      · obtain ⟨A, hA⟩ : ∃ A, p.left.take i = A ++ [t] := List.getLast?_eq_some_iff.1 ht
        have htm : t ∈ p.left := List.mem_of_mem_take (by rw [hA]; simp)
        have hto := gp_two (ck_gp (gl t htm)) hk2
        have hgt := gl t htm
        rw [hto] at hgt
        obtain ⟨gx, gy⟩ := ck_ov hgt
        have hz := congrArg slS h3
        have hy := congrArg List.length h3
        rw [hA, slS_app, slS_app, slS_app, slS_cons, slS_nil] at hz
        rw [hA] at hy
        simp only [List.length_append, List.length_cons, List.length_nil] at hy
        have hst : slN t = 1 + slN (isT t) + slN (waT t) := by
          have := slN_ov hgt
          rw [← hto] at this
          exact this
        refine two _ _ _ _ rfl (fun u hu => gl u (List.mem_of_mem_drop (List.mem_of_mem_take hu))) gy ?_ gg ?_ ?_
        · intro u hu
          rw [hA, List.dropLast_concat] at hu
          simp only [List.mem_append, List.mem_cons, List.not_mem_nil, or_false] at hu
          rcases hu with (hu | rfl) | hu
          · exact gl u (List.mem_of_mem_take (by rw [hA]; simp [hu]))
          · exact gx
          · exact gl u (List.mem_of_mem_drop hu)
        · unfold mu
          omega
        · unfold mu
          rw [hA, List.dropLast_concat, slS_app, slS_app, slS_cons, slS_nil]
          simp only [List.length_append, List.length_cons, List.length_nil]
          omega
      · have htm : t ∈ p.left := List.mem_of_mem_drop (by rw [ht]; simp)
        have hto := gp_three (ck_gp (gl t htm)) hk3
        have hgt := gl t htm
        rw [hto] at hgt
        obtain ⟨gx, gy⟩ := ck_un hgt
        have hz := congrArg slS h3
        have hy := congrArg List.length h3
        rw [ht, slS_app, slS_app, slS_cons] at hz
        rw [ht] at hy
        simp only [List.length_append, List.length_cons] at hy
        have hst : slN t = 1 + slN (waT t) + slN (isT t) := by
          have := slN_un hgt
          rw [← hto] at this
          exact this
        refine two _ _ _ _ rfl (fun u hu => gl u (List.mem_of_mem_drop (List.mem_of_mem_take hu))) gy ?_ gg ?_ ?_
        · intro u hu
          simp only [List.mem_append, List.mem_cons, List.not_mem_nil, or_false] at hu
          rcases hu with (hu | rfl) | hu
          · exact gl u (List.mem_of_mem_take hu)
          · exact gx
          · exact gl u (List.mem_of_mem_drop (by rw [ht]; simp [hu]))
        · unfold mu
          omega
        · unfold mu
          rw [slS_app, slS_app, slS_cons, slS_nil]
          simp only [List.length_append, List.length_cons, List.length_nil]
          omega
      · exact absurd h6 hn.1
    · unfold bef at hb
      rw [if_neg hs] at hb
      by_cases h0 : p.ix ≠ 0 ∨ p.n ≠ 0 ∨ p.left = []
      · rw [if_pos h0] at hb; cases hb
      rw [if_neg h0] at hb
      by_cases h1 : p.step = 1
      · rw [if_pos h1] at hb
        by_cases h2 : p.left = [p.goal]
        · rw [if_pos h2] at hb
          obtain rfl := Option.some.inj hb
          have hl0 : p.kids = [] := List.length_eq_zero_iff.1 hl
          exact fine_of gl gg hlen (fun x hx => by rw [hl0] at hx; cases hx)
        · rw [if_neg h2] at hb; cases hb
      rw [if_neg h1] at hb
      by_cases h2 : p.step = 2 ∧ p.goal.kind = 2
      · rw [if_pos h2] at hb
        obtain rfl := Option.some.inj hb
        have hto := gp_two (ck_gp gg) h2.2
        have hgt := gg
        rw [hto] at hgt
        obtain ⟨gx, gy⟩ := ck_ov hgt
        have hst : slN p.goal = 1 + slN (isT p.goal) + slN (waT p.goal) := by
          have := slN_ov hgt
          rw [← hto] at this
          exact this
        refine one _ _ rfl ?_ gx ?_
        · intro u hu
          simp only [List.mem_append, List.mem_cons, List.not_mem_nil, or_false] at hu
          rcases hu with hu | rfl
          · exact gl u hu
          · exact gy
        · unfold mu
          rw [slS_app, slS_app, slS_cons, slS_nil]
          simp only [List.length_append, List.length_cons, List.length_nil]
          omega
      rw [if_neg h2] at hb
      by_cases h3 : p.step = 3 ∧ p.goal.kind = 3
      · rw [if_pos h3] at hb
        obtain rfl := Option.some.inj hb
        have hto := gp_three (ck_gp gg) h3.2
        have hgt := gg
        rw [hto] at hgt
        obtain ⟨gx, gy⟩ := ck_un hgt
        have hst : slN p.goal = 1 + slN (waT p.goal) + slN (isT p.goal) := by
          have := slN_un hgt
          rw [← hto] at this
          exact this
        refine one _ _ rfl ?_ gx ?_
        · intro u hu
          simp only [List.nil_append, List.mem_append, List.mem_cons, List.not_mem_nil, or_false] at hu
          rcases hu with rfl | hu
          · exact gy
          · exact gl u hu
        · unfold mu
          rw [slS_app, slS_app, slS_cons, slS_nil]
          simp only [List.length_append, List.length_cons, List.length_nil]
          omega
      rw [if_neg h3] at hb
      cases hb
/-- what is found is right and fine -/
theorem good_fine {l : List Ty} {g : Ty} {p : Pf} (h : cseq l g = 0) (hg : Good l g p) : Gpf p ∧ Lpf p ∧ szp p ≤ 200 ∧ cpf p = 0 ∧ lgp p = false := by
  obtain ⟨⟨h1, h2⟩, h3, h4, h5⟩ := cseq_zero h
  obtain ⟨s1, s2, s3, _⟩ := cseq_small h
  obtain ⟨e1, e2, hr, hn⟩ := hg
  have a := rt_small _ p (Nat.le_refl _) hr hn (by rw [e1]; exact s2) (by rw [e2]; exact s3) (by rw [e1, e2]; omega)
  have b := rt_fine _ p (Nat.le_refl _) hr hn (by rw [e1]; exact h3) (by rw [e2]; exact h4) (by rw [e1, e2]; unfold mu; omega)
  have c := a.2
  rw [e1, e2] at c
  exact ⟨a.1.2, lpf_of _ p (Nat.le_refl _) b.2, by omega, b.1, b.2⟩
end Go.Proofs.Ytbmgkgoghgdbhaa.Te
