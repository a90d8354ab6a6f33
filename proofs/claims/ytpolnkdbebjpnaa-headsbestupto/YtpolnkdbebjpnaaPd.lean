/- Flat trees in plain words (Eisner): how a flat tree falls into pieces, so that none is worth more than the tables say; and that what is put together out of pieces is a flat tree. No program text; no conditions. -/
import Derived.Test.YtpolnkdbebjpnaaPc
namespace Go.Proofs.Ytpolnkdbebjpnaa.Hd

/-- going up within a set one comes to y -/
def Ch (t : Nat → Nat) (S : Nat → Prop) (x y : Nat) : Prop := ∃ k, it t k x = y ∧ ∀ j, j < k → S (it t j x)
def Anc (t : Nat → Nat) (x y : Nat) : Prop := ∃ k, it t k x = y
section
variable {t : Nat → Nat} {S S' : Nat → Prop} {x y z : Nat}
theorem Ch.refl (x : Nat) : Ch t S x x := ⟨0, rfl, fun j h => absurd h (Nat.not_lt_zero j)⟩
theorem Ch.one (h : S x) : Ch t S x (t x) := ⟨1, rfl, fun j hj => by
  obtain rfl : j = 0 := by omega
  exact h⟩
theorem Ch.trans (h : Ch t S x y) (k : Ch t S y z) : Ch t S x z := by
  obtain ⟨a, ha, ha2⟩ := h
  obtain ⟨b, hb, hb2⟩ := k
  refine ⟨a + b, by rw [it_add, ha, hb], fun j hj => ?_⟩
  by_cases hja : j < a
  · exact ha2 j hja
  · obtain ⟨i, rfl⟩ : ∃ i, j = a + i := ⟨j - a, by omega⟩
    rw [it_add, ha]
    exact hb2 i (by omega)
theorem Ch.mono (h : Ch t S x y) (hs : ∀ w, S w → S' w) : Ch t S' x y := by
  obtain ⟨a, ha, ha2⟩ := h
  exact ⟨a, ha, fun j hj => hs _ (ha2 j hj)⟩
theorem Ch.anc (h : Ch t S x y) : Anc t x y := by obtain ⟨a, ha, _⟩ := h; exact ⟨a, ha⟩
theorem Anc.refl (x : Nat) : Anc t x x := ⟨0, rfl⟩
theorem Anc.trans (h : Anc t x y) (k : Anc t y z) : Anc t x z := by
  obtain ⟨a, ha⟩ := h
  obtain ⟨b, hb⟩ := k
  exact ⟨a + b, by rw [it_add, ha, hb]⟩
theorem Anc.up (h : Anc t (t x) y) : Anc t x y := by obtain ⟨a, ha⟩ := h; exact ⟨a + 1, ha⟩
end
/-- numbers from 0 to N; all come to ro -/
structure Gr (N ro : Nat) (t : Nat → Nat) : Prop where
  le : ∀ w, w ≤ N → t w ≤ N
  rl : ro ≤ N
  fix : t ro = ro
  reach : ∀ w, w ≤ N → Anc t w ro
/-- flat -/
def Fl (N : Nat) (t : Nat → Nat) : Prop := ∀ w, w ≤ N → ∀ k, (w < k ∧ k < t w) ∨ (t w < k ∧ k < w) → Anc t k (t w)
section
variable {N ro : Nat} {t : Nat → Nat}
theorem Gr.it_le (h : Gr N ro t) : ∀ (k w : Nat), w ≤ N → it t k w ≤ N
  | 0, _, hw => hw
  | k + 1, w, hw => h.it_le k (t w) (h.le w hw)
theorem per {p x : Nat} (h : it t p x = x) : ∀ q, it t (p * q) x = x
  | 0 => rfl
  | q + 1 => by rw [Nat.mul_add, Nat.mul_one, it_add, per h q, h]
theorem Gr.acyclic (h : Gr N ro t) {x y : Nat} (hx : x ≤ N) (h1 : Anc t x y) (h2 : Anc t y x) : x = y := by
  obtain ⟨j, hj⟩ := h1
  obtain ⟨k, hk⟩ := h2
  rcases Nat.eq_zero_or_pos (j + k) with h0 | h0
  · obtain rfl : j = 0 := by omega
    exact hj
  · have hp : it t (j + k) x = x := by rw [it_add, hj, hk]
    obtain ⟨i, hi⟩ := h.reach x hx
    have h3 := per hp (i + 1)
    have h4 : i ≤ (j + k) * (i + 1) := by
      have : 1 * (i + 1) ≤ (j + k) * (i + 1) := Nat.mul_le_mul_right _ h0
      omega
    obtain ⟨q, hq⟩ : ∃ q, (j + k) * (i + 1) = i + q := ⟨(j + k) * (i + 1) - i, by omega⟩
    rw [hq, it_add, hi, it_fix h.fix] at h3
    subst h3
    rw [it_fix h.fix] at hj
    exact hj
/-- who goes up past z on the other side meets one on which z hangs -/
theorem cross (hF : Fl N t) (hle : ∀ w, w ≤ N → t w ≤ N) {z : Nat} : ∀ (k x : Nat), x ≤ N → (∀ j, j ≤ k → it t j x ≠ z) → ((x < z ∧ z < it t k x) ∨ (it t k x < z ∧ z < x)) → ∃ j, j < k ∧ Anc t z (it t (j + 1) x) ∧ ((x < z ∧ z < it t (j + 1) x) ∨ (it t (j + 1) x < z ∧ z < x))
  | 0, x, _, _, h => by have e : it t 0 x = x := rfl; rw [e] at h; omega
  | k + 1, x, hx, hn, h => by
    have hn0 : t x ≠ z := hn 1 (by omega)
    by_cases hc : (x < z ∧ z < t x) ∨ (t x < z ∧ z < x)
    · refine ⟨0, by omega, ?_, hc⟩
      show Anc t z (t x)
      exact hF x hx z hc
    · have hside : (x < z ∧ t x < z) ∨ (z < x ∧ z < t x) := by
        have := hn 0 (by omega)
        have e : it t 0 x = x := rfl
        rw [e] at this
        omega
      have h' : (t x < z ∧ z < it t k (t x)) ∨ (it t k (t x) < z ∧ z < t x) := by
        have e : it t (k + 1) x = it t k (t x) := rfl
        rw [e] at h
        omega
      obtain ⟨j, hj, ha, hb⟩ := cross hF hle k (t x) (hle x hx) (fun j hj => hn (j + 1) (by omega)) h'
      refine ⟨j + 1, by omega, ha, ?_⟩
      have e : it t (j + 1 + 1) x = it t (j + 1) (t x) := rfl
      rw [e]
      omega
theorem max_of {P : Nat → Prop} : ∀ (b : Nat) {x : Nat}, x ≤ b → P x → ∃ c, x ≤ c ∧ c ≤ b ∧ P c ∧ ∀ c', c < c' → c' ≤ b → ¬ P c'
  | 0, x, hx, hP => ⟨x, Nat.le_refl _, hx, hP, fun c' h1 h2 => by omega⟩
  | b + 1, x, hx, hP => by
    by_cases hb : P (b + 1)
    · exact ⟨b + 1, hx, Nat.le_refl _, hb, fun c' h1 h2 => by omega⟩
    · by_cases e : x = b + 1
      · exact absurd (e ▸ hP) hb
      · obtain ⟨c, h1, h2, h3, h4⟩ := max_of b (by omega) hP
        exact ⟨c, h1, by omega, h3, fun c' h5 h6 => by
          by_cases e2 : c' = b + 1
          · rw [e2]; exact hb
          · exact h4 c' h5 (by omega)⟩
/-- the first time that one comes to c -/
theorem first_hit {c : Nat} : ∀ (k x : Nat), it t k x = c → ∃ j, j ≤ k ∧ it t j x = c ∧ ∀ i, i < j → it t i x ≠ c
  | 0, x, h => ⟨0, Nat.le_refl _, h, fun i hi => absurd hi (Nat.not_lt_zero i)⟩
  | k + 1, x, h => by
    by_cases e : x = c
    · exact ⟨0, Nat.zero_le _, e, fun i hi => absurd hi (Nat.not_lt_zero i)⟩
    · obtain ⟨j, h1, h2, h3⟩ := first_hit k (t x) h
      refine ⟨j + 1, by omega, h2, fun i hi => ?_⟩
      cases i with
      | zero => exact e
      | succ i => exact h3 i (by omega)
/-- all words behind a, up to b, hang on a, within -/
def D0 (t : Nat → Nat) (a b : Nat) : Prop := ∀ w, a < w → w ≤ b → Ch t (fun x => a < x ∧ x ≤ b) w a
/-- all words from a on, ahead of b, hang on b, within -/
def D1 (t : Nat → Nat) (a b : Nat) : Prop := ∀ w, a ≤ w → w < b → Ch t (fun x => a ≤ x ∧ x < b) w b
theorem parts0 (hG : Gr N ro t) (hF : Fl N t) {a b : Nat} (hab : a < b) (hb : b ≤ N) (hD : D0 t a b) : ∃ c p, a < c ∧ c ≤ b ∧ t c = a ∧ a ≤ p ∧ p < c ∧ D0 t c b ∧ D0 t a p ∧ D1 t (p + 1) c := by
  -- the last word that hangs right on a
  obtain ⟨c, hc1, hc2, ⟨hca, hct⟩, hcm⟩ : ∃ c, a ≤ c ∧ c ≤ b ∧ (a < c ∧ t c = a) ∧ ∀ c', c < c' → c' ≤ b → ¬ (a < c' ∧ t c' = a) := by
    obtain ⟨k, hk, hk2⟩ := hD b hab (Nat.le_refl _)
    obtain ⟨k, rfl⟩ : ∃ j, k = j + 1 := by
      cases k with
      | zero => have e : b = a := hk; omega
      | succ j => exact ⟨j, rfl⟩
    have h1 := hk2 k (Nat.lt_succ_self k)
    rw [it_succ] at hk
    obtain ⟨c, h2, h3, h4, h5⟩ := max_of (P := fun c => a < c ∧ t c = a) b h1.2 ⟨h1.1, hk⟩
    exact ⟨c, by omega, h3, h4, h5⟩
  have hcN : c ≤ N := by omega
  have noAnc : ∀ y, a < y → y ≤ b → ¬ Anc t a y := fun y h1 h2 h => by
    have := hG.acyclic (x := a) (by omega) h (hD y h1 h2).anc
    omega
  have star : ∀ y, a < y → y ≤ b → Anc t c y → y = c := fun y h1 h2 h => by
    obtain ⟨k, hk⟩ := h
    cases k with
    | zero => exact hk.symm
    | succ k =>
      have hk : it t k (t c) = y := hk
      rw [hct] at hk
      exact absurd ⟨k, hk⟩ (noAnc y h1 h2)
  have d0 : D0 t c b := by
    intro w h1 h2
    obtain ⟨k, hk, hk2⟩ := hD w (by omega) h2
    have hit : ∃ j, j ≤ k ∧ it t j w = c := Classical.byContradiction fun hno => by
      have hne : ∀ j, j ≤ k → it t j w ≠ c := fun j hj e => hno ⟨j, hj, e⟩
      obtain ⟨j, hj, hanc, hs⟩ := cross hF hG.le k w (by omega) hne (.inr ⟨by rw [hk]; omega, h1⟩)
      by_cases e : j + 1 = k
      · rw [e, hk] at hs
        have h5 := hk2 j hj
        have h6 : t (it t j w) = a := by rw [← it_succ t j w, e, hk]
        have h7 : ¬ c < it t j w := fun h => hcm _ h h5.2 ⟨h5.1, h6⟩
        have h8 := hne j (by omega)
        -- so the last one ahead of a stands ahead of c
        have h9 : it t j w < c := by omega
        rcases Nat.eq_zero_or_pos j with rfl | h0
        · have e0 : it t 0 w = w := rfl
          rw [e0] at h9; omega
        · obtain ⟨j', hj', hanc', _⟩ := cross hF hG.le j w (by omega) (fun i hi => hne i (by omega)) (.inr ⟨h9, h1⟩)
          have h10 := hk2 (j' + 1) (by omega)
          exact hne (j' + 1) (by omega) (star _ h10.1 h10.2 hanc')
      · have h5 := hk2 (j + 1) (by omega)
        exact hne (j + 1) (by omega) (star _ h5.1 h5.2 hanc)
    obtain ⟨j0, hj0, hj1⟩ := hit
    obtain ⟨j, hj, hjc, hjn⟩ := first_hit j0 w hj1
    refine ⟨j, hjc, fun i hi => ⟨?_, ?_⟩⟩
    · refine Classical.byContradiction fun hn => ?_
      have h3 := hjn i hi
      rcases Nat.eq_zero_or_pos i with rfl | h0
      · exact hn h1
      obtain ⟨i', hi', hanc, _⟩ := cross hF hG.le i w (by omega) (fun l hl => hjn l (by omega)) (.inr ⟨by omega, h1⟩)
      have hlt : i' + 1 < k := by
        have : j < k ∨ j = k := by omega
        rcases this with h | h
        · omega
        · rw [h, hk] at hjc; omega
      have h5 := hk2 (i' + 1) hlt
      exact hjn (i' + 1) (by omega) (star _ h5.1 h5.2 hanc)
    · have hlt : i < k := by
        have : j < k ∨ j = k := by omega
        rcases this with h | h
        · omega
        · rw [h, hk] at hjc; omega
      exact (hk2 i hlt).2
  -- the last word ahead of c that does not hang on c
  have hac : ¬ Anc t a c := noAnc c hca hc2
  obtain ⟨p, hp1, hp2, hpc, hpm⟩ := max_of (P := fun w => ¬ Anc t w c) (c - 1) (x := a) (by omega) hac
  have d1 : D1 t (p + 1) c := by
    intro w h1 h2
    have hw : Anc t w c := Classical.byContradiction fun h => hpm w (by omega) (by omega) h
    obtain ⟨k0, hk0⟩ := hw
    obtain ⟨k, hkl, hk, hkn⟩ := first_hit k0 w hk0
    refine ⟨k, hk, fun j hj => ?_⟩
    have toC : ∀ i, i ≤ k → Anc t (it t i w) c := fun i hi => ⟨k - i, by rw [← it_add, show i + (k - i) = k by omega, hk]⟩
    have hnp : ∀ i, i ≤ k → it t i w ≠ p := fun i hi e => hpc (e ▸ toC i hi)
    constructor
    · refine Classical.byContradiction fun hn => ?_
      have h3 := hnp j (by omega)
      obtain ⟨i, hi, hanc, _⟩ := cross hF hG.le j w (by omega) (fun l hl => hnp l (by omega)) (.inr ⟨by omega, by omega⟩)
      exact hpc (hanc.trans (toC (i + 1) (by omega)))
    · refine Classical.byContradiction fun hn => ?_
      have h3 := hkn j hj
      obtain ⟨i, hi, hanc, _⟩ := cross hF hG.le j w (by omega) (fun l hl => hkn l (by omega)) (.inl ⟨h2, by omega⟩)
      exact hkn (i + 1) (by omega) (hG.acyclic hcN hanc (toC (i + 1) (by omega))).symm
  have d2 : D0 t a p := by
    intro w h1 h2
    obtain ⟨k, hk, hk2⟩ := hD w h1 (by omega)
    have hwc : ¬ Anc t w c := fun h => by
      obtain ⟨k0, hk0⟩ := h
      by_cases e : w = p
      · exact hpc (e ▸ ⟨k0, hk0⟩)
      have toC : ∀ i, i ≤ k0 → Anc t (it t i w) c := fun i hi => ⟨k0 - i, by rw [← it_add, show i + (k0 - i) = k0 by omega, hk0]⟩
      obtain ⟨i, hi, hanc, _⟩ := cross hF hG.le (z := p) k0 w (by omega) (fun l hl e2 => hpc (e2 ▸ toC l hl)) (.inl ⟨by omega, by rw [hk0]; omega⟩)
      exact hpc (hanc.trans (toC (i + 1) (by omega)))
    refine ⟨k, hk, fun j hj => ⟨(hk2 j hj).1, ?_⟩⟩
    refine Classical.byContradiction fun hn => ?_
    have hne : ∀ i, i ≤ j → it t i w ≠ c := fun i _ e => hwc ⟨i, e⟩
    have h3 := hne j (Nat.le_refl _)
    by_cases hlt : it t j w < c
    · have : Anc t (it t j w) c := Classical.byContradiction fun h => hpm _ (by omega) (by omega) h
      exact hwc (Anc.trans ⟨j, rfl⟩ this)
    · obtain ⟨i, hi, hanc, _⟩ := cross hF hG.le (z := c) j w (by omega) hne (.inl ⟨by omega, by omega⟩)
      have h5 := hk2 (i + 1) (by omega)
      exact hne (i + 1) (by omega) (star _ h5.1 h5.2 hanc)
  exact ⟨c, p, hca, hc2, hct, hp1, by omega, d0, d2, d1⟩
end
/-- the other way round -/
def mir (N : Nat) (t : Nat → Nat) (x : Nat) : Nat := N - t (N - x)
section
variable {N ro : Nat} {t : Nat → Nat}
theorem mir_it (hle : ∀ w, w ≤ N → t w ≤ N) : ∀ (k x : Nat), x ≤ N → it (mir N t) k x = N - it t k (N - x)
  | 0, x, hx => by show x = N - (N - x); omega
  | k + 1, x, hx => by
    show it (mir N t) k (mir N t x) = N - it t k (t (N - x))
    have h := hle (N - x) (by omega)
    rw [mir_it hle k (mir N t x) (by unfold mir; omega)]
    unfold mir
    rw [show N - (N - t (N - x)) = t (N - x) by omega]
theorem mir_anc (hle : ∀ w, w ≤ N → t w ≤ N) {x y : Nat} (hx : x ≤ N) (h : Anc t (N - x) y) : Anc (mir N t) x (N - y) := by
  obtain ⟨k, hk⟩ := h
  exact ⟨k, by rw [mir_it hle k x hx, hk]⟩
theorem Gr.mir (h : Gr N ro t) : Gr N (N - ro) (mir N t) := by
  have := h.rl
  refine ⟨fun w hw => by unfold Hd.mir; omega, by omega, ?_, fun w hw => mir_anc h.le hw (h.reach _ (by omega))⟩
  unfold Hd.mir
  rw [show N - (N - ro) = ro by omega, h.fix]
theorem Fl.mir (h : Fl N t) (hle : ∀ w, w ≤ N → t w ≤ N) : Fl N (mir N t) := fun w hw k hk => by
  unfold Hd.mir at hk ⊢
  have h1 := hle (N - w) (by omega)
  have h2 := h (N - w) (by omega) (N - k) (by omega)
  exact mir_anc hle (by omega) h2
theorem Ch.mir {S S' : Nat → Prop} (hle : ∀ w, w ≤ N → t w ≤ N) {x y : Nat} (hx : x ≤ N) (h : Ch t S (N - x) y) (hS : ∀ z, z ≤ N → S z → S' (N - z)) : Ch (mir N t) S' x (N - y) := by
  obtain ⟨k, hk, hk2⟩ := h
  refine ⟨k, by rw [mir_it hle k x hx, hk], fun j hj => ?_⟩
  rw [mir_it hle j x hx]
  have hl : ∀ (k w : Nat), w ≤ N → it t k w ≤ N := fun k => by
    induction k with
    | zero => exact fun w hw => hw
    | succ k ih => exact fun w hw => ih _ (hle w hw)
  exact hS _ (hl _ _ (by omega)) (hk2 j hj)
theorem mir_mir (hle : ∀ w, w ≤ N → t w ≤ N) {x : Nat} (hx : x ≤ N) : mir N (mir N t) x = t x := by
  unfold mir
  have := hle x hx
  rw [show N - (N - x) = x by omega]
  omega
theorem it_congr {t' : Nat → Nat} (hle : ∀ w, w ≤ N → t w ≤ N) (h : ∀ x, x ≤ N → t' x = t x) : ∀ (k x : Nat), x ≤ N → it t' k x = it t k x
  | 0, _, _ => rfl
  | k + 1, x, hx => by show it t' k (t' x) = it t k (t x); rw [h x hx]; exact it_congr hle h k (t x) (hle x hx)
theorem D1.mir (hle : ∀ w, w ≤ N → t w ≤ N) {a b : Nat} (hb : b ≤ N) (h : D1 t a b) : D0 (mir N t) (N - b) (N - a) := fun w h1 h2 =>
  (h (N - w) (by omega) (by omega)).mir hle (by omega) fun z hz ⟨h3, h4⟩ => ⟨by omega, by omega⟩
theorem D0.mir (hle : ∀ w, w ≤ N → t w ≤ N) {a b : Nat} (hb : b ≤ N) (h : D0 t a b) : D1 (mir N t) (N - b) (N - a) := fun w h1 h2 =>
  (h (N - w) (by omega) (by omega)).mir hle (by omega) fun z hz ⟨h3, h4⟩ => ⟨by omega, by omega⟩
theorem Ch.congr {t' : Nat → Nat} {S : Nat → Prop} (hle : ∀ w, w ≤ N → t w ≤ N) (h : ∀ x, x ≤ N → t' x = t x) {x y : Nat} (hx : x ≤ N) (hc : Ch t' S x y) : Ch t S x y := by
  obtain ⟨k, hk, hk2⟩ := hc
  exact ⟨k, by rw [← it_congr hle h k x hx, hk], fun j hj => by rw [← it_congr hle h j x hx]; exact hk2 j hj⟩
theorem parts1 (hG : Gr N ro t) (hF : Fl N t) {a b : Nat} (hab : a < b) (hb : b ≤ N) (hD : D1 t a b) : ∃ c p, a ≤ c ∧ c < b ∧ t c = b ∧ c ≤ p ∧ p < b ∧ D1 t a c ∧ D0 t c p ∧ D1 t (p + 1) b := by
  obtain ⟨c, p, h1, h2, h3, h4, h5, h6, h7, h8⟩ := parts0 hG.mir (hF.mir hG.le) (a := N - b) (b := N - a) (by omega) (by omega) (hD.mir hG.le hb)
  have hle' := hG.mir.le
  have hmm : ∀ x, x ≤ N → mir N (mir N t) x = t x := fun x hx => mir_mir hG.le hx
  -- c: the last; p: ahead of it, in the mirror
  have e1 : t (N - c) = b := by
    unfold mir at h3
    have := hG.le (N - c) (by omega)
    omega
  refine ⟨N - c, N - p - 1, by omega, by omega, e1, by omega, by omega, ?_, ?_, ?_⟩
  · intro w h9 h10
    have := (h6.mir hle' (by omega)) w (by omega) (by omega)
    exact (this.congr hG.le hmm (by omega)).mono fun x hx => by omega
  · intro w h9 h10
    have := (h8.mir hle' (by omega)) w (by omega) (by omega)
    exact (this.congr hG.le hmm (by omega)).mono fun x hx => by omega
  · intro w h9 h10
    have := (h7.mir hle' (by omega)) w (by omega) (by omega)
    rw [show N - (N - b) = b by omega] at this
    exact (this.congr hG.le hmm (by omega)).mono fun x hx => by omega
end
end Go.Proofs.Ytpolnkdbebjpnaa.Hd
