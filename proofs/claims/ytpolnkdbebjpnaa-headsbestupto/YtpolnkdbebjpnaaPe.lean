/- Flat trees in plain words (Eisner): none is worth more than the tables say; what is put together as the tables tell is a flat tree that is worth that. No program text; no conditions. -/
import Derived.Test.YtpolnkdbebjpnaaPd
namespace Go.Proofs.Ytpolnkdbebjpnaa.Hd

/-- what the words from a on, k of them, are worth -/
def sg (s : Nat → Nat → Int) (t : Nat → Nat) (a k : Nat) : Int := sm (fun w => s (t w) w) (List.range' a k)
theorem sg_add (s : Nat → Nat → Int) (t : Nat → Nat) (a j k : Nat) : sg s t a (j + k) = sg s t a j + sg s t (a + j) k := by
  unfold sg
  rw [← sm_append]
  congr 1
  have h := List.range'_append (s := a) (m := j) (n := k) (step := 1)
  rw [Nat.one_mul] at h
  exact h.symm
theorem sg_one (s : Nat → Nat → Int) (t : Nat → Nat) (a : Nat) : sg s t a 1 = s (t a) a := by
  show s (t a) a + 0 = _
  omega
theorem sg_zero (s : Nat → Nat → Int) (t : Nat → Nat) (a : Nat) : sg s t a 0 = 0 := rfl
theorem sg_congr {s : Nat → Nat → Int} {t t' : Nat → Nat} {a k : Nat} (h : ∀ w, a ≤ w → w < a + k → t' w = t w) : sg s t' a k = sg s t a k := sm_congr fun w hw => by
  have := List.mem_range'_1.1 hw
  show s (t' w) w = s (t w) w
  rw [h w this.1 this.2]
/-- no less than each way to put a piece together -/
structure Tb4 (N : Nat) (s W0 W1 B0 B1 : Nat → Nat → Int) : Prop where
  z0 : ∀ a, W0 a a = 0
  z1 : ∀ a, W1 a a = 0
  u1 : ∀ a b p, a ≤ p → p < b → b ≤ N → W0 a p + W1 (p + 1) b + s a b ≤ B0 a b
  u2 : ∀ a b c, a < c → c ≤ b → b ≤ N → B0 a c + W0 c b ≤ W0 a b
  u3 : ∀ a b p, 1 ≤ a → a ≤ p → p < b → b ≤ N → W0 a p + W1 (p + 1) b + s b a ≤ B1 a b
  u4 : ∀ a b c, 1 ≤ a → a ≤ c → c < b → b ≤ N → W1 a c + B1 c b ≤ W1 a b
section
variable {N ro : Nat} {s W0 W1 B0 B1 : Nat → Nat → Int} {t t' u : Nat → Nat}
theorem upper (hT : Tb4 N s W0 W1 B0 B1) (hG : Gr N ro t) (hF : Fl N t) : ∀ (L a b : Nat), b - a ≤ L → a ≤ b → b ≤ N → (D0 t a b → sg s t (a + 1) (b - a) ≤ W0 a b) ∧ (1 ≤ a → D1 t a b → sg s t a (b - a) ≤ W1 a b) := by
  intro L
  induction L with
  | zero =>
    intro a b h1 h2 _
    obtain rfl : a = b := by omega
    rw [Nat.sub_self, hT.z0, hT.z1, sg_zero, sg_zero]
    exact ⟨fun _ => Int.le_refl _, fun _ _ => Int.le_refl _⟩
  | succ L ih =>
    intro a b h1 h2 hb
    rcases Nat.lt_or_ge a b with hab | hab
    · constructor
      · intro hD
        obtain ⟨c, p, c1, c2, c3, p1, p2, d1, d2, d3⟩ := parts0 hG hF hab hb hD
        have i1 := (ih a p (by omega) p1 (by omega)).1 d2
        have i2 := (ih (p + 1) c (by omega) (by omega) (by omega)).2 (by omega) d3
        have i3 := (ih c b (by omega) c2 hb).1 d1
        have k1 := hT.u1 a c p p1 p2 (by omega)
        have k2 := hT.u2 a b c c1 c2 hb
        have e : sg s t (a + 1) (b - a) = sg s t (a + 1) (p - a) + sg s t (p + 1) (c - (p + 1)) + s a c + sg s t (c + 1) (b - c) := by
          rw [show b - a = (p - a) + ((c - (p + 1)) + (1 + (b - c))) by omega, sg_add, sg_add, sg_add, show a + 1 + (p - a) = p + 1 by omega, show p + 1 + (c - (p + 1)) = c by omega, sg_one, c3]
          omega
        omega
      · intro ha hD
        obtain ⟨c, p, c1, c2, c3, p1, p2, d1, d2, d3⟩ := parts1 hG hF hab hb hD
        have i1 := (ih a c (by omega) c1 (by omega)).2 ha d1
        have i2 := (ih c p (by omega) p1 (by omega)).1 d2
        have i3 := (ih (p + 1) b (by omega) (by omega) hb).2 (by omega) d3
        have k1 := hT.u3 c b p (by omega) p1 p2 hb
        have k2 := hT.u4 a b c ha c1 c2 hb
        have e : sg s t a (b - a) = sg s t a (c - a) + s b c + sg s t (c + 1) (p - c) + sg s t (p + 1) (b - (p + 1)) := by
          rw [show b - a = (c - a) + (1 + ((p - c) + (b - (p + 1)))) by omega, sg_add, sg_add, sg_add, show a + (c - a) = c by omega, show c + 1 + (p - c) = p + 1 by omega, sg_one, c3]
          omega
        omega
    · obtain rfl : a = b := by omega
      rw [Nat.sub_self, hT.z0, hT.z1, sg_zero, sg_zero]
      exact ⟨fun _ => Int.le_refl _, fun _ _ => Int.le_refl _⟩
/-- a piece that is put together -/
def Bl (t : Nat → Nat) : Nat → Bool → Nat → Nat → Prop
  | 0, _, a, b => a = b
  | L + 1, false, a, b => a = b ∨ ∃ c p, a < c ∧ c ≤ b ∧ t c = a ∧ a ≤ p ∧ p < c ∧ Bl t L false a p ∧ Bl t L true (p + 1) c ∧ Bl t L false c b
  | L + 1, true, a, b => a = b ∨ ∃ c p, a ≤ c ∧ c < b ∧ t c = b ∧ c ≤ p ∧ p < b ∧ Bl t L true a c ∧ Bl t L false c p ∧ Bl t L true (p + 1) b
theorem Bl.nil : ∀ (L : Nat) (e : Bool) (a : Nat), Bl t L e a a
  | 0, _, _ => rfl
  | _ + 1, false, _ => .inl rfl
  | _ + 1, true, _ => .inl rfl
theorem Bl.mono : ∀ (L L' : Nat) (e : Bool) (a b : Nat), L ≤ L' → Bl t L e a b → Bl t L' e a b
  | 0, L', e, a, b, _, h => by
    have h : a = b := h
    subst h
    exact Bl.nil L' e a
  | L + 1, 0, _, _, _, h0, _ => by omega
  | L + 1, L' + 1, false, a, b, h0, h => by
    rcases h with h | ⟨c, p, c1, c2, c3, p1, p2, d1, d2, d3⟩
    · exact .inl h
    · exact .inr ⟨c, p, c1, c2, c3, p1, p2, Bl.mono L L' _ _ _ (by omega) d1, Bl.mono L L' _ _ _ (by omega) d2, Bl.mono L L' _ _ _ (by omega) d3⟩
  | L + 1, L' + 1, true, a, b, h0, h => by
    rcases h with h | ⟨c, p, c1, c2, c3, p1, p2, d1, d2, d3⟩
    · exact .inl h
    · exact .inr ⟨c, p, c1, c2, c3, p1, p2, Bl.mono L L' _ _ _ (by omega) d1, Bl.mono L L' _ _ _ (by omega) d2, Bl.mono L L' _ _ _ (by omega) d3⟩
theorem Bl.le : ∀ (L : Nat) (e : Bool) (a b : Nat), Bl t L e a b → a ≤ b
  | 0, _, a, b, h => by have h : a = b := h; omega
  | L + 1, false, a, b, h => by
    rcases h with h | ⟨c, p, c1, c2, _⟩
    · omega
    · omega
  | L + 1, true, a, b, h => by
    rcases h with h | ⟨c, p, c1, c2, _⟩
    · omega
    · omega
theorem Bl.congr : ∀ (L : Nat) (e : Bool) (a b : Nat), (∀ w, a ≤ w → w ≤ b → (e = false → a < w) → (e = true → w < b) → t' w = t w) → Bl t L e a b → Bl t' L e a b
  | 0, _, _, _, _, h => h
  | L + 1, false, a, b, he, h => by
    rcases h with h | ⟨c, p, c1, c2, c3, p1, p2, d1, d2, d3⟩
    · exact .inl h
    · refine .inr ⟨c, p, c1, c2, (he c (by omega) c2 (fun _ => c1) (fun h => by cases h)).trans c3, p1, p2, ?_, ?_, ?_⟩
      · exact Bl.congr L _ _ _ (fun w h1 h2 h3 _ => he w h1 (by omega) h3 (fun h => by cases h)) d1
      · exact Bl.congr L _ _ _ (fun w h1 h2 _ h4 => he w (by omega) (by omega) (fun _ => by omega) (fun h => by cases h)) d2
      · exact Bl.congr L _ _ _ (fun w h1 h2 h3 _ => he w (by omega) h2 (fun _ => by have := h3 rfl; omega) (fun h => by cases h)) d3
  | L + 1, true, a, b, he, h => by
    rcases h with h | ⟨c, p, c1, c2, c3, p1, p2, d1, d2, d3⟩
    · exact .inl h
    · refine .inr ⟨c, p, c1, c2, (he c c1 (by omega) (fun h => by cases h) (fun _ => c2)).trans c3, p1, p2, ?_, ?_, ?_⟩
      · exact Bl.congr L _ _ _ (fun w h1 h2 _ h4 => he w h1 (by omega) (fun h => by cases h) (fun _ => by have := h4 rfl; omega)) d1
      · exact Bl.congr L _ _ _ (fun w h1 h2 h3 _ => he w (by omega) (by omega) (fun h => by cases h) (fun _ => by omega)) d2
      · exact Bl.congr L _ _ _ (fun w h1 h2 _ h4 => he w (by omega) h2 (fun h => by cases h) h4) d3
/-- all between a word and that on which it hangs hang on that -/
def Lf (t : Nat → Nat) (w : Nat) : Prop := ∀ k, (w < k ∧ k < t w) ∨ (t w < k ∧ k < w) → Anc t k (t w)
theorem Bl.d : ∀ (L : Nat) (e : Bool) (a b : Nat), Bl t L e a b → (e = false → D0 t a b ∧ ∀ w, a < w → w ≤ b → Lf t w) ∧ (e = true → D1 t a b ∧ ∀ w, a ≤ w → w < b → Lf t w)
  | 0, e, a, b, h => by
    have h : a = b := h
    subst h
    exact ⟨fun _ => ⟨fun w h1 h2 => by omega, fun w h1 h2 => by omega⟩, fun _ => ⟨fun w h1 h2 => by omega, fun w h1 h2 => by omega⟩⟩
  | L + 1, false, a, b, h => by
    refine ⟨fun _ => ?_, fun h => by cases h⟩
    rcases h with h | ⟨c, p, c1, c2, c3, p1, p2, d1, d2, d3⟩
    · subst h
      exact ⟨fun w h1 h2 => by omega, fun w h1 h2 => by omega⟩
    · have i1 := (Bl.d L _ _ _ d1).1 rfl
      have i2 := (Bl.d L _ _ _ d2).2 rfl
      have i3 := (Bl.d L _ _ _ d3).1 rfl
      have toA : Ch t (fun x => a < x ∧ x ≤ b) c a := by
        have h := Ch.one (t := t) (S := fun x => a < x ∧ x ≤ b) (x := c) ⟨c1, c2⟩
        rw [c3] at h
        exact h
      refine ⟨fun w h1 h2 => ?_, fun w h1 h2 => ?_⟩
      · by_cases hp : w ≤ p
        · exact (i1.1 w h1 hp).mono fun x hx => ⟨hx.1, by omega⟩
        · by_cases hc : w < c
          · exact ((i2.1 w (by omega) hc).mono fun x hx => (⟨by omega, by omega⟩ : a < x ∧ x ≤ b)).trans toA
          · by_cases he : w = c
            · rw [he]; exact toA
            · exact ((i3.1 w (by omega) h2).mono fun x hx => (⟨by omega, by omega⟩ : a < x ∧ x ≤ b)).trans toA
      · by_cases hp : w ≤ p
        · exact i1.2 w h1 hp
        · by_cases hc : w < c
          · exact i2.2 w (by omega) hc
          · by_cases he : w = c
            · subst he
              intro k hk
              rw [c3] at hk ⊢
              by_cases hkp : k ≤ p
              · exact (i1.1 k (by omega) hkp).anc
              · exact (i2.1 k (by omega) (by omega)).anc.trans toA.anc
            · exact i3.2 w (by omega) h2
  | L + 1, true, a, b, h => by
    refine ⟨fun h => (by cases h), fun _ => ?_⟩
    rcases h with h | ⟨c, p, c1, c2, c3, p1, p2, d1, d2, d3⟩
    · subst h
      exact ⟨fun w h1 h2 => by omega, fun w h1 h2 => by omega⟩
    · have i1 := (Bl.d L _ _ _ d1).2 rfl
      have i2 := (Bl.d L _ _ _ d2).1 rfl
      have i3 := (Bl.d L _ _ _ d3).2 rfl
      have toB : Ch t (fun x => a ≤ x ∧ x < b) c b := by
        have h := Ch.one (t := t) (S := fun x => a ≤ x ∧ x < b) (x := c) ⟨c1, c2⟩
        rw [c3] at h
        exact h
      refine ⟨fun w h1 h2 => ?_, fun w h1 h2 => ?_⟩
      · by_cases hc : w < c
        · exact ((i1.1 w h1 hc).mono fun x hx => (⟨by omega, by omega⟩ : a ≤ x ∧ x < b)).trans toB
        · by_cases he : w = c
          · rw [he]; exact toB
          · by_cases hp : w ≤ p
            · exact ((i2.1 w (by omega) hp).mono fun x hx => (⟨by omega, by omega⟩ : a ≤ x ∧ x < b)).trans toB
            · exact (i3.1 w (by omega) h2).mono fun x hx => ⟨by omega, hx.2⟩
      · by_cases hc : w < c
        · exact i1.2 w h1 hc
        · by_cases he : w = c
          · subst he
            intro k hk
            rw [c3] at hk ⊢
            by_cases hkp : k ≤ p
            · exact (i2.1 k (by omega) hkp).anc.trans toB.anc
            · exact (i3.1 k (by omega) (by omega)).anc
          · by_cases hp : w ≤ p
            · exact i2.2 w (by omega) hp
            · exact i3.2 w (by omega) h2
theorem Bl.tree {L : Nat} (h : Bl t L false 0 N) (h0 : t 0 = 0) : Tr N t ∧ Fl N t := by
  obtain ⟨hD, hl⟩ := (Bl.d L _ _ _ h).1 rfl
  refine ⟨⟨h0, fun w h1 h2 => ?_, fun w h1 h2 => (hD w h1 h2).anc⟩, fun w hw k hk => ?_⟩
  · obtain ⟨k, hk, hk2⟩ := hD w h1 h2
    match k with
    | 0 => have e : w = 0 := hk; omega
    | 1 => have e : t w = 0 := hk; omega
    | k + 2 => exact (hk2 1 (by omega)).2
  · rcases Nat.eq_zero_or_pos w with rfl | hp
    · rw [h0] at hk; omega
    · exact hl w hp hw k hk
/-- a whole piece, a bow, with what it is worth -/
structure Wh (s : Nat → Nat → Int) (t : Nat → Nat) (e : Bool) (v : Int) (a b : Nat) : Prop where
  bl : ∃ L, Bl t L e a b
  sum : sg s t (if e = false then a + 1 else a) (b - a) = v
structure Bo (s : Nat → Nat → Int) (t : Nat → Nat) (e : Bool) (v : Int) (a b : Nat) : Prop where
  hd : if e = false then t b = a else t a = b
  cut : ∃ p L, a ≤ p ∧ p < b ∧ Bl t L false a p ∧ Bl t L true (p + 1) b
  sum : sg s t (if e = false then a + 1 else a) (b - a) = v
theorem Wh.nil (s : Nat → Nat → Int) (t : Nat → Nat) (e : Bool) (a : Nat) : Wh s t e 0 a a := ⟨⟨0, rfl⟩, by rw [Nat.sub_self]; rfl⟩
theorem Wh.le {e : Bool} {v : Int} {a b : Nat} (h : Wh s t e v a b) : a ≤ b := by obtain ⟨L, h⟩ := h.bl; exact Bl.le L _ _ _ h
theorem Bo.mk0 {x y : Int} {a p b : Nat} (h : Wh s t false x a p) (k : Wh s t true y (p + 1) b) (hp : p < b) (ht : t b = a) : Bo s t false (x + y + s a b) a b := by
  obtain ⟨L1, h1⟩ := h.bl
  obtain ⟨L2, h2⟩ := k.bl
  have ha := h.le
  refine ⟨ht, ⟨p, L1 + L2, ha, hp, Bl.mono _ _ _ _ _ (by omega) h1, Bl.mono _ _ _ _ _ (by omega) h2⟩, ?_⟩
  have e1 : sg s t (a + 1) (p - a) = x := h.sum
  have e2 : sg s t (p + 1) (b - (p + 1)) = y := k.sum
  show sg s t (a + 1) (b - a) = _
  rw [show b - a = (p - a) + ((b - (p + 1)) + 1) by omega, sg_add, sg_add, show a + 1 + (p - a) = p + 1 by omega, show p + 1 + (b - (p + 1)) = b by omega, sg_one, ht, e1, e2]
  omega
theorem Bo.mk1 {x y : Int} {a p b : Nat} (h : Wh s t false x a p) (k : Wh s t true y (p + 1) b) (hp : p < b) (ht : t a = b) : Bo s t true (x + y + s b a) a b := by
  obtain ⟨L1, h1⟩ := h.bl
  obtain ⟨L2, h2⟩ := k.bl
  have ha := h.le
  refine ⟨ht, ⟨p, L1 + L2, ha, hp, Bl.mono _ _ _ _ _ (by omega) h1, Bl.mono _ _ _ _ _ (by omega) h2⟩, ?_⟩
  have e1 : sg s t (a + 1) (p - a) = x := h.sum
  have e2 : sg s t (p + 1) (b - (p + 1)) = y := k.sum
  show sg s t a (b - a) = _
  rw [show b - a = 1 + ((p - a) + (b - (p + 1))) by omega, sg_add, sg_add, sg_one, ht, show a + 1 + (p - a) = p + 1 by omega, e1, e2]
  omega
theorem Wh.mk0 {x y : Int} {a c b : Nat} (h : Bo s t false x a c) (k : Wh s t false y c b) : Wh s t false (x + y) a b := by
  obtain ⟨p, L1, p1, p2, h1, h2⟩ := h.cut
  obtain ⟨L2, h3⟩ := k.bl
  have hc := k.le
  have hd : t c = a := h.hd
  refine ⟨⟨L1 + L2 + 1, .inr ⟨c, p, by omega, hc, hd, p1, p2, Bl.mono _ _ _ _ _ (by omega) h1, Bl.mono _ _ _ _ _ (by omega) h2, Bl.mono _ _ _ _ _ (by omega) h3⟩⟩, ?_⟩
  have e1 : sg s t (a + 1) (c - a) = x := h.sum
  have e2 : sg s t (c + 1) (b - c) = y := k.sum
  show sg s t (a + 1) (b - a) = _
  rw [show b - a = (c - a) + (b - c) by omega, sg_add, show a + 1 + (c - a) = c + 1 by omega, e1, e2]
theorem Wh.mk1 {x y : Int} {a c b : Nat} (h : Wh s t true x a c) (k : Bo s t true y c b) : Wh s t true (x + y) a b := by
  obtain ⟨p, L1, p1, p2, h1, h2⟩ := k.cut
  obtain ⟨L2, h3⟩ := h.bl
  have hc := h.le
  have hd : t c = b := k.hd
  refine ⟨⟨L1 + L2 + 1, .inr ⟨c, p, hc, by omega, hd, p1, p2, Bl.mono _ _ _ _ _ (by omega) h3, Bl.mono _ _ _ _ _ (by omega) h1, Bl.mono _ _ _ _ _ (by omega) h2⟩⟩, ?_⟩
  have e1 : sg s t a (c - a) = x := h.sum
  have e2 : sg s t c (b - c) = y := k.sum
  show sg s t a (b - a) = _
  rw [show b - a = (c - a) + (b - c) by omega, sg_add, show a + (c - a) = c by omega, e1, e2]
/-- the words of a piece -/
def inP (e : Bool) (a b w : Nat) : Prop := a ≤ w ∧ w ≤ b ∧ (e = false → a < w) ∧ (e = true → w < b)
theorem Wh.congr {e : Bool} {v : Int} {a b : Nat} (h : Wh s t e v a b) (he : ∀ w, inP e a b w → t' w = t w) : Wh s t' e v a b := by
  obtain ⟨L, h1⟩ := h.bl
  have hle := h.le
  refine ⟨⟨L, Bl.congr L e a b (fun w h1 h2 h3 h4 => he w ⟨h1, h2, h3, h4⟩) h1⟩, ?_⟩
  rw [← h.sum]
  refine sg_congr fun w h2 h3 => he w ?_
  cases e with
  | false => simp at h2 h3; exact ⟨by omega, by omega, fun _ => by omega, fun h => by cases h⟩
  | true => simp at h2 h3; exact ⟨by omega, by omega, (fun h => by cases h), fun _ => by omega⟩
theorem Bo.congr {e : Bool} {v : Int} {a b : Nat} (h : Bo s t e v a b) (he : ∀ w, inP e a b w → t' w = t w) : Bo s t' e v a b := by
  obtain ⟨p, L, p1, p2, h1, h2⟩ := h.cut
  have hin : ∀ w, a < w → w < b → inP e a b w := fun w h1 h2 => ⟨by omega, by omega, fun _ => h1, fun _ => h2⟩
  refine ⟨?_, ⟨p, L, p1, p2, Bl.congr L _ _ _ (fun w h1 h2 h3 _ => he w (hin w (h3 rfl) (by omega))) h1, Bl.congr L _ _ _ (fun w h1 h2 _ h4 => he w (hin w (by omega) (h4 rfl))) h2⟩, ?_⟩
  · cases e with
    | false => exact (he b ⟨by omega, Nat.le_refl _, fun _ => by omega, fun h => by cases h⟩).trans h.hd
    | true => exact (he a ⟨Nat.le_refl _, by omega, (fun h => by cases h), fun _ => by omega⟩).trans h.hd
  · rw [← h.sum]
    refine sg_congr fun w h2 h3 => he w ?_
    cases e with
    | false => simp at h2 h3; exact ⟨by omega, by omega, fun _ => by omega, fun h => by cases h⟩
    | true => simp at h2 h3; exact ⟨by omega, by omega, (fun h => by cases h), fun _ => by omega⟩
theorem Tr.gr (h : Tr N t) : Gr N 0 t := ⟨fun w hw => by
  rcases Nat.eq_zero_or_pos w with rfl | hp
  · rw [h.z]; omega
  · exact h.le w hp hw, Nat.zero_le _, h.z, fun w hw => by
  rcases Nat.eq_zero_or_pos w with rfl | hp
  · exact Anc.refl _
  · exact h.r w hp hw⟩
theorem Tr.d0 (h : Tr N t) : D0 t 0 N := fun w h1 h2 => by
  obtain ⟨k, hk⟩ := h.r w h1 h2
  obtain ⟨j, _, hj, hn⟩ := first_hit k w hk
  exact ⟨j, hj, fun i hi => ⟨Nat.pos_of_ne_zero (hn i hi), h.gr.it_le i w h2⟩⟩
/-- the best flat tree -/
theorem flat_opt (hT : Tb4 N s W0 W1 B0 B1) (h0 : u 0 = 0) (hu : Wh s u false (W0 0 N) 0 N) : (Tr N u ∧ Fl N u) ∧ wo s N u = W0 0 N ∧ ∀ t, Tr N t → Fl N t → wo s N t ≤ wo s N u := by
  obtain ⟨L, hb⟩ := hu.bl
  have e : wo s N u = W0 0 N := hu.sum
  refine ⟨hb.tree h0, e, fun t ht hf => ?_⟩
  rw [e]
  have h := (upper (N := N) hT ht.gr hf N 0 N (by omega) (Nat.zero_le _) (Nat.le_refl _)).1 ht.d0
  exact h
end
end Go.Proofs.Ytpolnkdbebjpnaa.Hd
