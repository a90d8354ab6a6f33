/- In plain words: what does not come by the rules has an individual against it; what comes by them holds wherever its premises do. No program text. -/
import Derived.Test.YtcnanbimpajonaaHe
import Derived.Test.YtcnanbimpajonaaAg
namespace Go.Proofs.Ytcnanbimpajonaa.Pm
open Cl Co Ag Hd He

/-- closed under the rules, the clash aside -/
structure Clo (D : C → Prop) : Prop where
  self : ∀ a, litB a = true → D (false, a, a)
  chain : ∀ a b c, D (false, a, b) → D (false, b, c) → D (false, a, c)
  turn : ∀ a b, D (false, a, b) → D (false, -b, -a)
  void : ∀ a x, litB x = true → D (false, a, -a) → D (false, a, x)
  full : ∀ b x, litB x = true → D (false, -b, b) → D (false, x, b)
  swap : ∀ a b, D (true, a, b) → D (true, b, a)
  there : ∀ a b, D (true, a, b) → D (true, a, a)
  lead : ∀ a b c, D (true, a, b) → D (false, b, c) → D (true, a, c)

/-- literals that may be true at once -/
def Pw (D : C → Prop) (S : List Int) : Prop := ∀ u ∈ S, ∀ v ∈ S, ¬ D (false, u, -v)

theorem lit_neg {a : Int} (h : litB a = true) : litB (-a) = true := by
  unfold litB at h ⊢
  simp only [decide_eq_true_eq] at h ⊢
  omega

theorem not_pw {D : C → Prop} (hD : Clo D) {S : List Int} (h : Pw D S) {n : Int} (hn : ¬ Pw D (n :: S)) : D (false, n, -n) ∨ ∃ u ∈ S, D (false, u, -n) := by
  classical
  apply Classical.byContradiction
  intro hc
  rw [not_or] at hc
  obtain ⟨h1, h2⟩ := hc
  refine hn fun u hu v hv hd => ?_
  rcases List.mem_cons.1 hu with hu' | hu'
  · rcases List.mem_cons.1 hv with hv' | hv'
    · exact h1 (by rw [hu', hv'] at hd; exact hd)
    · refine h2 ⟨v, hv', ?_⟩
      have := hD.turn _ _ hd
      rw [Int.neg_neg, hu'] at this
      exact this
  · rcases List.mem_cons.1 hv with hv' | hv'
    · exact h2 ⟨u, hu', by rw [hv'] at hd; exact hd⟩
    · exact h u hu' v hv' hd

theorem extend {D : C → Prop} (hD : Clo D) {S : List Int} (hs : ∀ u ∈ S, litB u = true) (h0 : S ≠ []) (h : Pw D S) (n : Int) : Pw D (n :: S) ∨ Pw D (-n :: S) := by
  classical
  apply Classical.byContradiction
  intro hc
  rw [not_or] at hc
  have f1 := not_pw hD h hc.1
  have f2 := not_pw hD h hc.2
  rw [Int.neg_neg] at f2
  obtain ⟨s, hsS⟩ := List.exists_mem_of_ne_nil S h0
  rcases f1 with f1 | ⟨u, hu, f1⟩
  · rcases f2 with f2 | ⟨v, hv, f2⟩
    · exact h s hsS s hsS (hD.chain _ _ _ (hD.full n s (hs s hsS) f2) (hD.void n (-s) (lit_neg (hs s hsS)) f1))
    · exact h v hv v hv (hD.chain _ _ _ f2 (hD.chain _ _ _ f1 (hD.turn _ _ f2)))
  · rcases f2 with f2 | ⟨v, hv, f2⟩
    · have g := hD.turn _ _ f1
      rw [Int.neg_neg] at g
      exact h u hu u hu (hD.chain _ _ _ f1 (hD.chain _ _ _ f2 g))
    · exact h u hu v hv (hD.chain _ _ _ f1 (hD.turn _ _ f2))

theorem extend_all {D : C → Prop} (hD : Clo D) : ∀ (ns : List Int), (∀ n ∈ ns, litB n = true) → ∀ (S : List Int), (∀ u ∈ S, litB u = true) → S ≠ [] → Pw D S → ∃ T : List Int, (∀ u ∈ S, u ∈ T) ∧ (∀ u ∈ T, litB u = true) ∧ Pw D T ∧ ∀ n ∈ ns, n ∈ T ∨ -n ∈ T
  | [], _, S, hs, _, h => ⟨S, fun _ h => h, hs, h, fun _ h => by cases h⟩
  | n :: ns, hns, S, hs, h0, h => by
    have step : ∃ m, (m = n ∨ m = -n) ∧ Pw D (m :: S) := by
      rcases extend hD hs h0 h n with e | e
      · exact ⟨n, .inl rfl, e⟩
      · exact ⟨-n, .inr rfl, e⟩
    obtain ⟨m, hm, e⟩ := step
    have hml : litB m = true := by
      have hn := hns n List.mem_cons_self
      rcases hm with rfl | rfl
      · exact hn
      · exact lit_neg hn
    obtain ⟨T, t1, t2, t3, t4⟩ := extend_all hD ns (fun k hk => hns k (List.mem_cons_of_mem _ hk)) (m :: S) (fun u hu => by
      rcases List.mem_cons.1 hu with rfl | hu
      · exact hml
      · exact hs u hu) (by simp) e
    refine ⟨T, fun u hu => t1 u (List.mem_cons_of_mem _ hu), t2, t3, fun k hk => ?_⟩
    rcases List.mem_cons.1 hk with rfl | hk
    · have := t1 m List.mem_cons_self
      rcases hm with rfl | rfl
      · exact .inl this
      · exact .inr this
    · exact t4 k hk

def num (b1 b2 b3 b4 b5 b6 : Bool) : Int := b1.toInt + 2 * b2.toInt + 4 * b3.toInt + 8 * b4.toInt + 16 * b5.toInt + 32 * b6.toInt
theorem num_is : ∀ b1 b2 b3 b4 b5 b6 : Bool, (0 ≤ num b1 b2 b3 b4 b5 b6 ∧ num b1 b2 b3 b4 b5 b6 < 64) ∧ isP (num b1 b2 b3 b4 b5 b6) 1 = b1 ∧ isP (num b1 b2 b3 b4 b5 b6) 2 = b2 ∧ isP (num b1 b2 b3 b4 b5 b6) 3 = b3 ∧ isP (num b1 b2 b3 b4 b5 b6) 4 = b4 ∧ isP (num b1 b2 b3 b4 b5 b6) 5 = b5 ∧ isP (num b1 b2 b3 b4 b5 b6) 6 = b6 := by
  decide +kernel
theorem isP_neg (x : Int) {l : Int} (h : litB l = true) : isP x (-l) = !isP x l := by
  unfold litB at h
  simp only [decide_eq_true_eq] at h
  unfold isP
  by_cases h0 : l < 0
  · rw [if_neg (by omega), if_pos h0, Bool.not_not]
  · rw [if_pos (by omega), if_neg h0, Int.neg_neg]
theorem lit_cases {l : Int} (h : litB l = true) : ∃ n ∈ [(1 : Int), 2, 3, 4, 5, 6], l = n ∨ l = -n := by
  unfold litB at h
  simp only [decide_eq_true_eq] at h
  by_cases h0 : 0 < l
  · exact ⟨l, by simp; omega, .inl rfl⟩
  · exact ⟨-l, by simp; omega, .inr (by omega)⟩

/-- an individual for literals that may be true at once, which keeps to all that is said of all -/
theorem model {D : C → Prop} (hD : Clo D) {S : List Int} (hs : ∀ u ∈ S, litB u = true) (h0 : S ≠ []) (h : Pw D S) :
    ∃ x : Int, (0 ≤ x ∧ x < 64) ∧ (∀ u ∈ S, isP x u = true) ∧ ∀ a b, litB a = true → litB b = true → D (false, a, b) → isP x a = true → isP x b = true := by
  obtain ⟨T, t1, t2, t3, t4⟩ := extend_all hD [1, 2, 3, 4, 5, 6] (by decide) S hs h0 h
  have both : ∀ l, l ∈ T → -l ∈ T → False := fun l h1 h2 => t3 l h1 (-l) h2 (by rw [Int.neg_neg]; exact hD.self l (t2 l h1))
  obtain ⟨hx, e1, e2, e3, e4, e5, e6⟩ := num_is (decide (1 ∈ T)) (decide (2 ∈ T)) (decide (3 ∈ T)) (decide (4 ∈ T)) (decide (5 ∈ T)) (decide (6 ∈ T))
  obtain ⟨x, hxe⟩ : ∃ x, num (decide (1 ∈ T)) (decide (2 ∈ T)) (decide (3 ∈ T)) (decide (4 ∈ T)) (decide (5 ∈ T)) (decide (6 ∈ T)) = x := ⟨_, rfl⟩
  rw [hxe] at hx e1 e2 e3 e4 e5 e6
  have pos : ∀ n ∈ [(1 : Int), 2, 3, 4, 5, 6], isP x n = decide (n ∈ T) := by
    intro n hn
    simp only [List.mem_cons, List.not_mem_nil, or_false] at hn
    rcases hn with rfl | rfl | rfl | rfl | rfl | rfl <;> assumption
  have poslit : ∀ n ∈ [(1 : Int), 2, 3, 4, 5, 6], litB n = true := by decide
  have key : ∀ l, litB l = true → (isP x l = true ↔ l ∈ T) := by
    intro l hl
    obtain ⟨n, hn, rfl | rfl⟩ := lit_cases hl
    · rw [pos l hn, decide_eq_true_eq]
    · rw [isP_neg x (poslit n hn), pos n hn]
      simp only [Bool.not_eq_true', decide_eq_false_iff_not]
      exact ⟨fun hc => (t4 n hn).resolve_left hc, fun h1 h2 => both n h2 h1⟩
  have dec : ∀ l, litB l = true → l ∈ T ∨ -l ∈ T := by
    intro l hl
    obtain ⟨n, hn, rfl | rfl⟩ := lit_cases hl
    · exact t4 l hn
    · rw [Int.neg_neg]
      exact (t4 n hn).symm
  refine ⟨x, hx, fun u hu => (key u (hs u hu)).2 (t1 u hu), fun a b ha hb hd hp => ?_⟩
  refine (key b hb).2 ?_
  rcases dec b hb with h1 | h1
  · exact h1
  · exact absurd (by rw [Int.neg_neg]; exact hd) (t3 a ((key a ha).1 hp) (-b) h1)

/-- nothing clashes -/
def NoClash (D : C → Prop) : Prop := ∀ a b, D (false, a, b) → D (true, a, -b) → False

theorem all_against {D : C → Prop} (hD : Clo D) {x y : Int} (hx : litB x = true) (hy : litB y = true) (h : ¬ D (false, x, y)) :
    ∃ w : Int, (0 ≤ w ∧ w < 64) ∧ isP w x = true ∧ isP w y = false ∧ ∀ a b, litB a = true → litB b = true → D (false, a, b) → isP w a = true → isP w b = true := by
  have hp : Pw D [x, -y] := by
    intro u hu v hv hd
    simp only [List.mem_cons, List.not_mem_nil, or_false] at hu hv
    rcases hu with rfl | rfl <;> rcases hv with rfl | rfl
    · exact h (hD.void _ _ hy hd)
    · rw [Int.neg_neg] at hd
      exact h hd
    · have := hD.turn _ _ hd
      rw [Int.neg_neg, Int.neg_neg] at this
      exact h this
    · rw [Int.neg_neg] at hd
      exact h (hD.full _ _ hx hd)
  obtain ⟨w, hw, h1, h2⟩ := model hD (S := [x, -y]) (fun u hu => by
    simp only [List.mem_cons, List.not_mem_nil, or_false] at hu
    rcases hu with rfl | rfl
    · exact hx
    · exact lit_neg hy) (by simp) hp
  refine ⟨w, hw, h1 x (by simp), ?_, h2⟩
  have := h1 (-y) (by simp)
  rw [isP_neg w hy] at this
  simpa using this

theorem some_pairs {D : C → Prop} (hD : Clo D) {a b : Int} (h : D (true, a, b)) : ∀ u ∈ [a, b], ∀ v ∈ [a, b], D (true, u, v) := by
  intro u hu v hv
  simp only [List.mem_cons, List.not_mem_nil, or_false] at hu hv
  rcases hu with rfl | rfl <;> rcases hv with rfl | rfl
  · exact hD.there _ _ h
  · exact h
  · exact hD.swap _ _ h
  · exact hD.there _ _ (hD.swap _ _ h)
theorem some_pw {D : C → Prop} (hD : Clo D) (hc : NoClash D) {a b : Int} (h : D (true, a, b)) : Pw D [a, b] := by
  intro u hu v hv hd
  refine hc u (-v) hd ?_
  rw [Int.neg_neg]
  exact some_pairs hD h u hu v hv
theorem some_there {D : C → Prop} (hD : Clo D) (hc : NoClash D) {a b : Int} (ha : litB a = true) (hb : litB b = true) (h : D (true, a, b)) :
    ∃ w : Int, (0 ≤ w ∧ w < 64) ∧ isP w a = true ∧ isP w b = true ∧ ∀ a b, litB a = true → litB b = true → D (false, a, b) → isP w a = true → isP w b = true := by
  obtain ⟨w, hw, h1, h2⟩ := model hD (S := [a, b]) (fun u hu => by
    simp only [List.mem_cons, List.not_mem_nil, or_false] at hu
    rcases hu with rfl | rfl
    · exact ha
    · exact hb) (by simp) (some_pw hD hc h)
  exact ⟨w, hw, h1 a (by simp), h1 b (by simp), h2⟩
/-- what is somebody's, without being both of a claim that does not come -/
theorem some_off {D : C → Prop} (hD : Clo D) (hc : NoClash D) {a b x y : Int} (ha : litB a = true) (hb : litB b = true) (hx : litB x = true) (hy : litB y = true) (h : D (true, a, b)) (hn : ¬ D (true, x, y)) :
    ∃ w : Int, (0 ≤ w ∧ w < 64) ∧ isP w a = true ∧ isP w b = true ∧ (isP w x && isP w y) = false ∧ ∀ a b, litB a = true → litB b = true → D (false, a, b) → isP w a = true → isP w b = true := by
  have hp := some_pw hD hc h
  have hl : ∀ z, litB z = true → ∀ u ∈ [-z, a, b], litB u = true := fun z hz u hu => by
    simp only [List.mem_cons, List.not_mem_nil, or_false] at hu
    rcases hu with rfl | rfl | rfl
    · exact lit_neg hz
    · exact ha
    · exact hb
  have leads : ∀ z, litB z = true → ¬ Pw D [-z, a, b] → ∃ u ∈ [a, b], D (false, u, z) := fun z hz hn => by
    have := not_pw hD hp hn
    rw [Int.neg_neg] at this
    rcases this with f | f
    · exact ⟨a, by simp, hD.full _ _ ha f⟩
    · exact f
  by_cases h1 : Pw D [-x, a, b]
  · obtain ⟨w, hw, g1, g2⟩ := model hD (hl x hx) (by simp) h1
    refine ⟨w, hw, g1 a (by simp), g1 b (by simp), ?_, g2⟩
    have := g1 (-x) (by simp)
    rw [isP_neg w hx] at this
    simp at this
    rw [this]
    rfl
  · by_cases h2 : Pw D [-y, a, b]
    · obtain ⟨w, hw, g1, g2⟩ := model hD (hl y hy) (by simp) h2
      refine ⟨w, hw, g1 a (by simp), g1 b (by simp), ?_, g2⟩
      have := g1 (-y) (by simp)
      rw [isP_neg w hy] at this
      simp at this
      rw [this, Bool.and_false]
    · obtain ⟨u, hu, fu⟩ := leads x hx h1
      obtain ⟨v, hv, fv⟩ := leads y hy h2
      exact absurd (hD.swap _ _ (hD.lead _ _ _ (hD.swap _ _ (hD.lead _ _ _ (some_pairs hD h u hu v hv) fv)) fu)) hn
end Go.Proofs.Ytcnanbimpajonaa.Pm
