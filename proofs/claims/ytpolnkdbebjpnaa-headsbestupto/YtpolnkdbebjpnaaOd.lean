/- Lists of numbers as trees (any list, wrong ones too); which words stand side by side: a tree is flat just if all that hang on each word stand side by side; how that is found from below. No program text; no conditions. -/
import Derived.Test.YtpolnkdbebjpnaaNi
namespace Go.Proofs.Ytpolnkdbebjpnaa.Hd
open Go.RowKit

def nl (l : List Int) : List Nat := l.map Int.toNat
def InR (l : List Int) : Prop := ∀ i, i < l.length → 0 ≤ l.getD i 0 ∧ l.getD i 0 ≤ l.length
def un (l : List Int) : Nat → Nat := uv (nl l)
def isTr (l : List Int) : Prop := InR l ∧ Tr l.length (un l)
theorem nl_len (l : List Int) : (nl l).length = l.length := by simp [nl]
theorem nl_getD (l : List Int) (i : Nat) : (nl l).getD i 0 = (l.getD i 0).toNat := by
  unfold nl
  rw [List.getD_eq_getElem?_getD, List.getD_eq_getElem?_getD, List.getElem?_map]
  cases l[i]? <;> rfl
theorem un_zero (l : List Int) : un l 0 = 0 := rfl
theorem un_at (l : List Int) (i : Nat) : un l (i + 1) = (l.getD i 0).toNat := nl_getD l i
theorem InR.at {l : List Int} (h : InR l) {i : Nat} (hi : i < l.length) : l.getD i 0 = (un l (i + 1) : Int) := by
  have := h i hi
  rw [un_at]
  omega
theorem InR.le {l : List Int} (h : InR l) {x : Nat} (h1 : 1 ≤ x) (h2 : x ≤ l.length) : un l x ≤ l.length := by
  obtain ⟨i, rfl⟩ : ∃ i, x = i + 1 := ⟨x - 1, by omega⟩
  have := h.at (i := i) (by omega)
  have := h i (by omega)
  omega
theorem un_off (l : List Int) {x : Nat} (h : l.length < x) : un l x = 0 := by
  obtain ⟨i, rfl⟩ : ∃ i, x = i + 1 := ⟨x - 1, by omega⟩
  rw [un_at, List.getD_eq_getElem?_getD, List.getElem?_eq_none (by omega)]
  rfl

/-- a list in which nothing stands twice is not longer than one that holds all of it -/
theorem nodup_len : ∀ {l m : List Nat}, l.Nodup → (∀ x ∈ l, x ∈ m) → l.length ≤ m.length
  | [], _, _, _ => Nat.zero_le _
  | x :: l, m, hn, h => by
    obtain ⟨h1, h2⟩ := List.nodup_cons.1 hn
    have hx := h x List.mem_cons_self
    have h3 := nodup_len (m := m.erase x) h2 fun y hy => (List.mem_erase_of_ne (fun e => h1 (by rw [← e]; exact hy))).2 (h y (List.mem_cons_of_mem _ hy))
    rw [List.length_erase_of_mem hx] at h3
    have := List.length_pos_of_mem hx
    show l.length + 1 ≤ _
    omega
theorem nodup_all {l m : List Nat} (hn : l.Nodup) (h : ∀ x ∈ l, x ∈ m) (hl : m.length ≤ l.length) {x : Nat} (hx : x ∈ m) : x ∈ l := by
  by_cases hxl : x ∈ l
  · exact hxl
  · have := nodup_len (l := x :: l) (m := m) (List.nodup_cons.2 ⟨hxl, hn⟩) fun y hy => by
      rcases List.mem_cons.1 hy with rfl | hy
      · exact hx
      · exact h y hy
    rw [List.length_cons] at this
    omega
section
variable {n : Nat} {u : Nat → Nat}
theorem Tr.it_le (h : Tr n u) : ∀ (k : Nat) {w : Nat}, w ≤ n → it u k w ≤ n
  | 0, _, hw => hw
  | k + 1, w, hw => by
    show it u k (u w) ≤ n
    refine h.it_le k ?_
    rcases Nat.eq_zero_or_pos w with rfl | h0
    · rw [h.z]; exact Nat.zero_le _
    · exact h.le w h0 hw
theorem Tr.gr0 (h : Tr n u) : Gr n 0 u := h.gr
/-- n steps are enough -/
theorem Tr.it_n (h : Tr n u) {w : Nat} (hw : w ≤ n) : it u n w = 0 := by
  obtain ⟨k, hk⟩ : Rch u w := by
    rcases Nat.eq_zero_or_pos w with rfl | h0
    · exact Rch.zero u
    · exact h.r w h0 hw
  obtain ⟨j, _, hj, hlt⟩ := first_hit k w hk
  have key : ∀ i, i ≤ j → ∃ L : List Nat, L.length = i ∧ L.Nodup ∧ ∀ x ∈ L, ∃ i', i' < i ∧ it u i' w = x := by
    intro i
    induction i with
    | zero => exact fun _ => ⟨[], rfl, List.nodup_nil, fun x hx => by cases hx⟩
    | succ i ih =>
      intro hi
      obtain ⟨L, h1, h2, h3⟩ := ih (by omega)
      refine ⟨it u i w :: L, by rw [List.length_cons, h1], List.nodup_cons.2 ⟨fun hm => ?_, h2⟩, fun x hx => ?_⟩
      · obtain ⟨i', hi', e⟩ := h3 _ hm
        apply hlt (i' + (j - i)) (by omega)
        rw [it_add, e, ← it_add, show i + (j - i) = j by omega]
        exact hj
      · rcases List.mem_cons.1 hx with rfl | hx
        · exact ⟨i, by omega, rfl⟩
        · obtain ⟨i', hi', e⟩ := h3 _ hx
          exact ⟨i', by omega, e⟩
  obtain ⟨L, h1, h2, h3⟩ := key j (Nat.le_refl j)
  have h4 := nodup_len (m := List.range' 1 n) h2 fun x hx => by
    obtain ⟨i', hi', rfl⟩ := h3 x hx
    refine mem_words.2 ⟨?_, h.it_le _ hw⟩
    have := hlt i' hi'
    omega
  rw [h1, List.length_range'] at h4
  rw [show n = j + (n - j) by omega, it_add, hj]
  exact it_zero h.z _
theorem anc_zero (h0 : u 0 = 0) {h : Nat} : Anc u 0 h ↔ h = 0 := ⟨fun ⟨k, hk⟩ => by rw [it_zero h0] at hk; exact hk.symm, fun e => ⟨0, e.symm⟩⟩
theorem anc_step {x h : Nat} (hx : x ≠ h) : Anc u x h ↔ Anc u (u x) h := ⟨fun ⟨k, hk⟩ => by
  cases k with
  | zero => exact absurd hk hx
  | succ k => exact ⟨k, hk⟩, Anc.up⟩
theorem anc_cases {x h : Nat} (ha : Anc u x h) : x = h ∨ ∃ c, u c = h ∧ Anc u x c := by
  obtain ⟨k, hk⟩ := ha
  cases k with
  | zero => exact .inl hk
  | succ k => exact .inr ⟨it u k x, (it_succ u k x).symm.trans hk, k, rfl⟩
/-- all that hang on x stand side by side -/
def Cv (n : Nat) (u : Nat → Nat) (x : Nat) : Prop := ∀ a b k, a ≤ n → b ≤ n → Anc u a x → Anc u b x → a < k → k < b → Anc u k x
theorem fl_path (hT : Tr n u) (hF : Fl n u) {x k : Nat} : ∀ (j b : Nat), b ≤ n → it u j b = x → ((b < k ∧ k < x) ∨ (x < k ∧ k < b)) → Anc u k x
  | 0, b, _, e, h => by
    have e : b = x := e
    omega
  | j + 1, b, hb, e, h => by
    have hub : u b ≤ n := hT.it_le 1 hb
    by_cases e1 : k = u b
    · exact ⟨j, by rw [e1]; exact e⟩
    · by_cases e2 : (b < k ∧ k < u b) ∨ (u b < k ∧ k < b)
      · exact (hF b hb k e2).trans ⟨j, e⟩
      · exact fl_path hT hF j (u b) hub e (by omega)
theorem fl_cv (hT : Tr n u) : Fl n u ↔ ∀ x, 1 ≤ x → x ≤ n → Cv n u x := by
  constructor
  · intro hF x h1 h2 a b k ha hb haa hbb hak hkb
    by_cases e : k = x
    · rw [e]; exact Anc.refl x
    · obtain ⟨i, hi⟩ := haa
      obtain ⟨j, hj⟩ := hbb
      by_cases e2 : k < x
      · exact fl_path hT hF i a ha hi (.inl ⟨hak, e2⟩)
      · exact fl_path hT hF j b hb hj (.inr ⟨by omega, hkb⟩)
  · intro hC w hw k hk
    have hub : u w ≤ n := hT.it_le 1 hw
    rcases Nat.eq_zero_or_pos (u w) with h0 | h0
    · rw [h0]
      exact ⟨n, hT.it_n (by omega)⟩
    · rcases hk with ⟨h1, h2⟩ | ⟨h1, h2⟩
      · exact hC (u w) h0 hub w (u w) k hw hub ⟨1, rfl⟩ (Anc.refl _) h1 h2
      · exact hC (u w) h0 hub (u w) w k hub hw (Anc.refl _) ⟨1, rfl⟩ h1 h2
/-- how many hang on a word that have not been told -/
def kids (n : Nat) (u : Nat → Nat) (told : Nat → Bool) (w : Nat) : Nat := (List.range' 1 n).countP fun c => decide (u c = w) && !told c
/-- what is known of those that hang on words, while these are told from below -/
structure Sp (n : Nat) (u : Nat → Nat) (told : Nat → Bool) (L : Nat → List Nat) : Prop where
  mem : ∀ w, 1 ≤ w → w ≤ n → ∀ x, x ∈ L w ↔ x = w ∨ ∃ c, 1 ≤ c ∧ c ≤ n ∧ told c = true ∧ u c = w ∧ x ≤ n ∧ Anc u x c
  nodup : ∀ w, 1 ≤ w → w ≤ n → (L w).Nodup
  down : ∀ c, 1 ≤ c → c ≤ n → told (u c) = true → told c = true
  zero : told 0 = false
  cv : ∀ c, 1 ≤ c → c ≤ n → told c = true → Cv n u c
theorem Sp.start (n : Nat) (u : Nat → Nat) : Sp n u (fun _ => false) (fun w => [w]) :=
  ⟨fun w _ _ x => ⟨fun h => .inl (List.mem_singleton.1 h), fun h => by
    rcases h with rfl | ⟨c, _, _, h, _⟩
    · exact List.mem_singleton_self _
    · cases h⟩, fun w _ _ => by simp, fun c _ _ h => (by cases h), rfl, fun c _ _ h => (by cases h)⟩
/-- how a list of words is told in short -/
structure Sn (L : List Nat) (lo hi many : Int) : Prop where
  lo_mem : ∃ x ∈ L, lo = (x : Int)
  hi_mem : ∃ x ∈ L, hi = (x : Int)
  all : ∀ x ∈ L, lo ≤ (x : Int) ∧ (x : Int) ≤ hi
  len : many = L.length
theorem Sn.one (w : Nat) : Sn [w] w w 1 := ⟨⟨w, List.mem_singleton_self _, rfl⟩, ⟨w, List.mem_singleton_self _, rfl⟩, fun x hx => by rw [List.mem_singleton.1 hx]; omega, rfl⟩
theorem Sn.append {L M : List Nat} {a b k c d m : Int} (h : Sn L a b k) (g : Sn M c d m) : Sn (L ++ M) (min a c) (max b d) (k + m) := by
  obtain ⟨x1, m1, e1⟩ := h.lo_mem
  obtain ⟨x2, m2, e2⟩ := g.lo_mem
  obtain ⟨y1, n1, f1⟩ := h.hi_mem
  obtain ⟨y2, n2, f2⟩ := g.hi_mem
  refine ⟨?_, ?_, fun x hx => ?_, by rw [h.len, g.len, List.length_append]; omega⟩
  · by_cases e : a ≤ c
    · exact ⟨x1, List.mem_append_left _ m1, by omega⟩
    · exact ⟨x2, List.mem_append_right _ m2, by omega⟩
  · by_cases e : d ≤ b
    · exact ⟨y1, List.mem_append_left _ n1, by omega⟩
    · exact ⟨y2, List.mem_append_right _ n2, by omega⟩
  · rcases List.mem_append.1 hx with hx | hx
    · have := h.all x hx; omega
    · have := g.all x hx; omega
variable {told : Nat → Bool} {L : Nat → List Nat} {z : Nat}
theorem kids_zero (h : kids n u told z = 0) {c : Nat} (h1 : 1 ≤ c) (h2 : c ≤ n) (e : u c = z) : told c = true := by
  have h3 := List.countP_eq_zero.1 h c (mem_words.2 ⟨h1, h2⟩)
  cases ht : told c with
  | true => rfl
  | false => rw [ht] at h3; simp [e] at h3
theorem kids_some (h : kids n u told z ≠ 0) : ∃ c, 1 ≤ c ∧ c ≤ n ∧ u c = z ∧ told c = false := by
  obtain ⟨c, hc, h2⟩ := List.countP_pos_iff.1 (Nat.pos_of_ne_zero h)
  obtain ⟨h1, h3⟩ := mem_words.1 hc
  simp only [Bool.and_eq_true, decide_eq_true_eq, Bool.not_eq_true'] at h2
  exact ⟨c, h1, h3, h2.1, h2.2⟩
/-- when all that hang on it have been told, all of those are known -/
theorem Sp.full (h : Sp n u told L) (hT : Tr n u) (h1 : 1 ≤ z) (h2 : z ≤ n) (hk : kids n u told z = 0) (x : Nat) : x ∈ L z ↔ x ≤ n ∧ Anc u x z := by
  rw [h.mem z h1 h2]
  constructor
  · rintro (rfl | ⟨c, _, _, _, e, hx, ha⟩)
    · exact ⟨h2, Anc.refl _⟩
    · exact ⟨hx, ha.trans ⟨1, e⟩⟩
  · rintro ⟨hx, ha⟩
    rcases anc_cases ha with e | ⟨c, e, hc⟩
    · exact .inl e
    · obtain ⟨k, hk2⟩ := hc
      have hc2 : c ≤ n := by rw [← hk2]; exact hT.it_le k hx
      have hc1 : 1 ≤ c := by
        rcases Nat.eq_zero_or_pos c with rfl | h0
        · rw [hT.z] at e; omega
        · exact h0
      exact .inr ⟨c, hc1, hc2, kids_zero hk hc1 hc2 e, e, hx, k, hk2⟩
theorem sn_cv {D : List Nat} {lo hi many : Int} (h : Sn D lo hi many) (hn : D.Nodup) (hm : ∀ x, x ∈ D ↔ x ≤ n ∧ Anc u x z) : hi - lo + 1 = many ↔ Cv n u z := by
  obtain ⟨x, hx, rfl⟩ := h.lo_mem
  obtain ⟨y, hy, rfl⟩ := h.hi_mem
  have hxy := (h.all x hx).2
  have hsub : ∀ a ∈ D, a ∈ List.range' x (y + 1 - x) := fun a ha => by
    have := h.all a ha
    rw [List.mem_range'_1]
    omega
  have hle := nodup_len hn hsub
  rw [List.length_range'] at hle
  constructor
  · intro e a b k ha hb haa hbb hak hkb
    have h1 := h.all a ((hm a).2 ⟨ha, haa⟩)
    have h2 := h.all b ((hm b).2 ⟨hb, hbb⟩)
    have hk : k ∈ D := nodup_all hn hsub (by rw [List.length_range']; have := h.len; omega) (by rw [List.mem_range'_1]; omega)
    exact ((hm k).1 hk).2
  · intro hC
    have hxn := (hm x).1 hx
    have hyn := (hm y).1 hy
    have h3 := nodup_len (l := List.range' x (y + 1 - x)) (m := D) List.nodup_range' fun a ha => by
      rw [List.mem_range'_1] at ha
      by_cases e1 : a = x
      · rw [e1]; exact hx
      · by_cases e2 : a = y
        · rw [e2]; exact hy
        · exact (hm a).2 ⟨by omega, hC x y a hxn.1 hyn.1 hxn.2 hyn.2 (by omega) (by omega)⟩
    rw [List.length_range'] at h3
    have := h.len
    omega
def tellT (told : Nat → Bool) (z : Nat) : Nat → Bool := fun x => told x || decide (x = z)
def tellL (L : Nat → List Nat) (h z : Nat) : Nat → List Nat := fun w => if w = h then L h ++ L z else L w
/-- two that hang on the same word have nothing in common -/
theorem anc_two (hT : Tr n u) {a b h x : Nat} (ha1 : 1 ≤ a) (ha2 : a ≤ n) (hb1 : 1 ≤ b) (hb2 : b ≤ n) (ea : u a = h) (eb : u b = h) (h1 : Anc u x a) (h2 : Anc u x b) : a = b := by
  have hG := hT.gr0
  obtain ⟨i, hi⟩ := h1
  obtain ⟨j, hj⟩ := h2
  have key : ∀ {a b i j : Nat}, b ≤ n → 1 ≤ b → u a = h → u b = h → it u i x = a → it u j x = b → i ≤ j → a = b := by
    intro a b i j hb2 hb1 ea eb hi hj hij
    rcases Nat.eq_or_lt_of_le hij with rfl | hlt
    · rw [← hi, ← hj]
    · exfalso
      have hb : it u (j - i) a = b := by rw [← hi, ← it_add, show i + (j - i) = j by omega]; exact hj
      obtain ⟨d, hd⟩ : ∃ d, j - i = d + 1 := ⟨j - i - 1, by omega⟩
      rw [hd] at hb
      have hb' : it u d h = b := by rw [← ea]; exact hb
      have e := hG.acyclic (x := b) (y := h) hb2 ⟨1, eb⟩ ⟨d, hb'⟩
      exact hT.ne hb1 hb2 (eb.trans e.symm)
  rcases Nat.le_total i j with hij | hij
  · exact key hb2 hb1 ea eb hi hj hij
  · exact (key ha2 ha1 eb ea hj hi hij).symm
theorem Sp.tell (h : Sp n u told L) (hT : Tr n u) (h1 : 1 ≤ z) (h2 : z ≤ n) (ht : told z = false) (hk : kids n u told z = 0) (hC : Cv n u z) : Sp n u (tellT told z) (tellL L (u z) z) := by
  have hfull := h.full hT h1 h2 hk
  have htT : ∀ c, tellT told z c = true ↔ told c = true ∨ c = z := fun c => by unfold tellT; simp
  refine ⟨fun w hw1 hw2 x => ?_, fun w hw1 hw2 => ?_, fun c hc1 hc2 hc => ?_, ?_, fun c hc1 hc2 hc => ?_⟩
  · by_cases e : w = u z
    · subst e
      have eL : tellL L (u z) z (u z) = L (u z) ++ L z := by unfold tellL; rw [if_pos rfl]
      rw [eL, List.mem_append, h.mem _ hw1 hw2, hfull]
      constructor
      · rintro ((e | ⟨c, c1, c2, c3, c4, c5, c6⟩) | ⟨hx, ha⟩)
        · exact .inl e
        · exact .inr ⟨c, c1, c2, (htT c).2 (.inl c3), c4, c5, c6⟩
        · exact .inr ⟨z, h1, h2, (htT z).2 (.inr rfl), rfl, hx, ha⟩
      · rintro (e | ⟨c, c1, c2, c3, c4, c5, c6⟩)
        · exact .inl (.inl e)
        · rcases (htT c).1 c3 with c3 | rfl
          · exact .inl (.inr ⟨c, c1, c2, c3, c4, c5, c6⟩)
          · exact .inr ⟨c5, c6⟩
    · have eL : tellL L (u z) z w = L w := by unfold tellL; rw [if_neg e]
      rw [eL, h.mem _ hw1 hw2]
      constructor
      · rintro (e | ⟨c, c1, c2, c3, c4, c5, c6⟩)
        · exact .inl e
        · exact .inr ⟨c, c1, c2, (htT c).2 (.inl c3), c4, c5, c6⟩
      · rintro (e2 | ⟨c, c1, c2, c3, c4, c5, c6⟩)
        · exact .inl e2
        · rcases (htT c).1 c3 with c3 | rfl
          · exact .inr ⟨c, c1, c2, c3, c4, c5, c6⟩
          · exact absurd c4.symm e
  · by_cases e : w = u z
    · subst e
      have eL : tellL L (u z) z (u z) = L (u z) ++ L z := by unfold tellL; rw [if_pos rfl]
      rw [eL]
      refine List.nodup_append.2 ⟨h.nodup _ hw1 hw2, h.nodup _ h1 h2, fun a ha b hb e => ?_⟩
      subst e
      obtain ⟨hx, hb⟩ := (hfull a).1 hb
      rcases (h.mem _ hw1 hw2 a).1 ha with e | ⟨c, c1, c2, c3, c4, c5, c6⟩
      · rw [e] at hb
        exact hT.ne h1 h2 (hT.gr0.acyclic h2 ⟨1, rfl⟩ hb).symm
      · have e := anc_two hT c1 c2 h1 h2 c4 rfl c6 hb
        rw [e, ht] at c3
        cases c3
    · have eL : tellL L (u z) z w = L w := by unfold tellL; rw [if_neg e]
      rw [eL]
      exact h.nodup w hw1 hw2
  · rcases (htT _).1 hc with hc | hc
    · exact (htT c).2 (.inl (h.down c hc1 hc2 hc))
    · exact (htT c).2 (.inl (kids_zero hk hc1 hc2 hc))
  · cases he : tellT told z 0 with
    | false => rfl
    | true =>
      rcases (htT 0).1 he with h3 | h3
      · rw [h.zero] at h3; cases h3
      · omega
  · rcases (htT c).1 hc with hc | rfl
    · exact h.cv c hc1 hc2 hc
    · exact hC
theorem countP_one {p q : Nat → Bool} : ∀ {l : List Nat}, l.Nodup → z ∈ l → p z = true → q z = false → (∀ c ∈ l, c ≠ z → p c = q c) → l.countP p = l.countP q + 1
  | [], _, h, _, _, _ => by cases h
  | x :: l, hn, hz, h1, h2, h3 => by
    obtain ⟨g1, g2⟩ := List.nodup_cons.1 hn
    rw [List.countP_cons, List.countP_cons]
    rcases List.mem_cons.1 hz with rfl | hz
    · have e : l.countP p = l.countP q := List.countP_congr fun c hc => by rw [h3 c (List.mem_cons_of_mem _ hc) (fun e => g1 (by rw [← e]; exact hc))]
      rw [e, h1, h2]
      simp
    · have e := countP_one g2 hz h1 h2 fun c hc hne => h3 c (List.mem_cons_of_mem _ hc) hne
      rw [e, h3 x List.mem_cons_self (fun e => g1 (by rw [e]; exact hz))]
      omega
theorem kids_up (h1 : 1 ≤ z) (h2 : z ≤ n) (ht : told z = false) : kids n u told (u z) = kids n u (tellT told z) (u z) + 1 := by
  refine countP_one (z := z) List.nodup_range' (mem_words.2 ⟨h1, h2⟩) (by simp [ht]) (by simp [tellT]) fun c _ hne => ?_
  simp [tellT, hne]
theorem kids_other {w : Nat} (hw : w ≠ u z) : kids n u (tellT told z) w = kids n u told w := by
  refine List.countP_congr fun c _ => ?_
  by_cases e : c = z
  · subst e
    have e2 : decide (u c = w) = false := decide_eq_false fun e => hw e.symm
    rw [e2]
    simp
  · simp [tellT, e]
def untold (n : Nat) (told : Nat → Bool) : Nat := (List.range' 1 n).countP fun c => !told c
theorem untold_less (h1 : 1 ≤ z) (h2 : z ≤ n) (ht : told z = false) : untold n (tellT told z) < untold n told := by
  have := countP_one (p := fun c => !told c) (q := fun c => !tellT told z c) (z := z) (l := List.range' 1 n) List.nodup_range' (mem_words.2 ⟨h1, h2⟩) (by simp [ht]) (by simp [tellT]) fun c _ hne => by simp [tellT, hne]
  unfold untold
  omega
theorem all_told (hT : Tr n u) (ha : ∀ x, 1 ≤ x → x ≤ n → told x = true ∨ kids n u told x ≠ 0) (x : Nat) (h1 : 1 ≤ x) (h2 : x ≤ n) : told x = true := by
  cases ht : told x with
  | true => rfl
  | false =>
    exfalso
    have key : ∀ j, ∃ y, 1 ≤ y ∧ y ≤ n ∧ told y = false ∧ it u j y = x := by
      intro j
      induction j with
      | zero => exact ⟨x, h1, h2, ht, rfl⟩
      | succ j ih =>
        obtain ⟨y, y1, y2, y3, y4⟩ := ih
        obtain ⟨c, c1, c2, c3, c4⟩ := kids_some ((ha y y1 y2).resolve_left (by rw [y3]; exact fun e => by cases e))
        exact ⟨c, c1, c2, c4, by show it u j (u c) = x; rw [c3]; exact y4⟩
    obtain ⟨y, y1, y2, y3, y4⟩ := key n
    rw [hT.it_n y2] at y4
    omega
/-- how many of the first i hang on a word -/
def kc (u : Nat → Nat) (i w : Nat) : Nat := (List.range' 1 i).countP fun c => decide (u c = w)
theorem kc_zero (u : Nat → Nat) (w : Nat) : kc u 0 w = 0 := rfl
theorem kc_up (u : Nat → Nat) (i w : Nat) : kc u (i + 1) w = kc u i w + if u (i + 1) = w then 1 else 0 := by
  unfold kc
  rw [List.range'_1_concat, List.countP_append, List.countP_cons, List.countP_nil, Nat.add_comm 1 i]
  simp
theorem kc_le (u : Nat → Nat) (i w : Nat) : kc u i w ≤ i := by
  have h := List.countP_le_length (p := fun c => decide (u c = w)) (l := List.range' 1 i)
  rw [List.length_range'] at h
  exact h
theorem kids_kc (n : Nat) (u : Nat → Nat) (w : Nat) : kids n u (fun _ => false) w = kc u n w := by
  unfold kids kc
  simp
theorem kids_le (w : Nat) : kids n u told w ≤ n := by
  have h := List.countP_le_length (p := fun c => decide (u c = w) && !told c) (l := List.range' 1 n)
  rw [List.length_range'] at h
  exact h
end
end Go.Proofs.Ytpolnkdbebjpnaa.Hd
