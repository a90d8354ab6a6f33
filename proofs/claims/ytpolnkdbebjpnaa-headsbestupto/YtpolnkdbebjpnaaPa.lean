/- Who hangs on whom, in plain words: going up, trees, what they are worth; where a ring is taken for one word (Chu, Liu, Edmonds). No program text; no conditions. -/
import Derived.WalkKit
namespace Go.Proofs.Ytpolnkdbebjpnaa.Hd

/-- going up k times -/
def it (u : Nat → Nat) : Nat → Nat → Nat
  | 0, w => w
  | k + 1, w => it u k (u w)
theorem it_add (u : Nat → Nat) : ∀ (j k w : Nat), it u (j + k) w = it u k (it u j w)
  | 0, k, w => by rw [Nat.zero_add]; rfl
  | j + 1, k, w => by rw [Nat.add_right_comm]; exact it_add u j k (u w)
theorem it_succ (u : Nat → Nat) (k w : Nat) : it u (k + 1) w = u (it u k w) := it_add u k 1 w
theorem it_zero {u : Nat → Nat} (h : u 0 = 0) : ∀ k, it u k 0 = 0
  | 0 => rfl
  | k + 1 => by show it u k (u 0) = 0; rw [h]; exact it_zero h k
/-- one comes to 0 -/
def Rch (u : Nat → Nat) (w : Nat) : Prop := ∃ k, it u k w = 0
theorem Rch.zero (u : Nat → Nat) : Rch u 0 := ⟨0, rfl⟩
theorem Rch.up {u : Nat → Nat} {w : Nat} (h : Rch u (u w)) : Rch u w := by obtain ⟨k, hk⟩ := h; exact ⟨k + 1, hk⟩
theorem Rch.down {u : Nat → Nat} (h0 : u 0 = 0) {w : Nat} (h : Rch u w) : Rch u (u w) := by
  obtain ⟨k, hk⟩ := h
  refine ⟨k, ?_⟩
  show it u (k + 1) w = 0
  rw [it_succ, hk, h0]
/-- a tree of n words -/
structure Tr (n : Nat) (u : Nat → Nat) : Prop where
  z : u 0 = 0
  le : ∀ w, 1 ≤ w → w ≤ n → u w ≤ n
  r : ∀ w, 1 ≤ w → w ≤ n → Rch u w
theorem it_fix {u : Nat → Nat} {w : Nat} (h : u w = w) : ∀ k, it u k w = w
  | 0 => rfl
  | k + 1 => by show it u k (u w) = w; rw [h]; exact it_fix h k
theorem Tr.ne {n : Nat} {u : Nat → Nat} (h : Tr n u) {w : Nat} (h1 : 1 ≤ w) (h2 : w ≤ n) : u w ≠ w := fun e => by
  obtain ⟨k, hk⟩ := h.r w h1 h2
  rw [it_fix e] at hk
  omega
/-- sums over lists -/
def sm (f : Nat → Int) : List Nat → Int
  | [] => 0
  | x :: l => f x + sm f l
theorem sm_append (f : Nat → Int) : ∀ a b : List Nat, sm f (a ++ b) = sm f a + sm f b
  | [], b => by rw [List.nil_append]; show _ = 0 + _; omega
  | x :: a, b => by show f x + sm f (a ++ b) = f x + sm f a + sm f b; rw [sm_append f a b]; omega
theorem sm_perm (f : Nat → Int) {a b : List Nat} (h : a.Perm b) : sm f a = sm f b := by
  induction h with
  | nil => rfl
  | cons x _ ih => show f x + _ = f x + _; rw [ih]
  | swap x y l => show f y + (f x + sm f l) = f x + (f y + sm f l); omega
  | trans _ _ h1 h2 => exact h1.trans h2
theorem sm_le {f g : Nat → Int} : ∀ {l : List Nat}, (∀ x ∈ l, f x ≤ g x) → sm f l ≤ sm g l
  | [], _ => Int.le_refl _
  | x :: l, h => by
    have h1 := h x List.mem_cons_self
    have h2 := sm_le (l := l) fun y hy => h y (List.mem_cons_of_mem _ hy)
    show f x + sm f l ≤ g x + sm g l
    omega
theorem sm_congr {f g : Nat → Int} {l : List Nat} (h : ∀ x ∈ l, f x = g x) : sm f l = sm g l :=
  Int.le_antisymm (sm_le fun x hx => by rw [h x hx]; exact Int.le_refl _) (sm_le fun x hx => by rw [h x hx]; exact Int.le_refl _)
theorem sm_one {f g : Nat → Int} {e : Nat} : ∀ {l : List Nat}, l.Nodup → e ∈ l → (∀ x ∈ l, x ≠ e → f x ≤ g x) → sm f l ≤ sm g l + (f e - g e)
  | [], _, he, _ => by cases he
  | x :: l, hn, he, h => by
    have hn2 := List.nodup_cons.1 hn
    show f x + sm f l ≤ g x + sm g l + (f e - g e)
    rcases List.mem_cons.1 he with rfl | he2
    · have h2 := sm_le (f := f) (g := g) (l := l) fun y hy => h y (List.mem_cons_of_mem _ hy) (fun e2 => hn2.1 (e2 ▸ hy))
      omega
    · have h2 := sm_one (f := f) (g := g) hn2.2 he2 fun y hy => h y (List.mem_cons_of_mem _ hy)
      have h1 := h x List.mem_cons_self (fun e2 => hn2.1 (e2 ▸ he2))
      omega
theorem sm_one_eq {f g : Nat → Int} {e : Nat} {l : List Nat} (hn : l.Nodup) (he : e ∈ l) (h : ∀ x ∈ l, x ≠ e → f x = g x) : sm f l = sm g l + (f e - g e) := by
  have h1 := sm_one (f := f) (g := g) hn he fun x hx hne => by rw [h x hx hne]; exact Int.le_refl _
  have h2 := sm_one (f := g) (g := f) hn he fun x hx hne => by rw [h x hx hne]; exact Int.le_refl _
  omega
theorem sm_map (f : Nat → Int) (g : Nat → Nat) : ∀ l : List Nat, sm f (l.map g) = sm (fun x => f (g x)) l
  | [] => rfl
  | x :: l => by show f (g x) + _ = f (g x) + _; rw [sm_map f g l]
/-- what is worth, of words 1 to n -/
def wo (s : Nat → Nat → Int) (n : Nat) (u : Nat → Nat) : Int := sm (fun w => s (u w) w) (List.range' 1 n)
theorem mem_words {n w : Nat} : w ∈ List.range' 1 n ↔ 1 ≤ w ∧ w ≤ n := by rw [List.mem_range'_1]; omega
/-- none is worth more -/
structure Opt (n : Nat) (s : Nat → Nat → Int) (u : Nat → Nat) : Prop where
  tr : Tr n u
  best : ∀ t, Tr n t → wo s n t ≤ wo s n u
/-- each word hangs where that is worth the most -/
structure Hi (n : Nat) (s : Nat → Nat → Int) (u : Nat → Nat) : Prop where
  z : u 0 = 0
  le : ∀ w, 1 ≤ w → w ≤ n → u w ≤ n
  ne : ∀ w, 1 ≤ w → w ≤ n → u w ≠ w
  hi : ∀ w h, 1 ≤ w → w ≤ n → h ≤ n → h ≠ w → s h w ≤ s (u w) w
theorem Hi.opt {n : Nat} {s : Nat → Nat → Int} {u : Nat → Nat} (h : Hi n s u) (hr : ∀ w, 1 ≤ w → w ≤ n → Rch u w) : Opt n s u :=
  ⟨⟨h.z, h.le, hr⟩, fun t ht => sm_le fun w hw => by
    obtain ⟨h1, h2⟩ := mem_words.1 hw
    exact h.hi w (t w) h1 h2 (ht.le w h1 h2) (ht.ne h1 h2)⟩
/-- a ring -/
structure Rg (n : Nat) (u : Nat → Nat) (R : List Nat) : Prop where
  nodup : R.Nodup
  pos : ∀ r ∈ R, 1 ≤ r ∧ r ≤ n
  up : ∀ r ∈ R, u r ∈ R
  all : ∀ a ∈ R, ∀ b ∈ R, ∃ k, it u k a = b
  some : R ≠ []
/-- what stands outside: 0 and words, each once -/
structure Os (n : Nat) (R O : List Nat) : Prop where
  head : O[0]? = some 0
  nodup : O.Nodup
  mem : ∀ x, x ∈ O ↔ x ≤ n ∧ x ∉ R
/-- the smaller scores of m + 1 words; k = m + 1 -/
structure Sml (n m : Nat) (s s' : Nat → Nat → Int) (u : Nat → Nat) (R O : List Nat) (into outOf : Nat → Nat) : Prop where
  len : O.length = m + 1
  intoR : ∀ h, h ≤ m → into h ∈ R
  outR : ∀ i, 1 ≤ i → i ≤ m → outOf i ∈ R
  inn : ∀ h i, h ≤ m → 1 ≤ i → i ≤ m → s' h i = s (O.getD h 0) (O.getD i 0)
  rin : ∀ h, h ≤ m → s' h (m + 1) = s (O.getD h 0) (into h) - s (u (into h)) (into h)
  rmax : ∀ h, h ≤ m → ∀ r ∈ R, s (O.getD h 0) r - s (u r) r ≤ s (O.getD h 0) (into h) - s (u (into h)) (into h)
  out : ∀ i, 1 ≤ i → i ≤ m → s' (m + 1) i = s (outOf i) (O.getD i 0)
  omax : ∀ i, 1 ≤ i → i ≤ m → ∀ r ∈ R, s r (O.getD i 0) ≤ s (outOf i) (O.getD i 0)
/-- the ring is opened -/
structure Opn (n m : Nat) (u v u' : Nat → Nat) (R O : List Nat) (into outOf : Nat → Nat) : Prop where
  z : u' 0 = 0
  far : ∀ i, 1 ≤ i → i ≤ m → u' (O.getD i 0) = if v i = m + 1 then outOf i else O.getD (v i) 0
  one : u' (into (v (m + 1))) = O.getD (v (m + 1)) 0
  ring : ∀ r ∈ R, r ≠ into (v (m + 1)) → u' r = u r
section
variable {n m : Nat} {s s' : Nat → Nat → Int} {u v u' : Nat → Nat} {R O : List Nat} {into outOf : Nat → Nat}
theorem getD_at {l : List Nat} {i : Nat} (h : i < l.length) : l[i]? = some (l.getD i 0) := by
  rw [List.getD_eq_getElem?_getD, List.getElem?_eq_getElem h]; rfl
theorem Os.at0 (h : Os n R O) : O.getD 0 0 = 0 := by
  rw [List.getD_eq_getElem?_getD, h.head]; rfl
theorem Os.get (h : Os n R O) {i : Nat} (hi : i < O.length) : O.getD i 0 ≤ n ∧ O.getD i 0 ∉ R := (h.mem _).1 (List.mem_of_getElem? (getD_at hi))
theorem Os.pos (h : Os n R O) {i : Nat} (h0 : 0 < i) (hi : i < O.length) : 1 ≤ O.getD i 0 := by
  rcases Nat.eq_zero_or_pos (O.getD i 0) with e | e
  · have h1 := getD_at hi
    rw [e, ← h.head] at h1
    have := (List.getElem?_inj hi h.nodup).1 h1
    omega
  · exact e
theorem Os.idx (h : Os n R O) {x : Nat} (hx : x ≤ n) (hr : x ∉ R) : ∃ i, i < O.length ∧ O.getD i 0 = x := by
  obtain ⟨i, hi, e⟩ := List.getElem_of_mem ((h.mem x).2 ⟨hx, hr⟩)
  exact ⟨i, hi, by rw [List.getD_eq_getElem?_getD, List.getElem?_eq_getElem hi, e]; rfl⟩
theorem Os.inj (h : Os n R O) {i j : Nat} (hi : i < O.length) (hj : j < O.length) (e : O.getD i 0 = O.getD j 0) : i = j :=
  (List.getElem?_inj hi h.nodup).1 (by rw [getD_at hi, getD_at hj, e])
/-- 1 to n are the words outside and the ring -/
theorem words_perm (hO : Os n R O) (hR : Rg n u R) (hl : O.length = m + 1) : (List.range' 1 n).Perm ((List.range' 1 m).map (fun i => O.getD i 0) ++ R) := by
  have e : O = 0 :: (List.range' 1 m).map (fun i => O.getD i 0) := by
    refine List.ext_getElem? fun i => ?_
    cases i with
    | zero => rw [hO.head]; rfl
    | succ i =>
      rw [List.getElem?_cons_succ, List.getElem?_map]
      by_cases hi : i < m
      · rw [getD_at (l := O) (i := i + 1) (by omega), List.getElem?_eq_getElem (l := List.range' 1 m) (i := i) (by rw [List.length_range']; exact hi), List.getElem_range', Nat.one_mul, Nat.add_comm 1 i]; rfl
      · rw [List.getElem?_eq_none (l := O) (i := i + 1) (by omega), List.getElem?_eq_none (l := List.range' 1 m) (i := i) (by rw [List.length_range']; omega)]; rfl
  have hn := hO.nodup
  rw [e] at hn
  have hn2 := List.nodup_cons.1 hn
  refine (List.perm_ext_iff_of_nodup (List.nodup_range' ) ?_).2 fun x => ?_
  · rw [List.nodup_append]
    refine ⟨hn2.2, hR.nodup, fun a ha b hb => fun e2 => ?_⟩
    subst e2
    obtain ⟨i, hi, rfl⟩ := List.mem_map.1 ha
    have hi2 := mem_words.1 hi
    exact (hO.get (i := i) (by omega)).2 hb
  · rw [mem_words, List.mem_append]
    constructor
    · rintro ⟨h1, h2⟩
      by_cases hr : x ∈ R
      · exact .inr hr
      · refine .inl ?_
        have hx := (hO.mem x).2 ⟨h2, hr⟩
        rw [e] at hx
        rcases List.mem_cons.1 hx with h | h
        · omega
        · exact h
    · rintro (h | h)
      · obtain ⟨i, hi, rfl⟩ := List.mem_map.1 h
        have hi2 := mem_words.1 hi
        exact ⟨hO.pos (by omega) (by omega), (hO.get (by omega)).1⟩
      · exact hR.pos x h
theorem wo_split (hO : Os n R O) (hR : Rg n u R) (hl : O.length = m + 1) (t : Nat → Nat) : wo s n t = sm (fun i => s (t (O.getD i 0)) (O.getD i 0)) (List.range' 1 m) + sm (fun r => s (t r) r) R := by
  unfold wo
  rw [sm_perm _ (words_perm hO hR hl), sm_append, sm_map]
theorem wo_last (s : Nat → Nat → Int) (m : Nat) (v : Nat → Nat) : wo s (m + 1) v = sm (fun i => s (v i) i) (List.range' 1 m) + s (v (m + 1)) (m + 1) := by
  unfold wo
  rw [List.range'_concat, sm_append]
  show _ + (s (v (1 + 1 * m)) (1 + 1 * m) + 0) = _
  rw [Nat.one_mul, Nat.add_comm 1 m]
  omega
/-- what is opened is a tree -/
theorem open_tr (hO : Os n R O) (hR : Rg n u R) (hS : Sml n m s s' u R O into outOf) (hv : Tr (m + 1) v) (ho : Opn n m u v u' R O into outOf) : Tr n u' := by
  have hl := hS.len
  have hvm : v (m + 1) ≤ m := by
    have h1 := hv.le (m + 1) (by omega) (by omega)
    have h2 := hv.ne (w := m + 1) (by omega) (by omega)
    omega
  have key : ∀ (k i : Nat), i ≤ m + 1 → it v k i = 0 → (i ≤ m → Rch u' (O.getD i 0)) ∧ (i = m + 1 → ∀ r ∈ R, Rch u' r) := by
    intro k
    induction k with
    | zero =>
      intro i _ h
      have h : i = 0 := h
      subst h
      exact ⟨fun _ => by rw [hO.at0]; exact Rch.zero _, fun h => by omega⟩
    | succ k ih =>
      intro i hi h
      have h : it v k (v i) = 0 := h
      rcases Nat.eq_zero_or_pos i with rfl | h0
      · exact ⟨fun _ => by rw [hO.at0]; exact Rch.zero _, fun h => by omega⟩
      have hvi := hv.le i h0 hi
      have hk := ih (v i) hvi h
      constructor
      · intro him
        refine Rch.up ?_
        rw [ho.far i h0 him]
        by_cases e : v i = m + 1
        · rw [if_pos e]; exact hk.2 e _ (hS.outR i h0 him)
        · rw [if_neg e]; exact hk.1 (by omega)
      · rintro rfl r hr
        have he : Rch u' (into (v (m + 1))) := by
          refine Rch.up ?_
          rw [ho.one]
          exact hk.1 hvm
        have hin := hS.intoR _ hvm
        obtain ⟨j, hj⟩ := hR.all r hr _ hin
        have go : ∀ (j r : Nat), r ∈ R → it u j r = into (v (m + 1)) → Rch u' r := by
          intro j
          induction j with
          | zero => intro r _ e; have e : r = _ := e; rw [e]; exact he
          | succ j ih2 =>
            intro r hr e
            by_cases e2 : r = into (v (m + 1))
            · rw [e2]; exact he
            · refine Rch.up ?_
              rw [ho.ring r hr e2]
              exact ih2 (u r) (hR.up r hr) e
        exact go j r hr hj
  have reach : ∀ i, i ≤ m + 1 → (i ≤ m → Rch u' (O.getD i 0)) ∧ (i = m + 1 → ∀ r ∈ R, Rch u' r) := fun i hi => by
    rcases Nat.eq_zero_or_pos i with rfl | h0
    · exact key 0 0 hi rfl
    · obtain ⟨k, hk⟩ := hv.r i h0 hi
      exact key k i hi hk
  refine ⟨ho.z, fun w h1 h2 => ?_, fun w h1 h2 => ?_⟩
  · by_cases hr : w ∈ R
    · by_cases e : w = into (v (m + 1))
      · rw [e, ho.one]; exact (hO.get (by omega)).1
      · rw [ho.ring w hr e]; exact (hR.pos _ (hR.up w hr)).2
    · obtain ⟨i, hi, rfl⟩ := hO.idx h2 hr
      have h0 : 1 ≤ i := by
        rcases Nat.eq_zero_or_pos i with rfl | h
        · rw [hO.at0] at h1; omega
        · exact h
      rw [ho.far i h0 (by omega)]
      by_cases e : v i = m + 1
      · rw [if_pos e]; exact (hR.pos _ (hS.outR i h0 (by omega))).2
      · rw [if_neg e]
        have := hv.le i h0 (by omega)
        exact (hO.get (by omega)).1
  · by_cases hr : w ∈ R
    · exact (reach (m + 1) (Nat.le_refl _)).2 rfl w hr
    · obtain ⟨i, hi, rfl⟩ := hO.idx h2 hr
      exact (reach i (by omega)).1 (by omega)
/-- what the opened one is worth -/
theorem open_wo (hO : Os n R O) (hR : Rg n u R) (hS : Sml n m s s' u R O into outOf) (hv : Tr (m + 1) v) (ho : Opn n m u v u' R O into outOf) : wo s n u' = wo s' (m + 1) v + sm (fun r => s (u r) r) R := by
  have hl := hS.len
  have hvm : v (m + 1) ≤ m := by
    have h1 := hv.le (m + 1) (by omega) (by omega)
    have h2 := hv.ne (w := m + 1) (by omega) (by omega)
    omega
  rw [wo_split hO hR hl, wo_last, hS.rin _ hvm]
  have h1 : sm (fun i => s (u' (O.getD i 0)) (O.getD i 0)) (List.range' 1 m) = sm (fun i => s' (v i) i) (List.range' 1 m) := sm_congr fun i hi => by
    obtain ⟨h1, h2⟩ := mem_words.1 hi
    show s (u' (O.getD i 0)) (O.getD i 0) = s' (v i) i
    rw [ho.far i h1 h2]
    by_cases e : v i = m + 1
    · rw [if_pos e, e, hS.out i h1 h2]
    · rw [if_neg e, hS.inn _ i (by have := hv.le i h1 (by omega); omega) h1 h2]
  have h2 := sm_one_eq (f := fun r => s (u' r) r) (g := fun r => s (u r) r) hR.nodup (hS.intoR _ hvm) fun x hx hne => by
    show s (u' x) x = s (u x) x
    rw [ho.ring x hx hne]
  rw [h1, h2]
  show _ + (_ + (s (u' (into (v (m + 1)))) (into (v (m + 1))) - s (u (into (v (m + 1)))) (into (v (m + 1))))) = _
  rw [ho.one]
  omega
/-- the last word of the ring on the way to 0 -/
theorem last_in {t : Nat → Nat} (h0 : (0 : Nat) ∉ R) : ∀ (k r : Nat), it t k r = 0 → r ∈ R → ∃ e ∈ R, ∃ k', it t k' (t e) = 0 ∧ ∀ l, l ≤ k' → it t l (t e) ∉ R := by
  intro k
  induction k using Nat.strongRecOn with
  | _ k ih =>
    intro r h hr
    cases k with
    | zero => have h : r = 0 := h; exact absurd (h ▸ hr) h0
    | succ k =>
      have h : it t k (t r) = 0 := h
      by_cases hx : ∃ l, l ≤ k ∧ it t l (t r) ∈ R
      · obtain ⟨l, hl, hm⟩ := hx
        refine ih (k - l) (by omega) _ ?_ hm
        rw [← it_add, show l + (k - l) = k by omega]
        exact h
      · exact ⟨r, hr, k, h, fun l hl hm => hx ⟨l, hl, hm⟩⟩
/-- no tree is worth more than the opened one -/
theorem open_opt (hH : Hi n s u) (hO : Os n R O) (hR : Rg n u R) (hS : Sml n m s s' u R O into outOf) (hv : Opt (m + 1) s' v) (ho : Opn n m u v u' R O into outOf) : Opt n s u' := by
  refine ⟨open_tr hO hR hS hv.tr ho, fun t ht => ?_⟩
  have hl := hS.len
  rw [open_wo hO hR hS hv.tr ho]
  have h00 : (0 : Nat) ∉ R := fun h => by have := (hR.pos 0 h).1; omega
  obtain ⟨r0, hr0⟩ := List.exists_mem_of_ne_nil _ hR.some
  obtain ⟨k0, hk0⟩ := ht.r r0 (hR.pos r0 hr0).1 (hR.pos r0 hr0).2
  obtain ⟨e, he, ke, hke, hav⟩ := last_in h00 k0 r0 hk0 hr0
  have hep := hR.pos e he
  -- where a word stands in the smaller tree
  obtain ⟨ix, hix1, hix2⟩ : ∃ ix : Nat → Nat, (∀ x, x ≤ n → x ∉ R → ix x ≤ m ∧ O.getD (ix x) 0 = x) ∧ ∀ x, x ∈ R → ix x = m + 1 := by
    refine ⟨fun x => if x ∈ R then m + 1 else O.idxOf x, fun x hx hr => ?_, fun x hr => ?_⟩
    · show (if x ∈ R then m + 1 else O.idxOf x) ≤ m ∧ O.getD (if x ∈ R then m + 1 else O.idxOf x) 0 = x
      rw [if_neg hr]
      have hlt : O.idxOf x < O.length := List.idxOf_lt_length_of_mem ((hO.mem x).2 ⟨hx, hr⟩)
      refine ⟨by omega, ?_⟩
      rw [List.getD_eq_getElem?_getD, List.getElem?_eq_getElem hlt, List.getElem_idxOf]; rfl
    · show (if x ∈ R then m + 1 else O.idxOf x) = m + 1
      rw [if_pos hr]
  have hixle : ∀ x, x ≤ n → ix x ≤ m + 1 := fun x hx => by
    by_cases hr : x ∈ R
    · rw [hix2 x hr]; omega
    · have := (hix1 x hx hr).1; omega
  have hix0 : ix 0 = 0 := by
    have h := hix1 0 (Nat.zero_le _) h00
    exact hO.inj (by omega) (by omega) (by rw [h.2, hO.at0])
  obtain ⟨vt, hvt⟩ : ∃ vt : Nat → Nat, vt = fun i => if i = 0 then 0 else if i = m + 1 then ix (t e) else ix (t (O.getD i 0)) := ⟨_, rfl⟩
  have hvt0 : vt 0 = 0 := by rw [hvt]; rfl
  have hvtl : vt (m + 1) = ix (t e) := by rw [hvt]; show (if m + 1 = 0 then 0 else if m + 1 = m + 1 then ix (t e) else _) = _; rw [if_neg (by omega), if_pos rfl]
  have hvti : ∀ i, 1 ≤ i → i ≤ m → vt i = ix (t (O.getD i 0)) := fun i h1 h2 => by rw [hvt]; show (if i = 0 then 0 else if i = m + 1 then ix (t e) else _) = _; rw [if_neg (by omega), if_neg (by omega)]
  have hte : t e ≤ n := ht.le e hep.1 hep.2
  have hteR : t e ∉ R := hav 0 (Nat.zero_le _)
  have line : ∀ (l y : Nat), y ≤ n → (∀ j, j ≤ l → it t j y ∉ R) → it t l y = 0 → Rch vt (ix y) := by
    intro l
    induction l with
    | zero => intro y _ _ h; have h : y = 0 := h; rw [h, hix0]; exact Rch.zero _
    | succ l ih =>
      intro y hy hn h
      rcases Nat.eq_zero_or_pos y with rfl | hp
      · rw [hix0]; exact Rch.zero _
      · have hyR := hn 0 (Nat.zero_le _)
        have hy2 := hix1 y hy hyR
        have hi0 : 1 ≤ ix y := by
          rcases Nat.eq_zero_or_pos (ix y) with e2 | e2
          · rw [e2, hO.at0] at hy2; omega
          · exact e2
        refine Rch.up ?_
        rw [hvti _ hi0 hy2.1, hy2.2]
        exact ih (t y) (ht.le y hp hy) (fun j hj => hn (j + 1) (by omega)) h
  have hring : Rch vt (m + 1) := Rch.up (by rw [hvtl]; exact line ke (t e) hte hav hke)
  have hvtr : Tr (m + 1) vt := by
    refine ⟨hvt0, fun i h1 h2 => ?_, fun i h1 h2 => ?_⟩
    · by_cases e2 : i = m + 1
      · rw [e2, hvtl]; exact hixle _ hte
      · rw [hvti i h1 (by omega)]
        exact hixle _ (ht.le _ (hO.pos (by omega) (by omega)) (hO.get (by omega)).1)
    · have far : ∀ (k x : Nat), x ≤ n → it t k x = 0 → Rch vt (ix x) := by
        intro k
        induction k with
        | zero => intro x _ h; have h : x = 0 := h; rw [h, hix0]; exact Rch.zero _
        | succ k ih =>
          intro x hx h
          by_cases hr : x ∈ R
          · rw [hix2 x hr]; exact hring
          · rcases Nat.eq_zero_or_pos x with rfl | hp
            · rw [hix0]; exact Rch.zero _
            · have hy2 := hix1 x hx hr
              have hi0 : 1 ≤ ix x := by
                rcases Nat.eq_zero_or_pos (ix x) with e2 | e2
                · rw [e2, hO.at0] at hy2; omega
                · exact e2
              refine Rch.up ?_
              rw [hvti _ hi0 hy2.1, hy2.2]
              exact ih (t x) (ht.le x hp hx) h
      by_cases e2 : i = m + 1
      · rw [e2]; exact hring
      · have hg := hO.get (i := i) (by omega)
        have hp := hO.pos (i := i) (by omega) (by omega)
        obtain ⟨k, hk⟩ := ht.r _ hp hg.1
        have h3 := far k _ hg.1 hk
        have h4 := hix1 _ hg.1 hg.2
        rwa [hO.inj (i := ix (O.getD i 0)) (j := i) (by omega) (by omega) h4.2] at h3
  have hb := hv.best vt hvtr
  rw [wo_last s' m vt] at hb
  rw [wo_split hO hR hl t]
  have h1 : sm (fun i => s (t (O.getD i 0)) (O.getD i 0)) (List.range' 1 m) ≤ sm (fun i => s' (vt i) i) (List.range' 1 m) := sm_le fun i hi => by
    obtain ⟨h1, h2⟩ := mem_words.1 hi
    show s (t (O.getD i 0)) (O.getD i 0) ≤ s' (vt i) i
    rw [hvti i h1 h2]
    have hle := ht.le _ (hO.pos (i := i) (by omega) (by omega)) (hO.get (i := i) (by omega)).1
    by_cases hr : t (O.getD i 0) ∈ R
    · rw [hix2 _ hr, hS.out i h1 h2]; exact hS.omax i h1 h2 _ hr
    · have hx := hix1 _ hle hr
      rw [hS.inn _ i hx.1 h1 h2, hx.2]
      exact Int.le_refl _
  have h2 := sm_one (f := fun r => s (t r) r) (g := fun r => s (u r) r) hR.nodup he fun x hx hne => by
    have hp := hR.pos x hx
    exact hH.hi x (t x) hp.1 hp.2 (ht.le x hp.1 hp.2) (ht.ne hp.1 hp.2)
  have h3 : s (t e) e - s (u e) e ≤ s' (vt (m + 1)) (m + 1) := by
    have hx := hix1 _ hte hteR
    rw [hvtl, hS.rin _ hx.1]
    have := hS.rmax _ hx.1 e he
    rw [hx.2] at this ⊢
    exact this
  omega
end
end Go.Proofs.Ytpolnkdbebjpnaa.Hd
