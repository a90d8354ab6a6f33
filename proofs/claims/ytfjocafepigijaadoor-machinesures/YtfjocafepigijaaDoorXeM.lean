/- Plain facts on going along silent arcs from a queue, in whatever order: what comes of it is the least. No conditions beyond that arcs are right. -/
import Derived.Test.YtfjocafepigijaaDoorCkRM
namespace Go.Proofs.YtfjocafepigijaaDoor.Wd
open Mv Wk

def far : Nat := 9223372036854775807
/-- what a row has at a state -/
def cv (R : List Nat) (s : Nat) : Nat := R.getD s far
theorem cv_set (R : List Nat) (q v r : Nat) (hq : q < R.length) : cv (R.set q v) r = if q = r then v else cv R r := by
  unfold cv
  rw [List.getD_eq_getElem?_getD, List.getD_eq_getElem?_getD, List.getElem?_set]
  split
  · simp
  · rfl
def fin (R : List Nat) : Nat := R.countP fun x => decide (x < far)
theorem fin_le (R : List Nat) : fin R ≤ R.length := List.countP_le_length
theorem fin_set (R : List Nat) (q v : Nat) (hq : q < R.length) (hv : v < far) : (cv R q < far → fin (R.set q v) = fin R) ∧ (¬ cv R q < far → fin (R.set q v) = fin R + 1) := by
  have e : cv R q = R[q] := by unfold cv; simp [hq]
  unfold fin
  rw [List.countP_set hq, e]
  constructor
  · intro h
    have hp : 0 < R.countP (fun x => decide (x < far)) := List.countP_pos_iff.2 ⟨R[q], List.getElem_mem hq, by simpa using h⟩
    simp [h, hv]
    omega
  · intro h
    simp [h, hv]

abbrev Arc := Int × Int × Int × Int × Int
/-- the silent arcs that leave a state; the arcs of a label -/
def sil (A : List Arc) (f : Nat) : List Arc := A.filter fun a => a.2.2.1 == 0 && a.2.2.2.1 == 0 && a.1 == (f : Int)
def lab (A : List Arc) (i o : Int) : List Arc := A.filter fun a => a.2.2.1 == i && a.2.2.2.1 == o

/-- a row on its way: what it has is come to -/
structure Row (S : Nat) (P : Nat → Nat → Prop) (bd : Nat) (R : List Nat) : Prop where
  len : R.length = S
  top : ∀ s, cv R s ≤ far
  real : ∀ s, s < S → cv R s < far → P s (cv R s)
  small : ∀ s, cv R s < far → cv R s ≤ bd + 1000000 * fin R

/-- what a row weighs, with so much for what is not come to -/
def pot (cap : Nat) (R : List Nat) : Nat := (R.map fun v => if v < far then v else cap).sum
theorem pot_set (cap : Nat) (R : List Nat) (q v : Nat) (hq : q < R.length) : pot cap (R.set q v) + (if cv R q < far then cv R q else cap) = pot cap R + (if v < far then v else cap) := by
  induction R generalizing q with
  | nil => simp at hq
  | cons a R ih =>
    cases q with
    | zero => simp [pot, cv]; omega
    | succ q =>
      have := ih q (by simpa using hq)
      simp [pot, cv] at this ⊢
      omega

theorem relax {S : Nat} {P : Nat → Nat → Prop} {bd : Nat} {R : List Nat} (h : Row S P bd R) (f t W : Nat) (ht : t < S) (hW : W ≤ 1000000) (hf : cv R f < far) (hlt : cv R f + W < cv R t) (hP : P t (cv R f + W)) :
    Row S P bd (R.set t (cv R f + W)) ∧ pot (bd + 1000000 * S + 1) (R.set t (cv R f + W)) < pot (bd + 1000000 * S + 1) R ∧ (∀ s, cv (R.set t (cv R f + W)) s ≤ cv R s) ∧ cv (R.set t (cv R f + W)) t = cv R f + W ∧ (∀ s, s ≠ t → cv (R.set t (cv R f + W)) s = cv R s) ∧ cv R f + W < far := by
  have htl : t < R.length := by rw [h.len]; exact ht
  have hsm := h.small f hf
  have hfl := fin_le R
  rw [h.len] at hfl
  generalize hp : cv R f = p at *
  have hvd : p + W < far := Nat.lt_of_lt_of_le hlt (h.top t)
  have hfs := fin_set R t (p + W) htl hvd
  have hge : fin R ≤ fin (R.set t (p + W)) := by
    by_cases hd : cv R t < far
    · rw [hfs.1 hd]; omega
    · rw [hfs.2 hd]; omega
  have hle : ∀ s, cv (R.set t (p + W)) s ≤ cv R s := by
    intro s
    rw [cv_set R t _ s htl]
    split
    · rename_i e; subst e; omega
    · omega
  have hps := pot_set (bd + 1000000 * S + 1) R t (p + W) htl
  have hfl2 : fin (R.set t (p + W)) ≤ S := by have := fin_le (R.set t (p + W)); rw [List.length_set, h.len] at this; exact this
  have hsv : p + W ≤ bd + 1000000 * fin (R.set t (p + W)) := by
    by_cases hd : cv R t < far
    · have := h.small t hd
      rw [hfs.1 hd]
      omega
    · rw [hfs.2 hd]
      omega
  have hmul : 1000000 * fin (R.set t (p + W)) ≤ 1000000 * S := Nat.mul_le_mul_left _ hfl2
  refine ⟨⟨by rw [List.length_set]; exact h.len, ?_, ?_, ?_⟩, ?_, hle, by rw [cv_set R t _ t htl]; simp, fun s hs => by rw [cv_set R t _ s htl, if_neg (fun e => hs e.symm)], hvd⟩
  · intro s
    exact Nat.le_trans (hle s) (h.top s)
  · intro s hs
    rw [cv_set R t _ s htl]
    split
    · rename_i e; subst e; intro _; exact hP
    · exact h.real s hs
  · intro s
    rw [cv_set R t _ s htl]
    split
    · intro _; exact hsv
    · intro hd
      have := h.small s hd
      omega
  · rw [if_pos hvd] at hps
    split at hps <;> omega

/-- an entry of the queue -/
def Ent (S : Nat) (R : List Nat) (e : Int × Int) : Prop := ∃ c s : Nat, e = ((c : Int), (s : Int)) ∧ s < S ∧ c < far ∧ cv R s ≤ c
/-- no silent arc of a state betters anything -/
def Done (A : List Arc) (R : List Nat) (f : Nat) : Prop := ∀ a ∈ sil A f, ∀ t W : Nat, a.2.1 = (t : Int) → a.2.2.2.2 = (W : Int) → cv R t ≤ cv R f + W
structure Dij (A : List Arc) (S : Nat) (P : Nat → Nat → Prop) (bd : Nat) (H R : List Nat) (es : List (Int × Int)) : Prop where
  row : Row S P bd R
  le : ∀ s, cv R s ≤ cv H s
  q : ∀ e ∈ es, Ent S R e
  rel : ∀ f, f < S → cv R f < far → ((cv R f : Int), (f : Int)) ∈ es ∨ Done A R f
  qb : es.length + pot (bd + 1000000 * S + 1) R ≤ S + pot (bd + 1000000 * S + 1) H
/-- while the silent arcs of f are gone along: the first y are -/
structure Inn (A : List Arc) (S : Nat) (P : Nat → Nat → Prop) (bd : Nat) (H : List Nat) (f c M : Nat) (R : List Nat) (es : List (Int × Int)) (y : Nat) : Prop where
  row : Row S P bd R
  le : ∀ s, cv R s ≤ cv H s
  q : ∀ e ∈ es, Ent S R e
  here : cv R f = c
  done : ∀ k, k < y → ∀ h : k < (sil A f).length, ∀ t W : Nat, ((sil A f)[k]).2.1 = (t : Int) → ((sil A f)[k]).2.2.2.2 = (W : Int) → cv R t ≤ c + W
  rel : ∀ g, g < S → g ≠ f → cv R g < far → ((cv R g : Int), (g : Int)) ∈ es ∨ Done A R g
  qb : es.length + pot (bd + 1000000 * S + 1) R ≤ S + pot (bd + 1000000 * S + 1) H
  ms : 2 * pot (bd + 1000000 * S + 1) R + es.length ≤ M

theorem Ent.mono {S : Nat} {R R' : List Nat} {e : Int × Int} (h : Ent S R e) (hle : ∀ s, cv R' s ≤ cv R s) : Ent S R' e := by
  obtain ⟨c, s, e1, h1, h2, h3⟩ := h
  exact ⟨c, s, e1, h1, h2, Nat.le_trans (hle s) h3⟩
/-- an entry is taken that is no longer so cheap -/
theorem Dij.stale {A : List Arc} {S : Nat} {P : Nat → Nat → Prop} {bd : Nat} {H R : List Nat} {es es' : List (Int × Int)} {c f : Nat} (h : Dij A S P bd H R es) (hp : es.Perm (((c : Int), (f : Int)) :: es')) (hc : cv R f < c) : Dij A S P bd H R es' := by
  refine ⟨h.row, h.le, fun e he => h.q e (hp.mem_iff.2 (List.mem_cons_of_mem _ he)), fun g hg hd => ?_, ?_⟩
  · rcases h.rel g hg hd with h1 | h1
    · rcases List.mem_cons.1 (hp.mem_iff.1 h1) with h2 | h2
      · simp only [Prod.mk.injEq] at h2
        have : g = f := by omega
        subst this
        omega
      · exact .inl h2
    · exact .inr h1
  · have := hp.length_eq
    have := h.qb
    simp only [List.length_cons] at *
    omega
theorem Dij.take {A : List Arc} {S : Nat} {P : Nat → Nat → Prop} {bd : Nat} {H R : List Nat} {es es' : List (Int × Int)} {c f : Nat} (h : Dij A S P bd H R es) (hp : es.Perm (((c : Int), (f : Int)) :: es')) (hc : cv R f = c) : Inn A S P bd H f c (2 * pot (bd + 1000000 * S + 1) R + es'.length) R es' 0 := by
  refine ⟨h.row, h.le, fun e he => h.q e (hp.mem_iff.2 (List.mem_cons_of_mem _ he)), hc, fun k hk => absurd hk (Nat.not_lt_zero _), fun g hg hgf hd => ?_, ?_, Nat.le_refl _⟩
  · rcases h.rel g hg hd with h1 | h1
    · rcases List.mem_cons.1 (hp.mem_iff.1 h1) with h2 | h2
      · simp only [Prod.mk.injEq] at h2
        exact absurd (show g = f by omega) hgf
      · exact .inl h2
    · exact .inr h1
  · have := hp.length_eq
    have := h.qb
    simp only [List.length_cons] at *
    omega
theorem Inn.skip {A : List Arc} {S : Nat} {P : Nat → Nat → Prop} {bd : Nat} {H : List Nat} {f c M : Nat} {R : List Nat} {es : List (Int × Int)} {y t W : Nat} (h : Inn A S P bd H f c M R es y) (hy : y < (sil A f).length) (ht : ((sil A f)[y]).2.1 = (t : Int)) (hW : ((sil A f)[y]).2.2.2.2 = (W : Int)) (hge : ¬ c + W < cv R t) : Inn A S P bd H f c M R es (y + 1) := by
  refine ⟨h.row, h.le, h.q, h.here, fun k hk hkl t' W' e1 e2 => ?_, h.rel, h.qb, h.ms⟩
  by_cases e : k = y
  · subst e
    rw [ht] at e1
    rw [hW] at e2
    have : t = t' := by omega
    have : W = W' := by omega
    subst_vars
    omega
  · exact h.done k (by omega) hkl t' W' e1 e2
theorem Inn.took {A : List Arc} {S : Nat} {P : Nat → Nat → Prop} {bd : Nat} {H : List Nat} {f c M : Nat} {R : List Nat} {es es' : List (Int × Int)} {y t W : Nat} (h : Inn A S P bd H f c M R es y) (hy : y < (sil A f).length) (ht : ((sil A f)[y]).2.1 = (t : Int)) (hW : ((sil A f)[y]).2.2.2.2 = (W : Int)) (hts : t < S) (hWb : W ≤ 1000000) (hcf : c < far) (hP : P t (c + W)) (hlt : c + W < cv R t) (hp : es'.Perm ((((c + W : Nat) : Int), (t : Int)) :: es)) :
    Inn A S P bd H f c M (R.set t (c + W)) es' (y + 1) := by
  obtain ⟨r1, r2, r3, r4, r5, r6⟩ := relax h.row f t W hts hWb (by rw [h.here]; exact hcf) (by rw [h.here]; exact hlt) (by rw [h.here]; exact hP)
  rw [h.here] at r1 r2 r3 r4 r5 r6
  have hne : f ≠ t := fun e => by subst e; have := h.here; omega
  have hlen := hp.length_eq
  have hqb := h.qb
  have hms := h.ms
  simp only [List.length_cons] at hlen
  refine ⟨r1, fun s => Nat.le_trans (r3 s) (h.le s), fun e he => ?_, by rw [r5 f hne]; exact h.here, fun k hk hkl t' W' e1 e2 => ?_, fun g hg hgf hd => ?_, by omega, by omega⟩
  · rcases List.mem_cons.1 (hp.mem_iff.1 he) with rfl | h2
    · exact ⟨c + W, t, rfl, hts, r6, by rw [r4]; exact Nat.le_refl _⟩
    · exact (h.q e h2).mono r3
  · by_cases e : k = y
    · subst e
      rw [ht] at e1
      rw [hW] at e2
      have : t = t' := by omega
      have : W = W' := by omega
      subst_vars
      rw [r4]
      exact Nat.le_refl _
    · exact Nat.le_trans (r3 t') (h.done k (by omega) hkl t' W' e1 e2)
  · by_cases e : g = t
    · subst e
      exact .inl (hp.mem_iff.2 (by rw [r4]; exact List.mem_cons_self))
    · rw [r5 g e] at hd ⊢
      rcases h.rel g hg hgf hd with h1 | h1
      · exact .inl (hp.mem_iff.2 (List.mem_cons_of_mem _ h1))
      · refine .inr (fun a ha t' W' e1 e2 => ?_)
        rw [r5 g e]
        exact Nat.le_trans (r3 t') (h1 a ha t' W' e1 e2)
theorem Inn.fin {A : List Arc} {S : Nat} {P : Nat → Nat → Prop} {bd : Nat} {H : List Nat} {f c M : Nat} {R : List Nat} {es : List (Int × Int)} (h : Inn A S P bd H f c M R es (sil A f).length) : Dij A S P bd H R es := by
  refine ⟨h.row, h.le, h.q, fun g hg hd => ?_, h.qb⟩
  by_cases e : g = f
  · subst e
    refine .inr (fun a ha t W e1 e2 => ?_)
    obtain ⟨k, hk, rfl⟩ := List.getElem_of_mem ha
    rw [h.here]
    exact h.done k hk hk t W e1 e2
  · exact h.rel g hg e hd
/-- the first loop: what is come to waits -/
structure Ph (A : List Arc) (S : Nat) (H : List Nat) (k : Nat) (es : List (Int × Int)) : Prop where
  q : ∀ e ∈ es, Ent S H e
  rel : ∀ f, f < k → cv H f < far → ((cv H f : Int), (f : Int)) ∈ es ∨ sil A f = []
  len : es.length ≤ k
theorem Ph.start (A : List Arc) (S : Nat) (H : List Nat) : Ph A S H 0 [] := ⟨fun _ he => (List.not_mem_nil he).elim, fun _ hf => absurd hf (Nat.not_lt_zero _), Nat.le_refl _⟩
theorem Ph.skip {A : List Arc} {S : Nat} {H : List Nat} {k : Nat} {es : List (Int × Int)} (h : Ph A S H k es) (hs : ¬ cv H k < far ∨ sil A k = []) : Ph A S H (k + 1) es := by
  refine ⟨h.q, fun f hf hd => ?_, Nat.le_succ_of_le h.len⟩
  by_cases e : f = k
  · subst e
    rcases hs with hs | hs
    · exact absurd hd hs
    · exact .inr hs
  · exact h.rel f (by omega) hd
theorem Ph.push {A : List Arc} {S : Nat} {H : List Nat} {k : Nat} {es es' : List (Int × Int)} (h : Ph A S H k es) (hk : k < S) (hd : cv H k < far) (hp : es'.Perm (((cv H k : Int), (k : Int)) :: es)) : Ph A S H (k + 1) es' := by
  have hlen := hp.length_eq
  have hl := h.len
  simp only [List.length_cons] at hlen
  refine ⟨fun e he => ?_, fun f hf hd' => ?_, by omega⟩
  · rcases List.mem_cons.1 (hp.mem_iff.1 he) with rfl | h2
    · exact ⟨cv H k, k, rfl, hk, hd, Nat.le_refl _⟩
    · exact h.q e h2
  · by_cases e : f = k
    · subst e
      exact .inl (hp.mem_iff.2 List.mem_cons_self)
    · rcases h.rel f (by omega) hd' with h1 | h1
      · exact .inl (hp.mem_iff.2 (List.mem_cons_of_mem _ h1))
      · exact .inr h1
theorem Ph.fin {A : List Arc} {S : Nat} {P : Nat → Nat → Prop} {bd : Nat} {H : List Nat} {es : List (Int × Int)} (h : Ph A S H S es) (hr : Row S P bd H) : Dij A S P bd H H es := by
  refine ⟨hr, fun _ => Nat.le_refl _, h.q, fun f hf hd => ?_, Nat.add_le_add_right h.len _⟩
  rcases h.rel f hf hd with h1 | h1
  · exact .inl h1
  · exact .inr (fun a ha => by rw [h1] at ha; exact (List.not_mem_nil ha).elim)
/-- a row along which no silent arc betters anything -/
structure Settled (A : List Arc) (S : Nat) (P : Nat → Nat → Prop) (bd : Nat) (H R : List Nat) : Prop where
  row : Row S P bd R
  le : ∀ s, cv R s ≤ cv H s
  done : ∀ f, f < S → cv R f < far → Done A R f
theorem Dij.fin {A : List Arc} {S : Nat} {P : Nat → Nat → Prop} {bd : Nat} {H R : List Nat} (h : Dij A S P bd H R []) : Settled A S P bd H R :=
  ⟨h.row, h.le, fun f hf hd => (h.rel f hf hd).resolve_left (List.not_mem_nil)⟩
theorem pot_le {S : Nat} {P : Nat → Nat → Prop} {bd : Nat} {R : List Nat} (h : Row S P bd R) : pot (bd + 1000000 * S + 1) R ≤ S * (bd + 1000000 * S + 1) := by
  have hfl := fin_le R
  rw [h.len] at hfl
  have hm : 1000000 * fin R ≤ 1000000 * S := Nat.mul_le_mul_left _ hfl
  have key : ∀ L : List Nat, (∀ v ∈ L, (if v < far then v else bd + 1000000 * S + 1) ≤ bd + 1000000 * S + 1) → pot (bd + 1000000 * S + 1) L ≤ L.length * (bd + 1000000 * S + 1) := by
    intro L hL
    induction L with
    | nil => simp [pot]
    | cons a L ih =>
      have h1 := ih (fun v hv => hL v (List.mem_cons_of_mem _ hv))
      have h2 := hL a List.mem_cons_self
      have e : pot (bd + 1000000 * S + 1) (a :: L) = (if a < far then a else bd + 1000000 * S + 1) + pot (bd + 1000000 * S + 1) L := by simp [pot]
      rw [e, List.length_cons, Nat.add_mul, Nat.one_mul]
      omega
  have := key R (fun v hv => by
    split
    · rename_i hd
      obtain ⟨k, hk, rfl⟩ := List.getElem_of_mem hv
      have e : cv R k = R[k] := by unfold cv; simp [hk]
      have := h.small k (by rw [e]; exact hd)
      rw [e] at this
      omega
    · omega)
  rw [h.len] at this
  exact this
end Go.Proofs.YtfjocafepigijaaDoor.Wd
/- Classes of rows, made finer until that tells no more apart (Moore), in plain words. No program text; no conditions. -/
namespace Go.Proofs.YtfjocafepigijaaDoor.Su

/-- a list that holds all numbers below n is as long -/
theorem pig : ∀ (n : Nat) (l : List Nat), (∀ v, v < n → v ∈ l) → n ≤ l.length
  | 0, _, _ => Nat.zero_le _
  | n + 1, l, h => by
    have hn : n ∈ l := h n (Nat.lt_succ_self n)
    have h2 := pig n (l.erase n) (fun v hv => (List.mem_erase_of_ne (by omega)).2 (h v (by omega)))
    rw [List.length_erase_of_mem hn] at h2
    have := List.length_pos_of_mem hn
    omega
theorem onto_one {n : Nat} {f : Nat → Nat} (h : ∀ v, v < n → ∃ u, u < n ∧ f u = v) {u u' : Nat} (hu : u < n) (hu' : u' < n) (e : f u = f u') : u = u' := by
  refine Classical.byContradiction fun hne => ?_
  have h2 := pig n (((List.range n).erase u).map f) (fun v hv => by
    obtain ⟨x, hx, rfl⟩ := h v hv
    by_cases hxu : x = u
    · subst hxu
      exact List.mem_map.2 ⟨u', (List.mem_erase_of_ne (fun h => hne h.symm)).2 (List.mem_range.2 hu'), e.symm⟩
    · exact List.mem_map.2 ⟨x, (List.mem_erase_of_ne hxu).2 (List.mem_range.2 hx), rfl⟩)
  rw [List.length_map, List.length_erase_of_mem (List.mem_range.2 hu), List.length_range] at h2
  omega
/-- k' tells apart what k tells apart one symbol on, what is final, what is dead -/
def Fine (T : Tb) (d : Nat → Bool) (k k' : Nat → Nat) : Prop := ∀ i j, i < T.n → j < T.n → (k' i = k' j ↔ T.fin i = T.fin j ∧ d i = d j ∧ ∀ c, 1 ≤ c ∧ c ≤ 60 → (T.to i c).map k = (T.to j c).map k)
/-- all numbers below cnt are used, no others -/
def Full (n cnt : Nat) (k : Nat → Nat) : Prop := (∀ i, i < n → k i < cnt) ∧ ∀ v, v < cnt → ∃ i, i < n ∧ k i = v
theorem Full.le {n cnt : Nat} {k : Nat → Nat} (h : Full n cnt k) : cnt ≤ n := by
  have := pig cnt ((List.range n).map k) (fun v hv => by
    obtain ⟨i, hi, rfl⟩ := h.2 v hv
    exact List.mem_map.2 ⟨i, List.mem_range.2 hi, rfl⟩)
  simpa using this
structure Cls (T : Tb) (d : Nat → Bool) (k : Nat → Nat) (cnt : Nat) : Prop where
  full : Full T.n cnt k
  same : ∀ i j, i < T.n → j < T.n → T.Lk (some i) (some j) → k i = k j
  mono : ∀ k', Fine T d k k' → ∀ i j, i < T.n → j < T.n → k' i = k' j → k i = k j
theorem Cls.first {T : Tb} {d : Nat → Bool} (h : 0 < T.n) : Cls T d (fun _ => 0) 1 := ⟨⟨fun _ _ => Nat.zero_lt_one, fun v hv => ⟨0, h, show 0 = v by omega⟩⟩, fun _ _ _ _ _ => rfl, fun _ _ _ _ _ _ _ => rfl⟩
/-- what the rows' flags and steps must be: dead flags are right; what leads anywhere leads to what is live -/
structure Cutd (T : Tb) (d : Nat → Bool) : Prop where
  ok : T.Ok
  dead : ∀ i, i < T.n → (d i = true ↔ ¬ T.Live (some i))
  live : ∀ i c j, i < T.n → T.to i c = some j → T.Live (some j)
theorem Cls.less {T : Tb} {d : Nat → Bool} {k k' : Nat → Nat} {cnt cnt' : Nat} (h : Cls T d k cnt) (hf : Fine T d k k') (hn : Full T.n cnt' k') : cnt ≤ cnt' := by
  have hr : ∀ v, v < cnt' → ∃ i, i < T.n ∧ k' i = v := hn.2
  have := pig cnt ((List.range cnt').map fun v => if hv : v < cnt' then k (Classical.choose (hr v hv)) else 0) (fun v hv => by
    obtain ⟨i, hi, rfl⟩ := h.full.2 v hv
    refine List.mem_map.2 ⟨k' i, List.mem_range.2 (hn.1 i hi), ?_⟩
    rw [dif_pos (hn.1 i hi)]
    obtain ⟨h1, h2⟩ := Classical.choose_spec (hr (k' i) (hn.1 i hi))
    exact h.mono k' hf _ _ h1 hi h2)
  simpa using this
theorem Cls.next {T : Tb} {d : Nat → Bool} {k k' : Nat → Nat} {cnt cnt' : Nat} (h : Cls T d k cnt) (hT : Cutd T d) (hf : Fine T d k k') (hn : Full T.n cnt' k') : Cls T d k' cnt' := by
  refine ⟨hn, fun i j hi hj hl => (hf i j hi hj).2 ⟨hl.fo, ?_, fun c hc => ?_⟩, fun k'' hf' i j hi hj he => ?_⟩
  · have e : (d i = true ↔ d j = true) := by rw [hT.dead i hi, hT.dead j hj, hl.live]
    cases h1 : d i <;> cases h2 : d j <;> simp_all
  · have hs : T.Lk (T.to i c) (T.to j c) := hl.step hc
    cases e1 : T.to i c with
    | none =>
      cases e2 : T.to j c with
      | none => rfl
      | some y =>
        have hy := hT.live j c y hj e2
        rw [e1, e2] at hs
        exact absurd hs.symm ((T.live_iff _).1 hy)
    | some x =>
      have hx := hT.live i c x hi e1
      cases e2 : T.to j c with
      | none =>
        rw [e1, e2] at hs
        exact absurd hs ((T.live_iff _).1 hx)
      | some y =>
        rw [e1, e2] at hs
        show some (k x) = some (k y)
        rw [h.same x y (hT.ok i c x hi e1) (hT.ok j c y hj e2) hs]
  · obtain ⟨h1, h2, h3⟩ := (hf' i j hi hj).1 he
    refine (hf i j hi hj).2 ⟨h1, h2, fun c hc => ?_⟩
    have h4 := h3 c hc
    cases e1 : T.to i c with
    | none => cases e2 : T.to j c with
      | none => rfl
      | some y => rw [e1, e2] at h4; cases h4
    | some x => cases e2 : T.to j c with
      | none => rw [e1, e2] at h4; cases h4
      | some y =>
        rw [e1, e2] at h4
        have h5 : k' x = k' y := by simpa using h4
        show some (k x) = some (k y)
        rw [h.mono k' hf x y (hT.ok i c x hi e1) (hT.ok j c y hj e2) h5]
/-- no more is told apart: two rows share a number just if they read the same -/
theorem Cls.done {T : Tb} {d : Nat → Bool} {k k' : Nat → Nat} {cnt : Nat} (h : Cls T d k cnt) (hT : Cutd T d) (hf : Fine T d k k') (hn : Full T.n cnt k') : ∀ i j, i < T.n → j < T.n → (k i = k j ↔ T.Lk (some i) (some j)) := by
  have hr : ∀ v, v < cnt → ∃ i, i < T.n ∧ k' i = v := hn.2
  have hst : ∀ i j, i < T.n → j < T.n → k i = k j → k' i = k' j := fun i j hi hj he => by
    have key := onto_one (n := cnt) (f := fun v => if hv : v < cnt then k (Classical.choose (hr v hv)) else 0) (fun v hv => by
      obtain ⟨x, hx, rfl⟩ := h.full.2 v hv
      refine ⟨k' x, hn.1 x hx, ?_⟩
      rw [dif_pos (hn.1 x hx)]
      obtain ⟨h1, h2⟩ := Classical.choose_spec (hr (k' x) (hn.1 x hx))
      exact h.mono k' hf _ _ h1 hx h2) (hn.1 i hi) (hn.1 j hj)
    refine key ?_
    rw [dif_pos (hn.1 i hi), dif_pos (hn.1 j hj)]
    obtain ⟨h1, h2⟩ := Classical.choose_spec (hr (k' i) (hn.1 i hi))
    obtain ⟨h3, h4⟩ := Classical.choose_spec (hr (k' j) (hn.1 j hj))
    rw [h.mono k' hf _ _ h1 hi h2, h.mono k' hf _ _ h3 hj h4, he]
  intro i j hi hj
  refine ⟨fun he t ht => ?_, h.same i j hi hj⟩
  refine Tb.eq_of_sim (T := T) (fun s u => (s = none ∧ u = none) ∨ ∃ x y, s = some x ∧ u = some y ∧ x < T.n ∧ y < T.n ∧ k x = k y) ?_ ?_ t _ _ ht (.inr ⟨i, j, rfl, rfl, hi, hj, he⟩)
  · rintro s u (⟨rfl, rfl⟩ | ⟨x, y, rfl, rfl, hx, hy, e⟩)
    · rfl
    · exact ((hf x y hx hy).1 (hst x y hx hy e)).1
  · rintro s u c hc (⟨rfl, rfl⟩ | ⟨x, y, rfl, rfl, hx, hy, e⟩)
    · exact .inl ⟨rfl, rfl⟩
    · have h4 := ((hf x y hx hy).1 (hst x y hx hy e)).2.2 c hc
      show (T.to x c = none ∧ T.to y c = none) ∨ _
      cases e1 : T.to x c with
      | none => cases e2 : T.to y c with
        | none => exact .inl ⟨rfl, rfl⟩
        | some v => rw [e1, e2] at h4; cases h4
      | some v => cases e2 : T.to y c with
        | none => rw [e1, e2] at h4; cases h4
        | some v' =>
          rw [e1, e2] at h4
          exact .inr ⟨v, v', e1, e2, hT.ok x c v hx e1, hT.ok y c v' hy e2, by simpa using h4⟩
end Go.Proofs.YtfjocafepigijaaDoor.Su
/- The sets of a plain machine's states, from that of the first state on, in plain words: what is come to reading nothing, behind a symbol; the table row by row. No program text; no conditions. -/
namespace Go.Proofs.YtfjocafepigijaaDoor.Su
open Mv

/-- is a state in the set? -/
def has (bs : List Bool) (x : Nat) : Prop := bs[x]? = some true
/-- an arc that reads c leads from u to v -/
def Ed (A : List (Int × Int × Int × Int × Int)) (c : Int) (u v : Nat) : Prop := ∃ a ∈ A, a.1 = (u : Int) ∧ a.2.1 = (v : Int) ∧ a.2.2.1 = c
def ClN (A : List (Int × Int × Int × Int × Int)) : Nat → Nat → Nat → Prop
  | 0, u, v => u = v
  | n + 1, u, v => ∃ x, ClN A n u x ∧ Ed A 0 x v
/-- one comes there reading nothing -/
def Cl (A : List (Int × Int × Int × Int × Int)) (u v : Nat) : Prop := ∃ n, ClN A n u v
theorem Cl.refl {A : List (Int × Int × Int × Int × Int)} (u : Nat) : Cl A u u := ⟨0, rfl⟩
theorem Cl.step {A : List (Int × Int × Int × Int × Int)} {u x v : Nat} (h : Cl A u x) (e : Ed A 0 x v) : Cl A u v := by
  obtain ⟨n, h⟩ := h
  exact ⟨n + 1, x, h, e⟩
open Classical in
/-- the set of those that have a property -/
noncomputable def mk (S : Nat) (p : Nat → Prop) : List Bool := (List.range S).map fun v => decide (p v)
theorem mk_len (S : Nat) (p : Nat → Prop) : (mk S p).length = S := by simp [mk]
open Classical in
theorem mk_at {S : Nat} {p : Nat → Prop} {v : Nat} (h : v < S) : (mk S p)[v]? = some (decide (p v)) := by simp [mk, h]
theorem mk_has {S : Nat} {p : Nat → Prop} {v : Nat} : has (mk S p) v ↔ v < S ∧ p v := by
  unfold has
  by_cases h : v < S
  · rw [mk_at h]; simp [h]
  · rw [List.getElem?_eq_none (by rw [mk_len]; omega)]; simp [h]
/-- two sets of one length are the same if they have the same -/
theorem bs_ext {S : Nat} {a b : List Bool} (ha : a.length = S) (hb : b.length = S) (h : ∀ v, v < S → (has a v ↔ has b v)) : a = b := by
  apply List.ext_getElem?
  intro v
  by_cases hv : v < S
  · have h1 := h v hv
    unfold has at h1
    rw [List.getElem?_eq_getElem (by omega), List.getElem?_eq_getElem (by omega)] at h1 ⊢
    cases e1 : a[v] <;> cases e2 : b[v] <;> simp_all
  · rw [List.getElem?_eq_none (by omega), List.getElem?_eq_none (by omega)]
theorem mk_eq {S : Nat} {p : Nat → Prop} {a : List Bool} (ha : a.length = S) (h : ∀ v, v < S → (has a v ↔ p v)) : a = mk S p :=
  bs_ext ha (mk_len S p) (fun v hv => by rw [mk_has, h v hv]; exact ⟨fun k => ⟨hv, k⟩, fun k => k.2⟩)
/-- a set with those to which one comes reading nothing -/
noncomputable def clo (S : Nat) (A : List (Int × Int × Int × Int × Int)) (bs : List Bool) : List Bool := mk S fun v => ∃ u, has bs u ∧ Cl A u v
/-- the set behind a symbol -/
noncomputable def nx (S : Nat) (A : List (Int × Int × Int × Int × Int)) (bs : List Bool) (c : Nat) : List Bool := clo S A (mk S fun v => ∃ u, has bs u ∧ Ed A (c : Int) u v)
noncomputable def first (S : Nat) (A : List (Int × Int × Int × Int × Int)) : List Bool := clo S A (mk S fun v => v = 0)
theorem clo_len (S : Nat) (A : List (Int × Int × Int × Int × Int)) (bs : List Bool) : (clo S A bs).length = S := mk_len _ _
theorem nx_len (S : Nat) (A : List (Int × Int × Int × Int × Int)) (bs : List Bool) (c : Nat) : (nx S A bs c).length = S := clo_len _ _ _
def void (bs : List Bool) : Bool := bs.all fun b => !b
theorem void_iff {bs : List Bool} : void bs = true ↔ ∀ v, ¬ has bs v := by
  unfold void has
  rw [List.all_eq_true]
  constructor
  · intro h v hv
    have := h true (List.mem_of_getElem? hv)
    simp at this
  · intro h b hb
    cases b with
    | false => rfl
    | true =>
      obtain ⟨i, hi, e⟩ := List.getElem_of_mem hb
      exact absurd (by rw [List.getElem?_eq_getElem hi, e]) (h i)
/-- a symbol more of a row -/
noncomputable def ts (S : Nat) (A : List (Int × Int × Int × Int × Int)) (P : List Bool) (s : List (List Bool) × List (Option Nat)) (c : Nat) : List (List Bool) × List (Option Nat) :=
  if void (nx S A P c) then (s.1, s.2 ++ [none]) else (if s.1.idxOf (nx S A P c) = s.1.length then s.1 ++ [nx S A P c] else s.1, s.2 ++ [some (s.1.idxOf (nx S A P c))])
/-- a row, up to symbol c -/
noncomputable def tr (S : Nat) (A : List (Int × Int × Int × Int × Int)) (sets : List (List Bool)) (P : List Bool) (c : Nat) : List (List Bool) × List (Option Nat) := (List.range' 1 c).foldl (ts S A P) (sets, [])
theorem tr_zero (S : Nat) (A : List (Int × Int × Int × Int × Int)) (sets : List (List Bool)) (P : List Bool) : tr S A sets P 0 = (sets, []) := rfl
theorem tr_up (S : Nat) (A : List (Int × Int × Int × Int × Int)) (sets : List (List Bool)) (P : List Bool) (c : Nat) : tr S A sets P (c + 1) = ts S A P (tr S A sets P c) (c + 1) := by
  unfold tr
  rw [List.range'_concat, List.foldl_append]
  simp [Nat.add_comm]
noncomputable def tab (S : Nat) (A : List (Int × Int × Int × Int × Int)) : Nat → List (List Bool) × List (List (Option Nat))
  | 0 => ([first S A], [])
  | k + 1 => ((tr S A (tab S A k).1 ((tab S A k).1.getD k []) 60).1, (tab S A k).2 ++ [(tr S A (tab S A k).1 ((tab S A k).1.getD k []) 60).2])
theorem ts_pre (S : Nat) (A : List (Int × Int × Int × Int × Int)) (P : List Bool) (s : List (List Bool) × List (Option Nat)) (c : Nat) : s.1 <+: (ts S A P s c).1 := by
  unfold ts
  split
  · exact List.prefix_refl _
  · dsimp only
    split
    · exact List.prefix_append _ _
    · exact List.prefix_refl _
theorem tr_pre (S : Nat) (A : List (Int × Int × Int × Int × Int)) (sets : List (List Bool)) (P : List Bool) : ∀ c d, c ≤ d → (tr S A sets P c).1 <+: (tr S A sets P d).1 := by
  intro c d h
  induction h with
  | refl => exact List.prefix_refl _
  | step _ ih => rw [tr_up]; exact ih.trans (ts_pre _ _ _ _ _)
theorem tab_pre (S : Nat) (A : List (Int × Int × Int × Int × Int)) : ∀ i j, i ≤ j → (tab S A i).1 <+: (tab S A j).1 := by
  intro i j h
  induction h with
  | refl => exact List.prefix_refl _
  | step _ ih => exact ih.trans (tr_pre S A _ _ 0 60 (by omega))
theorem tab_len (S : Nat) (A : List (Int × Int × Int × Int × Int)) : ∀ k, (tab S A k).2.length = k
  | 0 => rfl
  | k + 1 => by show ((tab S A k).2 ++ [_]).length = _; rw [List.length_append, tab_len]; rfl
theorem tr_len (S : Nat) (A : List (Int × Int × Int × Int × Int)) (sets : List (List Bool)) (P : List Bool) : ∀ c, (tr S A sets P c).2.length = c
  | 0 => rfl
  | c + 1 => by
    rw [tr_up]
    unfold ts
    split <;> simp [tr_len S A sets P c]
/-- each set has S places -/
theorem tr_each (S : Nat) (A : List (Int × Int × Int × Int × Int)) (sets : List (List Bool)) (P : List Bool) (h : ∀ s ∈ sets, s.length = S) : ∀ c, ∀ s ∈ (tr S A sets P c).1, s.length = S
  | 0 => h
  | c + 1 => by
    intro s hs
    rw [tr_up] at hs
    unfold ts at hs
    split at hs
    · exact tr_each S A sets P h c s hs
    · dsimp only at hs
      split at hs
      · rcases List.mem_append.1 hs with hs | hs
        · exact tr_each S A sets P h c s hs
        · rw [List.mem_singleton.1 hs]; exact nx_len _ _ _ _
      · exact tr_each S A sets P h c s hs
theorem tab_each (S : Nat) (A : List (Int × Int × Int × Int × Int)) : ∀ k, ∀ s ∈ (tab S A k).1, s.length = S
  | 0 => fun s hs => by rw [List.mem_singleton.1 hs]; exact clo_len _ _ _
  | k + 1 => tr_each S A _ _ (tab_each S A k) 60
/-- the run stands at row k -/
def At (S : Nat) (A : List (Int × Int × Int × Int × Int)) (k : Nat) : Prop := ∀ i, i < k → i < (tab S A i).1.length
theorem At.up {S : Nat} {A : List (Int × Int × Int × Int × Int)} {k : Nat} (h : At S A k) (hk : k < (tab S A k).1.length) : At S A (k + 1) := fun i hi => by
  rcases Nat.lt_succ_iff_lt_or_eq.1 hi with h1 | rfl
  · exact h i h1
  · exact hk
theorem At.le {S : Nat} {A : List (Int × Int × Int × Int × Int)} {k : Nat} (h : At S A k) : k ≤ (tab S A k).1.length := by
  cases k with
  | zero => exact Nat.zero_le _
  | succ k =>
    have h1 := h k (Nat.lt_succ_self k)
    have h2 := (tab_pre S A k (k + 1) (Nat.le_succ k)).length_le
    omega
/-- there are too many sets -/
def Many (S : Nat) (A : List (Int × Int × Int × Int × Int)) : Prop := ∃ k, At S A k ∧ 500 < (tab S A k).1.length
/-- these are all -/
structure Done (S : Nat) (A : List (Int × Int × Int × Int × Int)) (n : Nat) : Prop where
  at_ : At S A n
  len : (tab S A n).1.length = n
  few : n ≤ 500
theorem Done.of {S : Nat} {A : List (Int × Int × Int × Int × Int)} {k : Nat} (h : At S A k) (hk : ¬ k < (tab S A k).1.length) (hl : (tab S A k).1.length ≤ 500) : Done S A k := by
  have := h.le
  exact ⟨h, by omega, by omega⟩
theorem Done.one {S : Nat} {A : List (Int × Int × Int × Int × Int)} {n m : Nat} (h : Done S A n) (k : Done S A m) : n = m :=
  end_one (fun i => (tab S A i).1) List.length (by rw [h.len]; omega) h.at_ (by rw [k.len]; omega) k.at_
theorem Done.not_many {S : Nat} {A : List (Int × Int × Int × Int × Int)} {n : Nat} (h : Done S A n) : ¬ Many S A := by
  rintro ⟨k, hk, hl⟩
  have hf := h.few
  have hl2 := h.len
  rcases Nat.lt_or_ge n k with hlt | hge
  · have := hk n hlt; omega
  · have := (tab_pre S A k n hge).length_le; omega
/-- the table of a plain machine -/
noncomputable def tbl (S : Nat) (A : List (Int × Int × Int × Int × Int)) (F : List (Int × Int)) (n : Nat) : Tb :=
  ⟨n, fun i c => ((tab S A n).2.getD i []).getD (c - 1) none, fun i => F.any fun f => ((tab S A n).1.getD i []).getD f.1.toNat false⟩
theorem idx_lt {α : Type} [BEq α] [LawfulBEq α] {l : List α} {a : α} (h : ¬ l.idxOf a = l.length) : l.idxOf a < l.length := by
  have := List.idxOf_le_length (l := l) (a := a)
  omega
/-- each number in a row is below the number of sets -/
theorem tr_bound (S : Nat) (A : List (Int × Int × Int × Int × Int)) (sets : List (List Bool)) (P : List Bool) : ∀ (c d j : Nat), (tr S A sets P c).2[d]? = some (some j) → j < (tr S A sets P c).1.length
  | 0, d, j, h => by simp [tr_zero] at h
  | c + 1, d, j, h => by
    have hp := (ts_pre S A P (tr S A sets P c) (c + 1)).length_le
    rw [← tr_up] at hp
    rw [tr_up] at h
    unfold ts at h
    split at h
    · rcases Nat.lt_or_ge d (tr S A sets P c).2.length with hd | hd
      · rw [List.getElem?_append_left hd] at h
        exact Nat.lt_of_lt_of_le (tr_bound S A sets P c d j h) hp
      · rw [List.getElem?_append_right hd] at h
        cases e : d - (tr S A sets P c).2.length <;> rw [e] at h <;> simp at h
    · rename_i hv
      dsimp only at h
      rcases Nat.lt_or_ge d (tr S A sets P c).2.length with hd | hd
      · rw [List.getElem?_append_left hd] at h
        exact Nat.lt_of_lt_of_le (tr_bound S A sets P c d j h) hp
      · rw [List.getElem?_append_right hd] at h
        cases e : d - (tr S A sets P c).2.length with
        | succ x => rw [e] at h; simp at h
        | zero =>
          rw [e] at h
          simp only [List.getElem?_cons_zero, Option.some.injEq] at h
          subst h
          rw [tr_up]
          unfold ts
          rw [if_neg hv]
          dsimp only
          split
          · rename_i hx; rw [List.length_append, hx]; simp
          · rename_i hx; exact idx_lt hx
theorem tab_bound (S : Nat) (A : List (Int × Int × Int × Int × Int)) : ∀ (k i d j : Nat), ((tab S A k).2.getD i [])[d]? = some (some j) → j < (tab S A k).1.length
  | 0, i, d, j, h => by simp [tab] at h
  | k + 1, i, d, j, h => by
    have hp := (tab_pre S A k (k + 1) (Nat.le_succ k)).length_le
    have e : (tab S A (k + 1)).2 = (tab S A k).2 ++ [(tr S A (tab S A k).1 ((tab S A k).1.getD k []) 60).2] := rfl
    rw [e, List.getD_eq_getElem?_getD] at h
    rcases Nat.lt_or_ge i (tab S A k).2.length with hi | hi
    · rw [List.getElem?_append_left hi, ← List.getD_eq_getElem?_getD] at h
      exact Nat.lt_of_lt_of_le (tab_bound S A k i d j h) hp
    · rw [List.getElem?_append_right hi] at h
      cases e2 : i - (tab S A k).2.length with
      | succ x => rw [e2] at h; simp at h
      | zero =>
        rw [e2] at h
        simp only [List.getElem?_cons_zero, Option.getD_some] at h
        exact tr_bound S A _ _ 60 d j h
theorem tbl_ok {S : Nat} {A : List (Int × Int × Int × Int × Int)} {F : List (Int × Int)} {n : Nat} (h : Done S A n) : (tbl S A F n).Ok := by
  intro i c j _ hj
  have hj2 : (((tab S A n).2.getD i []).getD (c - 1) none) = some j := hj
  show j < n
  have := tab_bound S A n i (c - 1) j (by
    rw [List.getD_eq_getElem?_getD] at hj2
    cases e : ((tab S A n).2.getD i [])[c - 1]? with
    | none => rw [e] at hj2; cases hj2
    | some o => rw [e] at hj2; simp at hj2; rw [hj2])
  rw [h.len] at this
  exact this
end Go.Proofs.YtfjocafepigijaaDoor.Su
/- The small sure machine of a table, in plain words: a state for each class of rows, numbered as they are come to. No program text; no conditions. -/
namespace Go.Proofs.YtfjocafepigijaaDoor.Su
open Mv

theorem inj_len : ∀ (n : Nat) (l : List Nat), l.Nodup → (∀ x ∈ l, x < n) → l.length ≤ n
  | 0, l, _, h => by
    cases l with
    | nil => exact Nat.le_refl _
    | cons x l => exact absurd (h x List.mem_cons_self) (Nat.not_lt_zero x)
  | n + 1, l, hd, h => by
    by_cases hm : n ∈ l
    · have h2 := inj_len n (l.erase n) (hd.erase n) (fun x hx => by
        have h3 := h x (List.mem_of_mem_erase hx)
        have h4 : x ≠ n := fun e => by subst e; exact (List.Nodup.not_mem_erase hd) hx
        omega)
      rw [List.length_erase_of_mem hm] at h2
      omega
    · have h2 := inj_len n l hd (fun x hx => by
        have h3 := h x hx
        have h4 : x ≠ n := fun e => by subst e; exact hm hx
        omega)
      omega
open Classical in
/-- where in the list a row of the same class stands -/
noncomputable def wh (T : Tb) (l : List Nat) (x : Nat) : Nat := l.findIdx fun y => decide (T.Lk (some y) (some x))
/-- a symbol more: states so far, arcs so far (from, symbol, to) -/
noncomputable def js (T : Tb) (p r : Nat) (s : List Nat × List (Nat × Nat × Nat)) (c : Nat) : List Nat × List (Nat × Nat × Nat) :=
  match T.cut.to r c with
  | none => s
  | some x => (if wh T s.1 x = s.1.length then s.1 ++ [x] else s.1, s.2 ++ [(p, c, wh T s.1 x)])
noncomputable def jr (T : Tb) (p r : Nat) (s : List Nat × List (Nat × Nat × Nat)) (c : Nat) : List Nat × List (Nat × Nat × Nat) := (List.range' 1 c).foldl (js T p r) s
noncomputable def jn (T : Tb) : Nat → List Nat × List (Nat × Nat × Nat)
  | 0 => ([0], [])
  | k + 1 => jr T k ((jn T k).1.getD k 0) (jn T k) 60
theorem jr_zero (T : Tb) (p r : Nat) (s : List Nat × List (Nat × Nat × Nat)) : jr T p r s 0 = s := rfl
theorem jr_up (T : Tb) (p r : Nat) (s : List Nat × List (Nat × Nat × Nat)) (c : Nat) : jr T p r s (c + 1) = js T p r (jr T p r s c) (c + 1) := by
  unfold jr
  rw [List.range'_concat, List.foldl_append]
  simp [Nat.add_comm]
theorem js_pre (T : Tb) (p r : Nat) (s : List Nat × List (Nat × Nat × Nat)) (c : Nat) : s.1 <+: (js T p r s c).1 := by
  unfold js
  split
  · exact List.prefix_refl _
  · dsimp only
    split
    · exact List.prefix_append _ _
    · exact List.prefix_refl _
theorem jr_pre (T : Tb) (p r : Nat) (s : List Nat × List (Nat × Nat × Nat)) : ∀ c d, c ≤ d → (jr T p r s c).1 <+: (jr T p r s d).1 := by
  intro c d h
  induction h with
  | refl => exact List.prefix_refl _
  | step _ ih => rw [jr_up]; exact ih.trans (js_pre _ _ _ _ _)
theorem jn_pre (T : Tb) : ∀ i j, i ≤ j → (jn T i).1 <+: (jn T j).1 := by
  intro i j h
  induction h with
  | refl => exact List.prefix_refl _
  | step _ ih => exact ih.trans (jr_pre T _ _ _ 0 60 (by omega))
/-- the rows are rows of the table, of classes of their own -/
def Rows (T : Tb) (l : List Nat) : Prop := (∀ x ∈ l, x < T.n) ∧ l.Pairwise fun x y => ¬ T.Lk (some x) (some y)
theorem Rows.len {T : Tb} {l : List Nat} (h : Rows T l) : l.length ≤ T.n := inj_len T.n l (h.2.imp (fun hn e => by subst e; exact hn (Tb.Lk.refl _ _))) h.1
open Classical in
open Classical in
theorem wh_new {T : Tb} {l : List Nat} {x : Nat} : wh T l x = l.length ↔ ∀ y ∈ l, ¬ T.Lk (some y) (some x) := by
  unfold wh
  rw [List.findIdx_eq_length]
  constructor
  · intro h y hy; have := h y hy; simpa using this
  · intro h y hy; simpa using h y hy
open Classical in
/-- the class's own place -/
theorem wh_at {T : Tb} {l : List Nat} {x i y : Nat} (h : Rows T l) (hi : l[i]? = some y) (hl : T.Lk (some y) (some x)) : wh T l x = i := by
  obtain ⟨h1, h2⟩ := List.getElem?_eq_some_iff.1 hi
  unfold wh
  rw [List.findIdx_eq h1]
  refine ⟨by rw [h2]; simpa using hl, fun j hj => ?_⟩
  have h3 := List.pairwise_iff_getElem.1 h.2 j i (by omega) h1 hj
  rw [h2] at h3
  have h4 : ¬ T.Lk (some l[j]) (some x) := fun h5 => h3 (h5.trans hl.symm)
  simpa using h4
open Classical in
theorem js_rows {T : Tb} (hT : T.Ok) {p r c : Nat} {s : List Nat × List (Nat × Nat × Nat)} (h : Rows T s.1) (hr : r < T.n) : Rows T (js T p r s c).1 := by
  unfold js
  split
  · exact h
  · rename_i x hx
    dsimp only
    split
    · rename_i hw
      refine ⟨fun y hy => ?_, List.pairwise_append.2 ⟨h.2, by simp, fun y hy z hz => ?_⟩⟩
      · rcases List.mem_append.1 hy with hy | hy
        · exact h.1 y hy
        · rw [List.mem_singleton.1 hy]; exact hT r c x hr (Tb.cut_some hx).1
      · rw [List.mem_singleton.1 hz]; exact wh_new.1 hw y hy
    · exact h
theorem jr_rows {T : Tb} (hT : T.Ok) {p r : Nat} {s : List Nat × List (Nat × Nat × Nat)} (h : Rows T s.1) (hr : r < T.n) : ∀ c, Rows T (jr T p r s c).1
  | 0 => h
  | c + 1 => by rw [jr_up]; exact js_rows hT (jr_rows hT h hr c) hr
theorem jn_rows {T : Tb} (hT : T.Ok) (h0 : 0 < T.n) : ∀ k, Rows T (jn T k).1
  | 0 => ⟨fun x hx => by rw [List.mem_singleton.1 hx]; exact h0, by simp [jn]⟩
  | k + 1 => by
    have ih := jn_rows hT h0 k
    refine jr_rows hT ih ?_ 60
    rw [List.getD_eq_getElem?_getD]
    cases e : (jn T k).1[k]? with
    | none => exact h0
    | some x => exact ih.1 x (List.mem_of_getElem? e)
theorem js_arcs (T : Tb) (p r c : Nat) (s : List Nat × List (Nat × Nat × Nat)) : (js T p r s c).2.length ≤ s.2.length + 1 := by
  unfold js
  split
  · omega
  · simp
theorem jr_arcs (T : Tb) (p r : Nat) (s : List Nat × List (Nat × Nat × Nat)) : ∀ c, (jr T p r s c).2.length ≤ s.2.length + c
  | 0 => Nat.le_refl _
  | c + 1 => by rw [jr_up]; have := js_arcs T p r (c + 1) (jr T p r s c); have := jr_arcs T p r s c; omega
theorem jn_arcs (T : Tb) : ∀ k, (jn T k).2.length ≤ 60 * k
  | 0 => Nat.le_refl _
  | k + 1 => by
    have h1 := jr_arcs T k ((jn T k).1.getD k 0) (jn T k) 60
    have h2 := jn_arcs T k
    show (jr T k ((jn T k).1.getD k 0) (jn T k) 60).2.length ≤ _
    omega
def JAt (T : Tb) (k : Nat) : Prop := ∀ i, i < k → i < (jn T i).1.length
theorem JAt.up {T : Tb} {k : Nat} (h : JAt T k) (hk : k < (jn T k).1.length) : JAt T (k + 1) := fun i hi => by
  rcases Nat.lt_succ_iff_lt_or_eq.1 hi with h1 | rfl
  · exact h i h1
  · exact hk
theorem JAt.le {T : Tb} {k : Nat} (h : JAt T k) : k ≤ (jn T k).1.length := by
  cases k with
  | zero => exact Nat.zero_le _
  | succ k =>
    have h1 := h k (Nat.lt_succ_self k)
    have h2 := (jn_pre T k (k + 1) (Nat.le_succ k)).length_le
    omega
def arcOf (x : Nat × Nat × Nat) : Int × Int × Int × Int × Int := ((x.1 : Int), (x.2.2 : Int), (x.2.1 : Int), (x.2.1 : Int), 0)
/-- the final ones among the first k states -/
def jf (T : Tb) (l : List Nat) (k : Nat) : List Nat := (List.range k).filter fun i => T.fin (l.getD i 0)
theorem jf_up (T : Tb) (l : List Nat) (k : Nat) : jf T l (k + 1) = jf T l k ++ (if T.fin (l.getD k 0) then [k] else []) := by
  unfold jf
  rw [List.range_succ, List.filter_append]
  congr 1
  by_cases h : T.fin (l.getD k 0) = true
  · simp only [List.getD_eq_getElem?_getD] at h; simp [h]
  · simp only [List.getD_eq_getElem?_getD] at h; simp [h]
theorem jf_pre (T : Tb) {l l' : List Nat} (h : l <+: l') (k : Nat) (hk : k ≤ l.length) : jf T l k = jf T l' k := by
  unfold jf
  apply List.filter_congr
  intro i hi
  have hi2 := List.mem_range.1 hi
  obtain ⟨r, rfl⟩ := h
  rw [List.getD_eq_getElem?_getD, List.getD_eq_getElem?_getD, List.getElem?_append_left (by omega)]
theorem jf_len (T : Tb) (l : List Nat) (k : Nat) : (jf T l k).length ≤ k := by
  have := List.length_filter_le (fun i => T.fin (l.getD i 0)) (List.range k)
  rw [List.length_range] at this
  exact this
def finOf (i : Nat) : Int × Int := ((i : Int), 0)
/-- the small sure machine -/
def IsSure (T : Tb) (m : M) : Prop := (¬ T.Live (some 0) ∧ m = ⟨1, [], []⟩) ∨ (T.Live (some 0) ∧ ∃ k, JAt T k ∧ (jn T k).1.length = k ∧ m = ⟨(k : Int), (jn T k).2.map arcOf, (jf T (jn T k).1 k).map finOf⟩)
theorem IsSure.one {T : Tb} {m m' : M} (h : IsSure T m) (h' : IsSure T m') : m = m' := by
  rcases h with ⟨h1, rfl⟩ | ⟨h1, k, h2, h3, rfl⟩
  · rcases h' with ⟨_, rfl⟩ | ⟨h4, _⟩
    · rfl
    · exact absurd h4 h1
  · rcases h' with ⟨h4, _⟩ | ⟨_, l, h4, h5, rfl⟩
    · exact absurd h1 h4
    · obtain rfl := end_one (fun i => (jn T i).1) List.length (k := k) (l := l) (by omega) h2 (by omega) h4
      rfl
end Go.Proofs.YtfjocafepigijaaDoor.Su
/- Duos of two tables, by texts that get longer, in plain words: the first duo of which just one ends; leaving out where both are nowhere changes nothing. No program text; no conditions. -/
namespace Go.Proofs.YtfjocafepigijaaDoor.Su

abbrev Duo := Option Nat × Option Nat
abbrev Vis := Duo × List Nat
def nn : Duo := (none, none)
/-- was the duo come to? -/
def hasD (l : List Vis) (q : Duo) : Bool := l.any fun x => decide (x.1 = q)
theorem hasD_iff {l : List Vis} {q : Duo} : hasD l q = true ↔ ∃ x ∈ l, x.1 = q := by
  unfold hasD
  rw [List.any_eq_true]
  constructor
  · rintro ⟨x, hx, h⟩; exact ⟨x, hx, of_decide_eq_true h⟩
  · rintro ⟨x, hx, h⟩; exact ⟨x, hx, decide_eq_true h⟩
/-- where a symbol leads both -/
def dst (T U : Tb) (d : Duo) (c : Nat) : Duo := (T.st d.1 c, U.st d.2 c)
/-- does just one end here? -/
def df (T U : Tb) (d : Duo) : Bool := T.fo d.1 != U.fo d.2
theorem df_nn (T U : Tb) : df T U nn = false := rfl
theorem dst_nn (T U : Tb) (c : Nat) : dst T U nn c = nn := rfl
/-- had: was it come to (z: or is it nowhere)? -/
def hd (z : Bool) (l : List Vis) (q : Duo) : Bool := (z && decide (q = nn)) || hasD l q
/-- a symbol more -/
def bs (T U : Tb) (z : Bool) (p : Vis) (l : List Vis) (c : Nat) : List Vis := if hd z l (dst T U p.1 c) = true then l else l ++ [(dst T U p.1 c, p.2 ++ [c])]
def br (T U : Tb) (z : Bool) (p : Vis) (l : List Vis) (c : Nat) : List Vis := (List.range' 1 c).foldl (bs T U z p) l
theorem br_zero (T U : Tb) (z : Bool) (p : Vis) (l : List Vis) : br T U z p l 0 = l := rfl
theorem br_up (T U : Tb) (z : Bool) (p : Vis) (l : List Vis) (c : Nat) : br T U z p l (c + 1) = bs T U z p (br T U z p l c) (c + 1) := by
  unfold br
  rw [List.range'_concat, List.foldl_append]
  simp [Nat.add_comm]
def v0 : Vis := ((some 0, some 0), [])
def bf (T U : Tb) (z : Bool) : Nat → List Vis
  | 0 => [v0]
  | k + 1 => br T U z ((bf T U z k).getD k v0) (bf T U z k) 60
theorem bf_up (T U : Tb) (z : Bool) (k : Nat) : bf T U z (k + 1) = br T U z ((bf T U z k).getD k v0) (bf T U z k) 60 := rfl
theorem bs_pre (T U : Tb) (z : Bool) (p : Vis) (l : List Vis) (c : Nat) : l <+: bs T U z p l c := by
  unfold bs
  split
  · exact List.prefix_refl _
  · exact List.prefix_append _ _
theorem br_pre (T U : Tb) (z : Bool) (p : Vis) (l : List Vis) : ∀ c d, c ≤ d → br T U z p l c <+: br T U z p l d := by
  intro c d h
  induction h with
  | refl => exact List.prefix_refl _
  | step _ ih => rw [br_up]; exact ih.trans (bs_pre _ _ _ _ _ _)
theorem bf_pre (T U : Tb) (z : Bool) : ∀ i j, i ≤ j → bf T U z i <+: bf T U z j := by
  intro i j h
  induction h with
  | refl => exact List.prefix_refl _
  | step _ ih => exact ih.trans (br_pre T U z _ _ 0 60 (by omega))
theorem pre_get {α : Type} {l l' : List α} (h : l <+: l') {i : Nat} {x : α} (hx : l[i]? = some x) : l'[i]? = some x := by
  obtain ⟨r, rfl⟩ := h
  have hi := (List.getElem?_eq_some_iff.1 hx).1
  rw [List.getElem?_append_left hi]
  exact hx
/-- the run stands at visit k, and none before it told the two apart -/
structure BAt (T U : Tb) (z : Bool) (k : Nat) : Prop where
  run : ∀ i, i < k → i < (bf T U z i).length
  no : ∀ i e, i < k → (bf T U z k)[i]? = some e → df T U e.1 = false
theorem BAt.zero (T U : Tb) (z : Bool) : BAt T U z 0 := ⟨fun i h => absurd h (Nat.not_lt_zero i), fun i _ h => absurd h (Nat.not_lt_zero i)⟩
theorem BAt.up {T U : Tb} {z : Bool} {k : Nat} {e : Vis} (h : BAt T U z k) (he : (bf T U z k)[k]? = some e) (hn : df T U e.1 = false) : BAt T U z (k + 1) := by
  have hp := bf_pre T U z k (k + 1) (Nat.le_succ k)
  refine ⟨fun i hi => ?_, fun i e' hi he' => ?_⟩
  · rcases Nat.lt_succ_iff_lt_or_eq.1 hi with h1 | rfl
    · exact h.run i h1
    · exact (List.getElem?_eq_some_iff.1 he).1
  · have hk := (List.getElem?_eq_some_iff.1 he).1
    rcases Nat.lt_succ_iff_lt_or_eq.1 hi with h1 | rfl
    · have h2 : (bf T U z k)[i]? = some (bf T U z k)[i] := List.getElem?_eq_getElem (by omega)
      rw [pre_get hp h2] at he'
      cases he'
      exact h.no i _ h1 h2
    · rw [pre_get hp he] at he'
      cases he'
      exact hn
theorem BAt.le {T U : Tb} {z : Bool} {k : Nat} (h : BAt T U z k) : k ≤ (bf T U z k).length := by
  cases k with
  | zero => exact Nat.zero_le _
  | succ k =>
    have h1 := h.run k (Nat.lt_succ_self k)
    have h2 := (bf_pre T U z k (k + 1) (Nat.le_succ k)).length_le
    omega
/-- the answer: the first text that just one reads, or that there is none -/
def IsAp (T U : Tb) (z : Bool) (r : Option (List Nat)) : Prop := ∃ k, BAt T U z k ∧ ((∃ e, (bf T U z k)[k]? = some e ∧ df T U e.1 = true ∧ r = some e.2) ∨ ((bf T U z k).length = k ∧ r = none))
theorem IsAp.one {T U : Tb} {z : Bool} {r r' : Option (List Nat)} (h : IsAp T U z r) (h' : IsAp T U z r') : r = r' := by
  have key : ∀ {k k' : Nat}, BAt T U z k → BAt T U z k' → k < k' → ((∃ e, (bf T U z k)[k]? = some e ∧ df T U e.1 = true) ∨ (bf T U z k).length = k) → False := by
    intro k k' _ hk' hlt hor
    rcases hor with ⟨e, he, hd⟩ | hl
    · have h1 := hk'.no k e hlt (pre_get (bf_pre T U z k k' (Nat.le_of_lt hlt)) he)
      rw [hd] at h1
      cases h1
    · have := hk'.run k hlt
      omega
  obtain ⟨k, hk, ho⟩ := h
  obtain ⟨k', hk', ho'⟩ := h'
  have w1 : (∃ e, (bf T U z k)[k]? = some e ∧ df T U e.1 = true) ∨ (bf T U z k).length = k := by
    rcases ho with ⟨e, h1, h2, _⟩ | ⟨h1, _⟩
    · exact .inl ⟨e, h1, h2⟩
    · exact .inr h1
  have w2 : (∃ e, (bf T U z k')[k']? = some e ∧ df T U e.1 = true) ∨ (bf T U z k').length = k' := by
    rcases ho' with ⟨e, h1, h2, _⟩ | ⟨h1, _⟩
    · exact .inl ⟨e, h1, h2⟩
    · exact .inr h1
  rcases Nat.lt_trichotomy k k' with h | rfl | h
  · exact (key hk hk' h w1).elim
  · rcases ho with ⟨e, h1, h2, rfl⟩ | ⟨h1, rfl⟩
    · rcases ho' with ⟨e', h1', h2', rfl⟩ | ⟨h1', rfl⟩
      · rw [h1] at h1'; cases h1'; rfl
      · have := (List.getElem?_eq_some_iff.1 h1).1; omega
    · rcases ho' with ⟨e', h1', h2', rfl⟩ | ⟨h1', rfl⟩
      · have := (List.getElem?_eq_some_iff.1 h1').1; omega
      · rfl
  · exact (key hk' hk h w2).elim
/-- without where both are nowhere -/
def flt (l : List Vis) : List Vis := l.filter fun x => decide (x.1 ≠ nn)
theorem flt_append (a b : List Vis) : flt (a ++ b) = flt a ++ flt b := List.filter_append ..
theorem flt_hasD {l : List Vis} {q : Duo} (h : q ≠ nn) : hasD (flt l) q = hasD l q := by
  rw [Bool.eq_iff_iff, hasD_iff, hasD_iff]
  constructor
  · rintro ⟨x, hx, rfl⟩
    exact ⟨x, (List.mem_filter.1 hx).1, rfl⟩
  · rintro ⟨x, hx, rfl⟩
    exact ⟨x, List.mem_filter.2 ⟨hx, by simpa using h⟩, rfl⟩
theorem flt_bs (T U : Tb) (p : Vis) (l : List Vis) (c : Nat) : flt (bs T U false p l c) = bs T U true p (flt l) c := by
  by_cases hq : dst T U p.1 c = nn
  · have h1 : bs T U true p (flt l) c = flt l := by
      unfold bs hd
      rw [if_pos]
      simp [hq]
    rw [h1]
    unfold bs
    split
    · rfl
    · rw [flt_append]
      have : flt [(dst T U p.1 c, p.2 ++ [c])] = [] := by simp [flt, hq]
      rw [this, List.append_nil]
  · have h2 := flt_hasD (l := l) hq
    unfold bs hd
    rw [h2]
    have h3 : decide (dst T U p.1 c = nn) = false := decide_eq_false hq
    rw [h3]
    simp only [Bool.and_false, Bool.false_or]
    split
    · rfl
    · rw [flt_append]
      have : flt [(dst T U p.1 c, p.2 ++ [c])] = [(dst T U p.1 c, p.2 ++ [c])] := by simp [flt, hq]
      rw [this]
theorem flt_br (T U : Tb) (p : Vis) (l : List Vis) : ∀ c, flt (br T U false p l c) = br T U true p (flt l) c
  | 0 => rfl
  | c + 1 => by rw [br_up, br_up, flt_bs, flt_br T U p l c]
theorem br_nn {T U : Tb} {p : Vis} {l : List Vis} (hp : p.1 = nn) (hm : p ∈ l) : ∀ c, br T U false p l c = l
  | 0 => rfl
  | c + 1 => by
    rw [br_up, br_nn hp hm c]
    unfold bs
    rw [if_pos]
    unfold hd
    rw [hp, dst_nn]
    simp only [Bool.false_and, Bool.false_or]
    exact hasD_iff.2 ⟨p, hm, hp⟩
theorem flt_at {l : List Vis} {k : Nat} {p : Vis} (h : l[k]? = some p) (hp : p.1 ≠ nn) : (flt l)[(flt (l.take k)).length]? = some p := by
  obtain ⟨h1, h2⟩ := List.getElem?_eq_some_iff.1 h
  have e : l = l.take k ++ p :: l.drop (k + 1) := by
    rw [← h2, ← List.drop_eq_getElem_cons h1, List.take_append_drop]
  have e2 : flt l = flt (l.take k) ++ (p :: flt (l.drop (k + 1))) := by
    have h3 : flt (p :: l.drop (k + 1)) = p :: flt (l.drop (k + 1)) := by simp [flt, hp]
    rw [← h3, ← flt_append, ← e]
  rw [e2, List.getElem?_append_right (Nat.le_refl _), Nat.sub_self]
  rfl
/-- what the program's run has come to, the document's has come to -/
theorem flt_bf (T U : Tb) : ∀ k, BAt T U false k → BAt T U true (flt ((bf T U false k).take k)).length ∧ flt (bf T U false k) = bf T U true (flt ((bf T U false k).take k)).length := by
  intro k
  induction k with
  | zero =>
    intro _
    refine ⟨BAt.zero T U true, ?_⟩
    rfl
  | succ k ih =>
    intro h
    have hrun := h.run k (Nat.lt_succ_self k)
    have hp := bf_pre T U false k (k + 1) (Nat.le_succ k)
    obtain ⟨p, hpk⟩ : ∃ p, (bf T U false k)[k]? = some p := ⟨_, List.getElem?_eq_getElem hrun⟩
    have hpk2 := pre_get hp hpk
    have hdf := h.no k p (Nat.lt_succ_self k) hpk2
    have hk : BAt T U false k := ⟨fun i hi => h.run i (by omega), fun i e hi he => h.no i e (by omega) (pre_get hp he)⟩
    obtain ⟨i1, i2⟩ := ih hk
    have hg : (bf T U false k).getD k v0 = p := by rw [List.getD_eq_getElem?_getD, hpk]; rfl
    have htk : (bf T U false (k + 1)).take (k + 1) = (bf T U false k).take k ++ [p] := by
      obtain ⟨r, hr⟩ := hp
      rw [← hr, List.take_append_of_le_length (by omega), List.take_add_one, hpk]
      rfl
    rw [htk, flt_append]
    by_cases hn : p.1 = nn
    · have e1 : flt [p] = [] := by simp [flt, hn]
      have e2 : bf T U false (k + 1) = bf T U false k := by
        rw [bf_up, hg]
        exact br_nn hn (List.mem_of_getElem? hpk) 60
      rw [e1, List.append_nil, e2]
      exact ⟨i1, i2⟩
    · have e1 : flt [p] = [p] := by simp [flt, hn]
      rw [e1, List.length_append]
      have h3 := flt_at hpk hn
      rw [i2] at h3
      refine ⟨i1.up h3 hdf, ?_⟩
      show flt (bf T U false (k + 1)) = bf T U true ((flt ((bf T U false k).take k)).length + 1)
      rw [bf_up, hg, flt_br, i2, bf_up, List.getD_eq_getElem?_getD, h3]
      rfl
theorem IsAp.of {T U : Tb} {r : Option (List Nat)} (h : IsAp T U false r) : IsAp T U true r := by
  obtain ⟨k, hk, ho⟩ := h
  obtain ⟨i1, i2⟩ := flt_bf T U k hk
  refine ⟨_, i1, ?_⟩
  rcases ho with ⟨e, h1, h2, rfl⟩ | ⟨h1, rfl⟩
  · refine .inl ⟨e, ?_, h2, rfl⟩
    rw [← i2]
    exact flt_at h1 (fun hn => by rw [hn, df_nn] at h2; cases h2)
  · refine .inr ⟨?_, rfl⟩
    rw [← i2, List.take_of_length_le (by omega)]
/-- the duos are rows of both tables or nowhere -/
def InT (n : Nat) (s : Option Nat) : Prop := ∀ i, s = some i → i < n
structure Dus (T U : Tb) (l : List Vis) : Prop where
  left : ∀ x ∈ l, InT T.n x.1.1
  right : ∀ x ∈ l, InT U.n x.1.2
  each : (l.map (·.1)).Nodup
theorem st_in {T : Tb} (h : T.Ok) {s : Option Nat} (hs : InT T.n s) (c : Nat) : InT T.n (T.st s c) := by
  intro i hi
  cases s with
  | none => cases hi
  | some j => exact h j c i (hs j rfl) hi
theorem Dus.bs {T U : Tb} {z : Bool} {p : Vis} {l : List Vis} {c : Nat} (h : Dus T U l) (hT : T.Ok) (hU : U.Ok) (hp1 : InT T.n p.1.1) (hp2 : InT U.n p.1.2) : Dus T U (bs T U z p l c) := by
  unfold Su.bs
  split
  · exact h
  · rename_i hh
    refine ⟨fun x hx => ?_, fun x hx => ?_, ?_⟩
    · rcases List.mem_append.1 hx with hx | hx
      · exact h.left x hx
      · rw [List.mem_singleton.1 hx]; exact st_in hT hp1 c
    · rcases List.mem_append.1 hx with hx | hx
      · exact h.right x hx
      · rw [List.mem_singleton.1 hx]; exact st_in hU hp2 c
    · rw [List.map_append, List.nodup_append]
      refine ⟨h.each, by simp, fun a ha b hb e => ?_⟩
      obtain ⟨x, hx, rfl⟩ := List.mem_map.1 ha
      have hb2 : b = dst T U p.1 c := by simpa using hb
      apply hh
      unfold hd
      rw [hasD_iff.2 ⟨x, hx, e.trans hb2⟩, Bool.or_true]
theorem Dus.br {T U : Tb} {z : Bool} {p : Vis} {l : List Vis} (h : Dus T U l) (hT : T.Ok) (hU : U.Ok) (hp1 : InT T.n p.1.1) (hp2 : InT U.n p.1.2) : ∀ c, Dus T U (br T U z p l c)
  | 0 => h
  | c + 1 => by rw [br_up]; exact (Dus.br h hT hU hp1 hp2 c).bs hT hU hp1 hp2
theorem bf_dus {T U : Tb} (z : Bool) (hT : T.Ok) (hU : U.Ok) (hT0 : 0 < T.n) (hU0 : 0 < U.n) : ∀ k, Dus T U (bf T U z k)
  | 0 => ⟨fun x hx => by rw [List.mem_singleton.1 hx]; intro i hi; cases hi; exact hT0, fun x hx => by rw [List.mem_singleton.1 hx]; intro i hi; cases hi; exact hU0, by simp [bf]⟩
  | k + 1 => by
    have ih := bf_dus z hT hU hT0 hU0 k
    rw [bf_up]
    refine ih.br hT hU ?_ ?_ 60
    · rw [List.getD_eq_getElem?_getD]
      cases e : (bf T U z k)[k]? with
      | none => intro i hi; cases hi; exact hT0
      | some x => exact ih.left x (List.mem_of_getElem? e)
    · rw [List.getD_eq_getElem?_getD]
      cases e : (bf T U z k)[k]? with
      | none => intro i hi; cases hi; exact hU0
      | some x => exact ih.right x (List.mem_of_getElem? e)
def on1 (s : Option Nat) : Nat := match s with | some i => i + 1 | none => 0
theorem on1_inj {s u : Option Nat} (h : on1 s = on1 u) : s = u := by
  cases s <;> cases u <;> simp_all [on1]
theorem on1_lt {n : Nat} {s : Option Nat} (h : InT n s) : on1 s < n + 1 := by
  cases s with
  | none => show 0 < n + 1; omega
  | some i => have := h i rfl; show i + 1 < n + 1; omega
/-- a duo as a number -/
def dno (m : Nat) (d : Duo) : Nat := on1 d.1 * (m + 1) + on1 d.2
theorem dno_inj {m : Nat} {d e : Duo} (hd : InT m d.2) (he : InT m e.2) (h : dno m d = dno m e) : d = e := by
  obtain ⟨a, b⟩ := d
  obtain ⟨a', b'⟩ := e
  unfold dno at h
  dsimp only at h hd he
  have hb := on1_lt hd
  have hb' := on1_lt he
  have h1 : on1 a = on1 a' ∧ on1 b = on1 b' := by
    generalize on1 a = x at *
    generalize on1 a' = x' at *
    generalize on1 b = y at *
    generalize on1 b' = y' at *
    rcases Nat.lt_trichotomy x x' with hx | rfl | hx
    · have : (x + 1) * (m + 1) ≤ x' * (m + 1) := Nat.mul_le_mul_right _ hx
      rw [Nat.add_mul, Nat.one_mul] at this
      omega
    · exact ⟨rfl, by omega⟩
    · have : (x' + 1) * (m + 1) ≤ x * (m + 1) := Nat.mul_le_mul_right _ hx
      rw [Nat.add_mul, Nat.one_mul] at this
      omega
  rw [on1_inj h1.1, on1_inj h1.2]
theorem dno_lt {n m : Nat} {d : Duo} (h1 : InT n d.1) (h2 : InT m d.2) : dno m d < (n + 1) * (m + 1) := by
  have ha := on1_lt h1
  have hb := on1_lt h2
  unfold dno
  generalize on1 d.1 = x at *
  generalize on1 d.2 = y at *
  have : (x + 1) * (m + 1) ≤ (n + 1) * (m + 1) := Nat.mul_le_mul_right _ ha
  rw [Nat.add_mul, Nat.one_mul] at this
  omega
theorem Dus.len {T U : Tb} {l : List Vis} (h : Dus T U l) : l.length ≤ (T.n + 1) * (U.n + 1) := by
  have := inj_len ((T.n + 1) * (U.n + 1)) (l.map fun x => dno U.n x.1) (by
    have h1 := h.each
    rw [List.nodup_iff_pairwise_ne, List.pairwise_map] at h1
    rw [List.nodup_iff_pairwise_ne, List.pairwise_map]
    exact List.Pairwise.imp_of_mem (fun ha hb hne e => hne (dno_inj (h.right _ ha) (h.right _ hb) e)) h1) (fun x hx => by
    obtain ⟨y, hy, rfl⟩ := List.mem_map.1 hx
    exact dno_lt (h.left y hy) (h.right y hy))
  rw [List.length_map] at this
  exact this
end Go.Proofs.YtfjocafepigijaaDoor.Su
