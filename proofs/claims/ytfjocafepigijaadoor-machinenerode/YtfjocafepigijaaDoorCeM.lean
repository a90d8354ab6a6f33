/- Plain facts on going along silent arcs from a queue, in whatever order: what comes of it is the least. No conditions beyond that arcs are right. -/
import Derived.Test.YtfjocafepigijaaDoorCaM
namespace Go.Proofs.YtfjocafepigijaaDoor.Wd
open Mv Wk

def far : Nat := 9223372036854775807
/-- what a row has at a state -/
def cv (R : List Nat) (s : Nat) : Nat := R.getD s far
theorem cv_set (R : List Nat) (q v r : Nat) (hq : q < R.length) : cv (R.set q v) r = if q = r then v else cv R r := by
  unfold cv
  rw [List.getD_eq_getElem?_getD, List.getD_eq_getElem?_getD, List.getElem?_set]
  split
  · simp
  · rfl
def fin (R : List Nat) : Nat := R.countP fun x => decide (x < far)
theorem fin_le (R : List Nat) : fin R ≤ R.length := List.countP_le_length
theorem fin_set (R : List Nat) (q v : Nat) (hq : q < R.length) (hv : v < far) : (cv R q < far → fin (R.set q v) = fin R) ∧ (¬ cv R q < far → fin (R.set q v) = fin R + 1) := by
  have e : cv R q = R[q] := by unfold cv; simp [hq]
  unfold fin
  rw [List.countP_set hq, e]
  constructor
  · intro h
    have hp : 0 < R.countP (fun x => decide (x < far)) := List.countP_pos_iff.2 ⟨R[q], List.getElem_mem hq, by simpa using h⟩
    simp [h, hv]
    omega
  · intro h
    simp [h, hv]

abbrev Arc := Int × Int × Int × Int × Int
/-- the silent arcs that leave a state; the arcs of a label -/
def sil (A : List Arc) (f : Nat) : List Arc := A.filter fun a => a.2.2.1 == 0 && a.2.2.2.1 == 0 && a.1 == (f : Int)
def lab (A : List Arc) (i o : Int) : List Arc := A.filter fun a => a.2.2.1 == i && a.2.2.2.1 == o

/-- a row on its way: what it has is come to -/
structure Row (S : Nat) (P : Nat → Nat → Prop) (bd : Nat) (R : List Nat) : Prop where
  len : R.length = S
  top : ∀ s, cv R s ≤ far
  real : ∀ s, s < S → cv R s < far → P s (cv R s)
  small : ∀ s, cv R s < far → cv R s ≤ bd + 1000000 * fin R

/-- what a row weighs, with so much for what is not come to -/
def pot (cap : Nat) (R : List Nat) : Nat := (R.map fun v => if v < far then v else cap).sum
theorem pot_set (cap : Nat) (R : List Nat) (q v : Nat) (hq : q < R.length) : pot cap (R.set q v) + (if cv R q < far then cv R q else cap) = pot cap R + (if v < far then v else cap) := by
  induction R generalizing q with
  | nil => simp at hq
  | cons a R ih =>
    cases q with
    | zero => simp [pot, cv]; omega
    | succ q =>
      have := ih q (by simpa using hq)
      simp [pot, cv] at this ⊢
      omega

theorem relax {S : Nat} {P : Nat → Nat → Prop} {bd : Nat} {R : List Nat} (h : Row S P bd R) (f t W : Nat) (ht : t < S) (hW : W ≤ 1000000) (hf : cv R f < far) (hlt : cv R f + W < cv R t) (hP : P t (cv R f + W)) :
    Row S P bd (R.set t (cv R f + W)) ∧ pot (bd + 1000000 * S + 1) (R.set t (cv R f + W)) < pot (bd + 1000000 * S + 1) R ∧ (∀ s, cv (R.set t (cv R f + W)) s ≤ cv R s) ∧ cv (R.set t (cv R f + W)) t = cv R f + W ∧ (∀ s, s ≠ t → cv (R.set t (cv R f + W)) s = cv R s) ∧ cv R f + W < far := by
  have htl : t < R.length := by rw [h.len]; exact ht
  have hsm := h.small f hf
  have hfl := fin_le R
  rw [h.len] at hfl
  generalize hp : cv R f = p at *
  have hvd : p + W < far := Nat.lt_of_lt_of_le hlt (h.top t)
  have hfs := fin_set R t (p + W) htl hvd
  have hge : fin R ≤ fin (R.set t (p + W)) := by
    by_cases hd : cv R t < far
    · rw [hfs.1 hd]; omega
    · rw [hfs.2 hd]; omega
  have hle : ∀ s, cv (R.set t (p + W)) s ≤ cv R s := by
    intro s
    rw [cv_set R t _ s htl]
    split
    · rename_i e; subst e; omega
    · omega
  have hps := pot_set (bd + 1000000 * S + 1) R t (p + W) htl
  have hfl2 : fin (R.set t (p + W)) ≤ S := by have := fin_le (R.set t (p + W)); rw [List.length_set, h.len] at this; exact this
  have hsv : p + W ≤ bd + 1000000 * fin (R.set t (p + W)) := by
    by_cases hd : cv R t < far
    · have := h.small t hd
      rw [hfs.1 hd]
      omega
    · rw [hfs.2 hd]
      omega
  have hmul : 1000000 * fin (R.set t (p + W)) ≤ 1000000 * S := Nat.mul_le_mul_left _ hfl2
  refine ⟨⟨by rw [List.length_set]; exact h.len, ?_, ?_, ?_⟩, ?_, hle, by rw [cv_set R t _ t htl]; simp, fun s hs => by rw [cv_set R t _ s htl, if_neg (fun e => hs e.symm)], hvd⟩
  · intro s
    exact Nat.le_trans (hle s) (h.top s)
  · intro s hs
    rw [cv_set R t _ s htl]
    split
    · rename_i e; subst e; intro _; exact hP
    · exact h.real s hs
  · intro s
    rw [cv_set R t _ s htl]
    split
    · intro _; exact hsv
    · intro hd
      have := h.small s hd
      omega
  · rw [if_pos hvd] at hps
    split at hps <;> omega

/-- an entry of the queue -/
def Ent (S : Nat) (R : List Nat) (e : Int × Int) : Prop := ∃ c s : Nat, e = ((c : Int), (s : Int)) ∧ s < S ∧ c < far ∧ cv R s ≤ c
/-- no silent arc of a state betters anything -/
def Done (A : List Arc) (R : List Nat) (f : Nat) : Prop := ∀ a ∈ sil A f, ∀ t W : Nat, a.2.1 = (t : Int) → a.2.2.2.2 = (W : Int) → cv R t ≤ cv R f + W
structure Dij (A : List Arc) (S : Nat) (P : Nat → Nat → Prop) (bd : Nat) (H R : List Nat) (es : List (Int × Int)) : Prop where
  row : Row S P bd R
  le : ∀ s, cv R s ≤ cv H s
  q : ∀ e ∈ es, Ent S R e
  rel : ∀ f, f < S → cv R f < far → ((cv R f : Int), (f : Int)) ∈ es ∨ Done A R f
  qb : es.length + pot (bd + 1000000 * S + 1) R ≤ S + pot (bd + 1000000 * S + 1) H
/-- while the silent arcs of f are gone along: the first y are -/
structure Inn (A : List Arc) (S : Nat) (P : Nat → Nat → Prop) (bd : Nat) (H : List Nat) (f c M : Nat) (R : List Nat) (es : List (Int × Int)) (y : Nat) : Prop where
  row : Row S P bd R
  le : ∀ s, cv R s ≤ cv H s
  q : ∀ e ∈ es, Ent S R e
  here : cv R f = c
  done : ∀ k, k < y → ∀ h : k < (sil A f).length, ∀ t W : Nat, ((sil A f)[k]).2.1 = (t : Int) → ((sil A f)[k]).2.2.2.2 = (W : Int) → cv R t ≤ c + W
  rel : ∀ g, g < S → g ≠ f → cv R g < far → ((cv R g : Int), (g : Int)) ∈ es ∨ Done A R g
  qb : es.length + pot (bd + 1000000 * S + 1) R ≤ S + pot (bd + 1000000 * S + 1) H
  ms : 2 * pot (bd + 1000000 * S + 1) R + es.length ≤ M

theorem Ent.mono {S : Nat} {R R' : List Nat} {e : Int × Int} (h : Ent S R e) (hle : ∀ s, cv R' s ≤ cv R s) : Ent S R' e := by
  obtain ⟨c, s, e1, h1, h2, h3⟩ := h
  exact ⟨c, s, e1, h1, h2, Nat.le_trans (hle s) h3⟩
/-- an entry is taken that is no longer so cheap -/
theorem Dij.stale {A : List Arc} {S : Nat} {P : Nat → Nat → Prop} {bd : Nat} {H R : List Nat} {es es' : List (Int × Int)} {c f : Nat} (h : Dij A S P bd H R es) (hp : es.Perm (((c : Int), (f : Int)) :: es')) (hc : cv R f < c) : Dij A S P bd H R es' := by
  refine ⟨h.row, h.le, fun e he => h.q e (hp.mem_iff.2 (List.mem_cons_of_mem _ he)), fun g hg hd => ?_, ?_⟩
  · rcases h.rel g hg hd with h1 | h1
    · rcases List.mem_cons.1 (hp.mem_iff.1 h1) with h2 | h2
      · simp only [Prod.mk.injEq] at h2
        have : g = f := by omega
        subst this
        omega
      · exact .inl h2
    · exact .inr h1
  · have := hp.length_eq
    have := h.qb
    simp only [List.length_cons] at *
    omega
theorem Dij.take {A : List Arc} {S : Nat} {P : Nat → Nat → Prop} {bd : Nat} {H R : List Nat} {es es' : List (Int × Int)} {c f : Nat} (h : Dij A S P bd H R es) (hp : es.Perm (((c : Int), (f : Int)) :: es')) (hc : cv R f = c) : Inn A S P bd H f c (2 * pot (bd + 1000000 * S + 1) R + es'.length) R es' 0 := by
  refine ⟨h.row, h.le, fun e he => h.q e (hp.mem_iff.2 (List.mem_cons_of_mem _ he)), hc, fun k hk => absurd hk (Nat.not_lt_zero _), fun g hg hgf hd => ?_, ?_, Nat.le_refl _⟩
  · rcases h.rel g hg hd with h1 | h1
    · rcases List.mem_cons.1 (hp.mem_iff.1 h1) with h2 | h2
      · simp only [Prod.mk.injEq] at h2
        exact absurd (show g = f by omega) hgf
      · exact .inl h2
    · exact .inr h1
  · have := hp.length_eq
    have := h.qb
    simp only [List.length_cons] at *
    omega
theorem Inn.skip {A : List Arc} {S : Nat} {P : Nat → Nat → Prop} {bd : Nat} {H : List Nat} {f c M : Nat} {R : List Nat} {es : List (Int × Int)} {y t W : Nat} (h : Inn A S P bd H f c M R es y) (hy : y < (sil A f).length) (ht : ((sil A f)[y]).2.1 = (t : Int)) (hW : ((sil A f)[y]).2.2.2.2 = (W : Int)) (hge : ¬ c + W < cv R t) : Inn A S P bd H f c M R es (y + 1) := by
  refine ⟨h.row, h.le, h.q, h.here, fun k hk hkl t' W' e1 e2 => ?_, h.rel, h.qb, h.ms⟩
  by_cases e : k = y
  · subst e
    rw [ht] at e1
    rw [hW] at e2
    have : t = t' := by omega
    have : W = W' := by omega
    subst_vars
    omega
  · exact h.done k (by omega) hkl t' W' e1 e2
theorem Inn.took {A : List Arc} {S : Nat} {P : Nat → Nat → Prop} {bd : Nat} {H : List Nat} {f c M : Nat} {R : List Nat} {es es' : List (Int × Int)} {y t W : Nat} (h : Inn A S P bd H f c M R es y) (hy : y < (sil A f).length) (ht : ((sil A f)[y]).2.1 = (t : Int)) (hW : ((sil A f)[y]).2.2.2.2 = (W : Int)) (hts : t < S) (hWb : W ≤ 1000000) (hcf : c < far) (hP : P t (c + W)) (hlt : c + W < cv R t) (hp : es'.Perm ((((c + W : Nat) : Int), (t : Int)) :: es)) :
    Inn A S P bd H f c M (R.set t (c + W)) es' (y + 1) := by
  obtain ⟨r1, r2, r3, r4, r5, r6⟩ := relax h.row f t W hts hWb (by rw [h.here]; exact hcf) (by rw [h.here]; exact hlt) (by rw [h.here]; exact hP)
  rw [h.here] at r1 r2 r3 r4 r5 r6
  have hne : f ≠ t := fun e => by subst e; have := h.here; omega
  have hlen := hp.length_eq
  have hqb := h.qb
  have hms := h.ms
  simp only [List.length_cons] at hlen
  refine ⟨r1, fun s => Nat.le_trans (r3 s) (h.le s), fun e he => ?_, by rw [r5 f hne]; exact h.here, fun k hk hkl t' W' e1 e2 => ?_, fun g hg hgf hd => ?_, by omega, by omega⟩
  · rcases List.mem_cons.1 (hp.mem_iff.1 he) with rfl | h2
    · exact ⟨c + W, t, rfl, hts, r6, by rw [r4]; exact Nat.le_refl _⟩
    · exact (h.q e h2).mono r3
  · by_cases e : k = y
    · subst e
      rw [ht] at e1
      rw [hW] at e2
      have : t = t' := by omega
      have : W = W' := by omega
      subst_vars
      rw [r4]
      exact Nat.le_refl _
    · exact Nat.le_trans (r3 t') (h.done k (by omega) hkl t' W' e1 e2)
  · by_cases e : g = t
    · subst e
      exact .inl (hp.mem_iff.2 (by rw [r4]; exact List.mem_cons_self))
    · rw [r5 g e] at hd ⊢
      rcases h.rel g hg hgf hd with h1 | h1
      · exact .inl (hp.mem_iff.2 (List.mem_cons_of_mem _ h1))
      · refine .inr (fun a ha t' W' e1 e2 => ?_)
        rw [r5 g e]
        exact Nat.le_trans (r3 t') (h1 a ha t' W' e1 e2)
theorem Inn.fin {A : List Arc} {S : Nat} {P : Nat → Nat → Prop} {bd : Nat} {H : List Nat} {f c M : Nat} {R : List Nat} {es : List (Int × Int)} (h : Inn A S P bd H f c M R es (sil A f).length) : Dij A S P bd H R es := by
  refine ⟨h.row, h.le, h.q, fun g hg hd => ?_, h.qb⟩
  by_cases e : g = f
  · subst e
    refine .inr (fun a ha t W e1 e2 => ?_)
    obtain ⟨k, hk, rfl⟩ := List.getElem_of_mem ha
    rw [h.here]
    exact h.done k hk hk t W e1 e2
  · exact h.rel g hg e hd
/-- the first loop: what is come to waits -/
structure Ph (A : List Arc) (S : Nat) (H : List Nat) (k : Nat) (es : List (Int × Int)) : Prop where
  q : ∀ e ∈ es, Ent S H e
  rel : ∀ f, f < k → cv H f < far → ((cv H f : Int), (f : Int)) ∈ es ∨ sil A f = []
  len : es.length ≤ k
theorem Ph.start (A : List Arc) (S : Nat) (H : List Nat) : Ph A S H 0 [] := ⟨fun _ he => (List.not_mem_nil he).elim, fun _ hf => absurd hf (Nat.not_lt_zero _), Nat.le_refl _⟩
theorem Ph.skip {A : List Arc} {S : Nat} {H : List Nat} {k : Nat} {es : List (Int × Int)} (h : Ph A S H k es) (hs : ¬ cv H k < far ∨ sil A k = []) : Ph A S H (k + 1) es := by
  refine ⟨h.q, fun f hf hd => ?_, Nat.le_succ_of_le h.len⟩
  by_cases e : f = k
  · subst e
    rcases hs with hs | hs
    · exact absurd hd hs
    · exact .inr hs
  · exact h.rel f (by omega) hd
theorem Ph.push {A : List Arc} {S : Nat} {H : List Nat} {k : Nat} {es es' : List (Int × Int)} (h : Ph A S H k es) (hk : k < S) (hd : cv H k < far) (hp : es'.Perm (((cv H k : Int), (k : Int)) :: es)) : Ph A S H (k + 1) es' := by
  have hlen := hp.length_eq
  have hl := h.len
  simp only [List.length_cons] at hlen
  refine ⟨fun e he => ?_, fun f hf hd' => ?_, by omega⟩
  · rcases List.mem_cons.1 (hp.mem_iff.1 he) with rfl | h2
    · exact ⟨cv H k, k, rfl, hk, hd, Nat.le_refl _⟩
    · exact h.q e h2
  · by_cases e : f = k
    · subst e
      exact .inl (hp.mem_iff.2 List.mem_cons_self)
    · rcases h.rel f (by omega) hd' with h1 | h1
      · exact .inl (hp.mem_iff.2 (List.mem_cons_of_mem _ h1))
      · exact .inr h1
theorem Ph.fin {A : List Arc} {S : Nat} {P : Nat → Nat → Prop} {bd : Nat} {H : List Nat} {es : List (Int × Int)} (h : Ph A S H S es) (hr : Row S P bd H) : Dij A S P bd H H es := by
  refine ⟨hr, fun _ => Nat.le_refl _, h.q, fun f hf hd => ?_, Nat.add_le_add_right h.len _⟩
  rcases h.rel f hf hd with h1 | h1
  · exact .inl h1
  · exact .inr (fun a ha => by rw [h1] at ha; exact (List.not_mem_nil ha).elim)
/-- a row along which no silent arc betters anything -/
structure Settled (A : List Arc) (S : Nat) (P : Nat → Nat → Prop) (bd : Nat) (H R : List Nat) : Prop where
  row : Row S P bd R
  le : ∀ s, cv R s ≤ cv H s
  done : ∀ f, f < S → cv R f < far → Done A R f
theorem Dij.fin {A : List Arc} {S : Nat} {P : Nat → Nat → Prop} {bd : Nat} {H R : List Nat} (h : Dij A S P bd H R []) : Settled A S P bd H R :=
  ⟨h.row, h.le, fun f hf hd => (h.rel f hf hd).resolve_left (List.not_mem_nil)⟩
theorem pot_le {S : Nat} {P : Nat → Nat → Prop} {bd : Nat} {R : List Nat} (h : Row S P bd R) : pot (bd + 1000000 * S + 1) R ≤ S * (bd + 1000000 * S + 1) := by
  have hfl := fin_le R
  rw [h.len] at hfl
  have hm : 1000000 * fin R ≤ 1000000 * S := Nat.mul_le_mul_left _ hfl
  have key : ∀ L : List Nat, (∀ v ∈ L, (if v < far then v else bd + 1000000 * S + 1) ≤ bd + 1000000 * S + 1) → pot (bd + 1000000 * S + 1) L ≤ L.length * (bd + 1000000 * S + 1) := by
    intro L hL
    induction L with
    | nil => simp [pot]
    | cons a L ih =>
      have h1 := ih (fun v hv => hL v (List.mem_cons_of_mem _ hv))
      have h2 := hL a List.mem_cons_self
      have e : pot (bd + 1000000 * S + 1) (a :: L) = (if a < far then a else bd + 1000000 * S + 1) + pot (bd + 1000000 * S + 1) L := by simp [pot]
      rw [e, List.length_cons, Nat.add_mul, Nat.one_mul]
      omega
  have := key R (fun v hv => by
    split
    · rename_i hd
      obtain ⟨k, hk, rfl⟩ := List.getElem_of_mem hv
      have e : cv R k = R[k] := by unfold cv; simp [hk]
      have := h.small k (by rw [e]; exact hd)
      rw [e] at this
      omega
    · omega)
  rw [h.len] at this
  exact this
end Go.Proofs.YtfjocafepigijaaDoor.Wd
/- The sets of a plain machine's states, from that of the first state on, in plain words: what is come to reading nothing, behind a symbol; the table row by row. No program text; no conditions. -/
namespace Go.Proofs.YtfjocafepigijaaDoor.Su
open Mv

/-- is a state in the set? -/
def has (bs : List Bool) (x : Nat) : Prop := bs[x]? = some true
/-- an arc that reads c leads from u to v -/
def Ed (A : List (Int × Int × Int × Int × Int)) (c : Int) (u v : Nat) : Prop := ∃ a ∈ A, a.1 = (u : Int) ∧ a.2.1 = (v : Int) ∧ a.2.2.1 = c
def ClN (A : List (Int × Int × Int × Int × Int)) : Nat → Nat → Nat → Prop
  | 0, u, v => u = v
  | n + 1, u, v => ∃ x, ClN A n u x ∧ Ed A 0 x v
/-- one comes there reading nothing -/
def Cl (A : List (Int × Int × Int × Int × Int)) (u v : Nat) : Prop := ∃ n, ClN A n u v
theorem Cl.refl {A : List (Int × Int × Int × Int × Int)} (u : Nat) : Cl A u u := ⟨0, rfl⟩
theorem Cl.step {A : List (Int × Int × Int × Int × Int)} {u x v : Nat} (h : Cl A u x) (e : Ed A 0 x v) : Cl A u v := by
  obtain ⟨n, h⟩ := h
  exact ⟨n + 1, x, h, e⟩
open Classical in
/-- the set of those that have a property -/
noncomputable def mk (S : Nat) (p : Nat → Prop) : List Bool := (List.range S).map fun v => decide (p v)
theorem mk_len (S : Nat) (p : Nat → Prop) : (mk S p).length = S := by simp [mk]
open Classical in
theorem mk_at {S : Nat} {p : Nat → Prop} {v : Nat} (h : v < S) : (mk S p)[v]? = some (decide (p v)) := by simp [mk, h]
theorem mk_has {S : Nat} {p : Nat → Prop} {v : Nat} : has (mk S p) v ↔ v < S ∧ p v := by
  unfold has
  by_cases h : v < S
  · rw [mk_at h]; simp [h]
  · rw [List.getElem?_eq_none (by rw [mk_len]; omega)]; simp [h]
/-- two sets of one length are the same if they have the same -/
theorem bs_ext {S : Nat} {a b : List Bool} (ha : a.length = S) (hb : b.length = S) (h : ∀ v, v < S → (has a v ↔ has b v)) : a = b := by
  apply List.ext_getElem?
  intro v
  by_cases hv : v < S
  · have h1 := h v hv
    unfold has at h1
    rw [List.getElem?_eq_getElem (by omega), List.getElem?_eq_getElem (by omega)] at h1 ⊢
    cases e1 : a[v] <;> cases e2 : b[v] <;> simp_all
  · rw [List.getElem?_eq_none (by omega), List.getElem?_eq_none (by omega)]
/-- a set with those to which one comes reading nothing -/
noncomputable def clo (S : Nat) (A : List (Int × Int × Int × Int × Int)) (bs : List Bool) : List Bool := mk S fun v => ∃ u, has bs u ∧ Cl A u v
/-- the set behind a symbol -/
noncomputable def nx (S : Nat) (A : List (Int × Int × Int × Int × Int)) (bs : List Bool) (c : Nat) : List Bool := clo S A (mk S fun v => ∃ u, has bs u ∧ Ed A (c : Int) u v)
noncomputable def first (S : Nat) (A : List (Int × Int × Int × Int × Int)) : List Bool := clo S A (mk S fun v => v = 0)
theorem clo_len (S : Nat) (A : List (Int × Int × Int × Int × Int)) (bs : List Bool) : (clo S A bs).length = S := mk_len _ _
theorem nx_len (S : Nat) (A : List (Int × Int × Int × Int × Int)) (bs : List Bool) (c : Nat) : (nx S A bs c).length = S := clo_len _ _ _
def void (bs : List Bool) : Bool := bs.all fun b => !b
theorem void_iff {bs : List Bool} : void bs = true ↔ ∀ v, ¬ has bs v := by
  unfold void has
  rw [List.all_eq_true]
  constructor
  · intro h v hv
    have := h true (List.mem_of_getElem? hv)
    simp at this
  · intro h b hb
    cases b with
    | false => rfl
    | true =>
      obtain ⟨i, hi, e⟩ := List.getElem_of_mem hb
      exact absurd (by rw [List.getElem?_eq_getElem hi, e]) (h i)
/-- a symbol more of a row -/
noncomputable def ts (S : Nat) (A : List (Int × Int × Int × Int × Int)) (P : List Bool) (s : List (List Bool) × List (Option Nat)) (c : Nat) : List (List Bool) × List (Option Nat) :=
  if void (nx S A P c) then (s.1, s.2 ++ [none]) else (if s.1.idxOf (nx S A P c) = s.1.length then s.1 ++ [nx S A P c] else s.1, s.2 ++ [some (s.1.idxOf (nx S A P c))])
/-- a row, up to symbol c -/
noncomputable def tr (S : Nat) (A : List (Int × Int × Int × Int × Int)) (sets : List (List Bool)) (P : List Bool) (c : Nat) : List (List Bool) × List (Option Nat) := (List.range' 1 c).foldl (ts S A P) (sets, [])
theorem tr_zero (S : Nat) (A : List (Int × Int × Int × Int × Int)) (sets : List (List Bool)) (P : List Bool) : tr S A sets P 0 = (sets, []) := rfl
theorem tr_up (S : Nat) (A : List (Int × Int × Int × Int × Int)) (sets : List (List Bool)) (P : List Bool) (c : Nat) : tr S A sets P (c + 1) = ts S A P (tr S A sets P c) (c + 1) := by
  unfold tr
  rw [List.range'_concat, List.foldl_append]
  simp [Nat.add_comm]
noncomputable def tab (S : Nat) (A : List (Int × Int × Int × Int × Int)) : Nat → List (List Bool) × List (List (Option Nat))
  | 0 => ([first S A], [])
  | k + 1 => ((tr S A (tab S A k).1 ((tab S A k).1.getD k []) 60).1, (tab S A k).2 ++ [(tr S A (tab S A k).1 ((tab S A k).1.getD k []) 60).2])
theorem ts_pre (S : Nat) (A : List (Int × Int × Int × Int × Int)) (P : List Bool) (s : List (List Bool) × List (Option Nat)) (c : Nat) : s.1 <+: (ts S A P s c).1 := by
  unfold ts
  split
  · exact List.prefix_refl _
  · dsimp only
    split
    · exact List.prefix_append _ _
    · exact List.prefix_refl _
theorem tr_pre (S : Nat) (A : List (Int × Int × Int × Int × Int)) (sets : List (List Bool)) (P : List Bool) : ∀ c d, c ≤ d → (tr S A sets P c).1 <+: (tr S A sets P d).1 := by
  intro c d h
  induction h with
  | refl => exact List.prefix_refl _
  | step _ ih => rw [tr_up]; exact ih.trans (ts_pre _ _ _ _ _)
theorem tab_pre (S : Nat) (A : List (Int × Int × Int × Int × Int)) : ∀ i j, i ≤ j → (tab S A i).1 <+: (tab S A j).1 := by
  intro i j h
  induction h with
  | refl => exact List.prefix_refl _
  | step _ ih => exact ih.trans (tr_pre S A _ _ 0 60 (by omega))
theorem tab_len (S : Nat) (A : List (Int × Int × Int × Int × Int)) : ∀ k, (tab S A k).2.length = k
  | 0 => rfl
  | k + 1 => by show ((tab S A k).2 ++ [_]).length = _; rw [List.length_append, tab_len]; rfl
theorem tr_len (S : Nat) (A : List (Int × Int × Int × Int × Int)) (sets : List (List Bool)) (P : List Bool) : ∀ c, (tr S A sets P c).2.length = c
  | 0 => rfl
  | c + 1 => by
    rw [tr_up]
    unfold ts
    split <;> simp [tr_len S A sets P c]
/-- the run stands at row k -/
def At (S : Nat) (A : List (Int × Int × Int × Int × Int)) (k : Nat) : Prop := ∀ i, i < k → i < (tab S A i).1.length
theorem At.up {S : Nat} {A : List (Int × Int × Int × Int × Int)} {k : Nat} (h : At S A k) (hk : k < (tab S A k).1.length) : At S A (k + 1) := fun i hi => by
  rcases Nat.lt_succ_iff_lt_or_eq.1 hi with h1 | rfl
  · exact h i h1
  · exact hk
theorem At.le {S : Nat} {A : List (Int × Int × Int × Int × Int)} {k : Nat} (h : At S A k) : k ≤ (tab S A k).1.length := by
  cases k with
  | zero => exact Nat.zero_le _
  | succ k =>
    have h1 := h k (Nat.lt_succ_self k)
    have h2 := (tab_pre S A k (k + 1) (Nat.le_succ k)).length_le
    omega
/-- there are too many sets -/
def Many (S : Nat) (A : List (Int × Int × Int × Int × Int)) : Prop := ∃ k, At S A k ∧ 500 < (tab S A k).1.length
/-- these are all -/
structure Done (S : Nat) (A : List (Int × Int × Int × Int × Int)) (n : Nat) : Prop where
  at_ : At S A n
  len : (tab S A n).1.length = n
  few : n ≤ 500
theorem Done.of {S : Nat} {A : List (Int × Int × Int × Int × Int)} {k : Nat} (h : At S A k) (hk : ¬ k < (tab S A k).1.length) (hl : (tab S A k).1.length ≤ 500) : Done S A k := by
  have := h.le
  exact ⟨h, by omega, by omega⟩
theorem Done.one {S : Nat} {A : List (Int × Int × Int × Int × Int)} {n m : Nat} (h : Done S A n) (k : Done S A m) : n = m :=
  end_one (fun i => (tab S A i).1) List.length (by rw [h.len]; omega) h.at_ (by rw [k.len]; omega) k.at_
theorem Done.not_many {S : Nat} {A : List (Int × Int × Int × Int × Int)} {n : Nat} (h : Done S A n) : ¬ Many S A := by
  rintro ⟨k, hk, hl⟩
  have hf := h.few
  have hl2 := h.len
  rcases Nat.lt_or_ge n k with hlt | hge
  · have := hk n hlt; omega
  · have := (tab_pre S A k n hge).length_le; omega
/-- the table of a plain machine -/
noncomputable def tbl (S : Nat) (A : List (Int × Int × Int × Int × Int)) (F : List (Int × Int)) (n : Nat) : Tb :=
  ⟨n, fun i c => ((tab S A n).2.getD i []).getD (c - 1) none, fun i => F.any fun f => ((tab S A n).1.getD i []).getD f.1.toNat false⟩
theorem idx_lt {α : Type} [BEq α] [LawfulBEq α] {l : List α} {a : α} (h : ¬ l.idxOf a = l.length) : l.idxOf a < l.length := by
  have := List.idxOf_le_length (l := l) (a := a)
  omega
/-- each number in a row is below the number of sets -/
theorem tr_bound (S : Nat) (A : List (Int × Int × Int × Int × Int)) (sets : List (List Bool)) (P : List Bool) : ∀ (c d j : Nat), (tr S A sets P c).2[d]? = some (some j) → j < (tr S A sets P c).1.length
  | 0, d, j, h => by simp [tr_zero] at h
  | c + 1, d, j, h => by
    have hp := (ts_pre S A P (tr S A sets P c) (c + 1)).length_le
    rw [← tr_up] at hp
    rw [tr_up] at h
    unfold ts at h
    split at h
    · rcases Nat.lt_or_ge d (tr S A sets P c).2.length with hd | hd
      · rw [List.getElem?_append_left hd] at h
        exact Nat.lt_of_lt_of_le (tr_bound S A sets P c d j h) hp
      · rw [List.getElem?_append_right hd] at h
        cases e : d - (tr S A sets P c).2.length <;> rw [e] at h <;> simp at h
    · rename_i hv
      dsimp only at h
      rcases Nat.lt_or_ge d (tr S A sets P c).2.length with hd | hd
      · rw [List.getElem?_append_left hd] at h
        exact Nat.lt_of_lt_of_le (tr_bound S A sets P c d j h) hp
      · rw [List.getElem?_append_right hd] at h
        cases e : d - (tr S A sets P c).2.length with
        | succ x => rw [e] at h; simp at h
        | zero =>
          rw [e] at h
          simp only [List.getElem?_cons_zero, Option.some.injEq] at h
          subst h
          rw [tr_up]
          unfold ts
          rw [if_neg hv]
          dsimp only
          split
          · rename_i hx; rw [List.length_append, hx]; simp
          · rename_i hx; exact idx_lt hx
theorem tab_bound (S : Nat) (A : List (Int × Int × Int × Int × Int)) : ∀ (k i d j : Nat), ((tab S A k).2.getD i [])[d]? = some (some j) → j < (tab S A k).1.length
  | 0, i, d, j, h => by simp [tab] at h
  | k + 1, i, d, j, h => by
    have hp := (tab_pre S A k (k + 1) (Nat.le_succ k)).length_le
    have e : (tab S A (k + 1)).2 = (tab S A k).2 ++ [(tr S A (tab S A k).1 ((tab S A k).1.getD k []) 60).2] := rfl
    rw [e, List.getD_eq_getElem?_getD] at h
    rcases Nat.lt_or_ge i (tab S A k).2.length with hi | hi
    · rw [List.getElem?_append_left hi, ← List.getD_eq_getElem?_getD] at h
      exact Nat.lt_of_lt_of_le (tab_bound S A k i d j h) hp
    · rw [List.getElem?_append_right hi] at h
      cases e2 : i - (tab S A k).2.length with
      | succ x => rw [e2] at h; simp at h
      | zero =>
        rw [e2] at h
        simp only [List.getElem?_cons_zero, Option.getD_some] at h
        exact tr_bound S A _ _ 60 d j h
theorem tbl_ok {S : Nat} {A : List (Int × Int × Int × Int × Int)} {F : List (Int × Int)} {n : Nat} (h : Done S A n) : (tbl S A F n).Ok := by
  intro i c j _ hj
  have hj2 : (((tab S A n).2.getD i []).getD (c - 1) none) = some j := hj
  show j < n
  have := tab_bound S A n i (c - 1) j (by
    rw [List.getD_eq_getElem?_getD] at hj2
    cases e : ((tab S A n).2.getD i [])[c - 1]? with
    | none => rw [e] at hj2; cases hj2
    | some o => rw [e] at hj2; simp at hj2; rw [hj2])
  rw [h.len] at this
  exact this
end Go.Proofs.YtfjocafepigijaaDoor.Su
/- What the table of a machine's sets reads is what the machine reads. In plain words: no program text. Condition: arcs lead to states, finals are no less than 0. -/
namespace Go.Proofs.YtfjocafepigijaaDoor.Su
open Mv

/-- from a state on, the text is read -/
def Rd (A : List (Int × Int × Int × Int × Int)) (F : List (Int × Int)) : Nat → List Nat → Prop
  | u, [] => ∃ v, Cl A u v ∧ ∃ f ∈ F, f.1 = ((v : Nat) : Int)
  | u, c :: t => ∃ v v', Cl A u v ∧ Ed A (c : Int) v v' ∧ Rd A F v' t
theorem ClN.trans {A : List (Int × Int × Int × Int × Int)} {u v : Nat} (h : Cl A u v) : ∀ (n w : Nat), ClN A n v w → Cl A u w
  | 0, w, e => by have e2 : v = w := e; subst e2; exact h
  | n + 1, w, ⟨x, h1, h2⟩ => (ClN.trans h n x h1).step h2
theorem Cl.trans {A : List (Int × Int × Int × Int × Int)} {u v w : Nat} (h : Cl A u v) (k : Cl A v w) : Cl A u w := by
  obtain ⟨n, k⟩ := k
  exact ClN.trans h n w k
theorem rd_cl {A : List (Int × Int × Int × Int × Int)} {F : List (Int × Int)} {u v : Nat} (h : Cl A u v) : ∀ {t : List Nat}, Rd A F v t → Rd A F u t
  | [], ⟨x, h1, h2⟩ => ⟨x, h.trans h1, h2⟩
  | _ :: _, ⟨x, y, h1, h2, h3⟩ => ⟨x, y, h.trans h1, h2, h3⟩
/-- arcs lead to states -/
def Led (S : Nat) (A : List (Int × Int × Int × Int × Int)) : Prop := ∀ c u v, Ed A c u v → v < S
theorem cl_lt {S : Nat} {A : List (Int × Int × Int × Int × Int)} (hL : Led S A) {u v : Nat} (h : Cl A u v) (hu : u < S) : v < S := by
  obtain ⟨n, h⟩ := h
  cases n with
  | zero => have e : u = v := h; omega
  | succ n => obtain ⟨x, _, h2⟩ := h; exact hL _ _ _ h2
theorem clo_has {S : Nat} {A : List (Int × Int × Int × Int × Int)} {bs : List Bool} {v : Nat} : has (clo S A bs) v ↔ v < S ∧ ∃ u, has bs u ∧ Cl A u v := mk_has
/-- a set that was closed -/
def Shu9 (S : Nat) (A : List (Int × Int × Int × Int × Int)) (bs : List Bool) : Prop := ∃ b, bs = clo S A b
theorem Shu9.cl {S : Nat} {A : List (Int × Int × Int × Int × Int)} {bs : List Bool} (h : Shu9 S A bs) (hL : Led S A) {u v : Nat} (hu : has bs u) (hc : Cl A u v) : has bs v := by
  obtain ⟨b, rfl⟩ := h
  rw [clo_has] at hu ⊢
  obtain ⟨h1, x, h2, h3⟩ := hu
  exact ⟨cl_lt hL hc h1, x, h2, h3.trans hc⟩
theorem tr_shut (S : Nat) (A : List (Int × Int × Int × Int × Int)) (sets : List (List Bool)) (P : List Bool) (h : ∀ s ∈ sets, Shu9 S A s) : ∀ c, ∀ s ∈ (tr S A sets P c).1, Shu9 S A s
  | 0 => h
  | c + 1 => by
    intro s hs
    rw [tr_up] at hs
    unfold ts at hs
    split at hs
    · exact tr_shut S A sets P h c s hs
    · dsimp only at hs
      split at hs
      · rcases List.mem_append.1 hs with hs | hs
        · exact tr_shut S A sets P h c s hs
        · rw [List.mem_singleton.1 hs]; exact ⟨_, rfl⟩
      · exact tr_shut S A sets P h c s hs
theorem tab_shut (S : Nat) (A : List (Int × Int × Int × Int × Int)) : ∀ k, ∀ s ∈ (tab S A k).1, Shu9 S A s
  | 0 => fun s hs => by rw [List.mem_singleton.1 hs]; exact ⟨_, rfl⟩
  | k + 1 => tr_shut S A _ _ (tab_shut S A k) 60
/-- what a row says of a symbol -/
def RowOk (S : Nat) (A : List (Int × Int × Int × Int × Int)) (sets : List (List Bool)) (P : List Bool) (c : Nat) (o : Option Nat) : Prop :=
  (o = none ∧ void (nx S A P c) = true) ∨ ∃ j, o = some j ∧ void (nx S A P c) = false ∧ sets[j]? = some (nx S A P c)
theorem RowOk.mono {S : Nat} {A : List (Int × Int × Int × Int × Int)} {sets sets' : List (List Bool)} {P : List Bool} {c : Nat} {o : Option Nat} (h : RowOk S A sets P c o) (k : sets <+: sets') : RowOk S A sets' P c o := by
  rcases h with h | ⟨j, h1, h2, h3⟩
  · exact .inl h
  · exact .inr ⟨j, h1, h2, pre_get k h3⟩
theorem ts_row (S : Nat) (A : List (Int × Int × Int × Int × Int)) (P : List Bool) (s : List (List Bool) × List (Option Nat)) (c : Nat) : ∃ o, (ts S A P s c).2 = s.2 ++ [o] ∧ RowOk S A (ts S A P s c).1 P c o := by
  unfold ts
  split
  · rename_i h
    exact ⟨none, rfl, .inl ⟨rfl, h⟩⟩
  · rename_i h
    refine ⟨_, rfl, .inr ⟨_, rfl, by simpa using h, ?_⟩⟩
    dsimp only
    split
    · rename_i e
      rw [e, List.getElem?_append_right (Nat.le_refl _), Nat.sub_self]
      rfl
    · rename_i e
      have hl := idx_lt e
      rw [List.getElem?_eq_getElem hl, List.getElem_idxOf hl]
theorem tr_row (S : Nat) (A : List (Int × Int × Int × Int × Int)) (sets : List (List Bool)) (P : List Bool) : ∀ (C c : Nat), c < C → ∃ o, (tr S A sets P C).2[c]? = some o ∧ RowOk S A (tr S A sets P C).1 P (c + 1) o
  | 0, c, h => absurd h (Nat.not_lt_zero c)
  | C + 1, c, h => by
    rw [tr_up]
    obtain ⟨o, h1, h2⟩ := ts_row S A P (tr S A sets P C) (C + 1)
    rw [h1]
    rcases Nat.lt_succ_iff_lt_or_eq.1 h with hc | rfl
    · obtain ⟨o', k1, k2⟩ := tr_row S A sets P C c hc
      refine ⟨o', ?_, k2.mono (ts_pre S A P _ _)⟩
      rw [List.getElem?_append_left (by rw [tr_len]; exact hc)]
      exact k1
    · refine ⟨o, ?_, h2⟩
      rw [List.getElem?_append_right (by rw [tr_len]; exact Nat.le_refl _), tr_len, Nat.sub_self]
      rfl
theorem tab_row (S : Nat) (A : List (Int × Int × Int × Int × Int)) {k : Nat} (h : At S A k) : ∀ i, i < k → ∃ P, (tab S A k).1[i]? = some P ∧ ∀ c, c < 60 → RowOk S A (tab S A k).1 P (c + 1) (((tab S A k).2.getD i []).getD c none) := by
  induction k with
  | zero => exact fun i hi => absurd hi (Nat.not_lt_zero i)
  | succ k ih =>
    intro i hi
    have hp := tab_pre S A k (k + 1) (Nat.le_succ k)
    rcases Nat.lt_succ_iff_lt_or_eq.1 hi with h1 | rfl
    · obtain ⟨P, h2, h3⟩ := ih (fun j hj => h j (by omega)) i h1
      refine ⟨P, pre_get hp h2, fun c hc => ?_⟩
      have e : (tab S A (k + 1)).2.getD i [] = (tab S A k).2.getD i [] := by
        show ((tab S A k).2 ++ [_]).getD i [] = _
        rw [List.getD_eq_getElem?_getD, List.getElem?_append_left (by rw [tab_len]; exact h1), List.getD_eq_getElem?_getD]
      rw [e]
      exact (h3 c hc).mono hp
    · have h2 := h i hi
      refine ⟨(tab S A i).1[i], pre_get hp (List.getElem?_eq_getElem h2), fun c hc => ?_⟩
      have hg : (tab S A i).1.getD i [] = (tab S A i).1[i] := by rw [List.getD_eq_getElem?_getD, List.getElem?_eq_getElem h2]; rfl
      obtain ⟨o, k1, k2⟩ := tr_row S A (tab S A i).1 ((tab S A i).1.getD i []) 60 c hc
      have e : (tab S A (i + 1)).2.getD i [] = (tr S A (tab S A i).1 ((tab S A i).1.getD i []) 60).2 := by
        show ((tab S A i).2 ++ [_]).getD i [] = _
        rw [List.getD_eq_getElem?_getD, List.getElem?_append_right (by rw [tab_len]; exact Nat.le_refl _), tab_len, Nat.sub_self]
        rfl
      rw [e, List.getD_eq_getElem?_getD, k1, ← hg]
      exact k2
/-- from some state of the set the text is read -/
def AccS (A : List (Int × Int × Int × Int × Int)) (F : List (Int × Int)) (bs : List Bool) (t : List Nat) : Prop := ∃ u, has bs u ∧ Rd A F u t
theorem accS_cons {S : Nat} {A : List (Int × Int × Int × Int × Int)} {F : List (Int × Int)} {bs : List Bool} {c : Nat} {t : List Nat} (hL : Led S A) (hs : Shu9 S A bs) : AccS A F bs (c :: t) ↔ AccS A F (nx S A bs c) t := by
  constructor
  · rintro ⟨u, hu, v, v', h1, h2, h3⟩
    have hv := hs.cl hL hu h1
    refine ⟨v', clo_has.2 ⟨hL _ _ _ h2, v', mk_has.2 ⟨hL _ _ _ h2, v, hv, h2⟩, Cl.refl v'⟩, h3⟩
  · rintro ⟨w, hw, h3⟩
    obtain ⟨_, u', h1, h2⟩ := clo_has.1 hw
    obtain ⟨_, u, hu, he⟩ := mk_has.1 h1
    exact ⟨u, hu, u, u', Cl.refl u, he, rd_cl h2 h3⟩
theorem accS_nil {S : Nat} {A : List (Int × Int × Int × Int × Int)} {F : List (Int × Int)} {bs : List Bool} (hL : Led S A) (hs : Shu9 S A bs) (hF : ∀ f ∈ F, 0 ≤ f.1) : AccS A F bs [] ↔ (F.any fun f => bs.getD f.1.toNat false) = true := by
  rw [List.any_eq_true]
  constructor
  · rintro ⟨u, hu, v, h1, f, hf, e⟩
    refine ⟨f, hf, ?_⟩
    have hv := hs.cl hL hu h1
    have e2 : f.1.toNat = v := by omega
    rw [e2, List.getD_eq_getElem?_getD, show bs[v]? = some true from hv]
    rfl
  · rintro ⟨f, hf, h⟩
    refine ⟨f.1.toNat, ?_, f.1.toNat, Cl.refl _, f, hf, by have := hF f hf; omega⟩
    unfold has
    rw [List.getD_eq_getElem?_getD] at h
    cases e : bs[f.1.toNat]? with
    | none => rw [e] at h; cases h
    | some b => rw [e] at h; exact congrArg some h
theorem accS_void {A : List (Int × Int × Int × Int × Int)} {F : List (Int × Int)} {bs : List Bool} {t : List Nat} (h : void bs = true) : ¬ AccS A F bs t := by
  rintro ⟨u, hu, _⟩
  exact void_iff.1 h u hu
/-- what is read from a row of the table is what is read from its set -/
theorem tbl_accS {S : Nat} {A : List (Int × Int × Int × Int × Int)} {F : List (Int × Int)} {n : Nat} (hD : Done S A n) (hL : Led S A) (hF : ∀ f ∈ F, 0 ≤ f.1) : ∀ (t : List Nat) (i : Nat) (P : List Bool), Tt t → (tab S A n).1[i]? = some P → ((tbl S A F n).acc (some i) t = true ↔ AccS A F P t)
  | [], i, P, _, hP => by
    have hs := tab_shut S A n P (List.mem_of_getElem? hP)
    rw [accS_nil hL hs hF]
    show (F.any fun f => ((tab S A n).1.getD i []).getD f.1.toNat false) = true ↔ _
    rw [List.getD_eq_getElem?_getD, hP]
    rfl
  | c :: t, i, P, ht, hP => by
    have hs := tab_shut S A n P (List.mem_of_getElem? hP)
    have hi : i < n := by rw [← hD.len]; exact (List.getElem?_eq_some_iff.1 hP).1
    obtain ⟨P', h1, h2⟩ := tab_row S A hD.at_ i hi
    rw [hP] at h1
    cases h1
    have hc := ht.head
    have h3 := h2 (c - 1) (by omega)
    rw [show c - 1 + 1 = c by omega] at h3
    rw [Tb.acc_cons, accS_cons hL hs]
    have e : (tbl S A F n).st (some i) c = ((tab S A n).2.getD i []).getD (c - 1) none := rfl
    rw [e]
    rcases h3 with ⟨h4, h5⟩ | ⟨j, h4, _, h5⟩
    · rw [h4, Tb.acc_none]
      exact ⟨fun h => (by cases h), fun h => absurd h (accS_void h5)⟩
    · rw [h4]
      exact tbl_accS hD hL hF t j _ ht.tail h5
/-- the table reads what the machine reads -/
theorem tbl_rd {S : Nat} {A : List (Int × Int × Int × Int × Int)} {F : List (Int × Int)} {n : Nat} (hD : Done S A n) (hL : Led S A) (hF : ∀ f ∈ F, 0 ≤ f.1) (h0 : 0 < S) {t : List Nat} (ht : Tt t) : (tbl S A F n).acc (some 0) t = true ↔ Rd A F 0 t := by
  have h1 : (tab S A n).1[0]? = some (first S A) := pre_get (tab_pre S A 0 n (Nat.zero_le _)) rfl
  rw [tbl_accS hD hL hF t 0 _ ht h1]
  constructor
  · rintro ⟨u, hu, hr⟩
    obtain ⟨_, x, hx, hc⟩ := clo_has.1 hu
    obtain ⟨_, rfl⟩ := mk_has.1 hx
    exact rd_cl hc hr
  · intro h
    exact ⟨0, clo_has.2 ⟨h0, 0, mk_has.2 ⟨h0, rfl⟩, Cl.refl 0⟩, h⟩
/-- tables of machines that read the same read the same -/
theorem tbl_lk2 {S U : Nat} {A B : List (Int × Int × Int × Int × Int)} {F H : List (Int × Int)} {n m : Nat} (hD : Done S A n) (hL : Led S A) (hF : ∀ f ∈ F, 0 ≤ f.1) (h0 : 0 < S) (hD' : Done U B m) (hL' : Led U B) (hH : ∀ f ∈ H, 0 ≤ f.1) (h0' : 0 < U) : Lk2 (tbl S A F n) (tbl U B H m) (some 0) (some 0) ↔ ∀ t, Tt t → (Rd A F 0 t ↔ Rd B H 0 t) := by
  constructor
  · intro h t ht
    rw [← tbl_rd hD hL hF h0 ht, ← tbl_rd hD' hL' hH h0' ht, h t ht]
  · intro h t ht
    have h1 := (tbl_rd hD hL hF h0 ht).trans ((h t ht).trans (tbl_rd hD' hL' hH h0' ht).symm)
    exact Bool.eq_iff_iff.2 h1
end Go.Proofs.YtfjocafepigijaaDoor.Su
/- Sure machines of which no arc reads nothing (Dm), in plain words; their sets are few; the small machine of a table is such a one and reads what the table reads. No program text; no conditions. -/
namespace Go.Proofs.YtfjocafepigijaaDoor.Su
open Mv

/-- no two arcs leave one state by one symbol -/
def Uq (A : List (Int × Int × Int × Int × Int)) : Prop := A.Pairwise fun a b => ¬ (a.1 = b.1 ∧ a.2.2.1 = b.2.2.1)
/-- a sure machine of S states -/
structure Dm (S : Nat) (m : M) : Prop where
  st : m.st = (S : Int)
  pos : 0 < S
  arc : ∀ a ∈ m.arcs, ∃ f t c : Nat, a = ((f : Int), (t : Int), (c : Int), (c : Int), 0) ∧ f < S ∧ t < S ∧ 1 ≤ c ∧ c ≤ 60
  uq : Uq m.arcs
  fin : ∀ f ∈ m.fins, ∃ s : Nat, f = ((s : Int), 0) ∧ s < S
  once : m.fins.Pairwise fun f g => f.1 ≠ g.1
theorem Uq.one {A : List (Int × Int × Int × Int × Int)} (h : Uq A) {c : Int} {u v v' : Nat} (h1 : Ed A c u v) (h2 : Ed A c u v') : v = v' := by
  obtain ⟨a, ha, e1, e2, e3⟩ := h1
  obtain ⟨b, hb, k1, k2, k3⟩ := h2
  obtain ⟨i, hi, rfl⟩ := List.getElem_of_mem ha
  obtain ⟨j, hj, rfl⟩ := List.getElem_of_mem hb
  have hp := List.pairwise_iff_getElem.1 h
  rcases Nat.lt_trichotomy i j with hij | rfl | hij
  · exact absurd ⟨e1.trans k1.symm, e3.trans k3.symm⟩ (hp i j hi hj hij)
  · omega
  · exact absurd ⟨k1.trans e1.symm, k3.trans e3.symm⟩ (hp j i hj hi hij)
namespace Dm
variable {S : Nat} {m : M}
theorem led (h : Dm S m) : Led S m.arcs := by
  rintro c u v ⟨a, ha, _, e, _⟩
  obtain ⟨f, t, c', rfl, _, h2, _⟩ := h.arc a ha
  have e2 : (t : Int) = (v : Int) := e
  omega
theorem no0 (h : Dm S m) {u v : Nat} : ¬ Ed m.arcs 0 u v := by
  rintro ⟨a, ha, _, _, e⟩
  obtain ⟨f, t, c, rfl, _, _, h3, _⟩ := h.arc a ha
  have e2 : (c : Int) = 0 := e
  omega
theorem cl (h : Dm S m) {u v : Nat} (k : Cl m.arcs u v) : u = v := by
  obtain ⟨n, k⟩ := k
  cases n with
  | zero => exact k
  | succ n => obtain ⟨x, _, h2⟩ := k; exact absurd h2 h.no0
theorem rd_nil (h : Dm S m) {u : Nat} : Rd m.arcs m.fins u [] ↔ ∃ f ∈ m.fins, f.1 = ((u : Nat) : Int) := by
  constructor
  · rintro ⟨v, hv, hf⟩
    obtain rfl := h.cl hv
    exact hf
  · intro hf
    exact ⟨u, Cl.refl u, hf⟩
theorem rd_cons (h : Dm S m) {u c : Nat} {t : List Nat} : Rd m.arcs m.fins u (c :: t) ↔ ∃ v, Ed m.arcs (c : Int) u v ∧ Rd m.arcs m.fins v t := by
  constructor
  · rintro ⟨v, v', hv, he, hr⟩
    obtain rfl := h.cl hv
    exact ⟨v', he, hr⟩
  · rintro ⟨v, he, hr⟩
    exact ⟨u, v, Cl.refl u, he, hr⟩
theorem fin0 (h : Dm S m) : ∀ f ∈ m.fins, 0 ≤ f.1 := fun f hf => by
  obtain ⟨s, rfl, _⟩ := h.fin f hf
  exact Int.natCast_nonneg s
/-- there are no more arcs than states and symbols allow -/
theorem arcs_few (h : Dm S m) : m.arcs.length ≤ 60 * S := by
  have h1 := inj_len (60 * S) (m.arcs.map fun a => a.1.toNat * 60 + (a.2.2.1.toNat - 1)) (by
    rw [List.nodup_iff_pairwise_ne, List.pairwise_map]
    refine List.Pairwise.imp_of_mem (fun {a b} ha hb hne e => ?_) h.uq
    obtain ⟨f, t, c, rfl, _, _, h3, h4⟩ := h.arc a ha
    obtain ⟨f', t', c', rfl, _, _, k3, k4⟩ := h.arc b hb
    dsimp only at hne e
    rw [Int.toNat_natCast, Int.toNat_natCast, Int.toNat_natCast, Int.toNat_natCast] at e
    exact hne ⟨by omega, by omega⟩) (fun x hx => by
    obtain ⟨a, ha, rfl⟩ := List.mem_map.1 hx
    obtain ⟨f, t, c, rfl, h1, _, h3, h4⟩ := h.arc a ha
    dsimp only
    rw [Int.toNat_natCast, Int.toNat_natCast]
    omega)
  rwa [List.length_map] at h1
theorem fins_few (h : Dm S m) : m.fins.length ≤ S := by
  have h1 := inj_len S (m.fins.map fun f => f.1.toNat) (by
    rw [List.nodup_iff_pairwise_ne, List.pairwise_map]
    refine List.Pairwise.imp_of_mem (fun {a b} ha hb hne e => ?_) h.once
    obtain ⟨f, rfl, _⟩ := h.fin a ha
    obtain ⟨f', rfl, _⟩ := h.fin b hb
    dsimp only at hne e
    rw [Int.toNat_natCast, Int.toNat_natCast] at e
    exact hne (by rw [e])) (fun x hx => by
    obtain ⟨a, ha, rfl⟩ := List.mem_map.1 hx
    obtain ⟨f, rfl, h1⟩ := h.fin a ha
    dsimp only
    rw [Int.toNat_natCast]
    exact h1)
  rwa [List.length_map] at h1
/-- it is right, if it has not too many states -/
theorem right (h : Dm S m) (hS : S ≤ 333) : checkP m 0 := by
  have h1 := h.arcs_few
  have h2 := h.fins_few
  have h3 := h.pos
  refine .inr (.inr (.inr (.inr ⟨?_, fun k hk => ?_, fun k hk => ?_, fun i j hi hj hij _ => ?_, rfl⟩)))
  · unfold sizeB
    rw [h.st]
    exact decide_eq_true ⟨by omega, by omega, by omega, by omega⟩
  · obtain ⟨f, t, c, e, k1, k2, k3, k4⟩ := h.arc _ (List.getElem_mem hk)
    rw [e, h.st]
    unfold arcB
    dsimp only
    exact decide_eq_true ⟨by omega, by omega, by omega, by omega, by omega, by omega, by omega, by omega, by omega, by omega⟩
  · obtain ⟨s, e, k1⟩ := h.fin _ (List.getElem_mem hk)
    rw [e, h.st]
    unfold finB
    dsimp only
    exact decide_eq_true ⟨by omega, by omega, by omega, by omega⟩
  · exact List.pairwise_iff_getElem.1 h.once i j hi hj hij
end Dm
theorem idx_mk {S v : Nat} (h : v < S) : (mk S fun x => x = v).idxOf true = v := by
  have h1 : true ∈ mk S fun x => x = v := by
    have h2 : has (mk S fun x => x = v) v := mk_has.2 ⟨h, rfl⟩
    exact List.mem_of_getElem? h2
  have h2 := List.idxOf_lt_length_of_mem h1
  have h3 : has (mk S fun x => x = v) ((mk S fun x => x = v).idxOf true) := by
    show _ = _
    rw [List.getElem?_eq_getElem h2, List.getElem_idxOf h2]
  exact (mk_has.1 h3).2
/-- a set of one state -/
def Sg (S : Nat) (s : List Bool) : Prop := ∃ v, v < S ∧ s = mk S fun x => x = v
theorem sg_len {S : Nat} {l : List (List Bool)} (h : ∀ s ∈ l, Sg S s) (hn : l.Nodup) : l.length ≤ S := by
  have h1 := inj_len S (l.map fun s => s.idxOf true) (by
    rw [List.nodup_iff_pairwise_ne] at hn
    rw [List.nodup_iff_pairwise_ne, List.pairwise_map]
    refine List.Pairwise.imp_of_mem (fun {a b} ha hb hne e => hne ?_) hn
    obtain ⟨v, hv, rfl⟩ := h a ha
    obtain ⟨u, hu, rfl⟩ := h b hb
    rw [idx_mk hv, idx_mk hu] at e
    rw [e]) (fun x hx => by
    obtain ⟨s, hs, rfl⟩ := List.mem_map.1 hx
    obtain ⟨v, hv, rfl⟩ := h s hs
    rw [idx_mk hv]
    exact hv)
  rwa [List.length_map] at h1
theorem ts_nodup {S : Nat} {A : List (Int × Int × Int × Int × Int)} {P : List Bool} {s : List (List Bool) × List (Option Nat)} {c : Nat} (h : s.1.Nodup) : (ts S A P s c).1.Nodup := by
  unfold ts
  split
  · exact h
  · dsimp only
    split
    · rename_i e
      rw [List.nodup_append]
      refine ⟨h, by simp, fun a ha b hb he => ?_⟩
      rw [List.mem_singleton.1 hb] at he
      subst he
      have := List.idxOf_lt_length_of_mem ha
      omega
    · exact h
theorem tr_nodup {S : Nat} {A : List (Int × Int × Int × Int × Int)} {P : List Bool} {sets : List (List Bool)} (h : sets.Nodup) : ∀ c, (tr S A sets P c).1.Nodup
  | 0 => h
  | c + 1 => by rw [tr_up]; exact ts_nodup (tr_nodup h c)
theorem tab_nodup (S : Nat) (A : List (Int × Int × Int × Int × Int)) : ∀ k, (tab S A k).1.Nodup
  | 0 => by simp [tab]
  | k + 1 => tr_nodup (tab_nodup S A k) 60
theorem nx_sg {S : Nat} {m : M} (h : Dm S m) {v c : Nat} (hv : void (nx S m.arcs (mk S fun x => x = v) c) = false) : Sg S (nx S m.arcs (mk S fun x => x = v) c) := by
  have h1 : ∃ w, has (nx S m.arcs (mk S fun x => x = v) c) w := Classical.byContradiction fun hn => by
    have := void_iff.2 (fun w hw => hn ⟨w, hw⟩)
    rw [this] at hv
    cases hv
  obtain ⟨w, hw⟩ := h1
  have key : ∀ w, has (nx S m.arcs (mk S fun x => x = v) c) w → w < S ∧ Ed m.arcs (c : Int) v w := fun w hw => by
    obtain ⟨h2, u', h3, h4⟩ := clo_has.1 hw
    obtain rfl := h.cl h4
    obtain ⟨_, u, hu, he⟩ := mk_has.1 h3
    obtain ⟨_, rfl⟩ := mk_has.1 hu
    exact ⟨h2, he⟩
  obtain ⟨h2, h3⟩ := key w hw
  refine ⟨w, h2, bs_ext (nx_len _ _ _ _) (mk_len _ _) fun x hx => ?_⟩
  rw [mk_has]
  constructor
  · intro hxx
    exact ⟨hx, h.uq.one (key x hxx).2 h3⟩
  · rintro ⟨_, rfl⟩
    exact hw
theorem ts_sg {S : Nat} {m : M} (h : Dm S m) {P : List Bool} (hP : Sg S P) {s : List (List Bool) × List (Option Nat)} (hs : ∀ x ∈ s.1, Sg S x) (c : Nat) : ∀ x ∈ (ts S m.arcs P s c).1, Sg S x := by
  unfold ts
  split
  · exact hs
  · rename_i hv
    dsimp only
    split
    · intro x hx
      rcases List.mem_append.1 hx with hx | hx
      · exact hs x hx
      · rw [List.mem_singleton.1 hx]
        obtain ⟨v, _, rfl⟩ := hP
        exact nx_sg h (by simpa using hv)
    · exact hs
theorem tr_sg {S : Nat} {m : M} (h : Dm S m) {P : List Bool} (hP : Sg S P) {sets : List (List Bool)} (hs : ∀ x ∈ sets, Sg S x) : ∀ c, ∀ x ∈ (tr S m.arcs sets P c).1, Sg S x
  | 0 => hs
  | c + 1 => by rw [tr_up]; exact ts_sg h hP (tr_sg h hP hs c) _
theorem first_sg {S : Nat} {m : M} (h : Dm S m) : Sg S (first S m.arcs) := by
  refine ⟨0, h.pos, bs_ext (clo_len _ _ _) (mk_len _ _) fun x hx => ?_⟩
  unfold first
  rw [clo_has, mk_has]
  constructor
  · rintro ⟨_, u, hu, hc⟩
    obtain rfl := h.cl hc
    exact ⟨hx, (mk_has.1 hu).2⟩
  · rintro ⟨_, rfl⟩
    exact ⟨hx, 0, mk_has.2 ⟨hx, rfl⟩, Cl.refl 0⟩
theorem tab_sg {S : Nat} {m : M} (h : Dm S m) : ∀ k, At S m.arcs k → ∀ x ∈ (tab S m.arcs k).1, Sg S x
  | 0, _ => fun x hx => by rw [List.mem_singleton.1 hx]; exact first_sg h
  | k + 1, hk => by
    have ih := tab_sg h k (fun i hi => hk i (by omega))
    have h1 := hk k (Nat.lt_succ_self k)
    refine tr_sg h ?_ ih 60
    rw [List.getD_eq_getElem?_getD, List.getElem?_eq_getElem h1]
    exact ih _ (List.getElem_mem h1)
/-- a sure machine has few sets -/
theorem dm_done {S : Nat} {m : M} (h : Dm S m) (hS : S ≤ 500) : ∃ n, Done S m.arcs n := by
  have hl : ∀ k, At S m.arcs k → (tab S m.arcs k).1.length ≤ S := fun k hk => sg_len (tab_sg h k hk) (tab_nodup S m.arcs k)
  have key : ∀ j k, At S m.arcs k → S + 1 - k ≤ j → ∃ n, Done S m.arcs n := by
    intro j
    induction j with
    | zero =>
      intro k hk hj
      have h1 := hl k hk
      have h2 := hk.le
      omega
    | succ j ih =>
      intro k hk hj
      by_cases hlt : k < (tab S m.arcs k).1.length
      · have h1 := hl k hk
        exact ih (k + 1) (hk.up hlt) (by omega)
      · exact ⟨k, Done.of hk hlt (Nat.le_trans (hl k hk) hS)⟩
  exact key (S + 1) 0 (fun i hi => absurd hi (Nat.not_lt_zero i)) (by omega)
end Go.Proofs.YtfjocafepigijaaDoor.Su
/- The small machine of a table is a sure machine and reads what the table reads, in plain words. No program text. Condition: rows lead to rows. -/
namespace Go.Proofs.YtfjocafepigijaaDoor.Su
open Mv

/-- what the arcs so far are: each leads where its row leads, in order; below row k all are there, in row k those up to symbol c -/
structure Jp (T : Tb) (k c : Nat) (l : List Nat) (al : List (Nat × Nat × Nat)) : Prop where
  each : ∀ a ∈ al, ∃ r x y : Nat, l[a.1]? = some r ∧ 1 ≤ a.2.1 ∧ a.2.1 ≤ 60 ∧ T.cut.to r a.2.1 = some x ∧ l[a.2.2]? = some y ∧ T.Lk (some y) (some x)
  low : ∀ a ∈ al, a.1 < k ∨ (a.1 = k ∧ a.2.1 ≤ c)
  uq : al.Pairwise fun a b => ¬ (a.1 = b.1 ∧ a.2.1 = b.2.1)
  all : ∀ (p d r x : Nat), l[p]? = some r → 1 ≤ d → d ≤ 60 → (p < k ∨ (p = k ∧ d ≤ c)) → T.cut.to r d = some x → ∃ q, (p, d, q) ∈ al
theorem Jp.step {T : Tb} {k c r : Nat} {s : List Nat × List (Nat × Nat × Nat)} (h : Jp T k c s.1 s.2) (hr : s.1[k]? = some r) (hc : c + 1 ≤ 60) : Jp T k (c + 1) (js T k r s (c + 1)).1 (js T k r s (c + 1)).2 := by
  have hp := js_pre T k r s (c + 1)
  cases e : T.cut.to r (c + 1) with
  | none =>
    have e2 : js T k r s (c + 1) = s := by unfold js; rw [e]
    rw [e2]
    refine ⟨h.each, fun a ha => (h.low a ha).imp id fun ⟨h1, h2⟩ => ⟨h1, by omega⟩, h.uq, fun p d r' x h1 h2 h3 h4 h5 => ?_⟩
    rcases h4 with h4 | ⟨rfl, h4⟩
    · exact h.all p d r' x h1 h2 h3 (.inl h4) h5
    · by_cases hd : d = c + 1
      · subst hd
        rw [hr] at h1
        cases h1
        rw [e] at h5
        cases h5
      · exact h.all p d r' x h1 h2 h3 (.inr ⟨rfl, by omega⟩) h5
  | some x =>
    have hq : ∃ y, (js T k r s (c + 1)).1[wh T s.1 x]? = some y ∧ T.Lk (some y) (some x) := by
      unfold js
      rw [e]
      dsimp only
      split
      · rename_i e1
        refine ⟨x, ?_, Tb.Lk.refl _ _⟩
        rw [e1, List.getElem?_append_right (Nat.le_refl _), Nat.sub_self]
        rfl
      · rename_i e1
        exact wh_some (by have := wh_le T s.1 x; omega)
    have e2 : (js T k r s (c + 1)).2 = s.2 ++ [(k, c + 1, wh T s.1 x)] := by unfold js; rw [e]
    rw [e2]
    obtain ⟨y, hy, hl⟩ := hq
    refine ⟨fun a ha => ?_, fun a ha => ?_, ?_, fun p d r' x' h1 h2 h3 h4 h5 => ?_⟩
    · rcases List.mem_append.1 ha with ha | ha
      · obtain ⟨r', x', y', h1, h2, h3, h4, h5, h6⟩ := h.each a ha
        exact ⟨r', x', y', pre_get hp h1, h2, h3, h4, pre_get hp h5, h6⟩
      · rw [List.mem_singleton.1 ha]
        exact ⟨r, x, y, pre_get hp hr, by show 1 ≤ c + 1; omega, hc, e, hy, hl⟩
    · rcases List.mem_append.1 ha with ha | ha
      · exact (h.low a ha).imp id fun ⟨h1, h2⟩ => ⟨h1, by omega⟩
      · rw [List.mem_singleton.1 ha]; exact .inr ⟨rfl, Nat.le_refl _⟩
    · rw [List.pairwise_append]
      refine ⟨h.uq, by simp, fun a ha b hb => ?_⟩
      rw [List.mem_singleton.1 hb]
      rintro ⟨h1, h2⟩
      dsimp only at h1 h2
      rcases h.low a ha with h3 | ⟨_, h3⟩ <;> omega
    · have hk : k < s.1.length := (List.getElem?_eq_some_iff.1 hr).1
      have hrk : (js T k r s (c + 1)).1[k]? = some r := pre_get hp hr
      rcases h4 with h4 | ⟨rfl, h4⟩
      · have h6 : s.1[p]? = some r' := by
          have h7 : s.1[p]? = some (s.1[p]'(by omega)) := List.getElem?_eq_getElem (by omega)
          have h8 := pre_get hp h7
          rw [h1] at h8
          rw [h7, h8]
        obtain ⟨q, hq⟩ := h.all p d r' x' h6 h2 h3 (.inl h4) h5
        exact ⟨q, List.mem_append_left _ hq⟩
      · by_cases hd : d = c + 1
        · subst hd
          exact ⟨_, List.mem_append_right _ (List.mem_singleton.2 rfl)⟩
        · rw [hrk] at h1
          cases h1
          obtain ⟨q, hq⟩ := h.all p d r x' hr h2 h3 (.inr ⟨rfl, by omega⟩) h5
          exact ⟨q, List.mem_append_left _ hq⟩
theorem Jp.row {T : Tb} {k r : Nat} {s : List Nat × List (Nat × Nat × Nat)} (h : Jp T k 0 s.1 s.2) (hr : s.1[k]? = some r) : ∀ c, c ≤ 60 → Jp T k c (jr T k r s c).1 (jr T k r s c).2
  | 0, _ => h
  | c + 1, hc => by
    rw [jr_up]
    exact (Jp.row h hr c (by omega)).step (pre_get (jr_pre T k r s 0 c (Nat.zero_le _)) hr) hc
theorem Jp.up {T : Tb} {k : Nat} {l : List Nat} {al : List (Nat × Nat × Nat)} (h : Jp T k 60 l al) : Jp T (k + 1) 0 l al :=
  ⟨h.each, fun a ha => by rcases h.low a ha with h1 | ⟨h1, _⟩ <;> exact .inl (by omega), h.uq, fun p d r x h1 h2 h3 h4 h5 => h.all p d r x h1 h2 h3 (by
    rcases h4 with h4 | ⟨_, h4⟩
    · rcases Nat.lt_succ_iff_lt_or_eq.1 h4 with h6 | h6
      · exact .inl h6
      · exact .inr ⟨h6, h3⟩
    · omega) h5⟩
theorem jn_jp {T : Tb} : ∀ k, JAt T k → Jp T k 0 (jn T k).1 (jn T k).2
  | 0, _ => ⟨fun a ha => (by cases ha), fun a ha => (by cases ha), List.Pairwise.nil, fun p d r x h1 h2 h3 h4 => by omega⟩
  | k + 1, hk => by
    have ih := jn_jp k (fun i hi => hk i (by omega))
    have h1 := hk k (Nat.lt_succ_self k)
    have h2 : (jn T k).1[k]? = some ((jn T k).1.getD k 0) := by rw [List.getD_eq_getElem?_getD, List.getElem?_eq_getElem h1]; rfl
    exact (ih.row h2 60 (Nat.le_refl _)).up
/-- the small machine -/
theorem sure_dm {T : Tb} (hT : T.Ok) (h0 : 0 < T.n) {m : M} (h : IsSure T m) : ∃ S, Dm S m ∧ S ≤ T.n ∧ ∀ t, Tt t → (Rd m.arcs m.fins 0 t ↔ T.acc (some 0) t = true) := by
  rcases h with ⟨h1, rfl⟩ | ⟨h1, k, hk, hl, rfl⟩
  · have hD : Dm 1 ⟨1, [], []⟩ := ⟨rfl, Nat.zero_lt_one, fun a ha => (by cases ha), List.Pairwise.nil, fun a ha => (by cases ha), List.Pairwise.nil⟩
    refine ⟨1, hD, h0, fun t ht => ⟨fun hr => ?_, fun hr => absurd ⟨t, ht, hr⟩ h1⟩⟩
    cases t with
    | nil => obtain ⟨f, hf, _⟩ := hD.rd_nil.1 hr; cases hf
    | cons c t => obtain ⟨v, ⟨a, ha, _⟩, _⟩ := hD.rd_cons.1 hr; cases ha
  · have hj := jn_jp k hk
    have hR := jn_rows hT h0 k
    have hk0 : 0 < k := by
      have h2 := (jn_pre T 0 k (Nat.zero_le _)).length_le
      rw [hl] at h2
      exact h2
    have hkn : k ≤ T.n := by rw [← hl]; exact hR.len
    generalize hL : (jn T k).1 = l at *
    generalize hA : (jn T k).2 = al at *
    have hD : Dm k ⟨(k : Int), al.map arcOf, (jf T l k).map finOf⟩ := by
      refine ⟨rfl, hk0, fun a ha => ?_, ?_, fun f hf => ?_, ?_⟩
      · obtain ⟨b, hb, rfl⟩ := List.mem_map.1 ha
        obtain ⟨r, x, y, k1, k2, k3, _, k5, _⟩ := hj.each b hb
        have k6 := (List.getElem?_eq_some_iff.1 k1).1
        have k7 := (List.getElem?_eq_some_iff.1 k5).1
        exact ⟨b.1, b.2.2, b.2.1, rfl, by omega, by omega, k2, k3⟩
      · show (al.map arcOf).Pairwise _
        rw [List.pairwise_map]
        refine hj.uq.imp fun {a b} hn e => hn ?_
        unfold arcOf at e
        dsimp only at e
        exact ⟨by omega, by omega⟩
      · obtain ⟨i, hi, rfl⟩ := List.mem_map.1 hf
        unfold jf at hi
        exact ⟨i, rfl, List.mem_range.1 (List.mem_filter.1 hi).1⟩
      · show ((jf T l k).map finOf).Pairwise _
        rw [List.pairwise_map]
        unfold jf
        refine List.Pairwise.filter _ ?_
        refine List.pairwise_lt_range.imp fun {a b} hn e => ?_
        unfold finOf at e
        dsimp only at e
        omega
    refine ⟨k, hD, hkn, fun t ht => ?_⟩
    have hlen : l.length = k := hl
    have key : ∀ (t : List Nat) (p r : Nat), Tt t → l[p]? = some r → (Rd (al.map arcOf) ((jf T l k).map finOf) p t ↔ T.acc (some r) t = true) := by
      intro t
      induction t with
      | nil =>
        intro p r _ hp
        have hpl := (List.getElem?_eq_some_iff.1 hp).1
        refine hD.rd_nil.trans ?_
        show (∃ f ∈ (jf T l k).map finOf, _) ↔ T.fin r = true
        have hg : l.getD p 0 = r := by rw [List.getD_eq_getElem?_getD, hp]; rfl
        constructor
        · rintro ⟨f, hf, e⟩
          obtain ⟨i, hi, rfl⟩ := List.mem_map.1 hf
          unfold finOf at e
          dsimp only at e
          obtain rfl : i = p := by omega
          unfold jf at hi
          have h5 := (List.mem_filter.1 hi).2
          rw [hg] at h5
          exact h5
        · intro h5
          refine ⟨finOf p, List.mem_map.2 ⟨p, ?_, rfl⟩, rfl⟩
          unfold jf
          exact List.mem_filter.2 ⟨List.mem_range.2 (by omega), by rw [hg]; exact h5⟩
      | cons c t ih =>
        intro p r ht hp
        refine hD.rd_cons.trans ?_
        constructor
        · rintro ⟨v, ⟨a, ha, e1, e2, e3⟩, hr⟩
          obtain ⟨b, hb, rfl⟩ := List.mem_map.1 ha
          obtain ⟨r', x, y, k1, k2, k3, k4, k5, k6⟩ := hj.each b hb
          unfold arcOf at e1 e2 e3
          dsimp only at e1 e2 e3
          have e1' : b.1 = p := by omega
          have e2' : b.2.2 = v := by omega
          have e3' : b.2.1 = c := by omega
          rw [e1', hp] at k1
          cases k1
          rw [e2'] at k5
          rw [e3'] at k4
          have h6 := (ih v y ht.tail k5).1 hr
          show T.acc (T.to r c) t = true
          rw [(Tb.cut_some k4).1, ← k6 t ht.tail]
          exact h6
        · intro h6
          have h6' : T.acc (T.to r c) t = true := h6
          have hlive : T.Live (T.to r c) := ⟨t, ht.tail, h6'⟩
          cases e : T.cut.to r c with
          | none => exact absurd hlive (Tb.cut_none e)
          | some x =>
            have hpl := (List.getElem?_eq_some_iff.1 hp).1
            obtain ⟨q, hq⟩ := hj.all p c r x hp ht.head.1 ht.head.2 (.inl (by omega)) e
            obtain ⟨r', x', y, k1, _, _, k4, k5, k6⟩ := hj.each _ hq
            dsimp only at k1 k4 k5
            rw [hp] at k1
            cases k1
            rw [e] at k4
            cases k4
            refine ⟨q, ⟨arcOf (p, c, q), List.mem_map.2 ⟨_, hq, rfl⟩, rfl, rfl, rfl⟩, (ih q y ht.tail k5).2 ?_⟩
            rw [k6 t ht.tail, ← (Tb.cut_some e).1]
            exact h6'
    have hz : l[0]? = some 0 := by
      rw [← hL]
      exact pre_get (jn_pre T 0 k (Nat.zero_le _)) rfl
    exact key t 0 0 ht hz
end Go.Proofs.YtfjocafepigijaaDoor.Su
/- A sure machine in which an arc goes to a twin of its state (split) is a sure machine and reads the same, in plain words. No program text; no conditions. -/
namespace Go.Proofs.YtfjocafepigijaaDoor.Su
open Mv

/-- what comes of an arc: its twin, and itself, led elsewhere if it is the one -/
def sp1 (to tw : Int) (k i : Nat) (a : Int × Int × Int × Int × Int) : List (Int × Int × Int × Int × Int) := (if a.1 = to then [(tw, a.2)] else []) ++ [if i = k then (a.1, tw, a.2.2) else a]
def spA (A : List (Int × Int × Int × Int × Int)) (to tw : Int) (k : Nat) : Nat → List (Int × Int × Int × Int × Int)
  | 0 => []
  | i + 1 => spA A to tw k i ++ (match A[i]? with | some a => sp1 to tw k i a | none => [])
def spF (F : List (Int × Int)) (to tw : Int) : Nat → List (Int × Int)
  | 0 => F
  | j + 1 => spF F to tw j ++ (match F[j]? with | some f => if f.1 = to then [(tw, 0)] else [] | none => [])
theorem sp1_mem {to tw : Int} {k i : Nat} {a b : Int × Int × Int × Int × Int} : b ∈ sp1 to tw k i a ↔ (a.1 = to ∧ b = (tw, a.2)) ∨ b = if i = k then (a.1, tw, a.2.2) else a := by
  unfold sp1
  rw [List.mem_append, List.mem_singleton]
  by_cases h : a.1 = to
  · rw [if_pos h, List.mem_singleton]
    exact ⟨fun h1 => h1.imp (fun h2 => ⟨h, h2⟩) id, fun h1 => h1.imp (fun h2 => h2.2) id⟩
  · rw [if_neg h]
    exact ⟨fun h1 => h1.imp (fun h2 => (by cases h2)) id, fun h1 => h1.imp (fun h2 => absurd h2.1 h) id⟩
theorem spA_mem {A : List (Int × Int × Int × Int × Int)} {to tw : Int} {k : Nat} {b : Int × Int × Int × Int × Int} : ∀ {n : Nat}, b ∈ spA A to tw k n ↔ ∃ (i : Nat) (a : Int × Int × Int × Int × Int), i < n ∧ A[i]? = some a ∧ ((a.1 = to ∧ b = (tw, a.2)) ∨ b = if i = k then (a.1, tw, a.2.2) else a)
  | 0 => ⟨fun h => (by cases h), fun ⟨i, _, h, _⟩ => absurd h (Nat.not_lt_zero i)⟩
  | n + 1 => by
    show b ∈ spA A to tw k n ++ _ ↔ _
    rw [List.mem_append, spA_mem (n := n)]
    constructor
    · rintro (⟨i, a, h1, h2, h3⟩ | h)
      · exact ⟨i, a, by omega, h2, h3⟩
      · cases e : A[n]? with
        | none => rw [e] at h; cases h
        | some a => rw [e] at h; exact ⟨n, a, by omega, e, sp1_mem.1 h⟩
    · rintro ⟨i, a, h1, h2, h3⟩
      rcases Nat.lt_succ_iff_lt_or_eq.1 h1 with hi | rfl
      · exact .inl ⟨i, a, hi, h2, h3⟩
      · refine .inr ?_
        rw [h2]
        exact sp1_mem.2 h3
theorem spF_mem {F : List (Int × Int)} {to tw : Int} {b : Int × Int} : ∀ {n : Nat}, b ∈ spF F to tw n ↔ b ∈ F ∨ ∃ (i : Nat) (f : Int × Int), i < n ∧ F[i]? = some f ∧ f.1 = to ∧ b = (tw, 0)
  | 0 => ⟨fun h => .inl h, fun h => h.elim id fun ⟨i, _, h, _⟩ => absurd h (Nat.not_lt_zero i)⟩
  | n + 1 => by
    show b ∈ spF F to tw n ++ _ ↔ _
    rw [List.mem_append, spF_mem (n := n)]
    constructor
    · rintro ((h | ⟨i, a, h1, h2, h3⟩) | h)
      · exact .inl h
      · exact .inr ⟨i, a, by omega, h2, h3⟩
      · cases e : F[n]? with
        | none => rw [e] at h; cases h
        | some f =>
          rw [e] at h
          dsimp only at h
          by_cases hf : f.1 = to
          · rw [if_pos hf] at h
            exact .inr ⟨n, f, by omega, e, hf, List.mem_singleton.1 h⟩
          · rw [if_neg hf] at h; cases h
    · rintro (h | ⟨i, f, h1, h2, h3, h4⟩)
      · exact .inl (.inl h)
      · rcases Nat.lt_succ_iff_lt_or_eq.1 h1 with hi | rfl
        · exact .inl (.inr ⟨i, f, hi, h2, h3, h4⟩)
        · refine .inr ?_
          rw [h2]
          dsimp only
          rw [if_pos h3, h4]
          exact List.mem_singleton.2 rfl
/-- the machine with an arc led to a twin -/
def spl (m : M) (k : Nat) : M := match m.arcs[k]? with | some a => ⟨m.st + 1, spA m.arcs a.2.1 m.st k m.arcs.length, spF m.fins a.2.1 m.st m.fins.length⟩ | none => m
theorem spA_uq {S : Nat} {A : List (Int × Int × Int × Int × Int)} {to : Int} {k : Nat} (h : Uq A) (hA : ∀ a ∈ A, ∃ f : Nat, a.1 = (f : Int) ∧ f < S) : ∀ n, Uq (spA A to (S : Int) k n)
  | 0 => List.Pairwise.nil
  | n + 1 => by
    have ih := spA_uq (to := to) (k := k) h hA n
    show List.Pairwise _ (spA A to (S : Int) k n ++ _)
    cases e : A[n]? with
    | none => dsimp only; rw [List.append_nil]; exact ih
    | some a =>
      dsimp only
      obtain ⟨fa, ea, la⟩ := hA a (List.mem_of_getElem? e)
      rw [List.pairwise_append]
      refine ⟨ih, ?_, fun b hb b' hb' => ?_⟩
      · unfold sp1
        by_cases h1 : a.1 = to
        · rw [if_pos h1]
          show List.Pairwise _ [((S : Int), a.2), _]
          rw [List.pairwise_cons]
          refine ⟨fun x hx => ?_, List.pairwise_singleton ..⟩
          rw [List.mem_singleton.1 hx]
          rintro ⟨h2, _⟩
          dsimp only at h2
          by_cases h3 : n = k
          · rw [if_pos h3] at h2; dsimp only at h2; omega
          · rw [if_neg h3] at h2; omega
        · rw [if_neg h1]
          exact List.pairwise_singleton ..
      · obtain ⟨i, c, h1, h2, h3⟩ := spA_mem.1 hb
        have h4 := sp1_mem.1 hb'
        have hin : i < A.length := (List.getElem?_eq_some_iff.1 h2).1
        have hnn : n < A.length := (List.getElem?_eq_some_iff.1 e).1
        have hu := List.pairwise_iff_getElem.1 h i n hin hnn h1
        rw [(List.getElem?_eq_some_iff.1 h2).2, (List.getElem?_eq_some_iff.1 e).2] at hu
        obtain ⟨fc, ec, lc⟩ := hA c (List.mem_of_getElem? h2)
        rintro ⟨e1, e2⟩
        rcases h3 with ⟨h5, rfl⟩ | h5 <;> rcases h4 with ⟨h6, rfl⟩ | h6
        · exact hu ⟨h5.trans h6.symm, e2⟩
        · by_cases h7 : n = k
          · rw [if_pos h7] at h6; subst h6; dsimp only at e1; omega
          · rw [if_neg h7] at h6; subst h6; dsimp only at e1; omega
        · by_cases h7 : i = k
          · rw [if_pos h7] at h5; subst h5; dsimp only at e1; omega
          · rw [if_neg h7] at h5; subst h5; dsimp only at e1; omega
        · by_cases h7 : n = k
          · rw [if_pos h7] at h6
            rw [if_neg (by omega)] at h5
            subst h5 h6
            exact hu ⟨e1, e2⟩
          · rw [if_neg h7] at h6
            by_cases h8 : i = k
            · rw [if_pos h8] at h5; subst h5 h6; exact hu ⟨e1, e2⟩
            · rw [if_neg h8] at h5; subst h5 h6; exact hu ⟨e1, e2⟩
theorem spF_once {S : Nat} {F : List (Int × Int)} {to : Int} (h : F.Pairwise fun f g => f.1 ≠ g.1) (hF : ∀ f ∈ F, ∃ s : Nat, f.1 = (s : Int) ∧ s < S) : ∀ n, (spF F to (S : Int) n).Pairwise fun f g => f.1 ≠ g.1
  | 0 => h
  | n + 1 => by
    have ih := spF_once (to := to) h hF n
    show List.Pairwise _ (spF F to (S : Int) n ++ _)
    cases e : F[n]? with
    | none => dsimp only; rw [List.append_nil]; exact ih
    | some f =>
      dsimp only
      by_cases h1 : f.1 = to
      · rw [if_pos h1, List.pairwise_append]
        refine ⟨ih, List.pairwise_singleton .., fun b hb b' hb' => ?_⟩
        rw [List.mem_singleton.1 hb']
        rcases spF_mem.1 hb with h2 | ⟨i, g, h2, h3, h4, _⟩
        · obtain ⟨s, h5, h6⟩ := hF b h2
          show b.1 ≠ (S : Int)
          omega
        · have hnn : n < F.length := (List.getElem?_eq_some_iff.1 e).1
          have hu := List.pairwise_iff_getElem.1 h i n (by omega) hnn h2
          rw [(List.getElem?_eq_some_iff.1 h3).2, (List.getElem?_eq_some_iff.1 e).2] at hu
          exact absurd (h4.trans h1.symm) hu
      · rw [if_neg h1, List.append_nil]
        exact ih
/-- the machine that was split is a sure machine, and reads the same -/
theorem spl_dm {S : Nat} {m : M} (h : Dm S m) (k : Nat) : ∃ S', Dm S' (spl m k) ∧ S' ≤ S + 1 ∧ ∀ t, Rd (spl m k).arcs (spl m k).fins 0 t ↔ Rd m.arcs m.fins 0 t := by
  cases e : m.arcs[k]? with
  | none =>
    have e2 : spl m k = m := by unfold spl; rw [e]
    rw [e2]
    exact ⟨S, h, Nat.le_succ S, fun t => Iff.rfl⟩
  | some a =>
    have e2 : spl m k = ⟨m.st + 1, spA m.arcs a.2.1 m.st k m.arcs.length, spF m.fins a.2.1 m.st m.fins.length⟩ := by unfold spl; rw [e]
    obtain ⟨f0, t0, c0, rfl, hf0, ht0, _, _⟩ := h.arc a (List.mem_of_getElem? e)
    rw [e2, h.st]
    dsimp only
    have hD : Dm (S + 1) ⟨(S : Int) + 1, spA m.arcs (t0 : Int) (S : Int) k m.arcs.length, spF m.fins (t0 : Int) (S : Int) m.fins.length⟩ := by
      refine ⟨by show (S : Int) + 1 = ((S + 1 : Nat) : Int); omega, Nat.succ_pos S, fun b hb => ?_, ?_, fun b hb => ?_, ?_⟩
      · obtain ⟨i, c, _, h2, h3⟩ := spA_mem.1 hb
        obtain ⟨f, t, d, rfl, k1, k2, k3, k4⟩ := h.arc c (List.mem_of_getElem? h2)
        rcases h3 with ⟨_, rfl⟩ | h3
        · exact ⟨S, t, d, rfl, by omega, by omega, k3, k4⟩
        · by_cases hk : i = k
          · rw [if_pos hk] at h3
            exact ⟨f, S, d, h3, by omega, by omega, k3, k4⟩
          · rw [if_neg hk] at h3
            exact ⟨f, t, d, h3, by omega, by omega, k3, k4⟩
      · exact spA_uq h.uq (fun c hc => by obtain ⟨f, t, d, rfl, k1, _⟩ := h.arc c hc; exact ⟨f, rfl, k1⟩) _
      · rcases spF_mem.1 hb with h2 | ⟨_, _, _, _, _, h4⟩
        · obtain ⟨s, h3, h4⟩ := h.fin b h2
          exact ⟨s, h3, by omega⟩
        · exact ⟨S, h4, by omega⟩
      · exact spF_once h.once (fun f hf => by obtain ⟨s, rfl, h2⟩ := h.fin f hf; exact ⟨s, rfl, h2⟩) _
    refine ⟨S + 1, hD, Nat.le_refl _, fun t => ?_⟩
    have key : ∀ (t : List Nat) (u u' : Nat), (u' = S ∧ u = t0) ∨ (u' = u ∧ u < S) → (Rd (spA m.arcs (t0 : Int) (S : Int) k m.arcs.length) (spF m.fins (t0 : Int) (S : Int) m.fins.length) u' t ↔ Rd m.arcs m.fins u t) := by
      intro t
      induction t with
      | nil =>
        intro u u' hu
        refine hD.rd_nil.trans (Iff.trans ?_ h.rd_nil.symm)
        dsimp only
        constructor
        · rintro ⟨f, hf, e1⟩
          rcases spF_mem.1 hf with h2 | ⟨i, g, h1, h2, h3, rfl⟩
          · obtain ⟨s, h3, h4⟩ := h.fin f h2
            rw [h3] at e1
            dsimp only at e1
            rcases hu with ⟨rfl, _⟩ | ⟨rfl, _⟩
            · omega
            · exact ⟨f, h2, by rw [h3]; exact e1⟩
          · dsimp only at e1
            rcases hu with ⟨_, rfl⟩ | ⟨_, hlt⟩
            · exact ⟨g, List.mem_of_getElem? h2, h3⟩
            · omega
        · rintro ⟨f, hf, e1⟩
          rcases hu with ⟨rfl, rfl⟩ | ⟨rfl, _⟩
          · obtain ⟨i, hi, rfl⟩ := List.getElem_of_mem hf
            exact ⟨((u' : Int), 0), spF_mem.2 (.inr ⟨i, m.fins[i], hi, List.getElem?_eq_getElem hi, e1, rfl⟩), rfl⟩
          · exact ⟨f, spF_mem.2 (.inl hf), e1⟩
      | cons c t ih =>
        intro u u' hu
        refine hD.rd_cons.trans (Iff.trans ?_ h.rd_cons.symm)
        dsimp only
        constructor
        · rintro ⟨v', ⟨b, hb, e1, e3, e4⟩, hr⟩
          obtain ⟨i, a, h1, h2, h3⟩ := spA_mem.1 hb
          have ham := List.mem_of_getElem? h2
          obtain ⟨f, x, d, rfl, k1, k2, k3, k4⟩ := h.arc a ham
          rcases h3 with ⟨h4, rfl⟩ | h3
          · dsimp only at h4 e1 e3 e4
            obtain rfl : x = v' := by omega
            have hut : u = t0 := by rcases hu with ⟨_, h5⟩ | ⟨h5, h6⟩ <;> omega
            refine ⟨x, ⟨_, ham, ?_, rfl, e4⟩, (ih x x (.inr ⟨rfl, k2⟩)).1 hr⟩
            show (f : Int) = (u : Int)
            omega
          · by_cases hk : i = k
            · rw [if_pos hk] at h3
              subst h3
              dsimp only at e1 e3 e4
              rw [hk, e] at h2
              simp only [Option.some.injEq, Prod.mk.injEq] at h2
              have hx : x = t0 := by omega
              have hu2 : u' = u := by rcases hu with ⟨h5, _⟩ | ⟨h5, _⟩ <;> omega
              refine ⟨x, ⟨_, ham, by show (f : Int) = (u : Int); omega, rfl, e4⟩, (ih x v' (.inl ⟨by omega, hx⟩)).1 hr⟩
            · rw [if_neg hk] at h3
              subst h3
              dsimp only at e1 e3 e4
              obtain rfl : x = v' := by omega
              have hu2 : u' = u := by rcases hu with ⟨h5, _⟩ | ⟨h5, _⟩ <;> omega
              exact ⟨x, ⟨_, ham, by show (f : Int) = (u : Int); omega, rfl, e4⟩, (ih x x (.inr ⟨rfl, k2⟩)).1 hr⟩
        · rintro ⟨v, ⟨a, ham, e1, e3, e4⟩, hr⟩
          obtain ⟨i, hi, rfl⟩ := List.getElem_of_mem ham
          have h2 : m.arcs[i]? = some m.arcs[i] := List.getElem?_eq_getElem hi
          obtain ⟨f, x, d, hq, k1, k2, k3, k4⟩ := h.arc _ ham
          rw [hq] at e1 e3 e4 h2
          dsimp only at e1 e3 e4
          obtain rfl : x = v := by omega
          rcases hu with ⟨rfl, rfl⟩ | ⟨rfl, hlt⟩
          · refine ⟨x, ⟨((u' : Int), (x : Int), (d : Int), (d : Int), 0), spA_mem.2 ⟨i, _, hi, h2, .inl ⟨e1, rfl⟩⟩, rfl, rfl, e4⟩, (ih x x (.inr ⟨rfl, k2⟩)).2 hr⟩
          · by_cases hk : i = k
            · subst hk
              rw [e] at h2
              simp only [Option.some.injEq, Prod.mk.injEq] at h2
              refine ⟨S, ⟨((f : Int), (S : Int), (d : Int), (d : Int), 0), spA_mem.2 ⟨i, ((f : Int), (x : Int), (d : Int), (d : Int), 0), hi, by rw [List.getElem?_eq_getElem hi, hq], .inr ?_⟩, e1, rfl, e4⟩, (ih x S (.inl ⟨rfl, by omega⟩)).2 hr⟩
              rw [if_pos rfl]
            · refine ⟨x, ⟨((f : Int), (x : Int), (d : Int), (d : Int), 0), spA_mem.2 ⟨i, _, hi, h2, .inr ?_⟩, e1, rfl, e4⟩, (ih x x (.inr ⟨rfl, k2⟩)).2 hr⟩
              rw [if_neg hk]
    exact key t 0 0 (.inr ⟨rfl, h.pos⟩)
end Go.Proofs.YtfjocafepigijaaDoor.Su
