/- Plain facts on going along silent arcs from a queue, in whatever order: what comes of it is the least. No conditions beyond that arcs are right. -/
import Derived.Test.YtfjocafepigijaaDoorWk4
namespace Go.Proofs.YtfjocafepigijaaDoor.Wd
open Mv Wk

def far : Nat := 9223372036854775807
/-- what a row has at a state -/
def cv (R : List Nat) (s : Nat) : Nat := R.getD s far
theorem cv_set (R : List Nat) (q v r : Nat) (hq : q < R.length) : cv (R.set q v) r = if q = r then v else cv R r := by
  unfold cv
  rw [List.getD_eq_getElem?_getD, List.getD_eq_getElem?_getD, List.getElem?_set]
  split
  · simp
  · rfl
def fin (R : List Nat) : Nat := R.countP fun x => decide (x < far)
theorem fin_le (R : List Nat) : fin R ≤ R.length := List.countP_le_length
theorem fin_set (R : List Nat) (q v : Nat) (hq : q < R.length) (hv : v < far) : (cv R q < far → fin (R.set q v) = fin R) ∧ (¬ cv R q < far → fin (R.set q v) = fin R + 1) := by
  have e : cv R q = R[q] := by unfold cv; simp [hq]
  unfold fin
  rw [List.countP_set hq, e]
  constructor
  · intro h
    have hp : 0 < R.countP (fun x => decide (x < far)) := List.countP_pos_iff.2 ⟨R[q], List.getElem_mem hq, by simpa using h⟩
    simp [h, hv]
    omega
  · intro h
    simp [h, hv]

abbrev Arc := Int × Int × Int × Int × Int
/-- the silent arcs that leave a state; the arcs of a label -/
def sil (A : List Arc) (f : Nat) : List Arc := A.filter fun a => a.2.2.1 == 0 && a.2.2.2.1 == 0 && a.1 == (f : Int)
def lab (A : List Arc) (i o : Int) : List Arc := A.filter fun a => a.2.2.1 == i && a.2.2.2.1 == o

/-- a row on its way: what it has is come to -/
structure Row (S : Nat) (P : Nat → Nat → Prop) (bd : Nat) (R : List Nat) : Prop where
  len : R.length = S
  top : ∀ s, cv R s ≤ far
  real : ∀ s, s < S → cv R s < far → P s (cv R s)
  small : ∀ s, cv R s < far → cv R s ≤ bd + 1000000 * fin R

/-- what a row weighs, with so much for what is not come to -/
def pot (cap : Nat) (R : List Nat) : Nat := (R.map fun v => if v < far then v else cap).sum
theorem pot_set (cap : Nat) (R : List Nat) (q v : Nat) (hq : q < R.length) : pot cap (R.set q v) + (if cv R q < far then cv R q else cap) = pot cap R + (if v < far then v else cap) := by
  induction R generalizing q with
  | nil => simp at hq
  | cons a R ih =>
    cases q with
    | zero => simp [pot, cv]; omega
    | succ q =>
      have := ih q (by simpa using hq)
      simp [pot, cv] at this ⊢
      omega

theorem relax {S : Nat} {P : Nat → Nat → Prop} {bd : Nat} {R : List Nat} (h : Row S P bd R) (f t W : Nat) (ht : t < S) (hW : W ≤ 1000000) (hf : cv R f < far) (hlt : cv R f + W < cv R t) (hP : P t (cv R f + W)) :
    Row S P bd (R.set t (cv R f + W)) ∧ pot (bd + 1000000 * S + 1) (R.set t (cv R f + W)) < pot (bd + 1000000 * S + 1) R ∧ (∀ s, cv (R.set t (cv R f + W)) s ≤ cv R s) ∧ cv (R.set t (cv R f + W)) t = cv R f + W ∧ (∀ s, s ≠ t → cv (R.set t (cv R f + W)) s = cv R s) ∧ cv R f + W < far := by
  have htl : t < R.length := by rw [h.len]; exact ht
  have hsm := h.small f hf
  have hfl := fin_le R
  rw [h.len] at hfl
  generalize hp : cv R f = p at *
  have hvd : p + W < far := Nat.lt_of_lt_of_le hlt (h.top t)
  have hfs := fin_set R t (p + W) htl hvd
  have hge : fin R ≤ fin (R.set t (p + W)) := by
    by_cases hd : cv R t < far
    · rw [hfs.1 hd]; omega
    · rw [hfs.2 hd]; omega
  have hle : ∀ s, cv (R.set t (p + W)) s ≤ cv R s := by
    intro s
    rw [cv_set R t _ s htl]
    split
    · rename_i e; subst e; omega
    · omega
  have hps := pot_set (bd + 1000000 * S + 1) R t (p + W) htl
  have hfl2 : fin (R.set t (p + W)) ≤ S := by have := fin_le (R.set t (p + W)); rw [List.length_set, h.len] at this; exact this
  have hsv : p + W ≤ bd + 1000000 * fin (R.set t (p + W)) := by
    by_cases hd : cv R t < far
    · have := h.small t hd
      rw [hfs.1 hd]
      omega
    · rw [hfs.2 hd]
      omega
  have hmul : 1000000 * fin (R.set t (p + W)) ≤ 1000000 * S := Nat.mul_le_mul_left _ hfl2
  refine ⟨⟨by rw [List.length_set]; exact h.len, ?_, ?_, ?_⟩, ?_, hle, by rw [cv_set R t _ t htl]; simp, fun s hs => by rw [cv_set R t _ s htl, if_neg (fun e => hs e.symm)], hvd⟩
  · intro s
    exact Nat.le_trans (hle s) (h.top s)
  · intro s hs
    rw [cv_set R t _ s htl]
    split
    · rename_i e; subst e; intro _; exact hP
    · exact h.real s hs
  · intro s
    rw [cv_set R t _ s htl]
    split
    · intro _; exact hsv
    · intro hd
      have := h.small s hd
      omega
  · rw [if_pos hvd] at hps
    split at hps <;> omega

/-- an entry of the queue -/
def Ent (S : Nat) (R : List Nat) (e : Int × Int) : Prop := ∃ c s : Nat, e = ((c : Int), (s : Int)) ∧ s < S ∧ c < far ∧ cv R s ≤ c
/-- no silent arc of a state betters anything -/
def Done (A : List Arc) (R : List Nat) (f : Nat) : Prop := ∀ a ∈ sil A f, ∀ t W : Nat, a.2.1 = (t : Int) → a.2.2.2.2 = (W : Int) → cv R t ≤ cv R f + W
structure Dij (A : List Arc) (S : Nat) (P : Nat → Nat → Prop) (bd : Nat) (H R : List Nat) (es : List (Int × Int)) : Prop where
  row : Row S P bd R
  le : ∀ s, cv R s ≤ cv H s
  q : ∀ e ∈ es, Ent S R e
  rel : ∀ f, f < S → cv R f < far → ((cv R f : Int), (f : Int)) ∈ es ∨ Done A R f
  qb : es.length + pot (bd + 1000000 * S + 1) R ≤ S + pot (bd + 1000000 * S + 1) H
/-- while the silent arcs of f are gone along: the first y are -/
structure Inn (A : List Arc) (S : Nat) (P : Nat → Nat → Prop) (bd : Nat) (H : List Nat) (f c M : Nat) (R : List Nat) (es : List (Int × Int)) (y : Nat) : Prop where
  row : Row S P bd R
  le : ∀ s, cv R s ≤ cv H s
  q : ∀ e ∈ es, Ent S R e
  here : cv R f = c
  done : ∀ k, k < y → ∀ h : k < (sil A f).length, ∀ t W : Nat, ((sil A f)[k]).2.1 = (t : Int) → ((sil A f)[k]).2.2.2.2 = (W : Int) → cv R t ≤ c + W
  rel : ∀ g, g < S → g ≠ f → cv R g < far → ((cv R g : Int), (g : Int)) ∈ es ∨ Done A R g
  qb : es.length + pot (bd + 1000000 * S + 1) R ≤ S + pot (bd + 1000000 * S + 1) H
  ms : 2 * pot (bd + 1000000 * S + 1) R + es.length ≤ M

theorem Ent.mono {S : Nat} {R R' : List Nat} {e : Int × Int} (h : Ent S R e) (hle : ∀ s, cv R' s ≤ cv R s) : Ent S R' e := by
  obtain ⟨c, s, e1, h1, h2, h3⟩ := h
  exact ⟨c, s, e1, h1, h2, Nat.le_trans (hle s) h3⟩
/-- an entry is taken that is no longer so cheap -/
theorem Dij.stale {A : List Arc} {S : Nat} {P : Nat → Nat → Prop} {bd : Nat} {H R : List Nat} {es es' : List (Int × Int)} {c f : Nat} (h : Dij A S P bd H R es) (hp : es.Perm (((c : Int), (f : Int)) :: es')) (hc : cv R f < c) : Dij A S P bd H R es' := by
  refine ⟨h.row, h.le, fun e he => h.q e (hp.mem_iff.2 (List.mem_cons_of_mem _ he)), fun g hg hd => ?_, ?_⟩
  · rcases h.rel g hg hd with h1 | h1
    · rcases List.mem_cons.1 (hp.mem_iff.1 h1) with h2 | h2
      · simp only [Prod.mk.injEq] at h2
        have : g = f := by omega
        subst this
        omega
      · exact .inl h2
    · exact .inr h1
  · have := hp.length_eq
    have := h.qb
    simp only [List.length_cons] at *
    omega
theorem Dij.take {A : List Arc} {S : Nat} {P : Nat → Nat → Prop} {bd : Nat} {H R : List Nat} {es es' : List (Int × Int)} {c f : Nat} (h : Dij A S P bd H R es) (hp : es.Perm (((c : Int), (f : Int)) :: es')) (hc : cv R f = c) : Inn A S P bd H f c (2 * pot (bd + 1000000 * S + 1) R + es'.length) R es' 0 := by
  refine ⟨h.row, h.le, fun e he => h.q e (hp.mem_iff.2 (List.mem_cons_of_mem _ he)), hc, fun k hk => absurd hk (Nat.not_lt_zero _), fun g hg hgf hd => ?_, ?_, Nat.le_refl _⟩
  · rcases h.rel g hg hd with h1 | h1
    · rcases List.mem_cons.1 (hp.mem_iff.1 h1) with h2 | h2
      · simp only [Prod.mk.injEq] at h2
        exact absurd (show g = f by omega) hgf
      · exact .inl h2
    · exact .inr h1
  · have := hp.length_eq
    have := h.qb
    simp only [List.length_cons] at *
    omega
theorem Inn.skip {A : List Arc} {S : Nat} {P : Nat → Nat → Prop} {bd : Nat} {H : List Nat} {f c M : Nat} {R : List Nat} {es : List (Int × Int)} {y t W : Nat} (h : Inn A S P bd H f c M R es y) (hy : y < (sil A f).length) (ht : ((sil A f)[y]).2.1 = (t : Int)) (hW : ((sil A f)[y]).2.2.2.2 = (W : Int)) (hge : ¬ c + W < cv R t) : Inn A S P bd H f c M R es (y + 1) := by
  refine ⟨h.row, h.le, h.q, h.here, fun k hk hkl t' W' e1 e2 => ?_, h.rel, h.qb, h.ms⟩
  by_cases e : k = y
  · subst e
    rw [ht] at e1
    rw [hW] at e2
    have : t = t' := by omega
    have : W = W' := by omega
    subst_vars
    omega
  · exact h.done k (by omega) hkl t' W' e1 e2
theorem Inn.took {A : List Arc} {S : Nat} {P : Nat → Nat → Prop} {bd : Nat} {H : List Nat} {f c M : Nat} {R : List Nat} {es es' : List (Int × Int)} {y t W : Nat} (h : Inn A S P bd H f c M R es y) (hy : y < (sil A f).length) (ht : ((sil A f)[y]).2.1 = (t : Int)) (hW : ((sil A f)[y]).2.2.2.2 = (W : Int)) (hts : t < S) (hWb : W ≤ 1000000) (hcf : c < far) (hP : P t (c + W)) (hlt : c + W < cv R t) (hp : es'.Perm ((((c + W : Nat) : Int), (t : Int)) :: es)) :
    Inn A S P bd H f c M (R.set t (c + W)) es' (y + 1) := by
  obtain ⟨r1, r2, r3, r4, r5, r6⟩ := relax h.row f t W hts hWb (by rw [h.here]; exact hcf) (by rw [h.here]; exact hlt) (by rw [h.here]; exact hP)
  rw [h.here] at r1 r2 r3 r4 r5 r6
  have hne : f ≠ t := fun e => by subst e; have := h.here; omega
  have hlen := hp.length_eq
  have hqb := h.qb
  have hms := h.ms
  simp only [List.length_cons] at hlen
  refine ⟨r1, fun s => Nat.le_trans (r3 s) (h.le s), fun e he => ?_, by rw [r5 f hne]; exact h.here, fun k hk hkl t' W' e1 e2 => ?_, fun g hg hgf hd => ?_, by omega, by omega⟩
  · rcases List.mem_cons.1 (hp.mem_iff.1 he) with rfl | h2
    · exact ⟨c + W, t, rfl, hts, r6, by rw [r4]; exact Nat.le_refl _⟩
    · exact (h.q e h2).mono r3
  · by_cases e : k = y
    · subst e
      rw [ht] at e1
      rw [hW] at e2
      have : t = t' := by omega
      have : W = W' := by omega
      subst_vars
      rw [r4]
      exact Nat.le_refl _
    · exact Nat.le_trans (r3 t') (h.done k (by omega) hkl t' W' e1 e2)
  · by_cases e : g = t
    · subst e
      exact .inl (hp.mem_iff.2 (by rw [r4]; exact List.mem_cons_self))
    · rw [r5 g e] at hd ⊢
      rcases h.rel g hg hgf hd with h1 | h1
      · exact .inl (hp.mem_iff.2 (List.mem_cons_of_mem _ h1))
      · refine .inr (fun a ha t' W' e1 e2 => ?_)
        rw [r5 g e]
        exact Nat.le_trans (r3 t') (h1 a ha t' W' e1 e2)
theorem Inn.fin {A : List Arc} {S : Nat} {P : Nat → Nat → Prop} {bd : Nat} {H : List Nat} {f c M : Nat} {R : List Nat} {es : List (Int × Int)} (h : Inn A S P bd H f c M R es (sil A f).length) : Dij A S P bd H R es := by
  refine ⟨h.row, h.le, h.q, fun g hg hd => ?_, h.qb⟩
  by_cases e : g = f
  · subst e
    refine .inr (fun a ha t W e1 e2 => ?_)
    obtain ⟨k, hk, rfl⟩ := List.getElem_of_mem ha
    rw [h.here]
    exact h.done k hk hk t W e1 e2
  · exact h.rel g hg e hd
/-- the first loop: what is come to waits -/
structure Ph (A : List Arc) (S : Nat) (H : List Nat) (k : Nat) (es : List (Int × Int)) : Prop where
  q : ∀ e ∈ es, Ent S H e
  rel : ∀ f, f < k → cv H f < far → ((cv H f : Int), (f : Int)) ∈ es ∨ sil A f = []
  len : es.length ≤ k
theorem Ph.start (A : List Arc) (S : Nat) (H : List Nat) : Ph A S H 0 [] := ⟨fun _ he => (List.not_mem_nil he).elim, fun _ hf => absurd hf (Nat.not_lt_zero _), Nat.le_refl _⟩
theorem Ph.skip {A : List Arc} {S : Nat} {H : List Nat} {k : Nat} {es : List (Int × Int)} (h : Ph A S H k es) (hs : ¬ cv H k < far ∨ sil A k = []) : Ph A S H (k + 1) es := by
  refine ⟨h.q, fun f hf hd => ?_, Nat.le_succ_of_le h.len⟩
  by_cases e : f = k
  · subst e
    rcases hs with hs | hs
    · exact absurd hd hs
    · exact .inr hs
  · exact h.rel f (by omega) hd
theorem Ph.push {A : List Arc} {S : Nat} {H : List Nat} {k : Nat} {es es' : List (Int × Int)} (h : Ph A S H k es) (hk : k < S) (hd : cv H k < far) (hp : es'.Perm (((cv H k : Int), (k : Int)) :: es)) : Ph A S H (k + 1) es' := by
  have hlen := hp.length_eq
  have hl := h.len
  simp only [List.length_cons] at hlen
  refine ⟨fun e he => ?_, fun f hf hd' => ?_, by omega⟩
  · rcases List.mem_cons.1 (hp.mem_iff.1 he) with rfl | h2
    · exact ⟨cv H k, k, rfl, hk, hd, Nat.le_refl _⟩
    · exact h.q e h2
  · by_cases e : f = k
    · subst e
      exact .inl (hp.mem_iff.2 List.mem_cons_self)
    · rcases h.rel f (by omega) hd' with h1 | h1
      · exact .inl (hp.mem_iff.2 (List.mem_cons_of_mem _ h1))
      · exact .inr h1
theorem Ph.fin {A : List Arc} {S : Nat} {P : Nat → Nat → Prop} {bd : Nat} {H : List Nat} {es : List (Int × Int)} (h : Ph A S H S es) (hr : Row S P bd H) : Dij A S P bd H H es := by
  refine ⟨hr, fun _ => Nat.le_refl _, h.q, fun f hf hd => ?_, Nat.add_le_add_right h.len _⟩
  rcases h.rel f hf hd with h1 | h1
  · exact .inl h1
  · exact .inr (fun a ha => by rw [h1] at ha; exact (List.not_mem_nil ha).elim)
/-- a row along which no silent arc betters anything -/
structure Settled (A : List Arc) (S : Nat) (P : Nat → Nat → Prop) (bd : Nat) (H R : List Nat) : Prop where
  row : Row S P bd R
  le : ∀ s, cv R s ≤ cv H s
  done : ∀ f, f < S → cv R f < far → Done A R f
theorem Dij.fin {A : List Arc} {S : Nat} {P : Nat → Nat → Prop} {bd : Nat} {H R : List Nat} (h : Dij A S P bd H R []) : Settled A S P bd H R :=
  ⟨h.row, h.le, fun f hf hd => (h.rel f hf hd).resolve_left (List.not_mem_nil)⟩
theorem pot_le {S : Nat} {P : Nat → Nat → Prop} {bd : Nat} {R : List Nat} (h : Row S P bd R) : pot (bd + 1000000 * S + 1) R ≤ S * (bd + 1000000 * S + 1) := by
  have hfl := fin_le R
  rw [h.len] at hfl
  have hm : 1000000 * fin R ≤ 1000000 * S := Nat.mul_le_mul_left _ hfl
  have key : ∀ L : List Nat, (∀ v ∈ L, (if v < far then v else bd + 1000000 * S + 1) ≤ bd + 1000000 * S + 1) → pot (bd + 1000000 * S + 1) L ≤ L.length * (bd + 1000000 * S + 1) := by
    intro L hL
    induction L with
    | nil => simp [pot]
    | cons a L ih =>
      have h1 := ih (fun v hv => hL v (List.mem_cons_of_mem _ hv))
      have h2 := hL a List.mem_cons_self
      have e : pot (bd + 1000000 * S + 1) (a :: L) = (if a < far then a else bd + 1000000 * S + 1) + pot (bd + 1000000 * S + 1) L := by simp [pot]
      rw [e, List.length_cons, Nat.add_mul, Nat.one_mul]
      omega
  have := key R (fun v hv => by
    split
    · rename_i hd
      obtain ⟨k, hk, rfl⟩ := List.getElem_of_mem hv
      have e : cv R k = R[k] := by unfold cv; simp [hk]
      have := h.small k (by rw [e]; exact hd)
      rw [e] at this
      omega
    · omega)
  rw [h.len] at this
  exact this
end Go.Proofs.YtfjocafepigijaaDoor.Wd
