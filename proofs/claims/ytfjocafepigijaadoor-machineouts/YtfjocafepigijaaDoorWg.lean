/- Plain facts on the rows of least costs, place by place. No conditions beyond that the machine is right. -/
import Derived.Test.YtfjocafepigijaaDoorSt
namespace Go.Proofs.YtfjocafepigijaaDoor.Wg
open Mv Wk Wd St

def Bd (S p : Nat) : Nat := 1000000 * ((S + 1) * p + 1)
theorem Bd_le {S p : Nat} (hS : S ≤ 40) (hp : p ≤ 122) : Bd S p ≤ 5100000000 := by
  unfold Bd
  have : (S + 1) * p ≤ 41 * 122 := Nat.mul_le_mul (by omega) hp
  omega
abbrev Pl (m : M) (inn out : List Int) (i j : Nat) (s c : Nat) : Prop := Wk.Reach m inn out true s i j c
/-- a row that has the least cost of coming to each state at a place -/
structure Fine (m : M) (inn out : List Int) (S i j : Nat) (R : List Nat) : Prop where
  row : Wd.Row S (Pl m inn out i j) (Bd S (i + j)) R
  low : ∀ s c, Wk.Reach m inn out true s i j c → cv R s ≤ c ∧ cv R s < far
theorem Fine.top2 {m : M} {inn out : List Int} {S i j : Nat} {R : List Nat} (h : Fine m inn out S i j R) : ∀ s, cv R s < far → cv R s + 1000000 ≤ Bd S (i + j + 1) := by
  intro s hs
  have h1 := h.row.small s hs
  have h2 := fin_le R
  rw [h.row.len] at h2
  have h3 : 1000000 * fin R ≤ 1000000 * S := Nat.mul_le_mul_left _ h2
  unfold Bd at h1 ⊢
  have : (S + 1) * (i + j + 1) = (S + 1) * (i + j) + (S + 1) := Nat.mul_succ _ _
  rw [this]
  omega
theorem Bd_mono (S : Nat) {p q : Nat} (h : p ≤ q) : Bd S p ≤ Bd S q := by
  unfold Bd
  have : (S + 1) * p ≤ (S + 1) * q := Nat.mul_le_mul_left _ h
  omega
/-- a row ahead of its silent arcs -/
structure Pre (S : Nat) (P : Nat → Nat → Prop) (bd : Nat) (H : List Nat) : Prop where
  len : H.length = S
  top : ∀ s, cv H s ≤ far
  real : ∀ s, s < S → cv H s < far → P s (cv H s)
  small : ∀ s, cv H s < far → cv H s ≤ bd
theorem Pre.toRow {S : Nat} {P : Nat → Nat → Prop} {bd : Nat} {H : List Nat} (h : Pre S P bd H) : Wd.Row S P bd H := ⟨h.len, h.top, h.real, fun s hs => Nat.le_trans (h.small s hs) (Nat.le_add_right _ _)⟩
theorem cv_none (S s : Nat) : cv (List.replicate S far) s = far := by
  unfold cv
  rw [List.getD_eq_getElem?_getD, List.getElem?_replicate]
  split <;> rfl
theorem pre_none (S : Nat) (P : Nat → Nat → Prop) (bd : Nat) : Pre S P bd (List.replicate S far) :=
  ⟨List.length_replicate, fun s => by rw [cv_none]; exact Nat.le_refl _, fun s _ h => by rw [cv_none] at h; exact absurd h (Nat.lt_irrefl _), fun s h => by rw [cv_none] at h; exact absurd h (Nat.lt_irrefl _)⟩
theorem Pre.step {S : Nat} {P : Nat → Nat → Prop} {bd : Nat} {H H' Rf : List Nat} {L : List Arc} (h : Pre S P bd H) (hs : Stp S L Rf H L.length H')
    (hP : ∀ a ∈ L, ∀ f t W : Nat, a.1 = (f : Int) → a.2.1 = (t : Int) → a.2.2.2.2 = (W : Int) → cv Rf f < far → P t (cv Rf f + W) ∧ cv Rf f + W ≤ bd) : Pre S P bd H' := by
  refine ⟨hs.len, fun s => Nat.le_trans (hs.le s) (h.top s), fun s hss hd => ?_, fun s hd => ?_⟩
  · rcases hs.real s with e | ⟨a, ha, f, W, e1, e2, e3, hf, e⟩
    · rw [e] at hd ⊢; exact h.real s hss hd
    · rw [e]; exact (hP a ha f s W e1 e2 e3 hf).1
  · rcases hs.real s with e | ⟨a, ha, f, W, e1, e2, e3, hf, e⟩
    · rw [e] at hd ⊢; exact h.small s hd
    · rw [e]; exact (hP a ha f s W e1 e2 e3 hf).2
/-- what comes of a step from a good row -/
theorem stepped {m : M} {inn out : List Int} {S i j i' j' : Nat} {Rf H H' : List Nat} {a b : Int} (hr : Right m S) (hg : Fine m inn out S i' j' Rf) (hp : Pre S (Pl m inn out i j) (Bd S (i + j)) H) (hs : Stp S (lab m.arcs a b) Rf H (lab m.arcs a b).length H') (hij : i' + j' + 1 ≤ i + j)
    (hm : ∀ x ∈ lab m.arcs a b, Wk.Move inn out true x i' j' i j) :
    Pre S (Pl m inn out i j) (Bd S (i + j)) H' ∧ (∀ s, cv H' s ≤ cv H s) ∧ ∀ x ∈ lab m.arcs a b, ∀ f t W c : Nat, x.1 = (f : Int) → x.2.1 = (t : Int) → x.2.2.2.2 = (W : Int) → Wk.Reach m inn out true f i' j' c → cv H' t ≤ c + W ∧ cv H' t ≤ Bd S (i + j) := by
  refine ⟨hp.step hs (fun x hx f t W e1 e2 e3 hf => ⟨?_, ?_⟩), hs.le, fun x hx f t W c e1 e2 e3 hR => ?_⟩
  · have hmem := (List.mem_filter.1 hx).1
    obtain ⟨k, hk, rfl⟩ := List.getElem_of_mem hmem
    have hfs : f < S := by
      have ha := hr.2.2 k hk
      unfold arcB at ha
      simp only [decide_eq_true_eq] at ha
      have := hr.1
      omega
    obtain ⟨t0, ht0⟩ := hg.row.real f hfs hf
    exact ⟨t0 + 1, f, i', j', cv Rf f, k, hk, ht0, e1, e2, hm _ hx, by rw [e3]; omega⟩
  · have h1 := hg.top2 f hf
    have h2 := Bd_mono S hij
    have hmem := (List.mem_filter.1 hx).1
    obtain ⟨k, hk, rfl⟩ := List.getElem_of_mem hmem
    have ha := hr.2.2 k hk
    unfold arcB at ha
    simp only [decide_eq_true_eq] at ha
    omega
  · have h1 := hg.low f c hR
    obtain ⟨k, hk, rfl⟩ := List.getElem_of_mem hx
    have h2 := hs.done k hk hk f t W e1 e2 e3 h1.2
    have h3 := hg.top2 f h1.2
    have h4 := Bd_mono S hij
    have hmem := (List.mem_filter.1 hx).1
    obtain ⟨k', hk', e⟩ := List.getElem_of_mem hmem
    have ha := hr.2.2 k' hk'
    rw [e] at ha
    unfold arcB at ha
    simp only [decide_eq_true_eq] at ha
    omega
/-- all that comes from other places is there -/
def Comp (m : M) (inn out : List Int) (i j : Nat) (H : List Nat) : Prop := ∀ x (hx : x < m.arcs.length), ∀ f t W c i' j' : Nat, (m.arcs[x]).1 = (f : Int) → (m.arcs[x]).2.1 = (t : Int) → (m.arcs[x]).2.2.2.2 = (W : Int) → Wk.Move inn out true m.arcs[x] i' j' i j → ¬ ((m.arcs[x]).2.2.1 = 0 ∧ (m.arcs[x]).2.2.2.1 = 0) → Wk.Reach m inn out true f i' j' c → cv H t ≤ c + W ∧ cv H t < far
def From (m : M) (inn out : List Int) (H : List Nat) (a b : Int) (i' j' : Nat) : Prop := ∀ x ∈ lab m.arcs a b, ∀ f t W c : Nat, x.1 = (f : Int) → x.2.1 = (t : Int) → x.2.2.2.2 = (W : Int) → Wk.Reach m inn out true f i' j' c → cv H t ≤ c + W ∧ cv H t < far
theorem From.le {m : M} {inn out : List Int} {H H' : List Nat} {a b : Int} {i' j' : Nat} (h : From m inn out H a b i' j') (hle : ∀ s, cv H' s ≤ cv H s) : From m inn out H' a b i' j' := fun x hx f t W c e1 e2 e3 hR => by
  have := h x hx f t W c e1 e2 e3 hR
  have := hle t
  omega
theorem comp_of {m : M} {inn out : List Int} {i j : Nat} {H : List Nat} (h1 : ∀ i1 a, i = i1 + 1 → inn[i1]? = some a → From m inn out H a 0 i1 j) (h2 : ∀ j1 b, j = j1 + 1 → out[j1]? = some b → From m inn out H 0 b i j1)
    (h3 : ∀ i1 j1 a b, i = i1 + 1 → j = j1 + 1 → inn[i1]? = some a → out[j1]? = some b → From m inn out H a b i1 j1) : Comp m inn out i j H := by
  intro x hx f t W c i' j' e1 e2 e3 hm hns hR
  have hmem : ∀ a b : Int, (m.arcs[x]).2.2.1 = a → (m.arcs[x]).2.2.2.1 = b → m.arcs[x] ∈ lab m.arcs a b := fun a b ha hb => List.mem_filter.2 ⟨List.getElem_mem hx, by simp [ha, hb]⟩
  obtain ⟨hA, hB⟩ := hm
  rcases hA with ⟨a0, ei⟩ | ⟨a0, ai, ei⟩ <;> rcases hB with ⟨b0, ej⟩ | ⟨b0, _, bj, ej⟩
  · rcases b0 with b0 | b0
    · exact absurd ⟨a0, b0⟩ hns
    · cases b0
  · subst ei
    exact h2 j' _ ej bj _ (hmem 0 _ a0 rfl) f t W c e1 e2 e3 hR
  · rcases b0 with b0 | b0
    · subst ej
      exact h1 i' _ ei ai _ (hmem _ 0 rfl b0) f t W c e1 e2 e3 hR
    · cases b0
  · exact h3 i' j' _ _ ei ej ai bj _ (hmem _ _ rfl rfl) f t W c e1 e2 e3 hR
/-- what is settled behind all that comes from other places is good -/
theorem settled {m : M} {inn out : List Int} {S i j : Nat} {H R : List Nat} (hr : Right m S) (hs : Settled m.arcs S (Pl m inn out i j) (Bd S (i + j)) H R)
    (h0 : i = 0 → j = 0 → cv H 0 = 0)
    (hc : Comp m inn out i j H) (hb : Bd S (i + j) + 1000000 * S + 1000000 < far) : Fine m inn out S i j R := by
  refine ⟨hs.row, ?_⟩
  have key : ∀ n s i2 j2 c, Wk.ReachN m inn out true n s i2 j2 c → i2 = i → j2 = j → cv R s ≤ c ∧ cv R s < far := by
    intro n
    induction n with
    | zero =>
      intro s i2 j2 c h e1 e2
      obtain ⟨rfl, rfl, rfl, rfl⟩ := h
      have := h0 e1.symm e2.symm
      have h1 := hs.le 0
      rw [this] at h1
      exact ⟨h1, by unfold far; omega⟩
    | succ n ih =>
      intro s i2 j2 c h e1 e2
      obtain ⟨f, i', j', c', x, hx, hR, a1, a2, hm, hcc⟩ := h
      subst e1 e2
      have ha := hr.2.2 x hx
      unfold arcB at ha
      simp only [decide_eq_true_eq] at ha
      have hst := hr.1
      obtain ⟨W, hW⟩ : ∃ W : Nat, (m.arcs[x]).2.2.2.2 = (W : Int) := ⟨(m.arcs[x]).2.2.2.2.toNat, by omega⟩
      by_cases hsil : (m.arcs[x]).2.2.1 = 0 ∧ (m.arcs[x]).2.2.2.1 = 0
      · have hij : i' = i2 ∧ j' = j2 := by
          obtain ⟨h1, h2⟩ := hm
          constructor
          · rcases h1 with ⟨_, e⟩ | ⟨h, _⟩
            · exact e.symm
            · omega
          · rcases h2 with ⟨_, e⟩ | ⟨h, _⟩
            · exact e.symm
            · omega
        have hI := ih f i' j' c' hR hij.1 hij.2
        have hfs : f < S := by omega
        have hmem : m.arcs[x] ∈ sil m.arcs f := List.mem_filter.2 ⟨List.getElem_mem hx, by simp [hsil.1, hsil.2, a1]⟩
        have hd := hs.done f hfs hI.2 _ hmem s W a2 hW
        have hsm := hs.row.small f hI.2
        have hfl := fin_le R
        rw [hs.row.len] at hfl
        have hmul : 1000000 * fin R ≤ 1000000 * S := Nat.mul_le_mul_left _ hfl
        refine ⟨by omega, ?_⟩
        have : W ≤ 1000000 := by omega
        omega
      · have h1 := hc x hx f s W c' i' j' a1 a2 hW hm hsil ⟨n, hR⟩
        have h3 := hs.le s
        exact ⟨by omega, by omega⟩
  intro s c hR
  obtain ⟨n, hn⟩ := hR
  exact key n s i j c hn rfl rfl
end Go.Proofs.YtfjocafepigijaaDoor.Wg
