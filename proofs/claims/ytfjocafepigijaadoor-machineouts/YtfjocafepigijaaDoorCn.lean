/- What a step and what is settled make of good rows, as the walk of costs takes it. No conditions beyond that the machine is right. -/
import Derived.Test.YtfjocafepigijaaDoorCm
namespace Go.Proofs.YtfjocafepigijaaDoor.Cn
open Go.RowKit Mv Wk Qp Sk Po Ps Wd Se Mp St Wg Nw Cm
open CR (nc)

def FineL (m : M) (inn out : List Int) (S i : Nat) (l : List RowH) : Prop := ∀ j x, l[j]? = some x → Fine m inn out S i j x.2.2
theorem FineL.snoc {m : M} {inn out : List Int} {S i j : Nat} {l : List RowH} {x : RowH} (h : FineL m inn out S i l) (hl : l.length = j) (hx : Fine m inn out S i j x.2.2) : FineL m inn out S i (l ++ [x]) := by
  intro k y hy
  by_cases hk : k < l.length
  · rw [List.getElem?_append_left hk] at hy
    exact h k y hy
  · rw [List.getElem?_append_right (by omega)] at hy
    obtain ⟨h0, e⟩ := List.getElem?_eq_some_iff.1 hy
    simp at h0
    have : k = j := by omega
    subst this
    subst hl
    simp at e
    subst e
    exact hx
theorem fine_small {m : M} {inn out : List Int} {S i j : Nat} {R : List Nat} (h : Fine m inn out S i j R) (hS : S ≤ 40) (hp : i + j + 1 ≤ 122) : ∀ s, cv R s < far → cv R s ≤ 100000000000 := fun s hs => by
  have h1 := h.top2 s hs
  have h2 := Bd_le (S := S) hS hp
  omega
theorem far_big : 1000000000000 < far := by unfold far; omega
theorem mem_lab {A : List Arc} {a b : Int} {x : Arc} (h : x ∈ lab A a b) : x.2.2.1 = a ∧ x.2.2.2.1 = b := by
  have := (List.mem_filter.1 h).2
  simpa using this
theorem mv1 {A : List Arc} {inn out : List Int} {i j : Nat} {a : Int} (h : inn[i]? = some a) (ha : 1 ≤ a) : ∀ x ∈ lab A a 0, Wk.Move inn out true x i j (i + 1) j := fun x hx => by
  obtain ⟨e1, e2⟩ := mem_lab hx
  exact ⟨.inr ⟨by omega, by rw [e1]; exact h, rfl⟩, .inl ⟨.inl e2, rfl⟩⟩
theorem mv2 {A : List Arc} {inn out : List Int} {i j : Nat} {b : Int} (h : out[j]? = some b) (hb : 1 ≤ b) : ∀ x ∈ lab A 0 b, Wk.Move inn out true x i j i (j + 1) := fun x hx => by
  obtain ⟨e1, e2⟩ := mem_lab hx
  exact ⟨.inl ⟨e1, rfl⟩, .inr ⟨by omega, rfl, by rw [e2]; exact h, rfl⟩⟩
theorem mv3 {A : List Arc} {inn out : List Int} {i j : Nat} {a b : Int} (h : inn[i]? = some a) (ha : 1 ≤ a) (h' : out[j]? = some b) (hb : 1 ≤ b) : ∀ x ∈ lab A a b, Wk.Move inn out true x i j (i + 1) (j + 1) := fun x hx => by
  obtain ⟨e1, e2⟩ := mem_lab hx
  exact ⟨.inr ⟨by omega, by rw [e1]; exact h, rfl⟩, .inr ⟨by omega, rfl, by rw [e2]; exact h', rfl⟩⟩
/-- a step, in one word -/
theorem step_of {m : M} {inn out : List Int} {S i j i' j' : Nat} {Rf H H' : List Nat} {a b : Int} (hr : Right m S) (hS : S ≤ 40) (hp2 : i + j ≤ 122) (hg : Fine m inn out S i' j' Rf) (hp : Pre S (Pl m inn out i j) (Bd S (i + j)) H) (hs : Stp S (lab m.arcs a b) Rf H (lab m.arcs a b).length H') (hij : i' + j' + 1 ≤ i + j) (hm : ∀ x ∈ lab m.arcs a b, Wk.Move inn out true x i' j' i j) :
    Pre S (Pl m inn out i j) (Bd S (i + j)) H' ∧ (∀ s, cv H' s ≤ cv H s) ∧ From m inn out H' a b i' j' := by
  obtain ⟨h1, h2, h3⟩ := stepped hr hg hp hs hij hm
  refine ⟨h1, h2, fun x hx f t W c e1 e2 e3 hR => ?_⟩
  have h4 := h3 x hx f t W c e1 e2 e3 hR
  have h5 := Bd_le (S := S) hS hp2
  have h6 := far_big
  omega
theorem silent {m : M} {inn out : List Int} {i j : Nat} : ∀ a ∈ m.arcs, ∀ f t c W : Nat, a.2.2.1 = 0 → a.2.2.2.1 = 0 → a.1 = (f : Int) → a.2.1 = (t : Int) → a.2.2.2.2 = (W : Int) → Pl m inn out i j f c → Pl m inn out i j t (c + W) := by
  intro a ha f t c W h1 h2 h3 h4 h5 hp
  obtain ⟨k, hk, rfl⟩ := List.getElem_of_mem ha
  obtain ⟨n, hn⟩ := hp
  exact ⟨n + 1, f, i, j, c, k, hk, hn, h3, h4, ⟨.inl ⟨h1, rfl⟩, .inl ⟨.inl h2, rfl⟩⟩, by rw [h5]; omega⟩
theorem right_all {m : M} {S : Nat} (hr : Right m S) : ∀ a ∈ m.arcs, arcB (S : Int) a = true := fun a ha => by
  obtain ⟨k, hk, rfl⟩ := List.getElem_of_mem ha
  have := hr.2.2 k hk
  rw [hr.1] at this
  exact this
theorem settled_of {m : M} {inn out : List Int} {S i j : Nat} {H R : List Nat} (hr : Right m S) (hS : S ≤ 40) (hp : i + j ≤ 122) (hs : Settled m.arcs S (Pl m inn out i j) (Bd S (i + j)) H R) (h0 : i = 0 → j = 0 → cv H 0 = 0) (hc : Comp m inn out i j H) : Fine m inn out S i j R :=
  settled hr hs h0 hc (by have h1 := Bd_le (S := S) hS hp; have h2 := far_big; omega)
/-- the first place -/
theorem pre_first {m : M} {inn out : List Int} {S : Nat} (h0 : 0 < S) : Pre S (Pl m inn out 0 0) (Bd S (0 + 0)) ((List.replicate S far).set 0 0) ∧ cv ((List.replicate S far).set 0 0) 0 = 0 := by
  have hl : 0 < (List.replicate S far).length := by simpa using h0
  have e : ∀ s, cv ((List.replicate S far).set 0 0) s = if 0 = s then 0 else far := fun s => by rw [cv_set _ 0 0 s hl, cv_none]
  refine ⟨⟨by simp, fun s => ?_, fun s _ hd => ?_, fun s hd => ?_⟩, by rw [e]; rfl⟩
  · rw [e]; split <;> simp
  · rw [e] at hd ⊢
    split at hd
    · rename_i h
      subst h
      rw [if_pos rfl]
      exact ⟨0, rfl, rfl, rfl, rfl⟩
    · exact absurd hd (Nat.lt_irrefl _)
  · rw [e] at hd ⊢
    split at hd
    · rw [if_pos (by assumption)]; omega
    · exact absurd hd (Nat.lt_irrefl _)
theorem compB {m : M} {inn out : List Int} {j : Nat} {b : Int} {H : List Nat} (hb : out[j]? = some b) (h : From m inn out H 0 b 0 j) : Comp m inn out 0 (j + 1) H :=
  comp_of (fun _ _ h => by omega) (fun j2 b2 hj hb2 => by
    obtain rfl : j2 = j := by omega
    rw [hb] at hb2
    cases hb2
    exact h) (fun _ _ _ _ h => by omega)
theorem compC {m : M} {inn out : List Int} {i : Nat} {a : Int} {H : List Nat} (ha : inn[i]? = some a) (h : From m inn out H a 0 i 0) : Comp m inn out (i + 1) 0 H :=
  comp_of (fun i2 a2 hi ha2 => by
    obtain rfl : i2 = i := by omega
    rw [ha] at ha2
    cases ha2
    exact h) (fun _ _ h => by omega) (fun _ _ _ _ _ h => by omega)
theorem compD {m : M} {inn out : List Int} {i j : Nat} {a b : Int} {H1 H2 H3 : List Nat} (ha : inn[i]? = some a) (hb : out[j]? = some b) (h1 : From m inn out H1 a 0 i (j + 1)) (h2 : From m inn out H2 0 b (i + 1) j) (h3 : From m inn out H3 a b i j) (l2 : ∀ s, cv H2 s ≤ cv H1 s) (l3 : ∀ s, cv H3 s ≤ cv H2 s) : Comp m inn out (i + 1) (j + 1) H3 :=
  comp_of (fun i2 a2 hi ha2 => by
    obtain rfl : i2 = i := by omega
    rw [ha] at ha2
    cases ha2
    exact (h1.le l2).le l3) (fun j2 b2 hj hb2 => by
    obtain rfl : j2 = j := by omega
    rw [hb] at hb2
    cases hb2
    exact h2.le l3) (fun i2 j2 a2 b2 hi hj ha2 hb2 => by
    obtain rfl : i2 = i := by omega
    obtain rfl : j2 = j := by omega
    rw [ha] at ha2
    rw [hb] at hb2
    cases ha2
    cases hb2
    exact h3)
theorem info26 : (Tryd.prog.info? 26).map (fun i => (i.zero, i.size, i.bytes)) = some (some (.slice none 0 0), 1, 24) := by kernel_rfl
theorem slice_one (v : Value) (h : v.oneCell' = true) : ∀ u ∈ [v], u.oneCell' = true := fun u hu => by
  simp only [List.mem_singleton] at hu
  rw [hu]
  exact h
end Go.Proofs.YtfjocafepigijaaDoor.Cn
