/- Plain facts for again: the least of all last walks, one place after the other; the table of all places. No conditions beyond bounds. -/
import Derived.Test.YtegfhbjdfcoajaaBzM
import Derived.Test.YtegfhbjdfcoajaaPd
namespace Go.Proofs.Ytegfhbjdfcoajaa.Pr
open Mv Wk Bw Pd

def big : Nat := 11532001000000
/-- a last walk from a place that was looked at, or no walk -/
def SeenR (a : M) (inn out : List Int) (i j R Q v : Nat) : Prop := (i = 0 ∧ j = 0 ∧ v = 0) ∨ ∃ r w u c : Nat, (r < R ∨ (r = R ∧ w < Q)) ∧ r ≤ i ∧ w ≤ j ∧ ¬ (r = i ∧ w = j) ∧ Rounds a inn out r w u ∧ Seg a inn out r w i j c ∧ v = u + c
section
variable {a : M} {inn out : List Int} {i j R Q x : Nat}
theorem seenR_start (a : M) (inn out : List Int) (i j : Nat) : Least (SeenR a inn out i j 0 0) (if i + j = 0 then 0 else dear) := by
  split
  · rename_i h
    exact .inr ⟨by unfold dear; omega, .inl ⟨by omega, by omega, rfl⟩, fun u _ => Nat.zero_le _⟩
  · rename_i h
    refine .inl ⟨rfl, fun u hu => ?_⟩
    rcases hu with ⟨h1, h2, _⟩ | ⟨r, w, _, _, h1, _⟩
    · omega
    · omega
theorem seenR_same (h : Least (SeenR a inn out i j R Q) x) (hn : ∀ u c, R ≤ i → Q ≤ j → ¬ (R = i ∧ Q = j) → Rounds a inn out R Q u → ¬ Seg a inn out R Q i j c) : Least (SeenR a inn out i j R (Q + 1)) x :=
  h.congr fun v => by
    constructor
    · rintro (h | ⟨r, w, u, c, h1, h2⟩)
      · exact .inl h
      · exact .inr ⟨r, w, u, c, by omega, h2⟩
    · rintro (h | ⟨r, w, u, c, h1, h2, h3, h4, h5, h6, h7⟩)
      · exact .inl h
      · by_cases e : r = R ∧ w = Q
        · obtain ⟨rfl, rfl⟩ := e
          exact absurd h6 (hn u c h2 h3 h4 h5)
        · exact .inr ⟨r, w, u, c, by omega, h2, h3, h4, h5, h6, h7⟩
theorem seenR_self (h : Least (SeenR a inn out i j R Q) x) (e : R = i ∧ Q = j) : Least (SeenR a inn out i j R (Q + 1)) x := seenR_same h (fun _ _ _ _ hn => absurd e hn)
theorem least_dear {P : Nat → Prop} (h : Least P dear) : ∀ u, ¬ P u := by
  rcases h with ⟨_, h⟩ | ⟨h, _⟩
  · exact h
  · exact absurd h (Nat.lt_irrefl _)
theorem seenR_none (h : Least (SeenR a inn out i j R Q) x) (hd : Least (Rounds a inn out R Q) dear) : Least (SeenR a inn out i j R (Q + 1)) x := seenR_same h (fun u _ _ _ _ hr => absurd hr (least_dear hd u))
theorem seenR_no (h : Least (SeenR a inn out i j R Q) x) (hd : Least (Seg a inn out R Q i j) dear) : Least (SeenR a inn out i j R (Q + 1)) x := seenR_same h (fun _ c _ _ _ _ => least_dear hd c)
theorem seenR_step {p c : Nat} (h : Least (SeenR a inn out i j R Q) x) (hR : R ≤ i) (hQ : Q ≤ j) (hne : ¬ (R = i ∧ Q = j)) (hp : Least (Rounds a inn out R Q) p) (hc : Least (Seg a inn out R Q i j) c) (p1 : p < dear) (c1 : c < dear) (hs : p + c < dear) : Least (SeenR a inn out i j R (Q + 1)) (min x (p + c)) := by
  have hp' := hp.resolve_left (fun e => by rw [e.1] at p1; exact Nat.lt_irrefl _ p1)
  have hc' := hc.resolve_left (fun e => by rw [e.1] at c1; exact Nat.lt_irrefl _ c1)
  have k : Least (fun v => ∃ u d, Rounds a inn out R Q u ∧ Seg a inn out R Q i j d ∧ v = u + d) (p + c) := .inr ⟨hs, ⟨p, c, hp'.2.1, hc'.2.1, rfl⟩, fun v ⟨u, d, h1, h2, e⟩ => by
    have := hp'.2.2 u h1
    have := hc'.2.2 d h2
    omega⟩
  refine (h.or k).congr fun v => ?_
  constructor
  · rintro ((h | ⟨r, w, u, c, h1, h2⟩) | ⟨u, d, h1, h2, h3⟩)
    · exact .inl h
    · exact .inr ⟨r, w, u, c, by omega, h2⟩
    · exact .inr ⟨R, Q, u, d, .inr ⟨rfl, by omega⟩, hR, hQ, hne, h1, h2, h3⟩
  · rintro (h | ⟨r, w, u, c, h1, h2, h3, h4, h5, h6, h7⟩)
    · exact .inl (.inl h)
    · by_cases e : r = R ∧ w = Q
      · obtain ⟨rfl, rfl⟩ := e
        exact .inr ⟨u, c, h5, h6, h7⟩
      · exact .inl (.inr ⟨r, w, u, c, by omega, h2, h3, h4, h5, h6, h7⟩)
theorem seenR_row (h : Least (SeenR a inn out i j R (j + 1)) x) : Least (SeenR a inn out i j (R + 1) 0) x :=
  h.congr fun v => by
    constructor
    · rintro (h | ⟨r, w, u, c, h1, h2⟩)
      · exact .inl h
      · exact .inr ⟨r, w, u, c, by omega, h2⟩
    · rintro (h | ⟨r, w, u, c, h1, h2, h3, h4⟩)
      · exact .inl h
      · exact .inr ⟨r, w, u, c, by omega, h2, h3, h4⟩
theorem seenR_end (hi : i ≤ inn.length) (hj : j ≤ out.length) (h : Least (SeenR a inn out i j (i + 1) 0) x) : Least (Rounds a inn out i j) x :=
  rounds_least hi hj (h.congr fun v => by
    constructor
    · rintro (h | ⟨r, w, u, c, h1, h2, h3, h4, h5, h6, h7⟩)
      · exact .inl h
      · exact .inr ⟨r, w, u, c, h2, h3, h4, h5, h6, h7⟩
    · rintro (h | ⟨r, w, u, c, h2, h3, h4, h5, h6, h7⟩)
      · exact .inl h
      · exact .inr ⟨r, w, u, c, by omega, h2, h3, h4, h5, h6, h7⟩)
end
/-- a table whose places ahead of one are right -/
def Tab (a : M) (inn out : List Int) (B : List Nat) (i j : Nat) : Prop := ∀ i' j', (i' < i ∨ (i' = i ∧ j' < j)) → i' ≤ inn.length → j' ≤ out.length → Least (Rounds a inn out i' j') (val B (i' * (out.length + 1) + j')) ∧ (val B (i' * (out.length + 1) + j') = dear ∨ val B (i' * (out.length + 1) + j') ≤ (i' + j') * big)
theorem tab_start (a : M) (inn out : List Int) (B : List Nat) : Tab a inn out B 0 0 := fun i' j' h => by omega
theorem tab_row {a : M} {inn out : List Int} {B : List Nat} {i : Nat} (h : Tab a inn out B i (out.length + 1)) : Tab a inn out B (i + 1) 0 := fun i' j' h1 h2 h3 => h i' j' (by omega) h2 h3
theorem place_inj {K i j i' j' : Nat} (hj : j < K) (hj' : j' < K) (h : i * K + j = i' * K + j') : i = i' ∧ j = j' := pair_inj hj hj' h
/-- a store at the place itself leaves those ahead of it alone -/
theorem tab_set {a : M} {inn out : List Int} {B : List Nat} {i j v : Nat} (h : Tab a inn out B i j) (hj : j ≤ out.length) : Tab a inn out (B.set (i * (out.length + 1) + j) v) i j := fun i' j' h1 h2 h3 => by
  have hne : i * (out.length + 1) + j ≠ i' * (out.length + 1) + j' := fun e => by
    have := place_inj (by omega) (by omega) e
    omega
  have e : val (B.set (i * (out.length + 1) + j) v) (i' * (out.length + 1) + j') = val B (i' * (out.length + 1) + j') := by
    simp only [val, List.getD_eq_getElem?_getD]
    rw [List.getElem?_set_ne hne]
  rw [e]
  exact h i' j' h1 h2 h3
theorem tab_next {a : M} {inn out : List Int} {B : List Nat} {i j : Nat} (h : Tab a inn out B i j) (hv : Least (Rounds a inn out i j) (val B (i * (out.length + 1) + j))) (hb : val B (i * (out.length + 1) + j) = dear ∨ val B (i * (out.length + 1) + j) ≤ (i + j) * big) : Tab a inn out B i (j + 1) := fun i' j' h1 h2 h3 => by
  by_cases e : i' = i ∧ j' = j
  · obtain ⟨rfl, rfl⟩ := e
    exact ⟨hv, hb⟩
  · exact h i' j' (by omega) h2 h3
end Go.Proofs.Ytegfhbjdfcoajaa.Pr
