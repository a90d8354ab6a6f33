/- Plain facts for parted: the least of all parts, one place after the other. No conditions beyond bounds. -/
import Derived.Test.YtegfhbjdfcoajaaBzM
namespace Go.Proofs.Ytegfhbjdfcoajaa.Bw
open Mv Wk

/-- what is walked by one up to a place, and by the other from there -/
def Piece (a b : M) (inn out : List Int) (i j v : Nat) : Prop := ∃ u w : Nat, v = u + w ∧ Acc a (inn.take i) (out.take j) true u ∧ Acc b (inn.drop i) (out.drop j) true w
/-- .. at a place that was looked at -/
def Seen (a b : M) (inn out : List Int) (I J v : Nat) : Prop := ∃ i j, (i < I ∨ (i = I ∧ j < J)) ∧ i ≤ inn.length ∧ j ≤ out.length ∧ Piece a b inn out i j v
theorem seen_start (a b : M) (inn out : List Int) : Least (Seen a b inn out 0 0) dear := .inl ⟨rfl, fun u ⟨i, j, h, _⟩ => by omega⟩
theorem seen_step {a b : M} {inn out : List Int} {I J x y : Nat} (hI : I ≤ inn.length) (hJ : J ≤ out.length) (h : Least (Seen a b inn out I J) x) (k : Least (Piece a b inn out I J) y) : Least (Seen a b inn out I (J + 1)) (min x y) :=
  (h.or k).congr fun u => by
    constructor
    · rintro (⟨i, j, h1, h2, h3, h4⟩ | h4)
      · exact ⟨i, j, by omega, h2, h3, h4⟩
      · exact ⟨I, J, .inr ⟨rfl, by omega⟩, hI, hJ, h4⟩
    · rintro ⟨i, j, h1, h2, h3, h4⟩
      by_cases e : i = I ∧ j = J
      · obtain ⟨rfl, rfl⟩ := e
        exact .inr h4
      · exact .inl ⟨i, j, by omega, h2, h3, h4⟩
theorem seen_row {a b : M} {inn out : List Int} {I x : Nat} (h : Least (Seen a b inn out I (out.length + 1)) x) : Least (Seen a b inn out (I + 1) 0) x :=
  h.congr fun u => by
    constructor
    · rintro ⟨i, j, h1, h2, h3, h4⟩
      exact ⟨i, j, by omega, h2, h3, h4⟩
    · rintro ⟨i, j, h1, h2, h3, h4⟩
      exact ⟨i, j, by omega, h2, h3, h4⟩
theorem seen_end {a b : M} {inn out : List Int} {x : Nat} (h : Least (Seen a b inn out (inn.length + 1) 0) x) : Least (Parted a b inn out) x :=
  h.congr fun u => by
    constructor
    · rintro ⟨i, j, h1, h2, h3, p, q, e, h4, h5⟩
      exact ⟨i, j, p, q, h2, h3, e, h4, h5⟩
    · rintro ⟨i, j, p, q, h2, h3, e, h4, h5⟩
      exact ⟨i, j, by omega, h2, h3, p, q, e, h4, h5⟩
theorem piece_least {a b : M} {inn out : List Int} {i j c d : Nat} (hc : Least (Acc a (inn.take i) (out.take j) true) c) (hd : Least (Acc b (inn.drop i) (out.drop j) true) d) (bc : c = dear ∨ c ≤ 11532001000000) (bd : d = dear ∨ d ≤ 11532001000000) :
    Least (Piece a b inn out i j) (if c < dear ∧ d < dear then c + d else dear) := by
  rcases hc with ⟨rfl, hc⟩ | ⟨lc, pc, hc⟩
  · rw [if_neg (fun h => absurd h.1 (Nat.lt_irrefl _))]
    exact .inl ⟨rfl, fun u ⟨p, _, _, h, _⟩ => hc p h⟩
  · rcases hd with ⟨rfl, hd⟩ | ⟨ld, pd, hd⟩
    · rw [if_neg (fun h => absurd h.2 (Nat.lt_irrefl _))]
      exact .inl ⟨rfl, fun u ⟨_, q, _, _, h⟩ => hd q h⟩
    · rw [if_pos ⟨lc, ld⟩]
      refine .inr ⟨?_, ⟨c, d, rfl, pc, pd⟩, fun u ⟨p, q, e, h1, h2⟩ => ?_⟩
      · unfold dear at *
        omega
      · have := hc p h1
        have := hd q h2
        omega
end Go.Proofs.Ytegfhbjdfcoajaa.Bw
