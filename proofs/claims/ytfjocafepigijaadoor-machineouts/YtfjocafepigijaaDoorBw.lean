/- Plain facts for MachineMakes: the walks of a machine turned round, of a side, of either of two; what they cost. Conditions: the machines are right. -/
import Derived.Test.YtfjocafepigijaaDoorWk
namespace Go.Proofs.YtfjocafepigijaaDoor.Bw
open Mv Wk

abbrev A5 := Int × Int × Int × Int × Int
theorem reachN_succ {m : M} {inn out : List Int} {told : Bool} {t s' i' j' c' : Nat} : ReachN m inn out told (t + 1) s' i' j' c' ↔ ∃ s i j c : Nat, ∃ a ∈ m.arcs, ReachN m inn out told t s i j c ∧ a.1 = (s : Int) ∧ a.2.1 = (s' : Int) ∧ Wk.Move inn out told a i j i' j' ∧ (c' : Int) = c + a.2.2.2.2 := by
  constructor
  · rintro ⟨s, i, j, c, x, hx, hr, h1, h2, h3, h4⟩
    exact ⟨s, i, j, c, m.arcs[x], List.getElem_mem hx, hr, h1, h2, h3, h4⟩
  · rintro ⟨s, i, j, c, a, ha, hr, h1, h2, h3, h4⟩
    obtain ⟨x, hx, rfl⟩ := List.getElem_of_mem ha
    exact ⟨s, i, j, c, x, hx, hr, h1, h2, h3, h4⟩
/-- a walk that ends, for so much -/
def Acc (m : M) (inn out : List Int) (told : Bool) (v : Nat) : Prop := ∃ f ∈ m.fins, ∃ s c : Nat, f.1 = (s : Int) ∧ Wk.Reach m inn out told s inn.length (cols out told - 1) c ∧ (v : Int) = c + f.2
/-- the least of what holds, or dear -/
def Least (P : Nat → Prop) (v : Nat) : Prop := (v = dear ∧ ∀ u, ¬ P u) ∨ (v < dear ∧ P v ∧ ∀ u, P u → v ≤ u)
theorem isCost_iff {m : M} {inn out : List Int} {told : Bool} {v : Nat} (hf : ∀ f ∈ m.fins, 0 ≤ f.2) : IsCost m inn out told v ↔ Least (Acc m inn out told) v := by
  constructor
  · rintro (⟨e, h⟩ | ⟨e, ⟨y, hy, f, c, h1, h2, h3⟩, h⟩)
    · refine .inl ⟨e, ?_⟩
      rintro u ⟨f, hm, s, c, h1, h2, _⟩
      obtain ⟨y, hy, rfl⟩ := List.getElem_of_mem hm
      exact h y hy s c h1 h2
    · refine .inr ⟨e, ⟨_, List.getElem_mem hy, f, c, h1, h2, h3⟩, ?_⟩
      rintro u ⟨g, hm, s, d, k1, k2, k3⟩
      obtain ⟨z, hz, rfl⟩ := List.getElem_of_mem hm
      have := h z hz s d k1 k2
      omega
  · rintro (⟨e, h⟩ | ⟨e, ⟨f, hm, s, c, h1, h2, h3⟩, h⟩)
    · refine .inl ⟨e, fun y hy f c h1 h2 => ?_⟩
      have h0 := hf _ (List.getElem_mem hy)
      exact h (c + (m.fins[y]).2.toNat) ⟨_, List.getElem_mem hy, f, c, h1, h2, by omega⟩
    · obtain ⟨y, hy, rfl⟩ := List.getElem_of_mem hm
      refine .inr ⟨e, ⟨y, hy, s, c, h1, h2, h3⟩, fun z hz g d k1 k2 => ?_⟩
      have h0 := hf _ (List.getElem_mem hz)
      have := h (d + (m.fins[z]).2.toNat) ⟨_, List.getElem_mem hz, g, d, k1, k2, by omega⟩
      omega

/- TURN -/
def turnA (a : A5) : A5 := (a.1, a.2.1, a.2.2.2.1, a.2.2.1, a.2.2.2.2)
def turnM (m : M) : M := ⟨m.st, m.arcs.map turnA, m.fins⟩
/- SIDE -/
def sideA (a : A5) : A5 := (a.1, a.2.1, a.2.2.1, a.2.2.1, a.2.2.2.2)
def sideM (m : M) : M := ⟨m.st, m.arcs.map sideA, m.fins⟩
/- EITHER -/
def mvA (d : Int) (a : A5) : A5 := (a.1 + d, a.2.1 + d, a.2.2)
def mvF (d : Int) (f : Int × Int) : Int × Int := (f.1 + d, f.2)
def eitherM (a b : M) : M := ⟨1 + a.st + b.st, (0, 1, 0, 0, 0) :: (0, 1 + a.st, 0, 0, 0) :: (a.arcs.map (mvA 1) ++ b.arcs.map (mvA (1 + a.st))), a.fins.map (mvF 1) ++ b.fins.map (mvF (1 + a.st))⟩
end Go.Proofs.YtfjocafepigijaaDoor.Bw
