/- Plain facts for MachineThrough: the machine of all pairs of states, and a smaller one that has the pairs that matter alone: what they cost is the same. No program text. -/
import Derived.Test.YtfjocafepigijaaDoorBw
namespace Go.Proofs.YtfjocafepigijaaDoor.Th
open Mv Wk Bw

/-- an arc of the machine of pairs: p, q: pairs of states; what is read, written, and its cost -/
def PE (a b : M) (SA SB : Nat) (p q : Nat) (i o w : Int) : Prop :=
  (∃ x ∈ a.arcs, x.2.2.2.1 = 0 ∧ ∃ s s' t : Nat, x.1 = (s : Int) ∧ x.2.1 = (s' : Int) ∧ t < SB ∧ p = s * SB + t ∧ q = s' * SB + t ∧ i = x.2.2.1 ∧ o = 0 ∧ w = x.2.2.2.2) ∨
  (∃ x ∈ a.arcs, ∃ y ∈ b.arcs, x.2.2.2.1 ≠ 0 ∧ y.2.2.1 = x.2.2.2.1 ∧ ∃ s s' t t' : Nat, x.1 = (s : Int) ∧ x.2.1 = (s' : Int) ∧ y.1 = (t : Int) ∧ y.2.1 = (t' : Int) ∧ p = s * SB + t ∧ q = s' * SB + t' ∧ i = x.2.2.1 ∧ o = y.2.2.2.1 ∧ w = x.2.2.2.2 + y.2.2.2.2) ∨
  (∃ y ∈ b.arcs, y.2.2.1 = 0 ∧ ∃ s t t' : Nat, y.1 = (t : Int) ∧ y.2.1 = (t' : Int) ∧ s < SA ∧ p = s * SB + t ∧ q = s * SB + t' ∧ i = 0 ∧ o = y.2.2.2.1 ∧ w = y.2.2.2.2)
/-- the arcs of the machine of pairs, as a list: of an arc of the first one; of one of the second one that reads nothing -/
def eA (SB : Nat) (x : A5) (t : Nat) : A5 := (x.1 * SB + (t : Int), x.2.1 * SB + (t : Int), x.2.2.1, 0, x.2.2.2.2)
def eX (SB : Nat) (x y : A5) : A5 := (x.1 * SB + y.1, x.2.1 * SB + y.2.1, x.2.2.1, y.2.2.2.1, x.2.2.2.2 + y.2.2.2.2)
def eB (SB : Nat) (y : A5) (s : Nat) : A5 := ((s : Int) * SB + y.1, (s : Int) * SB + y.2.1, 0, y.2.2.2.1, y.2.2.2.2)
def jy (SB : Nat) (x y : A5) : List A5 := if y.2.2.1 = x.2.2.2.1 then [eX SB x y] else []
def jx (b : M) (SB : Nat) (x : A5) : List A5 := if x.2.2.2.1 = 0 then (List.range SB).map (eA SB x) else b.arcs.flatMap (jy SB x)
def jb (SA SB : Nat) (y : A5) : List A5 := if y.2.2.1 = 0 then (List.range SA).map (eB SB y) else []
def prA (a b : M) (SA SB : Nat) : List A5 := a.arcs.flatMap (jx b SB) ++ b.arcs.flatMap (jb SA SB)
def prF (a b : M) (SB : Nat) : List (Int × Int) := a.fins.flatMap fun f => b.fins.map fun g => (f.1 * SB + g.1, f.2 + g.2)
def prM (a b : M) (SA SB : Nat) : M := ⟨(SA : Int) * SB, prA a b SA SB, prF a b SB⟩
/-- states are numbers that are not below nought -/
def NN (a : M) : Prop := ∀ x ∈ a.arcs, 0 ≤ x.1 ∧ 0 ≤ x.2.1
/-- an edge, whatever it reads, writes and costs -/
def Ed (m : M) (p q : Nat) : Prop := ∃ e ∈ m.arcs, e.1 = (p : Int) ∧ e.2.1 = (q : Int)
/-- from a state one comes to an end by so many edges -/
def LeadsN (m : M) : Nat → Nat → Prop
  | 0, p => ∃ f ∈ m.fins, f.1 = (p : Int)
  | n + 1, p => ∃ q, Ed m p q ∧ LeadsN m n q
def Leads (m : M) (p : Nat) : Prop := ∃ n, LeadsN m n p
/-- a smaller machine: P: which states of the great one it has, in its order -/
structure Cut (m x : M) (P : List Nat) : Prop where
  one : P.Nodup
  zero : P[0]? = some 0
  sub : ∀ e ∈ x.arcs, ∃ u v : Nat, ∃ p q : Nat, P[u]? = some p ∧ P[v]? = some q ∧ e.1 = (u : Int) ∧ e.2.1 = (v : Int) ∧ ((p : Int), (q : Int), e.2.2) ∈ m.arcs
  sup : ∀ e ∈ m.arcs, ∀ u v p q : Nat, P[u]? = some p → P[v]? = some q → e.1 = (p : Int) → e.2.1 = (q : Int) → ∃ w, w ≤ e.2.2.2.2 ∧ ((u : Int), (v : Int), e.2.2.1, e.2.2.2.1, w) ∈ x.arcs
  fsub : ∀ f ∈ x.fins, ∃ u p : Nat, P[u]? = some p ∧ f.1 = (u : Int) ∧ ((p : Int), f.2) ∈ m.fins
  fsup : ∀ f ∈ m.fins, ∀ u p : Nat, P[u]? = some p → f.1 = (p : Int) → ((u : Int), f.2) ∈ x.fins
  closed : ∀ p q, p ∈ P → Ed m p q → Leads m q → q ∈ P
end Go.Proofs.YtfjocafepigijaaDoor.Th
