/- What Through makes, in plain words: it has the pairs that matter, and costs what the machine of pairs costs; it is right, but for costs that are too great. No program text. -/
import Derived.Test.YtfjocafepigijaaDoorKa
import Derived.Test.YtfjocafepigijaaDoorJl
import Derived.Test.YtfjocafepigijaaDoorJf
import Derived.Test.YtfjocafepigijaaDoorMl
namespace Go.Proofs.YtfjocafepigijaaDoor.Cu
open Mv Wk Bw Th Am Ra Wd Mp Mc

/-- right ends -/
def Fgt (S : Nat) (F : List (Int × Int)) : Prop := ∀ f ∈ F, finB (S : Int) f = true
def Onc (F : List (Int × Int)) : Prop := ∀ f ∈ F, ∀ g ∈ F, f.1 = g.1 → f = g
/-- what Through makes -/
def thA (a b : M) (SB : Nat) (U : Nat → Bool) (L : List Nat) : List Arc := chP (jl U (arcsP (rws (fun a => a) (chP a.arcs)) (rws (fun a => a) (chP b.arcs)) SB) L L.length)
def thM (a b : M) (SA SB : Nat) (U : Nat → Bool) (L : List Nat) : M := ⟨(L.length : Int), thA a b SB U L, Jf.jfP (Ec.endP SA a.fins) (Ec.endP SB b.fins) SB L L.length⟩
/-- what is known of the pairs that are useful -/
structure Usf (a b : M) (SA SB : Nat) (U W : Nat → Bool) : Prop where
  hA : Rgt SA a.arcs
  hB : Rgt SB b.arcs
  hFA : Fgt SA a.fins
  hFB : Fgt SB b.fins
  oA : Onc a.fins
  oB : Onc b.fins
  pA : 0 < SA
  pB : 0 < SB
  zero : U 0 = true
  ends : ∀ k ∈ eL SB a.fins b.fins a.fins.length, W k = true
  back : ∀ k, W k = true → ∀ k' : Nat, (∃ e ∈ arcsP (rws tn a.arcs) (rws tn b.arcs) SB k, e.2.1 = (k' : Int)) → W k' = true
  on : ∀ k, U k = true → ∀ k' : Nat, (∃ e ∈ arcsP (rws (fun a => a) (chP a.arcs)) (rws (fun a => a) (chP b.arcs)) SB k, e.2.1 = (k' : Int)) → W k' = true → U k' = true
def Ls (U : Nat → Bool) (n : Nat) : List Nat := (List.range n).filter U
end Go.Proofs.YtfjocafepigijaaDoor.Cu
