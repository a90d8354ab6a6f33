/- jointArcs: the arcs between useful pairs. Conditions: few states, few arcs. -/
import Derived.Test.YtfjocafepigijaaDoorNaM
import Derived.Test.YtfjocafepigijaaDoorRgM
import Derived.Test.YtfjocafepigijaaDoorMlM
import Derived.Test.YtfjocafepigijaaDoorUjM
import Derived.Test.YtfjocafepigijaaDoorAtM
import Derived.Test.YtfjocafepigijaaDoorKbM
namespace Go.Proofs.YtfjocafepigijaaDoor.Cu
open Go.RowKit Go.Shelf Mv Set Qp Sk Po Ps Wd Se Mp St Cm Nm Nx Ra Am Pa Tc Rf Na Rii
open CR (nc)
attribute [local go_sem] Oper.semAt_some

/-- what does not turn while the arcs are put together -/
structure Jc (w wr : World) (v : Value) (L : List Nat) (i : Nat) : Prop where
  x4 : wr.heap[w.heap.size]? = some (.cells #[v] 77 (0, 0))
  x6 : wr.heap[w.heap.size + 1]? = some (.cells #[.slice none 0 0] 22 (0, 0))
  x7 : wr.heap[w.heap.size + 3]? = some (.cells #[.map (some (w.heap.size + 2))] 138 (0, 0))
  nm : IsNm wr (w.heap.size + 2) i (nmG L i)
  below : Below w.heap.size w wr
/-- what holds between two rounds -/
def InvJ (base : Nat) (V : World) (Lb : Nat) (X0 : Nat → Prop) (J0 : List Arc) (f : Arc → List Arc) (pre : List Arc) (O : Nat → Prop) (A : World) : Prop := Lst base A Lb (chP (J0 ++ pre.flatMap f)) O ∧ Kp X0 V A ∧ ∀ k, O k → X0 k ∨ V.heap.size + 2 ≤ k
end Go.Proofs.YtfjocafepigijaaDoor.Cu
/- right: what was refused is right where it had to be refused; what was made is right where the machine is one and costs what is told. Condition: no text is longer than 61. -/
namespace Go.Proofs.YtfjocafepigijaaDoor.Mc
open Go.RowKit Mv Wk Sy Rz

theorem size_all {m : M} (h : checkP m 0) : 1 ≤ m.st ∧ m.st ≤ 3000 ∧ m.arcs.length ≤ 20000 ∧ m.fins.length ≤ 3000 := by
  have h1 := (checkP_ok h).1
  unfold sizeB at h1
  simp only [decide_eq_true_eq] at h1
  omega
/-- the document's Cost of any machine that is one; it is dear, or not much -/
theorem cost_of2 (m : M) (inn out : List Int) (v vi vo : Value) (w : World) (hM : IsM w v m) (hI : IsI w vi inn) (hO : IsI w vo out) (hc : checkP m 0) (hi : inn.length ≤ 61) (ho : out.length ≤ 61) :
    Calls Tryd.prog 12 #[v, vi, vo, .bool true] w fun e w' => ∃ c : Nat, e = .returned (.int .i64 (c : Int)) ∧ (IsCost m inn out true c ∧ (c = dear ∨ c ≤ 11532001000000)) ∧ Below w.heap.size w w' := by
  obtain ⟨s1, s2, s3, s4⟩ := size_all hc
  obtain ⟨_, harc, hfin⟩ := checkP_ok hc
  obtain ⟨st, arcs, fins⟩ := m
  obtain ⟨va, vf, rfl, ⟨_, aa, ca, rfl, _, hA⟩, ⟨_, af, cf, rfl, _, hF⟩⟩ := hM
  obtain ⟨_, ai, ci, rfl, _, hIc⟩ := hI
  obtain ⟨_, ao, co, rfl, _, hOc⟩ := hO
  dsimp only at s1 s2 s3 s4 harc hfin hA hF ⊢
  obtain ⟨S, rfl⟩ : ∃ S : Nat, st = (S : Int) := ⟨st.toNat, by omega⟩
  exact CR.cost_true2 S arcs fins inn out aa af ai ao ca cf ci co w (by omega) (by omega) hi ho s3 s4 harc hfin hA hF hIc hOc

/-- there is a least cost -/
theorem cost_ex (m : M) (inn out : List Int) (v vi vo : Value) (w : World) (hM : IsM w v m) (hI : IsI w vi inn) (hO : IsI w vo out) (hc : checkP m 0) (hi : inn.length ≤ 61) (ho : out.length ≤ 61) : ∃ c : Nat, IsCost m inn out true c ∧ (c = dear ∨ c ≤ 11532001000000) := by
  obtain ⟨_, _, _, ⟨c, _, h, _⟩, _⟩ := cost_of2 m inn out v vi vo w hM hI hO hc hi ho []
  exact ⟨c, h⟩

end Go.Proofs.YtfjocafepigijaaDoor.Mc
/- Through: right machines that are few. Conditions: these; the library's table lies as its text lays it. -/
namespace Go.Proofs.YtfjocafepigijaaDoor.Cu
open Go.RowKit Mv Set Qp Sk Po Ps Wd Se Mp St Cm Nm Nx Ra Am Pa Tc Mc
open CR (nc)

/-- how Through ends -/
def ThQ (a b : M) (SA SB : Nat) (w' : World) (e : Ending) : Prop := ∃ U W, Usf a b SA SB U W ∧ ((checkP (thM a b SA SB U (Ls U (SA * SB))) 0 ∧ ∃ v, e = .returned (.tuple #[v, .int .i64 0]) ∧ IsM w' v (thM a b SA SB U (Ls U (SA * SB)))) ∨ (checkP (thM a b SA SB U (Ls U (SA * SB))) 3 ∧ ¬ (lightP a = true ∧ lightP b = true) ∧ e = .returned (.tuple #[.agg #[.int .i64 0, .slice none 0 0, .slice none 0 0], .int .i64 3])))
end Go.Proofs.YtfjocafepigijaaDoor.Cu
