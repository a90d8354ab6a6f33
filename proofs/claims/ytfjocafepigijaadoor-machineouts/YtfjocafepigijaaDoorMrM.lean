/- checkBoth. No conditions. -/
import Derived.Test.YtfjocafepigijaaDoorRz
import Derived.Laws.ResultCell
namespace Go.Proofs.YtfjocafepigijaaDoor.Mc
open Go.RowKit Mv Wk Sy Rz

theorem box3 {w wr : World} {a b c : Value} (h : Below (w.alloc (.cells #[a, b, c] 25)).heap.size (w.alloc (.cells #[a, b, c] 25)) wr) : wr.cell? ⟨w.heap.size, 0, none⟩ = some a ∧ wr.cell? ⟨w.heap.size, 1, none⟩ = some b ∧ wr.cell? ⟨w.heap.size, 2, none⟩ = some c := by
  have hl : w.heap.size < (w.alloc (.cells #[a, b, c] 25)).heap.size := by simp
  have hn := heap_alloc_new w (.cells #[a, b, c] 25)
  exact ⟨(h.cell (p := ⟨w.heap.size, 0, none⟩) hl).trans (cell_of_row _ _ 0 _ 25 (0, 0) hn), (h.cell (p := ⟨w.heap.size, 1, none⟩) hl).trans (cell_of_row _ _ 1 _ 25 (0, 0) hn), (h.cell (p := ⟨w.heap.size, 2, none⟩) hl).trans (cell_of_row _ _ 2 _ 25 (0, 0) hn)⟩
def both (x y : Int) : Int := if x = 0 then y else x
end Go.Proofs.YtfjocafepigijaaDoor.Mc
/- light: what it answers. No conditions. -/
namespace Go.Proofs.YtfjocafepigijaaDoor.Mc
open Go.RowKit Mv Wk Sy Rz

/-- a small machine with small weights -/
def lightP (m : M) : Bool := decide (m.st ≤ 20) && decide (m.arcs.length ≤ 40) && m.arcs.all (fun x => decide (x.2.2.2.2 ≤ 500000)) && m.fins.all (fun f => decide (f.2 ≤ 500000))
end Go.Proofs.YtfjocafepigijaaDoor.Mc
/- right: what was refused is right where it had to be refused; what was made is right where the machine is one and costs what is told. Condition: no text is longer than 61. -/
namespace Go.Proofs.YtfjocafepigijaaDoor.Mc
open Go.RowKit Mv Wk Sy Rz

theorem size_all {m : M} (h : checkP m 0) : 1 ≤ m.st ∧ m.st ≤ 3000 ∧ m.arcs.length ≤ 20000 ∧ m.fins.length ≤ 3000 := by
  have h1 := (checkP_ok h).1
  unfold sizeB at h1
  simp only [decide_eq_true_eq] at h1
  omega
/-- the document's Cost of any machine that is one; it is dear, or not much -/
theorem cost_of2 (m : M) (inn out : List Int) (v vi vo : Value) (w : World) (hM : IsM w v m) (hI : IsI w vi inn) (hO : IsI w vo out) (hc : checkP m 0) (hi : inn.length ≤ 61) (ho : out.length ≤ 61) :
    Calls Tryd.prog 12 #[v, vi, vo, .bool true] w fun e w' => ∃ c : Nat, e = .returned (.int .i64 (c : Int)) ∧ (IsCost m inn out true c ∧ (c = dear ∨ c ≤ 11532001000000)) ∧ Below w.heap.size w w' := by
  obtain ⟨s1, s2, s3, s4⟩ := size_all hc
  obtain ⟨_, harc, hfin⟩ := checkP_ok hc
  obtain ⟨st, arcs, fins⟩ := m
  obtain ⟨va, vf, rfl, ⟨_, aa, ca, rfl, _, hA⟩, ⟨_, af, cf, rfl, _, hF⟩⟩ := hM
  obtain ⟨_, ai, ci, rfl, _, hIc⟩ := hI
  obtain ⟨_, ao, co, rfl, _, hOc⟩ := hO
  dsimp only at s1 s2 s3 s4 harc hfin hA hF ⊢
  obtain ⟨S, rfl⟩ : ∃ S : Nat, st = (S : Int) := ⟨st.toNat, by omega⟩
  exact CR.cost_true2 S arcs fins inn out aa af ai ao ca cf ci co w (by omega) (by omega) hi ho s3 s4 harc hfin hA hF hIc hOc

/-- there is a least cost -/
theorem cost_ex (m : M) (inn out : List Int) (v vi vo : Value) (w : World) (hM : IsM w v m) (hI : IsI w vi inn) (hO : IsI w vo out) (hc : checkP m 0) (hi : inn.length ≤ 61) (ho : out.length ≤ 61) : ∃ c : Nat, IsCost m inn out true c ∧ (c = dear ∨ c ≤ 11532001000000) := by
  obtain ⟨_, _, _, ⟨c, _, h, _⟩, _⟩ := cost_of2 m inn out v vi vo w hM hI hO hc hi ho []
  exact ⟨c, h⟩

end Go.Proofs.YtfjocafepigijaaDoor.Mc
