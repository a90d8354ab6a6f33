/- The document's Cost that does not ask what is written, of any machine that is right. Condition: the text has at most 61 symbols. -/
import Derived.Test.YtegfhbjdfcoajaaCG
import Derived.Test.YtegfhbjdfcoajaaMr
import Derived.Test.YtegfhbjdfcoajaaBzM
namespace Go.Proofs.Ytegfhbjdfcoajaa.Ch
open Go.RowKit Mv Wk Bw CR Mc Sy Rz

theorem move0 {inn : List Int} {a : A5} {i j i' j' : Nat} : Wk.Move inn [] false a i j i' j' ↔ Wk.Move inn [] true (out0 a) i j i' j' := by
  unfold Wk.Move out0
  simp
theorem reachN0 {st : Int} {arcs : List A5} {fins : List (Int × Int)} {inn : List Int} {t s i j c : Nat} : ReachN ⟨st, arcs, fins⟩ inn [] false t s i j c ↔ ReachN ⟨st, arcs.map out0, fins⟩ inn [] true t s i j c := by
  induction t generalizing s i j c with
  | zero => exact Iff.rfl
  | succ t ih =>
    constructor
    · rintro ⟨s0, i0, j0, c0, x, hx, h1, h2, h3, h4, h5⟩
      refine ⟨s0, i0, j0, c0, x, by simpa using hx, ih.1 h1, ?_, ?_, ?_, ?_⟩
      · simpa [out0] using h2
      · simpa [out0] using h3
      · simpa using move0.1 h4
      · simpa [out0] using h5
    · rintro ⟨s0, i0, j0, c0, x, hx, h1, h2, h3, h4, h5⟩
      have hx' : x < arcs.length := by simpa using hx
      refine ⟨s0, i0, j0, c0, x, hx', ih.2 h1, ?_, ?_, ?_, ?_⟩
      · simpa [out0] using h2
      · simpa [out0] using h3
      · exact move0.2 (by simpa using h4)
      · simpa [out0] using h5
theorem acc0 {st : Int} {arcs : List A5} {fins : List (Int × Int)} {inn : List Int} {v : Nat} : Acc ⟨st, arcs.map out0, fins⟩ inn [] true v ↔ Acc ⟨st, arcs, fins⟩ inn [] false v := by
  constructor
  · rintro ⟨f, hf, s, c, h1, ⟨t, h2⟩, h3⟩
    exact ⟨f, hf, s, c, h1, ⟨t, reachN0.2 h2⟩, h3⟩
  · rintro ⟨f, hf, s, c, h1, ⟨t, h2⟩, h3⟩
    exact ⟨f, hf, s, c, h1, ⟨t, reachN0.1 h2⟩, h3⟩
theorem cost_untold (m : M) (inn : List Int) (v vi : Value) (ao : Option Addr) (co : Nat) (w : World) (hM : IsM w v m) (hI : IsI w vi inn) (hc : checkP m 0) (hi : inn.length ≤ 61) :
    Calls Try.prog 9 #[v, vi, .slice ao 0 co, .bool false] w fun e w' => ∃ c : Nat, e = .returned (.int .i64 (c : Int)) ∧ IsCost m inn [] false c ∧ Below w.heap.size w w' := by
  obtain ⟨s1, s2, s3, s4⟩ := size_all hc
  obtain ⟨_, harc, hfin⟩ := checkP_ok hc
  obtain ⟨st, arcs, fins⟩ := m
  obtain ⟨va, vf, rfl, ⟨_, aa, ca, rfl, _, hA⟩, ⟨_, af, cf, rfl, _, hF⟩⟩ := hM
  obtain ⟨_, ai, ci, rfl, _, hIc⟩ := hI
  dsimp only at s1 s2 s3 s4 harc hfin hA hF ⊢
  obtain ⟨S, rfl⟩ : ∃ S : Nat, st = (S : Int) := ⟨st.toNat, by omega⟩
  have hpos : ∀ f ∈ fins, 0 ≤ f.2 := fun f hf => by
    obtain ⟨x, hx, rfl⟩ := List.getElem_of_mem hf
    have := hfin x hx
    unfold finB at this
    simp only [decide_eq_true_eq] at this
    omega
  refine (cost_false2 S arcs fins inn aa af ai ao ca cf ci co w (by omega) (by omega) hi s3 s4 harc hfin hA hF hIc).mono fun e w' ⟨c, h1, h2, h3⟩ => ⟨c, h1, ?_, h3⟩
  exact (isCost_iff hpos).2 (((isCost_iff (m := ⟨(S : Int), arcs.map out0, fins⟩) hpos).1 h2.1).congr fun u => acc0)
end Go.Proofs.Ytegfhbjdfcoajaa.Ch
