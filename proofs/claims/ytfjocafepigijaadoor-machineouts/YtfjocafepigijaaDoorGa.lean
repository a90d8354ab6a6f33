/- newCouple: how a couple lies, while it is made and when it is done. No conditions. -/
import Derived.Test.YtfjocafepigijaaDoorYa
import Derived.Test.YtfjocafepigijaaDoorEc
namespace Go.Proofs.YtfjocafepigijaaDoor.Cu
open Go.RowKit Mv Qp Sk Po Ps Wd Se Mp St Cm Nm Nx Ra Am
open CR (nc)

/-- rows of arcs, to be read -/
def Rws (w : World) (sb S : Nat) (R : Nat → List Arc) : Prop := sb < w.heap.size ∧ ∀ q, q < S → ∃ a c, w.cell? ⟨sb, q, none⟩ = some (.slice a (R q).length c) ∧ Mv.Row w (.slice a (R q).length c) 5 (R q).length (acs (R q))
/-- what the numbers of groups mean -/
structure Sem (SB m : Nat) (gs : List Nat) (G R : Nat → List Arc) : Prop where
  pos : 0 < m
  zero : G 0 = []
  out : ∀ k, m ≤ k → G k = []
  lt : ∀ i, i < SB * 61 → gs.getD i 0 < m
  inj : ∀ i j, i < SB * 61 → j < SB * 61 → gs.getD i 0 = gs.getD j 0 → gs.getD i 0 ≠ 0 → i = j
  val : ∀ q s : Nat, q < SB → s ≤ 60 → G (gs.getD (q * 61 + s) 0) = gr R q (s : Int)
/-- the rows that have been gone through -/
def Rr (R : Nat → List Arc) (q0 y : Nat) : Nat → List Arc := fun q => if q < q0 then R q else if q = q0 then (R q0).take y else []
/-- a couple that is being made -/
structure Nc (w wr : World) (C nb SB N m : Nat) (vf vg : Value) (gs : List Nat) (G : Nat → List Arc) (V : Nat → Value) (vs : List Value) : Prop where
  row : wr.heap[C]? = some (.cells #[.int .i64 (SB : Int), vf, vg, .slice (some ⟨nb, 0, none⟩) N N] 129 (0, 0))
  cge : w.heap.size ≤ C
  heads : wr.ownsRow w.heap.size 22 1 vg m vs
  len : vs.length = m
  head : ∀ f, f < m → vs[f]? = some (V f)
  vout : ∀ k, m ≤ k → V k = nilS
  nums : wr.ownsRow w.heap.size 3 1 (.slice (some ⟨nb, 0, none⟩) N N) N (nc gs)
  nlen : gs.length = N
  rows : ∀ k, wr.ownsRow w.heap.size 64 5 (V k) (G k).length (acs (G k))
  apart : ∀ k k', k ≠ k' → ∀ b, (V k).ownBlock = some b → (V k').ownBlock ≠ some b
  below : Below w.heap.size w wr
theorem nums_new (W : World) (base N : Nat) (hb : base ≤ W.heap.size) (hN : N ≤ 129600) : (W.alloc (.cells (madeCells #[.int .i64 0] N) 3)).ownsRow base 3 1 (.slice (some ⟨W.heap.size, 0, none⟩) N N) N (nc (List.replicate N 0)) := by
  have e : (madeCells #[.int .i64 0] N).toList = List.replicate N (.int .i64 0) := by rw [toList_madeCells_one]
  have e2 : nc (List.replicate N 0) = List.replicate N (.int .i64 0) := by unfold nc; rw [List.map_replicate]; rfl
  refine ⟨by rw [e2]; simp, .inr ⟨W.heap.size, N, madeCells #[.int .i64 0] N, rfl, hb, heap_alloc_new _ _, Nat.le_refl _, by unfold maxLen; omega, ?_, ?_⟩⟩
  · rw [← Array.length_toList, e]; simp
  · rw [e, e2]; simp
theorem info3c : (Tryd.prog.info? 3).map (fun i => (i.zero, i.size, i.bytes)) = some (some (.int .i64 0), 1, 8) := by kernel_rfl
theorem run_mk26 (N : Nat) (hN : N ≤ 129600) (W : World) : (Instr.makeSlice 26 (.int .i64 (N : Int)) (.int .i64 (N : Int))).run Tryd.prog W = .ok (.slice (some ⟨W.heap.size, 0, none⟩) N N) (W.alloc (.cells (madeCells #[.int .i64 0] N) 3)) := by
  obtain ⟨i0, hi, hz0, hz1, hz2⟩ := info_parts info3c
  have hr := run_make (P := Tryd.prog) W 26 3 i0 (.int .i64 0) Tryd.underlying26 hi hz0 .i64 .i64 (N : Int) (N : Int) (by omega) (Int.le_refl _) (by rw [hz2]; omega) (by omega)
  simp only [Int.toNat_natCast, hz1, Nat.mul_one] at hr
  exact hr
/-- a couple that is done -/
structure IsCp (w : World) (C SA SB : Nat) (F R : Nat → List Arc) (fb gb gc nb m : Nat) (gs : List Nat) (G : Nat → List Arc) : Prop where
  row : w.heap[C]? = some (.cells #[.int .i64 (SB : Int), .slice (some ⟨fb, 0, none⟩) SA SA, .slice (some ⟨gb, 0, none⟩) m gc, .slice (some ⟨nb, 0, none⟩) (SB * 61) (SB * 61)] 129 (0, 0))
  first : Rws w fb SA F
  grps : Rws w gb m G
  nbl : nb < w.heap.size
  nums : ∀ i, i < SB * 61 → w.cell? ⟨nb, i, none⟩ = some (.int .i64 (gs.getD i 0 : Nat))
  sem : Sem SB m gs G R
  small : m ≤ 4801
end Go.Proofs.YtfjocafepigijaaDoor.Cu
