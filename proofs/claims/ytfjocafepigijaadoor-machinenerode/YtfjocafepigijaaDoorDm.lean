/- The document's Sure (22): the small sure machine of a plain machine, or that there are too many sets. Condition: the machine is right. -/
import Derived.Test.YtfjocafepigijaaDoorDg
import Derived.Test.YtfjocafepigijaaDoorFaM
import Derived.Deep.LoopGhost
import Derived.Deep.RegionHeldLaw
import Derived.Test.YtfjocafepigijaaDoorCaM
import Derived.Deep.CutRange
namespace Go.Proofs.YtfjocafepigijaaDoor.Su
open Go.RowKit Mv Po Ps Cm

theorem js_none {T : Tb} {p r c : Nat} {s : List Nat × List (Nat × Nat × Nat)} (h : T.cut.to r c = none) : js T p r s c = s := by unfold js; rw [h]
theorem js_some {T : Tb} {p r c x : Nat} {s : List Nat × List (Nat × Nat × Nat)} (h : T.cut.to r c = some x) : js T p r s c = (if wh T s.1 x = s.1.length then s.1 ++ [x] else s.1, s.2 ++ [(p, c, wh T s.1 x)]) := by unfold js; rw [h]
theorem cell_five_new (w : World) (a b c d e : Value) (ty : TypeId) : ∀ j v, [a, b, c, d, e][j]? = some v → (w.alloc (.cells #[a, b, c, d, e] ty)).cell? ((⟨w.heap.size, 0, none⟩ : Addr).add j) = some v := by
  intro j v hj
  match j, hj with
  | 0, hj => simp at hj; subst hj; simp [Addr.add]
  | 1, hj => simp at hj; subst hj; simp [Addr.add]
  | 2, hj => simp at hj; subst hj; simp [Addr.add]
  | 3, hj => simp at hj; subst hj; simp [Addr.add]
  | 4, hj => simp at hj; subst hj; simp [Addr.add]
theorem cell_two_new (w : World) (a b : Value) (ty : TypeId) : ∀ j v, [a, b][j]? = some v → (w.alloc (.cells #[a, b] ty)).cell? ((⟨w.heap.size, 0, none⟩ : Addr).add j) = some v := by
  intro j v hj
  match j, hj with
  | 0, hj => simp at hj; subst hj; simp [Addr.add]
  | 1, hj => simp at hj; subst hj; simp [Addr.add]
theorem ac_one (a : Int × Int × Int × Int × Int) : ∀ u ∈ ac a, u.oneCell' = true := fun u hu => by
  simp [ac] at hu
  rcases hu with rfl | rfl | rfl | rfl | rfl <;> rfl
theorem fc_one (a : Int × Int) : ∀ u ∈ fc a, u.oneCell' = true := fun u hu => by
  simp [fc] at hu
  rcases hu with rfl | rfl <;> rfl
theorem own_rowN {w : World} {base e s n : Nat} {v : Value} {xs : List Value} (h : w.ownsRow base e s v n xs) (hn : n ≤ 140737488355328) : Mv.Row w v s n xs := by
  obtain ⟨a, c, hv⟩ := oslice h
  refine ⟨h.1, a, c, hv, hn, ?_⟩
  rcases Nat.eq_zero_or_pos n with h0 | h0
  · exact .inl h0
  · obtain ⟨g, cap, hv2, _, hg⟩ := own_some h h0
    rw [hv] at hv2
    rw [Value.slice.injEq] at hv2
    refine .inr ⟨g, 0, hv2.1, hg, fun j u hu => ?_⟩
    have hj : j < n * s := by have := (List.getElem?_eq_some_iff.1 hu).1; have := h.1; omega
    have hcap := h
    rw [hv, hv2.1] at hcap
    rw [Nat.zero_add]
    exact (hcap.cellAt j hj).trans hu
theorem row25 : (Tryd.prog.info? 25).map (·.size) = some 3 := by kernel_rfl
theorem inf64 : (Tryd.prog.info? 64).map (fun i => (i.zero, i.size, i.bytes)) = some (some (.agg #[.int .i64 0, .int .i64 0, .int .i64 0, .int .i64 0, .int .i64 0]), 5, 40) := by kernel_rfl
theorem inf66 : (Tryd.prog.info? 66).map (fun i => (i.zero, i.size, i.bytes)) = some (some (.agg #[.int .i64 0, .int .i64 0]), 2, 16) := by kernel_rfl
theorem ret25 {w wr : World} {p2 : Nat} {a b c x y z : Value} (h : wr.heap[p2]? = some (.cells #[a, b, c] 25 (0, 0))) (hb : Below w.heap.size w wr) (hp : w.heap.size ≤ p2) :
    (((wr.setCell ⟨p2, 0, none⟩ x).setCell ⟨p2, 1, none⟩ y).setCell ⟨p2, 2, none⟩ z).heap[p2]? = some (.cells #[x, y, z] 25 (0, 0)) ∧ Below w.heap.size w (((wr.setCell ⟨p2, 0, none⟩ x).setCell ⟨p2, 1, none⟩ y).setCell ⟨p2, 2, none⟩ z) := by
  have hk0 : Kp (fun b => b = p2) wr (wr.setCell ⟨p2, 0, none⟩ x) := (Kp.refl _ wr).setCell _ _ _ (fun _ => rfl)
  have hk1 : Kp (fun b => b = p2) wr ((wr.setCell ⟨p2, 0, none⟩ x).setCell ⟨p2, 1, none⟩ y) := hk0.setCell _ _ _ (fun _ => rfl)
  have hk : Kp (fun b => b = p2) wr (((wr.setCell ⟨p2, 0, none⟩ x).setCell ⟨p2, 1, none⟩ y).setCell ⟨p2, 2, none⟩ z) := hk1.setCell _ _ _ (fun _ => rfl)
  exact ⟨heap_setCell_same _ p2 2 _ 25 z (heap_setCell_same _ p2 1 _ 25 y (heap_setCell_same wr p2 0 _ 25 x h)), below_kp hb hk (fun b hb e => by omega)⟩
end Go.Proofs.YtfjocafepigijaaDoor.Su
