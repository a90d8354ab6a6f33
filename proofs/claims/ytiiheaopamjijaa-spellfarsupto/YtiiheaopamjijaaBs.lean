/- A slice of one array. No conditions. -/
import Derived.Test.YtiiheaopamjijaaAy
namespace Go.Proofs.Ytiiheaopamjijaa.Bs
open Go.RowKit Ay

theorem set_all : ∀ (L : List Value) (k : Nat) (A : Array Value), k + L.length = A.size → (L.zipIdx k).foldl (fun cs x => cs.setIfInBounds (0 + x.2) x.1) A = (A.toList.take k ++ L).toArray
  | [], k, A, h => by
    have : k = A.toList.length := by simpa using h
    rw [this, List.take_length]
    simp
  | a :: L, k, A, h => by
    have hk : k < A.size := by simp at h; omega
    rw [List.zipIdx_cons, List.foldl_cons, set_all L (k + 1) _ (by simp at h ⊢; omega)]
    congr 1
    rw [Array.toList_setIfInBounds, List.take_add_one]
    simp [hk, List.take_set_of_le]
theorem fill_one (c c0 : Array Value) (h : c.size = 201) (h0 : c0.size = 201) : c.zipIdx.foldl (fun cs x => cs.setIfInBounds (0 + x.2) x.1) c0 = c := by
  rw [← Array.foldl_toList, Array.toList_zipIdx, set_all _ 0 _ (by simp [h, h0])]
  simp
theorem fill_gen (c c0 : Array Value) (h : c.size = 201) (h0 : c0.size = 201) : Instr.fill (fun i => some (i * 201, 201)) c0 [(0, .agg c)] = some c := by
  simp only [Instr.fill, Value.cells, h, h0, Nat.zero_mul]
  rw [if_neg (by decide)]
  exact congrArg some (fill_one c c0 h h0)
theorem zeros : ((Array.range (1 * 201)).map ((cs fun _ => 0)[· % (cs fun _ => 0).size]!)) = cs fun _ => 0 := by
  apply Array.ext_getElem?
  intro j
  rw [cs_size]
  by_cases h : j < 201
  · have hc := cs_at (fun _ => 0) j h
    simp only [Array.getElem?_map, Array.getElem?_range, h, Nat.one_mul, ↓reduceIte, Option.map_some]
    rw [Nat.mod_eq_of_lt h, Array.getElem!_eq_getD, Array.getD_eq_getD_getElem?, hc]
    rfl
  · rw [Array.getElem?_eq_none_iff.2 (by simp; omega), Array.getElem?_eq_none_iff.2 (by rw [cs_size]; omega)]
theorem run_bs (f : Nat → Int) (w : World) : (Instr.buildSlice 40 1 #[(0, .agg (cs f))]).run Try.prog w = .ok (.slice (some ⟨w.heap.size, 0, none⟩) 1 1) (w.alloc (.cells (cs f) 52)) := by
  have hs : ∀ w, (sizeOf 52).run Try.prog w = .ok 201 w := by
    intro w
    have := size52
    cases hq : Try.prog.info? 52 with
    | none => rw [hq] at this; cases this
    | some i =>
      rw [hq] at this
      simp at this
      simp [sizeOf, typeInfo, hq, this]
  unfold Instr.buildSlice
  simp only [Sem.run_bind, run_underlying Try.underlying40, Result.andThen_ok, hs]
  rw [if_neg (by decide), if_neg (by decide)]
  simp only [Sem.run_bind, Sem.run_pure, Result.andThen_ok, z52, Value.cells]
  rw [zeros]
  rw [fill_gen _ _ (cs_size _) (cs_size _)]
  simp only [newRow, Sem.run_bind, Sem.run_pure, run_newObj_alloc, Result.andThen_ok]
theorem wp_bs {op : Oper} {a : Act} {w : World} {K : Act → World → Prop} {Q : Exit → Act → World → Prop} (x : Operand) (ho : op.op = .buildSlice 40 1 #[(0, x)])
    (f : Nat → Int) (hx : a.eval x = .agg (cs f)) (h : K (a.put op.dst (.slice (some ⟨w.heap.size, 0, none⟩) 1 1)) (w.alloc (.cells (cs f) 52))) : op.wp Try.prog a w K Q := by
  unfold Oper.wp execOp
  have e : (#[(0, x)] : Array (Nat × Operand)).map (fun (i, x) => (i, a.eval x)) = #[(0, .agg (cs f))] := by simp [hx]
  simp only [ho, e, Sem.run_bind, Sem.run_pure, run_bs, Result.andThen_ok]
  exact h
theorem wpList_bs {ops : Array Oper} {rest : List Oper} {op : Oper} {a : Act} {w : World} {Q : Exit → Act → World → Prop} (hgd : op.guard = none) (x : Operand) (ho : op.op = .buildSlice 40 1 #[(0, x)])
    (f : Nat → Int) (hx : a.eval x = .agg (cs f)) (h : wpList Try.prog ops Q rest (a.put op.dst (.slice (some ⟨w.heap.size, 0, none⟩) 1 1)) (w.alloc (.cells (cs f) 52))) : wpList Try.prog ops Q (op :: rest) a w :=
  wpList_plain hgd fun _ hK => wp_bs x ho f hx (hK _ _ h)
theorem new_cells (f : Nat → Int) (w : World) : ∀ j u, (cs f).toList[j]? = some u → (w.alloc (.cells (cs f) 52)).cell? ((⟨w.heap.size, 0, none⟩ : Addr).add j) = some u := by
  intro j u hj
  have hadd : (⟨w.heap.size, 0, none⟩ : Addr).add j = ⟨w.heap.size, j, none⟩ := by unfold Addr.add; split <;> simp_all
  rw [hadd, cell_of_row _ _ j _ 52 _ (Arr.new w f)]
  simpa using hj
theorem cs_ones (f : Nat → Int) : ∀ u ∈ (cs f).toList, u.oneCell' = true := by
  intro u hu
  exact (Array.all_eq_true_iff_forall_mem.1 (cs_one f)) u (by simpa using hu)
end Go.Proofs.Ytiiheaopamjijaa.Bs
