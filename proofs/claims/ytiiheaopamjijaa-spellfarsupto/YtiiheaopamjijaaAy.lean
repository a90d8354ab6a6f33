/- Arrays of 201 numbers: how one lies in a block; reading and writing a cell, the whole. No conditions. -/
import Derived.Test.YtiiheaopamjijaaRw
import Derived.Deep.WholeRow
import Derived.Laws.CopyOwn
namespace Go.Proofs.Ytiiheaopamjijaa.Ay
open Go.RowKit

/-- the cells of an array -/
def cs (f : Nat → Int) : Array Value := ((List.range 201).map fun i => Value.int .i64 (f i)).toArray
theorem cs_size (f : Nat → Int) : (cs f).size = 201 := by simp [cs]
theorem cs_at (f : Nat → Int) (j : Nat) (h : j < 201) : (cs f)[j]? = some (.int .i64 (f j)) := by simp [cs, h]
theorem cs_one (f : Nat → Int) : (cs f).all (·.oneCell') = true := by
  refine Array.all_eq_true_iff_forall_mem.2 (fun v hv => ?_)
  simp only [cs, List.mem_toArray, List.mem_map] at hv
  obtain ⟨i, _, rfl⟩ := hv
  rfl
theorem cs_ext {f g : Nat → Int} (h : ∀ j, j < 201 → f j = g j) : cs f = cs g := by
  unfold cs
  congr 1
  apply List.map_congr_left
  intro j hj
  rw [h j (by simpa using hj)]
/-- one number is another -/
def upd (f : Nat → Int) (i : Nat) (x : Int) : Nat → Int := fun j => if j = i then x else f j
theorem cs_upd (f : Nat → Int) (i : Nat) (x : Int) : (cs f).setIfInBounds i (.int .i64 x) = cs (upd f i x) := by
  apply Array.ext_getElem?
  intro j
  rw [Array.getElem?_setIfInBounds]
  by_cases hj : j < 201
  · by_cases e : i = j
    · subst e
      rw [if_pos rfl, cs_size, if_pos hj, cs_at _ _ hj]
      simp [upd]
    · have e' : ¬ j = i := fun h => e h.symm
      rw [if_neg e, cs_at _ _ hj, cs_at _ _ hj]
      simp [e', upd]
  · have h1 : (cs f)[j]? = none := by rw [Array.getElem?_eq_none_iff, cs_size]; omega
    have h2 : (cs (upd f i x))[j]? = none := by rw [Array.getElem?_eq_none_iff, cs_size]; omega
    rw [h1, h2, cs_size]
    by_cases e : i = j
    · subst e
      simp [hj]
    · simp [e]

theorem zero52 : (Try.prog.info? 52).map (fun i => (i.zero, i.size)) = some (some (.agg (cs fun _ => 0)), 201) := by kernel_rfl
theorem z52 (w : World) : (zeroValue 52).run Try.prog w = .ok (.agg (cs fun _ => 0)) w := (zero_of_info zero52).1 w
theorem size52 : (Try.prog.info? 52).map (·.size) = some 201 := (zero_of_info zero52).2

/-- an array in a block -/
def Arr (w : World) (b : Nat) (f : Nat → Int) : Prop := w.heap[b]? = some (.cells (cs f) 52)
theorem Arr.lt {w : World} {b : Nat} {f : Nat → Int} (h : Arr w b f) : b < w.heap.size := (Array.getElem?_eq_some_iff.1 h).1
theorem Arr.cell {w : World} {b : Nat} {f : Nat → Int} (h : Arr w b f) (j : Nat) (hj : j < 201) : w.cell? ⟨b, j, none⟩ = some (.int .i64 (f j)) := by
  rw [cell_of_row w b j _ 52 _ h, cs_at f j hj]
theorem Arr.frozen {w : World} {b : Nat} {f : Nat → Int} (h : Arr w b f) (j : Nat) : w.frozen? ⟨b, j, none⟩ = false := frozen_of_row w b j _ 52 h
theorem Arr.new (w : World) (f : Nat → Int) : Arr (w.alloc (.cells (cs f) 52)) w.heap.size f := heap_alloc_last w _
theorem Arr.alloc {w : World} {b : Nat} {f : Nat → Int} (h : Arr w b f) (o : Obj) : Arr (w.alloc o) b f := (Below.heap_alloc w o b h.lt).trans h
theorem Arr.drew {w : World} {b : Nat} {f : Nat → Int} (h : Arr w b f) : Arr w.drew b f := h
theorem Arr.set {w : World} {b : Nat} {f : Nat → Int} (h : Arr w b f) (j : Nat) (x : Int) : Arr (w.setCell ⟨b, j, none⟩ (.int .i64 x)) b (upd f j x) := by
  have := heap_setCell_same w b j _ 52 (.int .i64 x) h
  rw [cs_upd] at this
  exact this
theorem Arr.setOther {w : World} {b : Nat} {f : Nat → Int} (h : Arr w b f) {a : Addr} (ha : b ≠ a.block) (v : Value) : Arr (w.setCell a v) b f := (heap_setCell_other w a b v ha).trans h
theorem Arr.congr {w : World} {b : Nat} {f g : Nat → Int} (h : Arr w b f) (e : ∀ j, j < 201 → f j = g j) : Arr w b g := by
  unfold Arr
  rw [← cs_ext e]
  exact h
theorem Arr.below {w w' : World} {b B : Nat} {f : Nat → Int} (h : Arr w b f) (hb : Below B w w') (hB : b < B) : Arr w' b f := (hb.block b hB).trans h
theorem Arr.loadVar {w : World} {b : Nat} {f : Nat → Int} (h : Arr w b f) : (loadVar 52 ⟨b, 0, none⟩).run Try.prog w = .ok (.agg (cs f)) w :=
  run_loadVar_row w b 52 52 (cs f) _ _ h Try.underlying52 rfl (by rw [cs_size]; exact size52)
theorem Arr.load {w : World} {b : Nat} {f : Nat → Int} (h : Arr w b f) : (Instr.loadAt 52 (.pointer (some ⟨b, 0, none⟩))).run Try.prog w = .ok (.agg (cs f)) w := by
  simp only [Instr.loadAt, Instr.sureAddr, Sem.run_bind, Sem.run_pure, Result.andThen]
  exact h.loadVar
theorem Arr.storeVar {w : World} {b : Nat} {f : Nat → Int} (h : Arr w b f) (g : Nat → Int) : (storeVar 52 ⟨b, 0, none⟩ (.agg (cs g))).run Try.prog w = .ok () (w.setRow b (cs g)) :=
  run_storeVar_row w b 52 52 (cs f) (cs g) h (by rw [cs_size]; exact size52) (by rw [cs_size, cs_size]) (cs_one g)
theorem Arr.store {w : World} {b : Nat} {f : Nat → Int} (h : Arr w b f) (g : Nat → Int) : (Instr.storeAt 52 (.pointer (some ⟨b, 0, none⟩)) (.agg (cs g))).run Try.prog w = .ok () (w.setRow b (cs g)) := by
  simp only [Instr.storeAt, Instr.sureAddr, Sem.run_bind, Sem.run_pure, Result.andThen]
  exact h.storeVar g
theorem Arr.row {w : World} {b : Nat} {f : Nat → Int} (h : Arr w b f) (g : Nat → Int) : Arr (w.setRow b (cs g)) b g := setRow_heap w b _ _ 52 _ h
theorem Arr.rowOther {w : World} {b : Nat} {f : Nat → Int} (h : Arr w b f) {b' : Nat} (hn : b ≠ b') (c : Array Value) : Arr (w.setRow b' c) b f := (setRow_other w b' b c hn).trans h
theorem wp_ld {op : Oper} {a : Act} {w : World} {K : Act → World → Prop} {Q : Exit → Act → World → Prop} (x : Operand) (ho : op.op = .load 52 x)
    (b : Nat) (f : Nat → Int) (hx : a.eval x = .pointer (some ⟨b, 0, none⟩)) (hA : Arr w b f) (h : K (a.put op.dst (.agg (cs f))) w) : op.wp Try.prog a w K Q := by
  unfold Oper.wp execOp
  simp only [ho, hx, Sem.run_bind, Sem.run_pure, hA.load, Result.andThen_ok]
  exact h
theorem wp_st {op : Oper} {a : Act} {w : World} {K : Act → World → Prop} {Q : Exit → Act → World → Prop} (x y : Operand) (ho : op.op = .store 52 x y)
    (b : Nat) (f g : Nat → Int) (hx : a.eval x = .pointer (some ⟨b, 0, none⟩)) (hy : a.eval y = .agg (cs g)) (hA : Arr w b f) (h : K (a.put op.dst undef) (w.setRow b (cs g))) : op.wp Try.prog a w K Q := by
  unfold Oper.wp execOp
  simp only [ho, hx, hy, Sem.run_bind, Sem.run_pure, hA.store g, Result.andThen_ok]
  exact h
theorem wpList_ld {ops : Array Oper} {rest : List Oper} {op : Oper} {a : Act} {w : World} {Q : Exit → Act → World → Prop} (hgd : op.guard = none) (x : Operand) (ho : op.op = .load 52 x)
    (b : Nat) (f : Nat → Int) (hx : a.eval x = .pointer (some ⟨b, 0, none⟩)) (hA : Arr w b f) (h : wpList Try.prog ops Q rest (a.put op.dst (.agg (cs f))) w) : wpList Try.prog ops Q (op :: rest) a w :=
  wpList_plain hgd fun _ hK => wp_ld x ho b f hx hA (hK _ _ h)
theorem wpList_st {ops : Array Oper} {rest : List Oper} {op : Oper} {a : Act} {w : World} {Q : Exit → Act → World → Prop} (hgd : op.guard = none) (x y : Operand) (ho : op.op = .store 52 x y)
    (b : Nat) (f g : Nat → Int) (hx : a.eval x = .pointer (some ⟨b, 0, none⟩)) (hy : a.eval y = .agg (cs g)) (hA : Arr w b f) (h : wpList Try.prog ops Q rest (a.put op.dst undef) (w.setRow b (cs g))) : wpList Try.prog ops Q (op :: rest) a w :=
  wpList_plain hgd fun _ hK => wp_st x y ho b f g hx hy hA (hK _ _ h)
theorem results_cell {fn : Func} {p : Tmp} {ty : TypeId} (h : fn.results = #[.cell p ty]) (tmps : Array Value) (P : Program) (w : World) :
    (results fn tmps).run P w = ((asAddr (tmps.getD p undef)).run P w).andThen fun a w₁ => (loadVar ty a).run P w₁ := by
  simp only [results, h]
  simp [Sem.run_bind, Result.andThen]
theorem results_arr {fn : Func} {p : Tmp} (h : fn.results = #[.cell p 52]) {tmps : Array Value} {b : Nat} (hp : tmps.getD p undef = .pointer (some ⟨b, 0, none⟩)) {w : World} {f : Nat → Int} (hA : Arr w b f) :
    (results fn tmps).run Try.prog w = .ok (.agg (cs f)) w := by
  rw [results_cell h, hp]
  simp only [asAddr, Sem.run_pure, Result.andThen_ok]
  exact hA.loadVar
end Go.Proofs.Ytiiheaopamjijaa.Ay
