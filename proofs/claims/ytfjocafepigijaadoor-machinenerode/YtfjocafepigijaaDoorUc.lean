/- Arrays of 61 sets: how one lies in a block; reading and writing a cell, the whole. newSet once more: its words are noughts. No conditions. -/
import Derived.Test.YtfjocafepigijaaDoorCkP2M
import Derived.Deep.WholeRow
import Derived.Laws.CopyOwn
namespace Go.Proofs.YtfjocafepigijaaDoor.Ot
open Go.RowKit Set

/-- the cells of an array -/
def ca (f : Nat → Value) : Array Value := ((List.range 61).map f).toArray
theorem ca_size (f : Nat → Value) : (ca f).size = 61 := by simp [ca]
theorem ca_at (f : Nat → Value) (j : Nat) (h : j < 61) : (ca f)[j]? = some (f j) := by simp [ca, h]
theorem ca_one (f : Nat → Value) (hf : ∀ j, (f j).oneCell' = true) : (ca f).all (·.oneCell') = true := by
  refine Array.all_eq_true_iff_forall_mem.2 (fun v hv => ?_)
  simp only [ca, List.mem_toArray, List.mem_map] at hv
  obtain ⟨i, _, rfl⟩ := hv
  exact hf i
def upv (f : Nat → Value) (i : Nat) (x : Value) : Nat → Value := fun j => if j = i then x else f j
theorem ca_upd (f : Nat → Value) (i : Nat) (x : Value) : (ca f).setIfInBounds i x = ca (upv f i x) := by
  apply Array.ext_getElem?
  intro j
  rw [Array.getElem?_setIfInBounds]
  by_cases hj : j < 61
  · by_cases e : i = j
    · subst e
      rw [if_pos rfl, ca_size, if_pos hj, ca_at _ _ hj]
      simp [upv]
    · have e' : ¬ j = i := fun h => e h.symm
      rw [if_neg e, ca_at _ _ hj, ca_at _ _ hj]
      simp [e', upv]
  · have h1 : (ca f)[j]? = none := by rw [Array.getElem?_eq_none_iff, ca_size]; omega
    have h2 : (ca (upv f i x))[j]? = none := by rw [Array.getElem?_eq_none_iff, ca_size]; omega
    rw [h1, h2, ca_size]
    by_cases e : i = j
    · subst e
      simp [hj]
    · simp [e]
theorem zero147 : (Tryd.prog.info? 147).map (fun i => (i.zero, i.size)) = some (some (.agg (ca fun _ => .slice none 0 0)), 61) := by kernel_rfl
theorem z147 (w : World) : (zeroValue 147).run Tryd.prog w = .ok (.agg (ca fun _ => .slice none 0 0)) w := (zero_of_info zero147).1 w
theorem size147 : (Tryd.prog.info? 147).map (·.size) = some 61 := (zero_of_info zero147).2
/-- an array in a block -/
def Arr (w : World) (b : Nat) (f : Nat → Value) : Prop := w.heap[b]? = some (.cells (ca f) 147)
theorem Arr.lt {w : World} {b : Nat} {f : Nat → Value} (h : Arr w b f) : b < w.heap.size := (Array.getElem?_eq_some_iff.1 h).1
theorem Arr.cell {w : World} {b : Nat} {f : Nat → Value} (h : Arr w b f) (j : Nat) (hj : j < 61) : w.cell? ⟨b, j, none⟩ = some (f j) := by
  rw [cell_of_row w b j _ 147 _ h, ca_at f j hj]
theorem Arr.frozen {w : World} {b : Nat} {f : Nat → Value} (h : Arr w b f) (j : Nat) : w.frozen? ⟨b, j, none⟩ = false := frozen_of_row w b j _ 147 h
theorem Arr.alloc {w : World} {b : Nat} {f : Nat → Value} (h : Arr w b f) (o : Obj) : Arr (w.alloc o) b f := (Below.heap_alloc w o b h.lt).trans h
theorem Arr.set {w : World} {b : Nat} {f : Nat → Value} (h : Arr w b f) (j : Nat) (x : Value) : Arr (w.setCell ⟨b, j, none⟩ x) b (upv f j x) := by
  have := heap_setCell_same w b j _ 147 x h
  rw [ca_upd] at this
  exact this
theorem Arr.loadVar {w : World} {b : Nat} {f : Nat → Value} (h : Arr w b f) : (loadVar 147 ⟨b, 0, none⟩).run Tryd.prog w = .ok (.agg (ca f)) w :=
  run_loadVar_row w b 147 147 (ca f) _ _ h Tryd.underlying147 rfl (by rw [ca_size]; exact size147)
theorem Arr.load {w : World} {b : Nat} {f : Nat → Value} (h : Arr w b f) : (Instr.loadAt 147 (.pointer (some ⟨b, 0, none⟩))).run Tryd.prog w = .ok (.agg (ca f)) w := by
  simp only [Instr.loadAt, Instr.sureAddr, Sem.run_bind, Sem.run_pure, Result.andThen]
  exact h.loadVar
theorem Arr.storeVar {w : World} {b : Nat} {f : Nat → Value} (h : Arr w b f) (g : Nat → Value) (hg : ∀ j, (g j).oneCell' = true) : (storeVar 147 ⟨b, 0, none⟩ (.agg (ca g))).run Tryd.prog w = .ok () (w.setRow b (ca g)) :=
  run_storeVar_row w b 147 147 (ca f) (ca g) h (by rw [ca_size]; exact size147) (by rw [ca_size, ca_size]) (ca_one g hg)
theorem Arr.store {w : World} {b : Nat} {f : Nat → Value} (h : Arr w b f) (g : Nat → Value) (hg : ∀ j, (g j).oneCell' = true) : (Instr.storeAt 147 (.pointer (some ⟨b, 0, none⟩)) (.agg (ca g))).run Tryd.prog w = .ok () (w.setRow b (ca g)) := by
  simp only [Instr.storeAt, Instr.sureAddr, Sem.run_bind, Sem.run_pure, Result.andThen]
  exact h.storeVar g hg
theorem Arr.row {w : World} {b : Nat} {f : Nat → Value} (h : Arr w b f) (g : Nat → Value) : Arr (w.setRow b (ca g)) b g := setRow_heap w b _ _ 147 _ h
theorem wp_ld {op : Oper} {a : Act} {w : World} {K : Act → World → Prop} {Q : Exit → Act → World → Prop} (x : Operand) (ho : op.op = .load 147 x)
    (b : Nat) (f : Nat → Value) (hx : a.eval x = .pointer (some ⟨b, 0, none⟩)) (hA : Arr w b f) (h : K (a.put op.dst (.agg (ca f))) w) : op.wp Tryd.prog a w K Q := by
  unfold Oper.wp execOp
  simp only [ho, hx, Sem.run_bind, Sem.run_pure, hA.load, Result.andThen_ok]
  exact h
theorem wp_st {op : Oper} {a : Act} {w : World} {K : Act → World → Prop} {Q : Exit → Act → World → Prop} (x y : Operand) (ho : op.op = .store 147 x y)
    (b : Nat) (f g : Nat → Value) (hg : ∀ j, (g j).oneCell' = true) (hx : a.eval x = .pointer (some ⟨b, 0, none⟩)) (hy : a.eval y = .agg (ca g)) (hA : Arr w b f) (h : K (a.put op.dst undef) (w.setRow b (ca g))) : op.wp Tryd.prog a w K Q := by
  unfold Oper.wp execOp
  simp only [ho, hx, hy, Sem.run_bind, Sem.run_pure, hA.store g hg, Result.andThen_ok]
  exact h
theorem wpList_ld {ops : Array Oper} {rest : List Oper} {op : Oper} {a : Act} {w : World} {Q : Exit → Act → World → Prop} (hgd : op.guard = none) (x : Operand) (ho : op.op = .load 147 x)
    (b : Nat) (f : Nat → Value) (hx : a.eval x = .pointer (some ⟨b, 0, none⟩)) (hA : Arr w b f) (h : wpList Tryd.prog ops Q rest (a.put op.dst (.agg (ca f))) w) : wpList Tryd.prog ops Q (op :: rest) a w :=
  wpList_plain hgd fun _ hK => wp_ld x ho b f hx hA (hK _ _ h)
theorem wpList_st {ops : Array Oper} {rest : List Oper} {op : Oper} {a : Act} {w : World} {Q : Exit → Act → World → Prop} (hgd : op.guard = none) (x y : Operand) (ho : op.op = .store 147 x y)
    (b : Nat) (f g : Nat → Value) (hg : ∀ j, (g j).oneCell' = true) (hx : a.eval x = .pointer (some ⟨b, 0, none⟩)) (hy : a.eval y = .agg (ca g)) (hA : Arr w b f) (h : wpList Tryd.prog ops Q rest (a.put op.dst undef) (w.setRow b (ca g))) : wpList Tryd.prog ops Q (op :: rest) a w :=
  wpList_plain hgd fun _ hK => wp_st x y ho b f g hg hx hy hA (hK _ _ h)
theorem results_cell' {fn : Func} {p : Tmp} {ty : TypeId} (h : fn.results = #[.cell p ty]) (tmps : Array Value) (P : Program) (w : World) :
    (results fn tmps).run P w = ((asAddr (tmps.getD p undef)).run P w).andThen fun a w₁ => (loadVar ty a).run P w₁ := by
  simp only [results, h]
  simp [Sem.run_bind, Result.andThen]
theorem results_arr {fn : Func} {p : Tmp} (h : fn.results = #[.cell p 147]) {tmps : Array Value} {b : Nat} (hp : tmps.getD p undef = .pointer (some ⟨b, 0, none⟩)) {w : World} {f : Nat → Value} (hA : Arr w b f) :
    (results fn tmps).run Tryd.prog w = .ok (.agg (ca f)) w := by
  rw [results_cell' h, hp]
  simp only [asAddr, Sem.run_pure, Result.andThen_ok]
  exact hA.loadVar
set_option maxHeartbeats 400000 in
set_option maxRecDepth 100000 in
/-- newSet: its words are noughts -/
theorem new_zero (n : Nat) (w : World) (h : n < 1000000000) :
    Calls Tryd.prog 59 #[.int .i64 n] w fun e w' => ∃ v, e = .returned v ∧ IsSet w' w.heap.size v n (List.replicate ((n + 63) / 64) 0) ∧ Below w.heap.size w w' := by
  obtain ⟨i0, hi, hz0, hz1, hz2⟩ := info_parts info102
  go_enter Tryd.func59, Tryd.ntmps59
  go_wp2_with (at_make; refine wpList_make_full _ rfl _ _ 77 rfl w.heap.size 136 i0 (.int .u64 0) 1 Tryd.underlying77 hi hz0 hz1 .i64 .i64 _ _ ((n + 63) / 64) rfl rfl (by omega) (by omega) (by rw [hz2]; omega) (by unfold maxLen; omega) (Nat.le_refl _) ?_; intro w1 hown0 hgrow0)
  go_ret
  have e2 : (madeCells (Value.cells (.int .u64 0)) ((n + 63) / 64 * 1)).toList = cellsW (List.replicate ((n + 63) / 64) 0) := by
    rw [Nat.mul_one]
    show (madeCells #[.int .u64 0] ((n + 63) / 64)).toList = _
    rw [toList_madeCells_one]
    simp [cellsW]
  rw [e2] at hown0
  refine ⟨_, rfl, ⟨by rw [List.length_replicate]; exact hown0, ?_, ?_, ?_⟩, (Below.refl _ w).grown hgrow0 (Nat.le_refl _) (by simp)⟩
  · intro x hx
    rw [List.eq_of_mem_replicate hx]
    decide
  · simp; omega
  · simp; omega
theorem mem_zero (n k : Nat) : mem (List.replicate n 0) k = false := by
  unfold mem
  rw [List.getElem?_replicate]
  split <;> simp
end Go.Proofs.YtfjocafepigijaaDoor.Ot
