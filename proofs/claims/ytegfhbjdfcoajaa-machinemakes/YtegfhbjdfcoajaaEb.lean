/- A machine that is being made: its box, the arcs and finals that are laid for it; appends and calls as steps of a region that draws its order. -/
import Derived.Test.YtegfhbjdfcoajaaMz
import Derived.Maps.AppendAt
import Derived.Laws.OwnMore
import Derived.Deep.RegionLaw
import Derived.Deep.RegionHeld3
import Derived.Deep.Cut
import Derived.Deep.CutRange
namespace Go.Proofs.Ytegfhbjdfcoajaa.Eb
open Go.RowKit Mv Ps Bw Ma Mc

abbrev nilS : Value := .slice none 0 0
theorem run_nothing {P : Program} {w : World} (base : Nat) (t ty e : TypeId) (i : TypeInfo) (size : Nat) (ht : P.underlying t = some (.slice e)) (hi : P.info? e = some i)
    (v : Value) (n : Nat) (xs : List Value) (hown : w.ownsRow base e size v n xs) (k : Nat) :
    (Builtin.append_ #[t, t] ty #[v, .slice none 0 k]).run P w = .ok v w := by
  rcases hown.2 with ⟨rfl, rfl⟩ | ⟨g, cap, cur, rfl, _, _, hnc, _⟩
  · simp [Builtin.append_, run_underlying ht, sizeOf, typeInfo, hi, Builtin.lenOf, Builtin.firstCells]
  · simp [Builtin.append_, run_underlying ht, sizeOf, typeInfo, hi, Builtin.lenOf, Builtin.firstCells, hnc, storeCells]
/-- a row that is owned, appended to another one -/
theorem run_rows {P : Program} (w : World) (base base2 : Nat) (t ty e : TypeId) (i : TypeInfo) (z : Value) (size bytes : Nat) (ht : P.underlying t = some (.slice e)) (hi : P.info? e = some i) (hz : i.zero = some z)
    (hsize : i.size = size) (hby : i.bytes = bytes) (hzs : z.cells.size = size) (hsz : 0 < size)
    (v r : Value) (n m : Nat) (xs ys : List Value) (hown : w.ownsRow base e size v n xs) (hr : w.ownsRow base2 e size r m ys) (h1 : ∀ u ∈ ys, u.oneCell' = true) (hbytes : (n + m) * bytes ≤ 140737488355328) (h63 : n + m ≤ 1000000) (hbase : base ≤ w.heap.size) :
    ∃ v' w', (Builtin.append_ #[t, t] ty #[v, r]).run P w = .ok v' w' ∧ w'.ownsRow base e size v' (n + m) (xs ++ ys) ∧ w.grownBy w' v.ownBlock ∧ (v'.ownBlock = v.ownBlock ∨ v'.ownBlock = some w.heap.size) := by
  rcases hr.2 with ⟨rfl, rfl⟩ | ⟨g, cap, cur, rfl, _, hg, _⟩
  · have hl := hr.1
    rw [Nat.zero_mul] at hl
    obtain rfl := List.length_eq_zero_iff.1 hl
    exact ⟨v, w, run_nothing base t ty e i size ht hi v n xs hown 0, by simpa using hown, World.grownBy.refl _ _, .inl rfl⟩
  · obtain ⟨v', w', hrun, h2, h3, _, h5⟩ := run_append_own_at (P := P) w base t ty e i z size bytes ht hi hz hsize hby hzs hsz v n xs hown ⟨g, 0, none⟩ m cap ys hr.1 (hr.cells rfl) h1 (by unfold maxLen; omega) hbytes hbase
    exact ⟨v', w', hrun, h2, h3, h5⟩
theorem step_rows {P : Program} {ops : Array Oper} {o : Oper} {a : Act} {w : World} {K : Act → World → Prop} {Q : Exit → Act → World → Prop} {E : Prop}
    (hgd : o.guard = none) (s x : Operand) (t : TypeId) (ho : o.op = .call { callee := .builtin .append, args := #[s, x], argTypes := #[t, t] })
    (base base2 : Nat) (e : TypeId) (i : TypeInfo) (z : Value) (size bytes : Nat) (ht : P.underlying t = some (.slice e)) (hi : P.info? e = some i) (hz : i.zero = some z)
    (hsize : i.size = size) (hby : i.bytes = bytes) (hzs : z.cells.size = size) (hsz : 0 < size)
    (v r : Value) (n m : Nat) (xs ys : List Value) (hs : a.eval s = v) (hx : a.eval x = r) (hown : w.ownsRow base e size v n xs) (hr : w.ownsRow base2 e size r m ys) (h1 : ∀ u ∈ ys, u.oneCell' = true) (hbytes : (n + m) * bytes ≤ 140737488355328) (h63 : n + m ≤ 1000000) (hbase : base ≤ w.heap.size)
    (h : ∀ v' w', w'.ownsRow base e size v' (n + m) (xs ++ ys) → w.grownBy w' v.ownBlock → (v'.ownBlock = v.ownBlock ∨ v'.ownBlock = some w.heap.size) → K (a.put o.dst v') w') :
    if Region.wanted o (yielded ops a.tmps) = true then Oper.wp P o a w K Q else E := by
  rw [if_pos (by simp [Region.wanted, hgd])]
  obtain ⟨v', w', hrun, h2, h3, h4⟩ := run_rows (P := P) w base base2 t o.type e i z size bytes ht hi hz hsize hby hzs hsz v r n m xs ys hown hr h1 hbytes h63 hbase
  unfold Oper.wp
  simp [execOp, ho, resolve, invoke, builtin, hs, hx, hrun, Result.andThen]
  exact h v' w' h2 h3 h4
/-- a call of two arguments, as one step of a region that draws its order -/
theorem step_call2 {P : Program} {ops : Array Oper} {o : Oper} {a : Act} {w : World} {K : Act → World → Prop} {Q : Exit → Act → World → Prop} {E : Prop}
    (hgd : o.guard = none) (f : FuncId) (fn : Func) (hfn : P.funcs[f]? = some fn) (hname : (fn.name == "runtime.NumGoroutine") = false) (hb : fn.body.isNone = false) (x y : Operand) (t u : TypeId) (ho : o.op = .call { callee := .value (.func f), args := #[x, y], argTypes := #[t, u] }) (v v2 : Value) (hx : a.eval x = v) (hy : a.eval y = v2)
    (R : Value → World → Prop) (h : Calls P f #[v, v2] w fun e w' => ∃ v', e = .returned v' ∧ R v' w') (hK : ∀ v' w', R v' w' → K (a.put o.dst v') w') :
    if Region.wanted o (yielded ops a.tmps) = true then Oper.wp P o a w K Q else E := by
  have hw : Region.wanted o (yielded ops a.tmps) = true := by simp [Region.wanted, hgd]
  rw [if_pos hw]
  obtain ⟨dst, op, ty, pos, aft, gd⟩ := o
  dsimp only at ho
  subst ho
  unfold Oper.wp
  rw [execOp_call_go]
  have e : #[] ++ #[x, y].map a.eval ++ #[] = #[v, v2] := by simp [hx, hy]
  rw [e]
  have h1 : ¬ fn.name = "runtime.NumGoroutine" := by simpa using hname
  have h2 : ¬ fn.body = none := by intro e; rw [e] at hb; cases hb
  have hr : (callFunc f #[v, v2]).run P w = .ok (.enter f #[v, v2]) w := by simp [callFunc, run_program, hfn, h1, h2]
  rw [hr]
  refine Calls.mono h ?_
  rintro e w' ⟨v', rfl, hr⟩
  exact hK v' w' hr

/-- a machine that is being made -/
structure Em (W0 : World) (st : Int) (A : List A5) (x : Value) (F : List (Int × Int)) (y : Value) (W : World) : Prop where
  bel : Below W0.heap.size W0 W
  gb : W.heap[W0.heap.size]? = some (.cells #[.int .i64 st, x, y] 25 (0, 0))
  ra : W.ownsRow (W0.heap.size + 1) 46 5 x A.length (acs A)
  rf : W.ownsRow (W0.heap.size + 1) 48 2 y F.length (fcs F)
  ap : ∀ k, x.ownBlock = some k → y.ownBlock ≠ some k
section
variable {W0 W : World} {st : Int} {A : List A5} {x : Value} {F : List (Int × Int)} {y : Value}
theorem own_below {w w' : World} {base e size n : Nat} {v : Value} {xs : List Value} (h : w.ownsRow base e size v n xs) (hb : Below w.heap.size w w') : w'.ownsRow base e size v n xs := by
  refine ⟨h.1, ?_⟩
  rcases h.2 with h' | ⟨g, cap, cur, hv, hbg, hg, rest⟩
  · exact .inl h'
  · exact .inr ⟨g, cap, cur, hv, hbg, (hb.block _ (Array.getElem?_eq_some_iff.1 hg).1).trans hg, rest⟩
theorem Em.big (h : Em W0 st A x F y W) : W0.heap.size + 1 ≤ W.heap.size := (Array.getElem?_eq_some_iff.1 h.gb).1
theorem Em.below {W' : World} (h : Em W0 st A x F y W) (hb : Below W.heap.size W W') : Em W0 st A x F y W' :=
  ⟨h.bel.trans (hb.mono h.bel.size), (hb.block _ h.big).trans h.gb, own_below h.ra hb, own_below h.rf hb, h.ap⟩
theorem Em.c0 (h : Em W0 st A x F y W) : W.cell? ⟨W0.heap.size, 0, none⟩ = some (.int .i64 st) := cell_of_row _ _ 0 _ 25 (0, 0) h.gb
theorem Em.c1 (h : Em W0 st A x F y W) : W.cell? ⟨W0.heap.size, 1, none⟩ = some x := cell_of_row _ _ 1 _ 25 (0, 0) h.gb
theorem Em.c2 (h : Em W0 st A x F y W) : W.cell? ⟨W0.heap.size, 2, none⟩ = some y := cell_of_row _ _ 2 _ 25 (0, 0) h.gb
theorem Em.first (W0 : World) (st : Int) : Em W0 st [] nilS [] nilS (W0.alloc (.cells #[.int .i64 st, nilS, nilS] 25)) :=
  ⟨(Below.refl _ W0).alloc (Nat.le_refl _) _, heap_alloc_new _ _, World.ownsRow_nil _ _ _ _, World.ownsRow_nil _ _ _ _, fun k h => by simp [Value.ownBlock] at h⟩
theorem own_slice {w : World} {base e size n : Nat} {v : Value} {xs : List Value} (h : w.ownsRow base e size v n xs) : ∃ a k, v = .slice a n k := by
  rcases h.2 with ⟨h1, h2⟩ | ⟨g, cap, cur, hv, _⟩
  · exact ⟨none, 0, by rw [h1, h2]⟩
  · exact ⟨_, _, hv⟩
/-- arcs more: what is known ahead of the store, and behind it -/
theorem Em.arcs {W2 w' : World} {B : List A5} {x' : Value} (h : Em W0 st A x F y W) (hb : Below W.heap.size W W2) (ho : w'.ownsRow (W0.heap.size + 1) 46 5 x' (A.length + B.length) (acs A ++ acs B)) (hg : W2.grownBy w' x.ownBlock) (hx : x'.ownBlock = x.ownBlock ∨ x'.ownBlock = some W2.heap.size) :
    (w'.cell? ⟨W0.heap.size, 1, none⟩ = some x ∧ w'.frozen? ⟨W0.heap.size, 1, none⟩ = false) ∧ Em W0 st (A ++ B) x' F y (w'.setCell ⟨W0.heap.size, 1, none⟩ x') := by
  have h2 := h.below hb
  have hz := h2.big
  have hB : Below (W0.heap.size + 1) W2 w' := below_of_grown hg h2.ra hz
  have g1 : w'.heap[W0.heap.size]? = some (.cells #[.int .i64 st, x, y] 25 (0, 0)) := (hB.block _ (by omega)).trans h2.gb
  have e1 := heap_setCell_same w' W0.heap.size 1 _ 25 x' g1
  refine ⟨⟨cell_of_row _ _ 1 _ 25 (0, 0) g1, frozen_of_row _ _ 1 _ 25 g1⟩, ⟨(h2.bel.trans (hB.mono (by omega))).setCell (p := ⟨W0.heap.size, 1, none⟩) (Nat.le_refl _) x', e1, ?_, ?_, ?_⟩⟩
  · have := ownsRow_setCell_below ho (a := ⟨W0.heap.size, 1, none⟩) (Nat.lt_succ_self _) x'
    rw [List.length_append]
    have e : acs (A ++ B) = acs A ++ acs B := by simp [acs]
    rw [e]
    exact this
  · refine ownsRow_setCell_below (h2.rf.kept hg ?_) (a := ⟨W0.heap.size, 1, none⟩) (Nat.lt_succ_self _) x'
    cases hy : y.ownBlock with
    | none => exact .inl rfl
    | some k => exact .inr (fun e => h2.ap k e.symm hy)
  · intro k hk hyk
    rcases hx with hx | hx
    · exact h2.ap k (hx ▸ hk) hyk
    · rw [hx] at hk
      cases hk
      have := (h2.rf.lt _ hyk).2
      omega
/-- the finals, new ones -/
theorem Em.fins {w' : World} {F' : List (Int × Int)} {y' : Value} (h : Em W0 st A x F y W) (hb : Below W.heap.size W w') (ho : w'.ownsRow W.heap.size 48 2 y' F'.length (fcs F')) :
    (w'.cell? ⟨W0.heap.size, 2, none⟩ = some y ∧ w'.frozen? ⟨W0.heap.size, 2, none⟩ = false) ∧ Em W0 st A x F' y' (w'.setCell ⟨W0.heap.size, 2, none⟩ y') := by
  have h2 := h.below hb
  have hz := h.big
  have e1 := heap_setCell_same w' W0.heap.size 2 _ 25 y' h2.gb
  refine ⟨⟨h2.c2, frozen_of_row _ _ 2 _ 25 h2.gb⟩, ⟨h2.bel.setCell (p := ⟨W0.heap.size, 2, none⟩) (Nat.le_refl _) y', e1, ownsRow_setCell_below h2.ra (a := ⟨W0.heap.size, 2, none⟩) (Nat.lt_succ_self _) y', ownsRow_setCell_below (ho.mono hz) (a := ⟨W0.heap.size, 2, none⟩) (Nat.lt_succ_self _) y', ?_⟩⟩
  intro k hk hyk
  have h3 := (h.ra.lt _ hk).2
  have h4 := (ho.lt _ hyk).1
  omega
/-- what was made, as it lies -/
theorem rows_isM {b1 b2 : Nat} (ra : W.ownsRow b1 46 5 x A.length (acs A)) (rf : W.ownsRow b2 48 2 y F.length (fcs F)) (hA : A.length ≤ 1000) (hF : F.length ≤ 1000) : IsM W (.agg #[.int .i64 st, x, y]) ⟨st, A, F⟩ := by
  refine ⟨x, y, rfl, ⟨acs_length A, ?_⟩, ⟨fcs_length F, ?_⟩⟩
  · rcases ra.2 with ⟨h1, h2⟩ | ⟨g, cap, cur, hv, _, hg, _, _, _, ht⟩
    · exact ⟨none, 0, by rw [h1, h2], by dsimp only; omega, .inl h2⟩
    · refine ⟨_, cap, hv, by dsimp only; omega, .inr ⟨g, 0, rfl, (Array.getElem?_eq_some_iff.1 hg).1, fun j u hu => ?_⟩⟩
      have hj : j < A.length * 5 := by
        have := (List.getElem?_eq_some_iff.1 hu).1
        rwa [acs_length] at this
      rw [Nat.zero_add, cell_of_row _ _ j _ 46 (0, 0) hg]
      rw [← ht, List.getElem?_take_of_lt hj, Array.getElem?_toList] at hu
      exact hu
  · rcases rf.2 with ⟨h1, h2⟩ | ⟨g, cap, cur, hv, _, hg, _, _, _, ht⟩
    · exact ⟨none, 0, by rw [h1, h2], by dsimp only; omega, .inl h2⟩
    · refine ⟨_, cap, hv, by dsimp only; omega, .inr ⟨g, 0, rfl, (Array.getElem?_eq_some_iff.1 hg).1, fun j u hu => ?_⟩⟩
      have hj : j < F.length * 2 := by
        have := (List.getElem?_eq_some_iff.1 hu).1
        rwa [fcs_length] at this
      rw [Nat.zero_add, cell_of_row _ _ j _ 48 (0, 0) hg]
      rw [← ht, List.getElem?_take_of_lt hj, Array.getElem?_toList] at hu
      exact hu
/-- laid into the box of the result -/
theorem Em.out {R : Nat} {a b c : Value} (h : Em W0 st A x F y W) (hR : R < W0.heap.size) (hA : A.length ≤ 1000) (hF : F.length ≤ 1000) {w : World} (hw : Below w.heap.size w W) (hwR : w.heap.size ≤ R) (hr : W.heap[R]? = some (.cells #[a, b, c] 25 (0, 0))) :
    (((W.setCell ⟨R, 0, none⟩ (.int .i64 st)).setCell ⟨R, 1, none⟩ x).setCell ⟨R, 2, none⟩ y).heap[R]? = some (.cells #[.int .i64 st, x, y] 25 (0, 0)) ∧ IsM (((W.setCell ⟨R, 0, none⟩ (.int .i64 st)).setCell ⟨R, 1, none⟩ x).setCell ⟨R, 2, none⟩ y) (.agg #[.int .i64 st, x, y]) ⟨st, A, F⟩ ∧ Below w.heap.size w (((W.setCell ⟨R, 0, none⟩ (.int .i64 st)).setCell ⟨R, 1, none⟩ x).setCell ⟨R, 2, none⟩ y) := by
  have hl := laid3 (x := .int .i64 st) (y := x) (z := y) hr hw hwR
  have k : ∀ j : Nat, (⟨R, j, none⟩ : Addr).block < W0.heap.size + 1 := fun j => Nat.lt_succ_of_lt hR
  exact ⟨hl.1, rows_isM (ownsRow_setCell_below (ownsRow_setCell_below (ownsRow_setCell_below h.ra (k 0) _) (k 1) _) (k 2) _) (ownsRow_setCell_below (ownsRow_setCell_below (ownsRow_setCell_below h.rf (k 0) _) (k 1) _) (k 2) _) hA hF, hl.2⟩
theorem at_all {w wr : World} {a b c : Obj} (h : Below (((w.alloc a).alloc b).alloc c).heap.size (((w.alloc a).alloc b).alloc c) wr) : wr.heap[w.heap.size]? = some a ∧ wr.heap[w.heap.size + 1]? = some b ∧ wr.heap[w.heap.size + 1 + 1]? = some c ∧ Below w.heap.size w wr ∧ w.heap.size + 1 + 1 < wr.heap.size := by
  have s1 : (w.alloc a).heap.size = w.heap.size + 1 := by simp
  have s2 : ((w.alloc a).alloc b).heap.size = w.heap.size + 1 + 1 := by simp
  have s3 : (((w.alloc a).alloc b).alloc c).heap.size = w.heap.size + 1 + 1 + 1 := by simp
  have h3 := at_third h
  refine ⟨(h.block _ (by omega)).trans ?_, (h.block _ (by omega)).trans ?_, h3.1, h3.2, (Array.getElem?_eq_some_iff.1 h3.1).1⟩
  · exact (Below.heap_alloc _ _ _ (by omega)).trans ((Below.heap_alloc _ _ _ (by omega)).trans (heap_alloc_new w a))
  · exact (Below.heap_alloc _ _ _ (by omega)).trans (second w a b)
theorem lit_cells (W : World) (cs : Array Value) (t : TypeId) : ∀ j u, cs.toList[j]? = some u → (W.alloc (.cells cs t)).cell? (Addr.add ⟨W.heap.size, 0, none⟩ j) = some u := by
  intro j u hu
  have hn := heap_alloc_new W (.cells cs t)
  rw [show Addr.add ⟨W.heap.size, 0, none⟩ j = ⟨W.heap.size, j, none⟩ by unfold Addr.add; split <;> simp_all, cell_of_row _ _ j _ t (0, 0) hn]
  rwa [Array.getElem?_toList] at hu
theorem lit_cells' (W : World) (o : Obj) (cs : Array Value) (t : TypeId) : ∀ j u, cs.toList[j]? = some u → ((W.alloc o).alloc (.cells cs t)).cell? (Addr.add ⟨W.heap.size + 1, 0, none⟩ j) = some u := by
  have h := lit_cells (W.alloc o) cs t
  have e : (W.alloc o).heap.size = W.heap.size + 1 := by simp
  rw [e] at h
  exact h
end
theorem acs_one (l : List A5) : ∀ u ∈ acs l, u.oneCell' = true := by
  intro u hu
  unfold acs at hu
  obtain ⟨p, _, hp⟩ := List.mem_flatMap.1 hu
  exact ac_one p u hp
theorem fcs_one (l : List (Int × Int)) : ∀ u ∈ fcs l, u.oneCell' = true := by
  intro u hu
  unfold fcs at hu
  obtain ⟨p, _, hp⟩ := List.mem_flatMap.1 hu
  simp only [fc, List.mem_cons, List.not_mem_nil, or_false] at hp
  rcases hp with rfl | rfl <;> rfl
end Go.Proofs.Ytegfhbjdfcoajaa.Eb
