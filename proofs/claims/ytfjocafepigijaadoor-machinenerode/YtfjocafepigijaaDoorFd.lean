/- How a table of the program lies: rows of 63 cells (where each symbol leads; final; dead); a row in a block of its own; loading, storing, reading a place. No conditions. -/
import Derived.Test.YtfjocafepigijaaDoorCfM
import Derived.Test.YtfjocafepigijaaDoorUc
import Derived.Deep.MidRow
namespace Go.Proofs.YtfjocafepigijaaDoor.Su
open Go.RowKit Mv Po Ps Cm

/-- n rows of k cells -/
def gl (n k : Nat) (G : Nat → Nat → Value) : List Value := (List.range n).flatMap fun i => (List.range k).map (G i)
theorem gl_snoc (n k : Nat) (G : Nat → Nat → Value) : gl (n + 1) k G = gl n k G ++ (List.range k).map (G n) := by
  unfold gl
  rw [List.range_succ, List.flatMap_append]
  simp
theorem gl_len (n k : Nat) (G : Nat → Nat → Value) : (gl n k G).length = n * k := by
  induction n with
  | zero => simp [gl]
  | succ n ih => rw [gl_snoc, List.length_append, ih, Nat.add_mul, Nat.one_mul]; simp
theorem gl_at {n k i j : Nat} {G : Nat → Nat → Value} (hi : i < n) (hj : j < k) : (gl n k G)[i * k + j]? = some (G i j) := by
  induction n with
  | zero => omega
  | succ n ih =>
    rw [gl_snoc]
    have hm : (i + 1) * k = i * k + k := by rw [Nat.add_mul, Nat.one_mul]
    rcases Nat.lt_or_ge i n with h | h
    · have h1 : (i + 1) * k ≤ n * k := Nat.mul_le_mul_right k h
      rw [List.getElem?_append_left (by rw [gl_len]; omega)]
      exact ih h
    · obtain rfl : i = n := by omega
      rw [List.getElem?_append_right (by rw [gl_len]; omega), gl_len, show i * k + j - i * k = j by omega]
      simp [hj]
theorem gl_congr {n k : Nat} {G G' : Nat → Nat → Value} (h : ∀ i j, i < n → j < k → G i j = G' i j) : gl n k G = gl n k G' := by
  induction n with
  | zero => rfl
  | succ n ih =>
    rw [gl_snoc, gl_snoc, ih (fun i j hi hj => h i j (by omega) hj)]
    congr 1
    apply List.map_congr_left
    intro j hj
    exact h n j (Nat.lt_succ_self n) (List.mem_range.1 hj)
theorem gl_set {n k i j : Nat} {G : Nat → Nat → Value} (hi : i < n) (hj : j < k) (v : Value) : (gl n k G).set (i * k + j) v = gl n k (fun a b => if a = i ∧ b = j then v else G a b) := by
  have hk : 0 < k := by omega
  apply List.ext_getElem?
  intro m
  by_cases hm : m < n * k
  · have h1 : m / k < n := (Nat.div_lt_iff_lt_mul hk).2 hm
    have h2 : m % k < k := Nat.mod_lt _ hk
    have h3 : m / k * k + m % k = m := by rw [Nat.mul_comm]; exact Nat.div_add_mod m k
    by_cases e : i * k + j = m
    · subst e
      rw [List.getElem?_set_self (by rw [gl_len]; omega), gl_at hi hj]
      simp
    · rw [List.getElem?_set_ne e, ← h3, gl_at h1 h2, gl_at h1 h2, if_neg]
      rintro ⟨h4, h5⟩
      apply e
      rw [← h3, h4, h5]
  · rw [List.getElem?_eq_none (by rw [List.length_set, gl_len]; omega), List.getElem?_eq_none (by rw [gl_len]; omega)]
/-- a row's cells -/
def rwc (X : Nat → Int) (f d : Bool) (j : Nat) : Value := if j < 61 then .int .i64 (X j) else if j = 61 then .bool f else .bool d
def rl (X : Nat → Int) (f d : Bool) : List Value := (List.range 63).map (rwc X f d)
def ra (X : Nat → Int) (f d : Bool) : Array Value := (rl X f d).toArray
def xl (X : Nat → Int) : List Value := (List.range 61).map fun j => .int .i64 (X j)
theorem rl_len (X : Nat → Int) (f d : Bool) : (rl X f d).length = 63 := by simp [rl]
theorem ra_size (X : Nat → Int) (f d : Bool) : (ra X f d).size = 63 := by simp [ra, rl]
theorem rl_at {X : Nat → Int} {f d : Bool} {j : Nat} (h : j < 63) : (rl X f d)[j]? = some (rwc X f d j) := by simp [rl, h]
theorem ra_at {X : Nat → Int} {f d : Bool} {j : Nat} (h : j < 63) : (ra X f d)[j]? = some (rwc X f d j) := by simp [ra, rl_at h]
theorem rwc_x {X : Nat → Int} {f d : Bool} {j : Nat} (h : j < 61) : rwc X f d j = .int .i64 (X j) := if_pos h
theorem rwc_f (X : Nat → Int) (f d : Bool) : rwc X f d 61 = .bool f := rfl
theorem rwc_d (X : Nat → Int) (f d : Bool) : rwc X f d 62 = .bool d := rfl
theorem rwc_one (X : Nat → Int) (f d : Bool) (j : Nat) : (rwc X f d j).oneCell' = true := by
  unfold rwc
  split
  · rfl
  · split <;> rfl
theorem rl_one (X : Nat → Int) (f d : Bool) : ∀ u ∈ rl X f d, u.oneCell' = true := fun u hu => by
  obtain ⟨j, _, rfl⟩ := List.mem_map.1 hu
  exact rwc_one _ _ _ _
theorem ra_one (X : Nat → Int) (f d : Bool) : (ra X f d).all (·.oneCell') = true := all_oneCell_toArray (rl_one X f d)
def up1 (X : Nat → Int) (j : Nat) (x : Int) : Nat → Int := fun a => if a = j then x else X a
theorem ra_set {X : Nat → Int} {f d : Bool} {j : Nat} (h : j < 61) (x : Int) : (ra X f d).setIfInBounds j (.int .i64 x) = ra (up1 X j x) f d := by
  apply Array.ext_getElem?
  intro a
  rw [Array.getElem?_setIfInBounds]
  by_cases ha : a < 63
  · by_cases e : j = a
    · subst e
      rw [if_pos rfl, ra_size, if_pos ha, ra_at ha, rwc_x h]
      simp [up1]
    · have e' : ¬ a = j := fun h => e h.symm
      rw [if_neg e, ra_at ha, ra_at ha]
      unfold rwc up1
      simp [e']
  · have h1 : (ra X f d)[a]? = none := by rw [Array.getElem?_eq_none_iff, ra_size]; omega
    have h2 : (ra (up1 X j x) f d)[a]? = none := by rw [Array.getElem?_eq_none_iff, ra_size]; omega
    rw [h1, h2, if_neg (by omega)]
theorem zero90 : (Tryd.prog.info? 90).map (fun i => (i.zero, i.size)) = some (some (.agg (ra (fun _ => 0) false false)), 63) := by kernel_rfl
theorem inf90 : (Tryd.prog.info? 90).map (fun i => (i.zero, i.size, i.bytes)) = some (some (.agg (ra (fun _ => 0) false false)), 63, 496) := by kernel_rfl
theorem z90 (w : World) : (zeroValue 90).run Tryd.prog w = .ok (.agg (ra (fun _ => 0) false false)) w := (zero_of_info zero90).1 w
theorem size90 : (Tryd.prog.info? 90).map (·.size) = some 63 := (zero_of_info zero90).2
theorem size88 : (Tryd.prog.info? 88).map (·.size) = some 61 := by kernel_rfl
theorem sz3' : (Tryd.prog.info? 3).map (·.size) = some 1 := by kernel_rfl
/-- a row in a block of its own -/
def Rw9 (w : World) (b : Nat) (X : Nat → Int) (f d : Bool) : Prop := w.heap[b]? = some (.cells (ra X f d) 90 (0, 0))
section
variable {w : World} {b : Nat} {X : Nat → Int} {f d : Bool}
theorem Rw9.cell (h : Rw9 w b X f d) {j : Nat} (hj : j < 63) : w.cell? ⟨b, j, none⟩ = some (rwc X f d j) := by rw [cell_of_row w b j _ 90 _ h, ra_at hj]
theorem Rw9.x (h : Rw9 w b X f d) {j : Nat} (hj : j < 61) : w.cell? ⟨b, j, none⟩ = some (.int .i64 (X j)) := by rw [h.cell (by omega), rwc_x hj]
theorem Rw9.fi (h : Rw9 w b X f d) : w.cell? ⟨b, 61, none⟩ = some (.bool f) := h.cell (by omega)
theorem Rw9.frozen (h : Rw9 w b X f d) (j : Nat) : w.frozen? ⟨b, j, none⟩ = false := frozen_of_row w b j _ 90 h
theorem Rw9.set (h : Rw9 w b X f d) {j : Nat} (hj : j < 61) (x : Int) : Rw9 (w.setCell ⟨b, j, none⟩ (.int .i64 x)) b (up1 X j x) f d := by
  have := heap_setCell_same w b j _ 90 (.int .i64 x) h
  rw [ra_set hj] at this
  exact this
theorem Rw9.range (h : Rw9 w b X f d) : w.rangeAt b 0 (rl X f d) := fun j v hv => by
  have hj : j < 63 := by have := (List.getElem?_eq_some_iff.1 hv).1; rw [rl_len] at this; exact this
  rw [rl_at hj] at hv
  rw [Nat.zero_add, h.cell hj, hv]
theorem Rw9.xrange (h : Rw9 w b X f d) : w.rangeAt b 0 (xl X) := fun j v hv => by
  have hj : j < 61 := by have := (List.getElem?_eq_some_iff.1 hv).1; simpa [xl] using this
  rw [Nat.zero_add, h.x hj]
  simp [xl, hj] at hv
  rw [hv]
end
/-- all of a row, loaded -/
theorem ld90 {ops : Array Oper} {rest : List Oper} {op : Oper} {a : Act} {w : World} {Q : Exit → Act → World → Prop} (hgd : op.guard = none) (x : Operand) (ho : op.op = .load 90 x)
    (b o : Nat) (X : Nat → Int) (f d : Bool) (hx : a.eval x = .pointer (some ⟨b, o, none⟩)) (hc : w.rangeAt b o (rl X f d)) (h : wpList Tryd.prog ops Q rest (a.put op.dst (.agg (ra X f d))) w) : wpList Tryd.prog ops Q (op :: rest) a w :=
  wpList_load_mid hgd 90 x ho b o hx (rl X f d) _ hc Tryd.underlying90 rfl (by rw [rl_len]; exact size90) h
/-- a row's array, loaded -/
theorem ld88 {ops : Array Oper} {rest : List Oper} {op : Oper} {a : Act} {w : World} {Q : Exit → Act → World → Prop} (hgd : op.guard = none) (x : Operand) (ho : op.op = .load 88 x)
    (b o : Nat) (X : Nat → Int) (hx : a.eval x = .pointer (some ⟨b, o, none⟩)) (hc : w.rangeAt b o (xl X)) (h : wpList Tryd.prog ops Q rest (a.put op.dst (.agg (xl X).toArray)) w) : wpList Tryd.prog ops Q (op :: rest) a w :=
  wpList_load_mid hgd 88 x ho b o hx (xl X) _ hc Tryd.underlying88 rfl (by rw [show (xl X).length = 61 by simp [xl]]; exact size88) h
/-- all of a row, stored into a block of its own -/
theorem st90 {ops : Array Oper} {rest : List Oper} {op : Oper} {a : Act} {w : World} {Q : Exit → Act → World → Prop} (hgd : op.guard = none) (x y : Operand) (ho : op.op = .store 90 x y)
    (b : Nat) (X X' : Nat → Int) (f d f' d' : Bool) (hx : a.eval x = .pointer (some ⟨b, 0, none⟩)) (hy : a.eval y = .agg (ra X' f' d')) (hb : Rw9 w b X f d) (h : wpList Tryd.prog ops Q rest (a.put op.dst undef) (w.setRow b (ra X' f' d'))) : wpList Tryd.prog ops Q (op :: rest) a w :=
  wpList_plain hgd fun _ hK => by
    unfold Oper.wp execOp
    have hs := run_storeVar_row (P := Tryd.prog) w b 90 90 (ra X f d) (ra X' f' d') hb (by rw [ra_size]; exact size90) (by rw [ra_size, ra_size]) (ra_one X' f' d')
    simp only [ho, hx, hy, Instr.storeAt, Instr.sureAddr, Sem.run_bind, Sem.run_pure, Result.andThen, hs]
    exact hK _ _ h
theorem idx88 (X : Nat → Int) (c : Nat) (hc : c < 61) (W : World) : Sem.run Tryd.prog (Instr.index 88 (.agg (xl X).toArray) (.int .i64 (c : Int))) W = .ok (.int .i64 (X c)) W := by
  have h1 : (xl X)[c]? = some (.int .i64 (X c)) := by simp [xl, hc]
  have h2 : (c : Int) < 61 := by omega
  have h3 := Tryd.underlying88
  have h4 := sz3'
  unfold Instr.index
  go_simp
/-- a table's cells -/
def tcs (n : Nat) (X : Nat → Nat → Int) (f d : Nat → Bool) : List Value := gl n 63 fun i => rwc (X i) (f i) (d i)
def upd (f : Nat → Bool) (i : Nat) (b : Bool) : Nat → Bool := fun a => if a = i then b else f a
def upx (X : Nat → Nat → Int) (i j : Nat) (x : Int) : Nat → Nat → Int := fun a => if a = i then up1 (X a) j x else X a
theorem tcs_at {n i j : Nat} {X : Nat → Nat → Int} {f d : Nat → Bool} (hi : i < n) (hj : j < 63) : (tcs n X f d)[i * 63 + j]? = some (rwc (X i) (f i) (d i) j) := gl_at hi hj
theorem tcs_snoc (n : Nat) (X : Nat → Nat → Int) (f d : Nat → Bool) : tcs (n + 1) X f d = tcs n X f d ++ rl (X n) (f n) (d n) := gl_snoc _ _ _
theorem tcs_congr {n : Nat} {X X' : Nat → Nat → Int} {f f' d d' : Nat → Bool} (h : ∀ i, i < n → (∀ j, j < 61 → X i j = X' i j) ∧ f i = f' i ∧ d i = d' i) : tcs n X f d = tcs n X' f' d' :=
  gl_congr fun i j hi _ => by
    obtain ⟨h1, h2, h3⟩ := h i hi
    unfold rwc
    rw [h2, h3]
    by_cases hj : j < 61
    · rw [if_pos hj, if_pos hj, h1 j hj]
    · rw [if_neg hj, if_neg hj]
theorem tcs_setX {n i j : Nat} {X : Nat → Nat → Int} {f d : Nat → Bool} (hi : i < n) (hj : j < 61) (x : Int) : (tcs n X f d).set (i * 63 + j) (.int .i64 x) = tcs n (upx X i j x) f d := by
  unfold tcs
  rw [gl_set hi (by omega)]
  refine gl_congr fun a b _ _ => ?_
  by_cases e : a = i
  · subst e
    by_cases e2 : b = j
    · subst e2
      rw [if_pos ⟨rfl, rfl⟩, rwc_x hj]
      simp [upx, up1]
    · rw [if_neg (fun h => e2 h.2)]
      unfold rwc upx up1
      simp [e2]
  · rw [if_neg (fun h => e h.1)]
    unfold upx
    rw [if_neg e]
theorem tcs_setD {n i : Nat} {X : Nat → Nat → Int} {f d : Nat → Bool} (hi : i < n) (b : Bool) : (tcs n X f d).set (i * 63 + 62) (.bool b) = tcs n X f (upd d i b) := by
  unfold tcs
  rw [gl_set hi (by omega)]
  refine gl_congr fun a c _ hc => ?_
  by_cases e : a = i
  · subst e
    by_cases e2 : c = 62
    · subst e2
      rw [if_pos ⟨rfl, rfl⟩, rwc_d]
      simp [upd]
    · rw [if_neg (fun h => e2 h.2)]
      unfold rwc
      by_cases e3 : c < 61
      · rw [if_pos e3, if_pos e3]
      · rw [if_neg e3, if_neg e3, if_pos (by omega), if_pos (by omega)]
  · rw [if_neg (fun h => e h.1)]
    unfold upd
    rw [if_neg e]
/-- the table lies: p its box, g the block of its rows -/
structure PT (w : World) (base p g n cap : Nat) (X : Nat → Nat → Int) (f d : Nat → Bool) : Prop where
  box : w.heap[p]? = some (.cells #[.slice (some ⟨g, 0, none⟩) n cap] 93 (0, 0))
  row : w.ownsRow base 90 63 (.slice (some ⟨g, 0, none⟩) n cap) n (tcs n X f d)
section
variable {w w' : World} {base p g n cap : Nat} {X : Nat → Nat → Int} {f d : Nat → Bool}
theorem PT.cell (h : PT w base p g n cap X f d) {i j : Nat} (hi : i < n) (hj : j < 63) : w.cell? ⟨g, i * 63 + j, none⟩ = some (rwc (X i) (f i) (d i) j) := (h.row.cellAt _ (by omega)).trans (tcs_at hi hj)
theorem PT.x (h : PT w base p g n cap X f d) {i j : Nat} (hi : i < n) (hj : j < 61) : w.cell? ⟨g, i * 63 + j, none⟩ = some (.int .i64 (X i j)) := by rw [h.cell hi (by omega), rwc_x hj]
theorem PT.fin (h : PT w base p g n cap X f d) {i : Nat} (hi : i < n) : w.cell? ⟨g, i * 63 + 61, none⟩ = some (.bool (f i)) := h.cell hi (by omega)
theorem PT.dead (h : PT w base p g n cap X f d) {i : Nat} (hi : i < n) : w.cell? ⟨g, i * 63 + 62, none⟩ = some (.bool (d i)) := h.cell hi (by omega)
theorem PT.frozen (h : PT w base p g n cap X f d) (j : Nat) : w.frozen? ⟨g, j, none⟩ = false := h.row.frozenAt j
theorem PT.lt (h : PT w base p g n cap X f d) : base ≤ g ∧ g < w.heap.size := h.row.lt g rfl
theorem PT.ty (h : PT w base p g n cap X f d) : ∃ c, w.heap[g]? = some (.cells c 90 (0, 0)) := own_ty h.row rfl
theorem PT.range (h : PT w base p g n cap X f d) {i : Nat} (hi : i < n) : w.rangeAt g (i * 63) (rl (X i) (f i) (d i)) := fun j v hv => by
  have hj : j < 63 := by have := (List.getElem?_eq_some_iff.1 hv).1; rw [rl_len] at this; exact this
  rw [rl_at hj] at hv
  rw [h.cell hi hj, hv]
theorem PT.xrange (h : PT w base p g n cap X f d) {i : Nat} (hi : i < n) : w.rangeAt g (i * 63) (xl (X i)) := fun j v hv => by
  have hj : j < 61 := by have := (List.getElem?_eq_some_iff.1 hv).1; simpa [xl] using this
  rw [h.x hi hj]
  simp [xl, hj] at hv
  rw [hv]
theorem PT.kept {Y : Nat → Prop} (h : PT w base p g n cap X f d) (hk : Kp Y w w') (h1 : ¬ Y p) (h2 : ¬ Y g) : PT w' base p g n cap X f d :=
  ⟨(hk.block _ (lt_at h.box) h1).trans h.box, own_kp2 h.row hk (fun k hk2 => by have h3 : some g = some k := hk2; cases h3; exact h2)⟩
theorem PT.below (h : PT w base p g n cap X f d) (hb : Below w.heap.size w w') : PT w' base p g n cap X f d := h.kept (kp_below hb (fun _ => False)) id id
theorem PT.setX (h : PT w base p g n cap X f d) {i j : Nat} (hi : i < n) (hj : j < 61) (x : Int) : PT (w.setCell ⟨g, i * 63 + j, none⟩ (.int .i64 x)) base p g n cap (upx X i j x) f d := by
  obtain ⟨c, hc⟩ := h.ty
  have hk : Kp (fun k => k = g) w (w.setCell ⟨g, i * 63 + j, none⟩ (.int .i64 x)) := (Kp.refl _ w).setCell _ _ _ (fun _ => rfl)
  refine ⟨(hk.block _ (lt_at h.box) (fun e => by subst e; exact ty_ne h.box hc (by decide))).trans h.box, ?_⟩
  have hst := (h.row.stored (i * 63 + j) (.int .i64 x)).1
  rw [tcs_setX hi hj] at hst
  exact hst
theorem PT.setD (h : PT w base p g n cap X f d) {i : Nat} (hi : i < n) (b : Bool) : PT (w.setCell ⟨g, i * 63 + 62, none⟩ (.bool b)) base p g n cap X f (upd d i b) := by
  obtain ⟨c, hc⟩ := h.ty
  have hk : Kp (fun k => k = g) w (w.setCell ⟨g, i * 63 + 62, none⟩ (.bool b)) := (Kp.refl _ w).setCell _ _ _ (fun _ => rfl)
  refine ⟨(hk.block _ (lt_at h.box) (fun e => by subst e; exact ty_ne h.box hc (by decide))).trans h.box, ?_⟩
  have hst := (h.row.stored (i * 63 + 62) (.bool b)).1
  rw [tcs_setD hi] at hst
  exact hst
end
end Go.Proofs.YtfjocafepigijaaDoor.Su
