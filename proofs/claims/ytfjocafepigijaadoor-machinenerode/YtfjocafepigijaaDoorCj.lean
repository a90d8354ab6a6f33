/- split (28): the machine with an arc led to a twin of its state. Condition: a right sure machine of at most 330 states. -/
import Derived.Test.YtfjocafepigijaaDoorCiM
import Derived.Test.YtfjocafepigijaaDoorCfM
import Derived.Test.YtfjocafepigijaaDoorCeM
import Derived.Laws.AppendOwnNone
namespace Go.Proofs.YtfjocafepigijaaDoor.Su
open Go.RowKit Mv Po Ps Cm Ra Ot Pa

theorem own_empty66 (W : World) : (W.alloc (.cells #[] 66)).ownsRow W.heap.size 66 2 (.slice (some ⟨W.heap.size, 0, none⟩) 0 0) 0 [] :=
  ⟨rfl, .inr ⟨W.heap.size, 0, #[], rfl, Nat.le_refl _, heap_alloc_new _ _, Nat.le_refl _, by unfold maxLen; omega, rfl, by simp⟩⟩
theorem run_nothing9 {P : Program} {w : World} (base : Nat) (t ty e : TypeId) (i : TypeInfo) (size : Nat) (ht : P.underlying t = some (.slice e)) (hi : P.info? e = some i)
    (v : Value) (n : Nat) (xs : List Value) (hown : w.ownsRow base e size v n xs) (k : Nat) :
    (Builtin.append_ #[t, t] ty #[v, .slice none 0 k]).run P w = .ok v w := by
  rcases hown.2 with ⟨rfl, rfl⟩ | ⟨g, cap, cur, rfl, _, _, hnc, _⟩
  · simp [Builtin.append_, run_underlying ht, sizeOf, typeInfo, hi, Builtin.lenOf, Builtin.firstCells]
  · simp [Builtin.append_, run_underlying ht, sizeOf, typeInfo, hi, Builtin.lenOf, Builtin.firstCells, hnc, storeCells]
theorem fcs_all (F : List (Int × Int)) : ∀ u ∈ fcs F, u.oneCell' = true := fun u hu => by
  obtain ⟨f, _, h⟩ := List.mem_flatMap.1 hu
  simp only [fc, List.mem_cons, List.not_mem_nil, or_false] at h
  rcases h with rfl | rfl <;> rfl
set_option maxRecDepth 100000 in
theorem run_fin (w : World) (base : Nat) (v : Value) (n : Nat) (xs : List Value) (hown : w.ownsRow base 66 2 v n xs) (y : Value) (F : List (Int × Int)) (hy : Mv.Row w y 2 F.length (fcs F)) (h63 : n + F.length ≤ 1000000) (hbase : base ≤ w.heap.size) :
    ∃ v' w', (Builtin.append_ #[23, 23] 23 #[v, y]).run Tryd.prog w = .ok v' w' ∧ w'.ownsRow base 66 2 v' (n + F.length) (xs ++ fcs F) ∧ w.grownBy w' v.ownBlock ∧ (v'.ownBlock = v.ownBlock ∨ v'.ownBlock = some w.heap.size) := by
  obtain ⟨i66, hi66, hz0, hz1, hz2⟩ := info_parts inf66
  obtain ⟨hl, a, c, rfl, _, h⟩ := hy
  have h' : F.length = 0 ∧ a = none ∨ ∃ p : Addr, a = some p ∧ ∀ j u, (fcs F)[j]? = some u → w.cell? (p.add j) = some u := by
    rcases h with h | ⟨b, off, rfl, _, hc⟩
    · cases a with
      | none => exact .inl ⟨h, rfl⟩
      | some p => exact .inr ⟨p, rfl, fun j u hu => by rw [List.eq_nil_of_length_eq_zero h] at hu; cases hu⟩
    · refine .inr ⟨_, rfl, fun j u hu => ?_⟩
      have hadd : (⟨b, off, none⟩ : Addr).add j = ⟨b, off + j, none⟩ := by unfold Addr.add; split <;> simp_all
      rw [hadd]
      exact hc j u hu
  rcases h' with ⟨h0, rfl⟩ | ⟨p, rfl, hc⟩
  · have e := List.eq_nil_of_length_eq_zero h0
    subst e
    exact ⟨v, w, run_nothing9 base 23 23 66 i66 2 Tryd.underlying23 hi66 v n xs hown c, by simpa [fcs] using hown, ⟨rfl, rfl, rfl, Nat.le_refl _, fun _ _ _ => rfl⟩, .inl rfl⟩
  · obtain ⟨v', w', hr, h2, h3, h4, h5⟩ := run_append_own_at (P := Tryd.prog) w base 23 23 66 i66 (.agg #[.int .i64 0, .int .i64 0]) 2 16 Tryd.underlying23 hi66 hz0 hz1 hz2 rfl (by decide) v n xs hown p F.length c (fcs F) hl hc (fcs_all F) (by unfold maxLen; omega) (by omega) hbase
    exact ⟨v', w', hr, h2, h3, h5⟩
theorem step_fin {ops : Array Oper} {o : Oper} {a : Act} {w : World} {K : Act → World → Prop} {Q : Exit → Act → World → Prop} {E : Prop}
    (hgd : o.guard = none) (s x : Operand) (ho : o.op = .call { callee := .builtin .append, args := #[s, x], argTypes := #[23, 23] }) (ht : o.type = 23)
    (base : Nat) (v : Value) (n : Nat) (xs : List Value) (hs : a.eval s = v) (hown : w.ownsRow base 66 2 v n xs)
    (y : Value) (F : List (Int × Int)) (hx : a.eval x = y) (hy : Mv.Row w y 2 F.length (fcs F)) (h63 : n + F.length ≤ 1000000) (hbase : base ≤ w.heap.size)
    (h : ∀ v' w', w'.ownsRow base 66 2 v' (n + F.length) (xs ++ fcs F) → w.grownBy w' v.ownBlock → (v'.ownBlock = v.ownBlock ∨ v'.ownBlock = some w.heap.size) → K (a.put o.dst v') w') :
    if Region.wanted o (yielded ops a.tmps) = true then Oper.wp Tryd.prog o a w K Q else E := by
  have hw : Region.wanted o (yielded ops a.tmps) = true := by simp [Region.wanted, hgd]
  rw [if_pos hw]
  obtain ⟨v', w', hr, h2, h3, h5⟩ := run_fin w base v n xs hown y F hy h63 hbase
  unfold Oper.wp execOp
  simp only [ho, ht, resolve, invoke, builtin, Sem.run_bind, Sem.run_pure, Result.andThen_ok, List.map_toArray, List.map_cons, List.map_nil, hs, hx, hr]
  exact h v' w' h2 h3 h5
/-- the machine that is made, and the box of the one that came in -/
structure Sp (w wr : World) (p2 p4 p7 : Nat) (O : Array Value) (st : Int) (va vg : Value) (arcs : List (Int × Int × Int × Int × Int)) (fs : List (Int × Int)) : Prop where
  sq : Sq w wr p4 p7 st va vg arcs fs
  box : wr.heap[p2]? = some (.cells O 25 (0, 0))
  n2 : p2 ≠ p7
  g2 : w.heap.size ≤ p2
section
variable {w wr w1 : World} {p2 p4 p7 : Nat} {O : Array Value} {st : Int} {va vg : Value} {arcs : List (Int × Int × Int × Int × Int)} {fs : List (Int × Int)}
theorem Sp.laid (h : Sp w wr p2 p4 p7 O st va vg arcs fs) (hb : Below wr.heap.size wr w1) : Sp w w1 p2 p4 p7 O st va vg arcs fs :=
  ⟨h.sq.laid hb, (hb.block _ (lt_at h.box)).trans h.box, h.n2, h.g2⟩
theorem Sp.other {b : Nat} {c : Array Value} (h : Sp w wr p2 p4 p7 O st va vg arcs fs) (hk : Kp (fun k => k = b) wr w1) (hb : wr.heap[b]? = some (.cells c 64 (0, 0))) (hge : w.heap.size ≤ b) (hva : va.ownBlock ≠ some b) : Sp w w1 p2 p4 p7 O st va vg arcs fs :=
  ⟨h.sq.other hk hb hge hva, (hk.block _ (lt_at h.box) (fun e => by have e2 : p2 = b := e; subst e2; exact ty_ne h.box hb (by decide))).trans h.box, h.n2, h.g2⟩
theorem Sp.addA {v1 : Value} {a : Int × Int × Int × Int × Int} (h : Sp w wr p2 p4 p7 O st va vg arcs fs) (ho : w1.ownsRow w.heap.size 64 5 v1 (arcs.length + 1) (acs arcs ++ ac a)) (hg : wr.grownBy w1 va.ownBlock) : Sp w (w1.setCell ⟨p7, 1, none⟩ v1) p2 p4 p7 O st v1 vg (arcs ++ [a]) fs := by
  obtain ⟨h1, hk⟩ := h.sq.addA ho hg
  refine ⟨h1, (hk.block _ (lt_at h.box) (fun e => ?_)).trans h.box, h.n2, h.g2⟩
  rcases e with e | e
  · exact h.n2 e
  · obtain ⟨d, hd⟩ := own_ty h.sq.arow e; exact ty_ne h.box hd (by decide)
theorem Sp.addG {v1 : Value} {f : Int × Int} (h : Sp w wr p2 p4 p7 O st va vg arcs fs) (ho : w1.ownsRow w.heap.size 66 2 v1 (fs.length + 1) (fcs fs ++ fc f)) (hg : wr.grownBy w1 vg.ownBlock) : Sp w (w1.setCell ⟨p7, 2, none⟩ v1) p2 p4 p7 O st va v1 arcs (fs ++ [f]) := by
  have hk1 : Kp (fun b => b = p7 ∨ vg.ownBlock = some b) wr w1 := (Kp.refl _ wr).grown hg (fun b hb _ => .inr hb)
  have hk : Kp (fun b => b = p7 ∨ vg.ownBlock = some b) wr (w1.setCell ⟨p7, 2, none⟩ v1) := hk1.setCell _ _ _ (fun _ => .inl rfl)
  refine ⟨h.sq.addG ho hg, (hk.block _ (lt_at h.box) (fun e => ?_)).trans h.box, h.n2, h.g2⟩
  rcases e with e | e
  · exact h.n2 e
  · obtain ⟨d, hd⟩ := own_ty h.sq.grow e; exact ty_ne h.box hd (by decide)
/-- another arc's box keeps when an arc is added -/
theorem Sp.five {v1 : Value} {b : Nat} {c : Array Value} (h : Sp w wr p2 p4 p7 O st va vg arcs fs) (hg : wr.grownBy w1 va.ownBlock) (hb : wr.heap[b]? = some (.cells c 64 (0, 0))) (hva : va.ownBlock ≠ some b) : (w1.setCell ⟨p7, 1, none⟩ v1).heap[b]? = some (.cells c 64 (0, 0)) := by
  have h1 := (hg.block b (lt_at hb) (fun e => hva e.symm)).trans hb
  have hk : Kp (fun k => k = p7) w1 (w1.setCell ⟨p7, 1, none⟩ v1) := (Kp.refl _ w1).setCell _ _ _ (fun _ => rfl)
  exact (hk.block b (lt_at h1) (fun e => by have e2 : b = p7 := e; subst e2; exact ty_ne hb h.sq.mac (by decide))).trans h1
theorem Sp.mac1 {e s n : Nat} {v : Value} {xs : List Value} (h : Sp w wr p2 p4 p7 O st va vg arcs fs) (hr : wr.ownsRow w.heap.size e s v n xs) (he : e ≠ 25) (hg : wr.grownBy w1 v.ownBlock) : w1.heap[p7]? = some (.cells #[.int .i64 st, va, vg] 25 (0, 0)) := h.sq.macGrown hr he hg
/-- what was made, read off -/
theorem Sp.fin (h : Sp w wr p2 p4 p7 O st va vg arcs fs) (ha : arcs.length ≤ 100000) (hf : fs.length ≤ 100000) :
    Below w.heap.size w (((wr.setCell ⟨p4, 0, none⟩ (.int .i64 st)).setCell ⟨p4, 1, none⟩ va).setCell ⟨p4, 2, none⟩ vg) ∧ (((wr.setCell ⟨p4, 0, none⟩ (.int .i64 st)).setCell ⟨p4, 1, none⟩ va).setCell ⟨p4, 2, none⟩ vg).heap[p4]? = some (.cells #[.int .i64 st, va, vg] 25 (0, 0)) ∧ IsM (((wr.setCell ⟨p4, 0, none⟩ (.int .i64 st)).setCell ⟨p4, 1, none⟩ va).setCell ⟨p4, 2, none⟩ vg) (.agg #[.int .i64 st, va, vg]) ⟨st, arcs, fs⟩ := by
  have hr := ret25 (x := .int .i64 st) (y := va) (z := vg) h.sq.out h.sq.below h.sq.le4
  have hk0 : Kp (fun b => b = p4) wr (wr.setCell ⟨p4, 0, none⟩ (.int .i64 st)) := (Kp.refl _ wr).setCell _ _ _ (fun _ => rfl)
  have hk1 : Kp (fun b => b = p4) wr ((wr.setCell ⟨p4, 0, none⟩ (.int .i64 st)).setCell ⟨p4, 1, none⟩ va) := hk0.setCell _ _ _ (fun _ => rfl)
  have hk : Kp (fun b => b = p4) wr (((wr.setCell ⟨p4, 0, none⟩ (.int .i64 st)).setCell ⟨p4, 1, none⟩ va).setCell ⟨p4, 2, none⟩ vg) := hk1.setCell _ _ _ (fun _ => rfl)
  refine ⟨hr.2, hr.1, va, vg, rfl, ?_, ?_⟩
  · exact own_rowN (own_kp2 h.sq.arow hk (fun b hb e => by have e2 : b = p4 := e; subst e2; obtain ⟨d, hd⟩ := own_ty h.sq.arow hb; exact ty_ne hd h.sq.out (by decide))) (by show _ ≤ _; first | exact Nat.le_trans ha (by decide) | exact Nat.le_trans hf (by decide))
  · exact own_rowN (own_kp2 h.sq.grow hk (fun b hb e => by have e2 : b = p4 := e; subst e2; obtain ⟨d, hd⟩ := own_ty h.sq.grow hb; exact ty_ne hd h.sq.out (by decide))) (by show _ ≤ _; first | exact Nat.le_trans ha (by decide) | exact Nat.le_trans hf (by decide))
end
theorem spA_up {A : List (Int × Int × Int × Int × Int)} {tt tw : Int} {k i : Nat} {a : Int × Int × Int × Int × Int} (h : A[i]? = some a) : spA A tt tw k (i + 1) = spA A tt tw k i ++ sp1 tt tw k i a := by
  show spA A tt tw k i ++ _ = _
  rw [h]
theorem spF_up {F : List (Int × Int)} {tt tw : Int} {j : Nat} {f : Int × Int} (h : F[j]? = some f) : spF F tt tw (j + 1) = spF F tt tw j ++ (if f.1 = tt then [(tw, 0)] else []) := by
  show spF F tt tw j ++ _ = _
  rw [h]
theorem spA_len (A : List (Int × Int × Int × Int × Int)) (tt tw : Int) (k : Nat) : ∀ n, (spA A tt tw k n).length ≤ 2 * n
  | 0 => Nat.le_refl _
  | n + 1 => by
    show (spA A tt tw k n ++ _).length ≤ _
    rw [List.length_append]
    have := spA_len A tt tw k n
    cases A[n]? with
    | none => simp; omega
    | some a => unfold sp1; dsimp only; split <;> simp <;> omega
theorem spF_len (F : List (Int × Int)) (tt tw : Int) : ∀ n, (spF F tt tw n).length ≤ F.length + n
  | 0 => Nat.le_refl _
  | n + 1 => by
    show (spF F tt tw n ++ _).length ≤ _
    rw [List.length_append]
    have := spF_len F tt tw n
    cases F[n]? with
    | none => simp; omega
    | some f => dsimp only; split <;> simp <;> omega
/-- what split hands back -/
def SpQ (m : M) (w : World) (e : Ending) (w' : World) : Prop :=
  ∃ (st : Int) (a1 : Option Addr) (n1 c1 : Nat) (a2 : Option Addr) (n2 c2 : Nat) (k : Nat), e = .returned (.agg #[.int .i64 st, .slice a1 n1 c1, .slice a2 n2 c2]) ∧ Below w.heap.size w w' ∧ IsM w' (.agg #[.int .i64 st, .slice a1 n1 c1, .slice a2 n2 c2]) (spl m k)
theorem own_box7 {W : World} {base p7 : Nat} {v a b c x y z : Value} {n : Nat} {xs : List Value} (h : W.ownsRow base 66 2 v n xs) (h7 : W.heap[p7]? = some (.cells #[a, b, c] 25 (0, 0))) : (((W.setCell ⟨p7, 0, none⟩ x).setCell ⟨p7, 1, none⟩ y).setCell ⟨p7, 2, none⟩ z).ownsRow base 66 2 v n xs := by
  have hk0 : Kp (fun b => b = p7) W (W.setCell ⟨p7, 0, none⟩ x) := (Kp.refl _ W).setCell _ _ _ (fun _ => rfl)
  have hk1 : Kp (fun b => b = p7) W ((W.setCell ⟨p7, 0, none⟩ x).setCell ⟨p7, 1, none⟩ y) := hk0.setCell _ _ _ (fun _ => rfl)
  have hk : Kp (fun b => b = p7) W (((W.setCell ⟨p7, 0, none⟩ x).setCell ⟨p7, 1, none⟩ y).setCell ⟨p7, 2, none⟩ z) := hk1.setCell _ _ _ (fun _ => rfl)
  exact own_kp2 h hk (fun b hb e => by have e2 : b = p7 := e; subst e2; obtain ⟨d, hd⟩ := own_ty h hb; exact ty_ne hd h7 (by decide))
/-- the boxes ahead of the making -/
def Bq (w w1 : World) (p2 p4 : Nat) (O : Array Value) : Prop := w1.heap[p4]? = some (.cells #[.int .i64 0, .slice none 0 0, .slice none 0 0] 25 (0, 0)) ∧ w1.heap[p2]? = some (.cells O 25 (0, 0)) ∧ w.heap.size ≤ p4 ∧ w.heap.size ≤ p2 ∧ Below w.heap.size w w1
theorem Bq.laid {w w1 w2 : World} {p2 p4 : Nat} {O : Array Value} (h : Bq w w1 p2 p4 O) (hb : Below w1.heap.size w1 w2) : Bq w w2 p2 p4 O :=
  ⟨(hb.block _ (lt_at h.1)).trans h.1, (hb.block _ (lt_at h.2.1)).trans h.2.1, h.2.2.1, h.2.2.2.1, h.2.2.2.2.trans (hb.mono h.2.2.2.2.size)⟩
theorem sp_start {w w1 W : World} {p2 p4 p7 : Nat} {O : Array Value} {st : Int} {vg : Value} {fs : List (Int × Int)} (h : Bq w w1 p2 p4 O) (hb : Below w1.heap.size w1 W) (h7 : W.heap[p7]? = some (.cells #[.int .i64 st, .slice none 0 0, vg] 25 (0, 0))) (hv : W.ownsRow w1.heap.size 66 2 vg fs.length (fcs fs)) (hp : w1.heap.size ≤ p7) : Sp w W p2 p4 p7 O st (.slice none 0 0) vg [] fs := by
  have h2 := h.laid hb
  have l4 := lt_at h.1
  have l2 := lt_at h.2.1
  exact ⟨⟨h2.1, h7, by omega, h.2.2.1, Nat.le_trans h.2.2.2.2.size hp, World.ownsRow_nil _ _ _ _, own_le hv h.2.2.2.2.size, h2.2.2.2.2⟩, h2.2.1, by omega, h.2.2.2.1⟩
set_option maxHeartbeats 8000000 in
set_option maxRecDepth 100000 in
theorem split_any (S : Nat) (A : List (Int × Int × Int × Int × Int)) (F : List (Int × Int)) (aa af : Option Addr) (ca cf : Nat) (z : Int) (w : World) (hA : Mv.Row w (.slice aa A.length ca) 5 A.length (acs A)) (hF : Mv.Row w (.slice af F.length cf) 2 F.length (fcs F)) (hAl : A.length ≤ 20000) (hFl : F.length ≤ 3000) (hS : S ≤ 3000) (h1 : -9223372036854775808 ≤ z) (h2 : z ≤ 9223372036854775807) :
    Calls Tryd.prog 28 #[.agg #[.int .i64 (S : Int), .slice aa A.length ca, .slice af F.length cf], .int .i64 z] w (SpQ ⟨(S : Int), A, F⟩ w) := by
  obtain ⟨i64, hi64, hy0, hy1, hy2⟩ := info_parts inf64
  obtain ⟨i66, hi66, hz0, hz1, hz2⟩ := info_parts inf66
  obtain ⟨W0, hW0, B0, x1, x2⟩ := two25 w #[.int .i64 (S : Int), .slice aa A.length ca, .slice af F.length cf]
  have HQ : Hid (Bq w W0 w.heap.size (w.heap.size + 1) #[.int .i64 (S : Int), .slice aa A.length ca, .slice af F.length cf]) := ⟨x2, x1, by omega, Nat.le_refl _, B0⟩
  have HR : Hid (Mv.Row w (.slice aa A.length ca) 5 A.length (acs A) ∧ Mv.Row w (.slice af F.length cf) 2 F.length (fcs F)) := ⟨hA, hF⟩
  have HFL : Hid (F.length ≤ 3000 ∧ A.length ≤ 20000 ∧ S ≤ 3000) := ⟨hFl, hAl, hS⟩
  have HAT : Hid (-9223372036854775808 ≤ z ∧ z ≤ 9223372036854775807) := ⟨h1, h2⟩
  have b1 := cell_of_row _ _ 1 _ _ _ x1
  have b0 := cell_of_row _ _ 0 _ _ _ x1
  have b2 := cell_of_row _ _ 2 _ _ _ x1
  have hS1 : wrap64 ((S : Int) + 1) = (S : Int) + 1 := by unfold wrap64; omega
  have hS2 : IntKind.i64.wrap ((S : Int) + 1) = (S : Int) + 1 := by rw [IntKind.wrap_i64]; omega
  by_cases h0 : A.length = 0
  · have z0 := cell_of_row _ _ 0 _ _ _ x2
    have z1 := cell_of_row _ _ 1 _ _ _ x2
    have z2 := cell_of_row _ _ 2 _ _ _ x2
    have f0 := frozen_of_row _ _ 0 _ _ x2
    have f1 := frozen_of_row _ _ 1 _ _ x2
    have f2 := frozen_of_row _ _ 2 _ _ x2
    have hA0 : A = [] := List.eq_nil_of_length_eq_zero h0
    subst hA0
    simp only [List.length_nil] at hW0 b0 b1 b2
    clear hA hF hAl hFl hS h1 h2 x1 x2 B0 h0 HAT
    go_enter Tryd.func28, Tryd.ntmps28
    go_upto_region 1 with fail
    try rw [hW0]
    clear hW0
    go_wp2
    have hr := ret25 (x := .int .i64 (S : Int)) (y := .slice aa 0 ca) (z := .slice af F.length cf) HQ.out.1 HQ.out.2.2.2.2 HQ.out.2.2.1
    refine bodyPost_ret (results_cell_row rfl _ _ (w.heap.size + 1) 25 _ (0, 0) _ rfl hr.1 Tryd.underlying25 rfl row25) rfl ⟨_, _, _, _, _, _, _, 0, rfl, hr.2, ?_⟩
    exact ⟨_, _, rfl, HR.out.1.below hr.2, HR.out.2.below hr.2⟩
  · obtain ⟨ba, oa, rfl, hba, hca⟩ : ∃ b off, aa = some ⟨b, off, none⟩ ∧ b < w.heap.size ∧ ∀ j u, (acs A)[j]? = some u → w.cell? ⟨b, off + j, none⟩ = some u := by
      obtain ⟨_, a', c', e1, _, h⟩ := HR.out.1
      injection e1 with e2 e3 e4
      subst e2
      exact h.resolve_left h0
    have hpos : 0 < A.length := by omega
    have K57 : Hid (∀ W : World, Calls Tryd.prog 57 #[.int .i64 z, .int .i64 (A.length : Int)] W fun e w' => ∃ k : Nat, k < A.length ∧ e = .returned (.int .i64 k) ∧ Below W.heap.size W w') := fun W => choose_any z A.length W hpos (by omega) h1 h2
    have q0 : ¬ (A.length : Int) = 0 := by omega
    have q0' : ((A.length : Int) == 0) = false := beq_eq_false_iff_ne.2 q0
    clear hA hF hAl hFl hS h1 h2 x1 x2 B0 hpos
    go_enter Tryd.func28, Tryd.ntmps28
    go_upto_region 3 with fail
    try rw [hW0]
    clear hW0
    obtain ⟨p4, hp4⟩ : ∃ p, w.heap.size + 1 = p := ⟨_, rfl⟩
    obtain ⟨p2, hp2⟩ : ∃ p, w.heap.size = p := ⟨_, rfl⟩
    have HQ1 : Hid (Bq w W0 p2 p4 #[.int .i64 (S : Int), .slice (some ⟨ba, oa, none⟩) A.length ca, .slice af F.length cf]) := by rw [← hp4, ← hp2]; exact HQ.out
    rw [hp4, hp2]
    rw [hp2] at b0 b1 b2
    clear hp4 hp2 HQ
    have KK := K57.out W0
    go_upto_region 4 with (go_at_call 57; (with_reducible refine KK.mono ?_); clear KK; rintro e w1 ⟨k, hk, rfl, hb57⟩; dsimp only; have HQ0 : Hid (Bq w w1 p2 p4 #[.int .i64 (S : Int), .slice (some ⟨ba, oa, none⟩) A.length ca, .slice af F.length cf]) := HQ1.out.laid hb57; have HK : Hid (k < A.length) := hk; clear hk hb57)
    clear b0 b1 b2 HQ1 K57
    have b0 := cell_of_row _ _ 0 _ _ _ HQ0.out.2.1
    go_upto_region 5 with fail
    clear b0
    have HBX : Hid (∀ W, Below w1.heap.size w1 W → W.cell? ⟨p2, 0, none⟩ = some (.int .i64 (S : Int)) ∧ W.cell? ⟨p2, 2, none⟩ = some (.slice af F.length cf)) := fun W hW => ⟨cell_of_row _ _ 0 _ _ _ (HQ0.out.laid hW).2.1, cell_of_row _ _ 2 _ _ _ (HQ0.out.laid hW).2.1⟩
    have HFR : Hid (∀ W, Below w1.heap.size w1 W → Mv.Row W (.slice af F.length cf) 2 F.length (fcs F)) := fun W hW => HR.out.2.below (HQ0.out.laid hW).2.2.2.2
    go_cut [7] from 23 to 32 (fun s wx => ∃ p7 a6 c6, s = .pointer (some ⟨p7, 0, none⟩) ∧ Sp w wx p2 p4 p7 #[.int .i64 (S : Int), .slice (some ⟨ba, oa, none⟩) A.length ca, .slice af F.length cf] ((S : Int) + 1) (.slice none 0 0) (.slice a6 F.length c6) [] F)
    case first =>
      have HCE : Hid _ := fun (W : World) (hSw : Below w1.heap.size w1 W) => (And.intro ((HBX.out W hSw).1) ((HBX.out W hSw).2))
      refine wp_region_held_drew (S := fun W => Below w1.heap.size w1 W) (by kernel_rfl) (by exact below_drewN (Below.refl _ _) 1) (fun hHeld => ?_)
      have hS0 := hHeld
      generalize hV0 : w1.drew = V0 at *
      clear hV0
      refine wpAnyH_take (i := 0) (oi := { dst := some 25, op := Op.fieldAddr 25 (Operand.tmp 2) 0, type := 0, pos := "machine.go:320", after := #[], guard := none }) (v := ?_) rfl (by kernel_rfl) (by kernel_rfl) (by kernel_rfl) (fun _ _ _ h => h) (Or.inl ⟨by rfl, ?_⟩) (by assumption) ?_
      case refine_2 => intro w hSw; (try dsimp only at hSw); obtain ⟨z0, z1⟩ := HCE.out _ hSw; go_simp; (try with_reducible rfl)
      simp only [Act.put, List.setIfInBounds_toArray, List.set_cons_zero, List.set_cons_succ]
      refine wpAnyH_take (i := 1) (oi := { dst := some 26, op := Op.load 3 (Operand.tmp 25), type := 3, pos := "machine.go:320", after := #[{ on := 0, ground := Ground.data }], guard := none }) (v := ?_) rfl (by kernel_rfl) (by kernel_rfl) (by kernel_rfl) (fun _ _ _ h => h) (Or.inl ⟨by rfl, ?_⟩) (by assumption) ?_
      case refine_2 => intro w hSw; (try dsimp only at hSw); obtain ⟨z0, z1⟩ := HCE.out _ hSw; go_simp; (try with_reducible rfl)
      simp only [Act.put, List.setIfInBounds_toArray, List.set_cons_zero, List.set_cons_succ]
      refine wpAnyH_take (i := 2) (oi := { dst := some 27, op := Op.binOp BinOp.add 3 (Operand.tmp 26) (Operand.const (Value.int IntKind.i64 1)) 3, type := 3, pos := "machine.go:320", after := #[{ on := 1, ground := Ground.data }], guard := none }) (v := ?_) rfl (by kernel_rfl) (by kernel_rfl) (by kernel_rfl) (fun _ _ _ h => h) (Or.inl ⟨by rfl, ?_⟩) (by assumption) ?_
      case refine_2 => intro w hSw; (try dsimp only at hSw); obtain ⟨z0, z1⟩ := HCE.out _ hSw; go_simp; (try with_reducible rfl)
      simp only [Act.put, List.setIfInBounds_toArray, List.set_cons_zero, List.set_cons_succ]
      refine wpAnyH_take (i := 4) (oi := { dst := some 29, op := Op.fieldAddr 25 (Operand.tmp 2) 2, type := 0, pos := "machine.go:320", after := #[], guard := none }) (v := ?_) rfl (by kernel_rfl) (by kernel_rfl) (by kernel_rfl) (fun _ _ _ h => h) (Or.inl ⟨by rfl, ?_⟩) (by assumption) ?_
      case refine_2 => intro w hSw; (try dsimp only at hSw); obtain ⟨z0, z1⟩ := HCE.out _ hSw; go_simp; (try with_reducible rfl)
      simp only [Act.put, List.setIfInBounds_toArray, List.set_cons_zero, List.set_cons_succ]
      refine wpAnyH_take (i := 5) (oi := { dst := some 30, op := Op.load 23 (Operand.tmp 29), type := 23, pos := "machine.go:320", after := #[{ on := 4, ground := Ground.data }], guard := none }) (v := ?_) rfl (by kernel_rfl) (by kernel_rfl) (by kernel_rfl) (fun _ _ _ h => h) (Or.inl ⟨by rfl, ?_⟩) (by assumption) ?_
      case refine_2 => intro w hSw; (try dsimp only at hSw); obtain ⟨z0, z1⟩ := HCE.out _ hSw; go_simp; (try with_reducible rfl)
      simp only [Act.put, List.setIfInBounds_toArray, List.set_cons_zero, List.set_cons_succ]
      refine wpAnyH_ready (rs := [3, 8]) (by kernel_rfl) (by simp) ?_
      refine (AllReadyH.cons (o := { dst := some 28, op := Op.buildSlice 23 0 #[], type := 23, pos := "machine.go:320", after := #[], guard := none }) rfl (fun K hK => ?_) (AllReadyH.cons (o := { dst := some 7, op := Op.alloc 25, type := 0, pos := "machine.go:320", after := #[], guard := none }) rfl (fun K hK => ?_) AllReadyH.nil))
      · skip
        have hs15 : Sem.run Tryd.prog (storeCells { block := V0.heap.size, off := 0 } ([] : List Value)) (V0.alloc (.cells #[] 66)) = .ok () (V0.alloc (.cells #[] 66)) := rfl
        go_simp
        clear hs15
        have HE1 : Hid ((V0.alloc (.cells #[] 66)).ownsRow w1.heap.size 66 2 (.slice (some ⟨V0.heap.size, 0, none⟩) 0 0) 0 []) := own_le (own_empty66 V0) hS0.size
        have hS1 : Below w1.heap.size w1 (V0.alloc (.cells #[] 66)) := hS0.alloc hS0.size _
        refine hK.out _ _ ?_ (fun hHeld => ?_)
        · first | exact hS4 | exact hS3 | exact hS2 | exact hS1
        clear hK K
        try simp only [Act.put, List.setIfInBounds_toArray, List.set_cons_zero, List.set_cons_succ]
        generalize hV : V0.alloc (.cells #[] 66) = V1 at *
        clear hV
        generalize V0.heap.size = be at *
        refine wpAnyH_ready (rs := [6, 8]) (by kernel_rfl) (by simp) ?_
        refine (AllReadyH.cons (o := { dst := some 31, op := Op.call { callee := Callee.builtin Builtin.append, args := #[Operand.tmp 28, Operand.tmp 30], argTypes := #[23, 23] }, type := 23, pos := "machine.go:320", after := #[{ on := 3, ground := Ground.data }, { on := 5, ground := Ground.data }], guard := none }) rfl (fun K hK => ?_) (AllReadyH.cons (o := { dst := some 7, op := Op.alloc 25, type := 0, pos := "machine.go:320", after := #[], guard := none }) rfl (fun K hK => ?_) AllReadyH.nil))
        · skip
          refine step_fin rfl (.tmp 28) (.tmp 30) rfl rfl w1.heap.size (.slice (some ⟨be, 0, none⟩) 0 0) 0 [] rfl HE1.out (.slice af F.length cf) F rfl (HFR.out _ hS1) (by have := HFL.out; omega) hS1.size ?_
          intro v6 V2 ho6 hg6 hl6
          rw [List.nil_append, Nat.zero_add] at ho6
          obtain ⟨a6, c6, rfl⟩ := oslice ho6
          have HV2 : Hid (V2.ownsRow w1.heap.size 66 2 (.slice a6 F.length c6) F.length (fcs F)) := ho6
          have hS2 : Below w1.heap.size w1 V2 := hS1.grown hg6 hS1.size (fun b hb => (HE1.out.lt b hb).1)
          clear ho6 hg6 hl6
          refine hK.out _ _ ?_ (fun hHeld => ?_)
          · first | exact hS4 | exact hS3 | exact hS2 | exact hS1
          clear hK K
          try simp only [Act.put, List.setIfInBounds_toArray, List.set_cons_zero, List.set_cons_succ]
          refine wpAnyH_take (i := 7) (oi := { dst := some 32, op := Op.build 25 #[(0, Operand.tmp 27), (2, Operand.tmp 31)], type := 25, pos := "machine.go:320", after := #[{ on := 2, ground := Ground.data }, { on := 6, ground := Ground.data }], guard := none }) (v := ?_) rfl (by kernel_rfl) (by kernel_rfl) (by kernel_rfl) (fun _ _ _ h => h) (Or.inl ⟨by rfl, ?_⟩) (by assumption) ?_
          case refine_2 => intro w hSw; (try dsimp only at hSw); obtain ⟨z0, z1⟩ := HCE.out _ hSw; go_simp; (try with_reducible rfl)
          simp only [Act.put, List.setIfInBounds_toArray, List.set_cons_zero, List.set_cons_succ]
          refine wpAnyH_ready (rs := [8]) (by kernel_rfl) (by simp) ?_
          refine (AllReadyH.cons (o := { dst := some 7, op := Op.alloc 25, type := 0, pos := "machine.go:320", after := #[], guard := none }) rfl (fun K hK => ?_) AllReadyH.nil)
          go_simp
          have H73 : Hid ((V2.alloc (.cells #[.int .i64 0, .slice none 0 0, .slice none 0 0] 25)).heap[V2.heap.size]? = some (.cells #[.int .i64 0, .slice none 0 0, .slice none 0 0] 25 (0, 0)) ∧ w1.heap.size ≤ V2.heap.size) := ⟨heap_alloc_new _ _, hS2.size⟩
          have hS3 : Below w1.heap.size w1 (V2.alloc (.cells #[.int .i64 0, .slice none 0 0, .slice none 0 0] 25)) := hS2.alloc hS2.size _
          have HV3 : Hid ((V2.alloc (.cells #[.int .i64 0, .slice none 0 0, .slice none 0 0] 25)).ownsRow w1.heap.size 66 2 (.slice a6 F.length c6) F.length (fcs F)) := HV2.out.alloc _
          refine hK.out _ _ ?_ (fun hHeld => ?_)
          · first | exact hS4 | exact hS3 | exact hS2 | exact hS1
          clear hK K
          try simp only [Act.put, List.setIfInBounds_toArray, List.set_cons_zero, List.set_cons_succ]
          generalize hV : V2.alloc (.cells #[.int .i64 0, .slice none 0 0, .slice none 0 0] 25) = V3 at *
          clear hV
          generalize V2.heap.size = p7 at *
          refine wpAnyH_ready (rs := [9]) (by kernel_rfl) (by simp) ?_
          refine (AllReadyH.cons (o := { dst := none, op := Op.store 25 (Operand.tmp 7) (Operand.tmp 32), type := 0, pos := "machine.go:320", after := #[{ on := 8, ground := Ground.data }, { on := 7, ground := Ground.data }, { on := 6, ground := Ground.chain }, { on := 0, ground := Ground.phase }, { on := 1, ground := Ground.phase }, { on := 2, ground := Ground.phase }, { on := 3, ground := Ground.phase }, { on := 4, ground := Ground.phase }, { on := 5, ground := Ground.phase }, { on := 6, ground := Ground.phase }, { on := 7, ground := Ground.phase }, { on := 8, ground := Ground.phase }], guard := none }) rfl (fun K hK => ?_) AllReadyH.nil)
          have y0 := cell_of_row _ _ 0 _ _ _ H73.out.1
          have y1 := cell_of_row _ _ 1 _ _ _ H73.out.1
          have y2 := cell_of_row _ _ 2 _ _ _ H73.out.1
          have f0 := frozen_of_row _ _ 0 _ _ H73.out.1
          have f1 := frozen_of_row _ _ 1 _ _ H73.out.1
          have f2 := frozen_of_row _ _ 2 _ _ H73.out.1
          go_simp
          clear y0 y1 y2 f0 f1 f2
          have hR5 := ret25 (x := .int .i64 ((S : Int) + 1)) (y := .slice none 0 0) (z := .slice a6 F.length c6) H73.out.1 hS3 H73.out.2
          have hS4 := hR5.2
          have HV4 : Hid ((((V3.setCell ⟨p7, 0, none⟩ (.int .i64 ((S : Int) + 1))).setCell ⟨p7, 1, none⟩ (.slice none 0 0)).setCell ⟨p7, 2, none⟩ (.slice a6 F.length c6)).ownsRow w1.heap.size 66 2 (.slice a6 F.length c6) F.length (fcs F)) := own_box7 HV3.out H73.out.1
          refine hK.out _ _ ?_ (fun hHeld => ?_)
          · first | exact hS4 | exact hS3 | exact hS2 | exact hS1
          clear hK K
          try simp only [Act.put, List.setIfInBounds_toArray, List.set_cons_zero, List.set_cons_succ]
          refine wpAnyH_done (by kernel_rfl) ?_ _
          refine Met.intro ?_
          go_step
          go_meet
          case rel => exact ⟨_, _, _, rfl, sp_start HQ0.out hS4 hR5.1 HV4.out (by first | exact H73.out.2 | exact H72.out.2 | exact H71.out.2)⟩
        · skip
          go_simp
          have H72 : Hid ((V1.alloc (.cells #[.int .i64 0, .slice none 0 0, .slice none 0 0] 25)).heap[V1.heap.size]? = some (.cells #[.int .i64 0, .slice none 0 0, .slice none 0 0] 25 (0, 0)) ∧ w1.heap.size ≤ V1.heap.size) := ⟨heap_alloc_new _ _, hS1.size⟩
          have hS2 : Below w1.heap.size w1 (V1.alloc (.cells #[.int .i64 0, .slice none 0 0, .slice none 0 0] 25)) := hS1.alloc hS1.size _
          have HE2 : Hid ((V1.alloc (.cells #[.int .i64 0, .slice none 0 0, .slice none 0 0] 25)).ownsRow w1.heap.size 66 2 (.slice (some ⟨be, 0, none⟩) 0 0) 0 []) := HE1.out.alloc _
          refine hK.out _ _ ?_ (fun hHeld => ?_)
          · first | exact hS4 | exact hS3 | exact hS2 | exact hS1
          clear hK K
          try simp only [Act.put, List.setIfInBounds_toArray, List.set_cons_zero, List.set_cons_succ]
          generalize hV : V1.alloc (.cells #[.int .i64 0, .slice none 0 0, .slice none 0 0] 25) = V2 at *
          clear hV
          generalize V1.heap.size = p7 at *
          refine wpAnyH_ready (rs := [6]) (by kernel_rfl) (by simp) ?_
          refine (AllReadyH.cons (o := { dst := some 31, op := Op.call { callee := Callee.builtin Builtin.append, args := #[Operand.tmp 28, Operand.tmp 30], argTypes := #[23, 23] }, type := 23, pos := "machine.go:320", after := #[{ on := 3, ground := Ground.data }, { on := 5, ground := Ground.data }], guard := none }) rfl (fun K hK => ?_) AllReadyH.nil)
          refine step_fin rfl (.tmp 28) (.tmp 30) rfl rfl w1.heap.size (.slice (some ⟨be, 0, none⟩) 0 0) 0 [] rfl HE2.out (.slice af F.length cf) F rfl (HFR.out _ hS2) (by have := HFL.out; omega) hS2.size ?_
          intro v6 V3 ho6 hg6 hl6
          rw [List.nil_append, Nat.zero_add] at ho6
          obtain ⟨a6, c6, rfl⟩ := oslice ho6
          have HV3 : Hid (V3.ownsRow w1.heap.size 66 2 (.slice a6 F.length c6) F.length (fcs F)) := ho6
          have hS3 : Below w1.heap.size w1 V3 := hS2.grown hg6 hS2.size (fun b hb => (HE2.out.lt b hb).1)
          have H73 : Hid (V3.heap[p7]? = some (.cells #[.int .i64 0, .slice none 0 0, .slice none 0 0] 25 (0, 0)) ∧ w1.heap.size ≤ p7) := ⟨(hg6.block _ (lt_at H72.out.1) (fun e => by obtain ⟨d, hd⟩ := own_ty HE2.out e.symm; exact ty_ne H72.out.1 hd (by decide))).trans H72.out.1, H72.out.2⟩
          clear ho6 hg6 hl6
          refine hK.out _ _ ?_ (fun hHeld => ?_)
          · first | exact hS4 | exact hS3 | exact hS2 | exact hS1
          clear hK K
          try simp only [Act.put, List.setIfInBounds_toArray, List.set_cons_zero, List.set_cons_succ]
          refine wpAnyH_take (i := 7) (oi := { dst := some 32, op := Op.build 25 #[(0, Operand.tmp 27), (2, Operand.tmp 31)], type := 25, pos := "machine.go:320", after := #[{ on := 2, ground := Ground.data }, { on := 6, ground := Ground.data }], guard := none }) (v := ?_) rfl (by kernel_rfl) (by kernel_rfl) (by kernel_rfl) (fun _ _ _ h => h) (Or.inl ⟨by rfl, ?_⟩) (by assumption) ?_
          case refine_2 => intro w hSw; (try dsimp only at hSw); obtain ⟨z0, z1⟩ := HCE.out _ hSw; go_simp; (try with_reducible rfl)
          simp only [Act.put, List.setIfInBounds_toArray, List.set_cons_zero, List.set_cons_succ]
          refine wpAnyH_ready (rs := [9]) (by kernel_rfl) (by simp) ?_
          refine (AllReadyH.cons (o := { dst := none, op := Op.store 25 (Operand.tmp 7) (Operand.tmp 32), type := 0, pos := "machine.go:320", after := #[{ on := 8, ground := Ground.data }, { on := 7, ground := Ground.data }, { on := 6, ground := Ground.chain }, { on := 0, ground := Ground.phase }, { on := 1, ground := Ground.phase }, { on := 2, ground := Ground.phase }, { on := 3, ground := Ground.phase }, { on := 4, ground := Ground.phase }, { on := 5, ground := Ground.phase }, { on := 6, ground := Ground.phase }, { on := 7, ground := Ground.phase }, { on := 8, ground := Ground.phase }], guard := none }) rfl (fun K hK => ?_) AllReadyH.nil)
          have y0 := cell_of_row _ _ 0 _ _ _ H73.out.1
          have y1 := cell_of_row _ _ 1 _ _ _ H73.out.1
          have y2 := cell_of_row _ _ 2 _ _ _ H73.out.1
          have f0 := frozen_of_row _ _ 0 _ _ H73.out.1
          have f1 := frozen_of_row _ _ 1 _ _ H73.out.1
          have f2 := frozen_of_row _ _ 2 _ _ H73.out.1
          go_simp
          clear y0 y1 y2 f0 f1 f2
          have hR5 := ret25 (x := .int .i64 ((S : Int) + 1)) (y := .slice none 0 0) (z := .slice a6 F.length c6) H73.out.1 hS3 H73.out.2
          have hS4 := hR5.2
          have HV4 : Hid ((((V3.setCell ⟨p7, 0, none⟩ (.int .i64 ((S : Int) + 1))).setCell ⟨p7, 1, none⟩ (.slice none 0 0)).setCell ⟨p7, 2, none⟩ (.slice a6 F.length c6)).ownsRow w1.heap.size 66 2 (.slice a6 F.length c6) F.length (fcs F)) := own_box7 HV3.out H73.out.1
          refine hK.out _ _ ?_ (fun hHeld => ?_)
          · first | exact hS4 | exact hS3 | exact hS2 | exact hS1
          clear hK K
          try simp only [Act.put, List.setIfInBounds_toArray, List.set_cons_zero, List.set_cons_succ]
          refine wpAnyH_done (by kernel_rfl) ?_ _
          refine Met.intro ?_
          go_step
          go_meet
          case rel => exact ⟨_, _, _, rfl, sp_start HQ0.out hS4 hR5.1 HV4.out (by first | exact H73.out.2 | exact H72.out.2 | exact H71.out.2)⟩
      · skip
        go_simp
        have H71 : Hid ((V0.alloc (.cells #[.int .i64 0, .slice none 0 0, .slice none 0 0] 25)).heap[V0.heap.size]? = some (.cells #[.int .i64 0, .slice none 0 0, .slice none 0 0] 25 (0, 0)) ∧ w1.heap.size ≤ V0.heap.size) := ⟨heap_alloc_new _ _, hS0.size⟩
        have hS1 : Below w1.heap.size w1 (V0.alloc (.cells #[.int .i64 0, .slice none 0 0, .slice none 0 0] 25)) := hS0.alloc hS0.size _
        refine hK.out _ _ ?_ (fun hHeld => ?_)
        · first | exact hS4 | exact hS3 | exact hS2 | exact hS1
        clear hK K
        try simp only [Act.put, List.setIfInBounds_toArray, List.set_cons_zero, List.set_cons_succ]
        generalize hV : V0.alloc (.cells #[.int .i64 0, .slice none 0 0, .slice none 0 0] 25) = V1 at *
        clear hV
        generalize V0.heap.size = p7 at *
        refine wpAnyH_ready (rs := [3]) (by kernel_rfl) (by simp) ?_
        refine (AllReadyH.cons (o := { dst := some 28, op := Op.buildSlice 23 0 #[], type := 23, pos := "machine.go:320", after := #[], guard := none }) rfl (fun K hK => ?_) AllReadyH.nil)
        have hs15 : Sem.run Tryd.prog (storeCells { block := V1.heap.size, off := 0 } ([] : List Value)) (V1.alloc (.cells #[] 66)) = .ok () (V1.alloc (.cells #[] 66)) := rfl
        go_simp
        clear hs15
        have HE2 : Hid ((V1.alloc (.cells #[] 66)).ownsRow w1.heap.size 66 2 (.slice (some ⟨V1.heap.size, 0, none⟩) 0 0) 0 []) := own_le (own_empty66 V1) hS1.size
        have hS2 : Below w1.heap.size w1 (V1.alloc (.cells #[] 66)) := hS1.alloc hS1.size _
        have H72 : Hid ((V1.alloc (.cells #[] 66)).heap[p7]? = some (.cells #[.int .i64 0, .slice none 0 0, .slice none 0 0] 25 (0, 0)) ∧ w1.heap.size ≤ p7) := ⟨((below_al V1 (.cells #[] 66)).block _ (lt_at H71.out.1)).trans H71.out.1, H71.out.2⟩
        refine hK.out _ _ ?_ (fun hHeld => ?_)
        · first | exact hS4 | exact hS3 | exact hS2 | exact hS1
        clear hK K
        try simp only [Act.put, List.setIfInBounds_toArray, List.set_cons_zero, List.set_cons_succ]
        generalize hV : V1.alloc (.cells #[] 66) = V2 at *
        clear hV
        generalize V1.heap.size = be at *
        refine wpAnyH_ready (rs := [6]) (by kernel_rfl) (by simp) ?_
        refine (AllReadyH.cons (o := { dst := some 31, op := Op.call { callee := Callee.builtin Builtin.append, args := #[Operand.tmp 28, Operand.tmp 30], argTypes := #[23, 23] }, type := 23, pos := "machine.go:320", after := #[{ on := 3, ground := Ground.data }, { on := 5, ground := Ground.data }], guard := none }) rfl (fun K hK => ?_) AllReadyH.nil)
        refine step_fin rfl (.tmp 28) (.tmp 30) rfl rfl w1.heap.size (.slice (some ⟨be, 0, none⟩) 0 0) 0 [] rfl HE2.out (.slice af F.length cf) F rfl (HFR.out _ hS2) (by have := HFL.out; omega) hS2.size ?_
        intro v6 V3 ho6 hg6 hl6
        rw [List.nil_append, Nat.zero_add] at ho6
        obtain ⟨a6, c6, rfl⟩ := oslice ho6
        have HV3 : Hid (V3.ownsRow w1.heap.size 66 2 (.slice a6 F.length c6) F.length (fcs F)) := ho6
        have hS3 : Below w1.heap.size w1 V3 := hS2.grown hg6 hS2.size (fun b hb => (HE2.out.lt b hb).1)
        have H73 : Hid (V3.heap[p7]? = some (.cells #[.int .i64 0, .slice none 0 0, .slice none 0 0] 25 (0, 0)) ∧ w1.heap.size ≤ p7) := ⟨(hg6.block _ (lt_at H72.out.1) (fun e => by obtain ⟨d, hd⟩ := own_ty HE2.out e.symm; exact ty_ne H72.out.1 hd (by decide))).trans H72.out.1, H72.out.2⟩
        clear ho6 hg6 hl6
        refine hK.out _ _ ?_ (fun hHeld => ?_)
        · first | exact hS4 | exact hS3 | exact hS2 | exact hS1
        clear hK K
        try simp only [Act.put, List.setIfInBounds_toArray, List.set_cons_zero, List.set_cons_succ]
        refine wpAnyH_take (i := 7) (oi := { dst := some 32, op := Op.build 25 #[(0, Operand.tmp 27), (2, Operand.tmp 31)], type := 25, pos := "machine.go:320", after := #[{ on := 2, ground := Ground.data }, { on := 6, ground := Ground.data }], guard := none }) (v := ?_) rfl (by kernel_rfl) (by kernel_rfl) (by kernel_rfl) (fun _ _ _ h => h) (Or.inl ⟨by rfl, ?_⟩) (by assumption) ?_
        case refine_2 => intro w hSw; (try dsimp only at hSw); obtain ⟨z0, z1⟩ := HCE.out _ hSw; go_simp; (try with_reducible rfl)
        simp only [Act.put, List.setIfInBounds_toArray, List.set_cons_zero, List.set_cons_succ]
        refine wpAnyH_ready (rs := [9]) (by kernel_rfl) (by simp) ?_
        refine (AllReadyH.cons (o := { dst := none, op := Op.store 25 (Operand.tmp 7) (Operand.tmp 32), type := 0, pos := "machine.go:320", after := #[{ on := 8, ground := Ground.data }, { on := 7, ground := Ground.data }, { on := 6, ground := Ground.chain }, { on := 0, ground := Ground.phase }, { on := 1, ground := Ground.phase }, { on := 2, ground := Ground.phase }, { on := 3, ground := Ground.phase }, { on := 4, ground := Ground.phase }, { on := 5, ground := Ground.phase }, { on := 6, ground := Ground.phase }, { on := 7, ground := Ground.phase }, { on := 8, ground := Ground.phase }], guard := none }) rfl (fun K hK => ?_) AllReadyH.nil)
        have y0 := cell_of_row _ _ 0 _ _ _ H73.out.1
        have y1 := cell_of_row _ _ 1 _ _ _ H73.out.1
        have y2 := cell_of_row _ _ 2 _ _ _ H73.out.1
        have f0 := frozen_of_row _ _ 0 _ _ H73.out.1
        have f1 := frozen_of_row _ _ 1 _ _ H73.out.1
        have f2 := frozen_of_row _ _ 2 _ _ H73.out.1
        go_simp
        clear y0 y1 y2 f0 f1 f2
        have hR5 := ret25 (x := .int .i64 ((S : Int) + 1)) (y := .slice none 0 0) (z := .slice a6 F.length c6) H73.out.1 hS3 H73.out.2
        have hS4 := hR5.2
        have HV4 : Hid ((((V3.setCell ⟨p7, 0, none⟩ (.int .i64 ((S : Int) + 1))).setCell ⟨p7, 1, none⟩ (.slice none 0 0)).setCell ⟨p7, 2, none⟩ (.slice a6 F.length c6)).ownsRow w1.heap.size 66 2 (.slice a6 F.length c6) F.length (fcs F)) := own_box7 HV3.out H73.out.1
        refine hK.out _ _ ?_ (fun hHeld => ?_)
        · first | exact hS4 | exact hS3 | exact hS2 | exact hS1
        clear hK K
        try simp only [Act.put, List.setIfInBounds_toArray, List.set_cons_zero, List.set_cons_succ]
        refine wpAnyH_done (by kernel_rfl) ?_ _
        refine Met.intro ?_
        go_step
        go_meet
        case rel => exact ⟨_, _, _, rfl, sp_start HQ0.out hS4 hR5.1 HV4.out (by first | exact H73.out.2 | exact H72.out.2 | exact H71.out.2)⟩
    case rest =>
      obtain ⟨p7, a6, c6, rfl, hsp⟩ := hcut
      have HS : Hid (Sp w wc p2 p4 p7 #[.int .i64 (S : Int), .slice (some ⟨ba, oa, none⟩) A.length ca, .slice af F.length cf] ((S : Int) + 1) (.slice none 0 0) (.slice a6 F.length c6) [] F) := hsp
      clear hsp HQ0 HBX HFR
      have HCA : Hid (∀ W, Below w.heap.size w W → ∀ j u, (acs A)[j]? = some u → W.cell? ⟨ba, oa + j, none⟩ = some u) := fun W hW j u hu => (hW.cell (p := ⟨ba, oa + j, none⟩) hba).trans (hca j u hu)
      clear hca hba
      obtain ⟨ak, hak⟩ : ∃ a, A[k]? = some a := ⟨_, List.getElem?_eq_getElem HK.out⟩
      obtain ⟨f0, tt, i0, o0, x0⟩ := ak
      have b1 := cell_of_row _ _ 1 _ _ _ HS.out.box
      have p1 : wc.cell? ⟨ba, oa + k * 5 + 1, none⟩ = some (.int .i64 tt) := by
        have u := (acs_at A k HK.out).2.1
        rw [show A[k]'HK.out = (f0, tt, i0, o0, x0) from (List.getElem?_eq_some_iff.1 hak).2] at u
        have := HCA.out _ HS.out.sq.below _ _ u
        rw [← Nat.add_assoc] at this
        exact this
      have HAK : Hid (A[k]? = some (f0, tt, i0, o0, x0)) := hak
      have hkA : k < A.length := HK.out
      have hki : (k : Int) < (A.length : Int) := by omega
      clear hak
      go_upto_region 7 with fail
      clear b1 p1
      have HS0 : Hid (Sp w wc p2 p4 p7 #[.int .i64 (S : Int), .slice (some ⟨ba, oa, none⟩) A.length ca, .slice af F.length cf] ((S : Int) + 1) (.slice none 0 0) (.slice a6 F.length c6) (spA A tt (S : Int) k 0) F) := HS.out
      clear HS
      go_upto_region 8 with fail
      go_loopw [9] (fun a wr => ∃ (i : Nat) (va : Value), a = .int .i64 (i : Int) ∧ i ≤ A.length ∧ Sp w wr p2 p4 p7 #[.int .i64 (S : Int), .slice (some ⟨ba, oa, none⟩) A.length ca, .slice af F.length cf] ((S : Int) + 1) va (.slice a6 F.length c6) (spA A tt (S : Int) k i) F) (fun a _ => A.length - (intOf a).toNat)
      case atStart => exact ⟨0, _, rfl, Nat.zero_le _, HS0.out⟩
      case round =>
        clear HS0
        obtain ⟨i, va, rfl, hi, hsp⟩ := hrel
        obtain ⟨L, hL⟩ : ∃ L, spA A tt (S : Int) k i = L := ⟨_, rfl⟩
        obtain ⟨ln, hln⟩ : ∃ n, L.length = n := ⟨_, rfl⟩
        have HL : Hid (spA A tt (S : Int) k i = L ∧ L.length = ln) := ⟨hL, hln⟩
        have HLN : Hid (ln ≤ 40000 + 2) := by have h := spA_len A tt (S : Int) k i; rw [hL] at h; have := HFL.out; show _ ≤ _; omega
        rw [hL] at hsp
        obtain ⟨av, cv, rfl⟩ := oslice hsp.sq.arow
        have HS1 : Hid (Sp w wr p2 p4 p7 #[.int .i64 (S : Int), .slice (some ⟨ba, oa, none⟩) A.length ca, .slice af F.length cf] ((S : Int) + 1) (.slice av ln cv) (.slice a6 F.length c6) L F) := by have h := hsp; rw [hln] at h; exact h
        clear hsp hL hln
        by_cases hlt : i < A.length
        · have hii : (i : Int) < (A.length : Int) := by omega
          obtain ⟨fI, tI, iI, oI, xI, ea⟩ : ∃ f t i1 o1 x, A[i] = (f, t, i1, o1, x) := ⟨_, _, _, _, _, rfl⟩
          have HEA : Hid (A[i]? = some (fI, tI, iI, oI, xI)) := by show _ = _; rw [List.getElem?_eq_getElem hlt, ea]
          have b1 := cell_of_row _ _ 1 _ _ _ HS1.out.box
          have u := acs_at A i hlt
          rw [ea] at u
          have p0 := HCA.out _ HS1.out.sq.below _ _ u.1
          have p1 := HCA.out _ HS1.out.sq.below _ _ u.2.1
          have p2' := HCA.out _ HS1.out.sq.below _ _ u.2.2.1
          have p3 := HCA.out _ HS1.out.sq.below _ _ u.2.2.2.1
          have p4' := HCA.out _ HS1.out.sq.below _ _ u.2.2.2.2
          rw [← Nat.add_assoc] at p1 p2' p3 p4'
          have HX : Hid ((wr.alloc (.cells #[.int .i64 fI, .int .i64 tI, .int .i64 iI, .int .i64 oI, .int .i64 xI] 64)).heap[wr.heap.size]? = some (.cells #[.int .i64 fI, .int .i64 tI, .int .i64 iI, .int .i64 oI, .int .i64 xI] 64 (0, 0)) ∧ (Value.slice av ln cv).ownBlock ≠ some wr.heap.size ∧ w.heap.size ≤ wr.heap.size) := ⟨heap_alloc_new _ _, fun e => by have := (HS1.out.sq.arow.lt _ e).2; omega, HS1.out.sq.below.size⟩
          have HS2 : Hid (Sp w (wr.alloc (.cells #[.int .i64 fI, .int .i64 tI, .int .i64 iI, .int .i64 oI, .int .i64 xI] 64)) p2 p4 p7 #[.int .i64 (S : Int), .slice (some ⟨ba, oa, none⟩) A.length ca, .slice af F.length cf] ((S : Int) + 1) (.slice av ln cv) (.slice a6 F.length c6) L F) := HS1.out.laid (below_al _ _)
          clear u ea HS1
          go_upto_region 11 with fail
          clear p0 p1 p2' p3 p4' b1
          generalize hV : wr.alloc (.cells #[.int .i64 fI, .int .i64 tI, .int .i64 iI, .int .i64 oI, .int .i64 xI] 64) = W1 at *
          clear hV
          generalize wr.heap.size = bx at *
          have x0 := cell_of_row _ _ 0 _ _ _ HX.out.1
          go_upto_if 54 with fail
          clear x0
          go_cut [11] from 51 to 63 (fun _ wx => ∃ (L2 : List (Int × Int × Int × Int × Int)) (ln2 : Nat) (av2 : Option Addr) (cv2 : Nat), L2 = L ++ (if fI = tt then [((S : Int), tI, iI, oI, xI)] else []) ∧ L2.length = ln2 ∧ ln2 ≤ 40000 + 3 ∧ Sp w wx p2 p4 p7 #[.int .i64 (S : Int), .slice (some ⟨ba, oa, none⟩) A.length ca, .slice af F.length cf] ((S : Int) + 1) (.slice av2 ln2 cv2) (.slice a6 F.length c6) L2 F ∧ wx.heap[bx]? = some (.cells #[.int .i64 fI, .int .i64 tI, .int .i64 iI, .int .i64 oI, .int .i64 xI] 64 (0, 0)) ∧ (Value.slice av2 ln2 cv2).ownBlock ≠ some bx)
          case first =>
            by_cases hf : fI = tt
            · subst hf
              have x0 := cell_of_row _ _ 0 _ _ _ HX.out.1
              have x1 := cell_of_row _ _ 1 _ _ _ HX.out.1
              have x2 := cell_of_row _ _ 2 _ _ _ HX.out.1
              have x3 := cell_of_row _ _ 3 _ _ _ HX.out.1
              have x4 := cell_of_row _ _ 4 _ _ _ HX.out.1
              obtain ⟨W2, hW2⟩ : ∃ W2, (W1.alloc (.cells #[.int .i64 fI, .int .i64 tI, .int .i64 iI, .int .i64 oI, .int .i64 xI] 64)) = W2 := ⟨_, rfl⟩
              obtain ⟨by1, hby⟩ : ∃ b, W1.heap.size = b := ⟨_, rfl⟩
              have HY : Hid (W2.heap[by1]? = some (.cells #[.int .i64 fI, .int .i64 tI, .int .i64 iI, .int .i64 oI, .int .i64 xI] 64 (0, 0)) ∧ (Value.slice av ln cv).ownBlock ≠ some by1 ∧ w.heap.size ≤ by1 ∧ bx ≠ by1) := by
                rw [← hW2, ← hby]
                exact ⟨heap_alloc_new _ _, fun e => by have := (HS2.out.sq.arow.lt _ e).2; omega, HS2.out.sq.below.size, by have := lt_at HX.out.1; omega⟩
              have HS3 : Hid (Sp w W2 p2 p4 p7 #[.int .i64 (S : Int), .slice (some ⟨ba, oa, none⟩) A.length ca, .slice af F.length cf] ((S : Int) + 1) (.slice av ln cv) (.slice a6 F.length c6) L F) := by rw [← hW2]; exact HS2.out.laid (below_al _ _)
              have HX2 : Hid (W2.heap[bx]? = some (.cells #[.int .i64 fI, .int .i64 tI, .int .i64 iI, .int .i64 oI, .int .i64 xI] 64 (0, 0))) := by rw [← hW2]; exact ((below_al W1 _).block _ (lt_at HX.out.1)).trans HX.out.1
              clear HS2
              go_upto_region 13 with fail
              clear x0 x1 x2 x3 x4
              try rw [hW2]
              try rw [hby]
              clear hW2 hby
              have y0 := cell_of_row _ _ 0 _ _ _ HY.out.1
              have g0 := frozen_of_row _ _ 0 _ _ HY.out.1
              go_upto_region 14 with fail
              clear y0 g0
              have HY3 : Hid ((W2.setCell ⟨by1, 0, none⟩ (.int .i64 (S : Int))).heap[by1]? = some (.cells #[.int .i64 (S : Int), .int .i64 tI, .int .i64 iI, .int .i64 oI, .int .i64 xI] 64 (0, 0))) := heap_setCell_same W2 by1 0 _ 64 (.int .i64 (S : Int)) HY.out.1
              have HKY : Hid (Kp (fun k => k = by1) W2 (W2.setCell ⟨by1, 0, none⟩ (.int .i64 (S : Int)))) := (Kp.refl _ W2).setCell _ _ _ (fun _ => rfl)
              have HS4 : Hid (Sp w (W2.setCell ⟨by1, 0, none⟩ (.int .i64 (S : Int))) p2 p4 p7 #[.int .i64 (S : Int), .slice (some ⟨ba, oa, none⟩) A.length ca, .slice af F.length cf] ((S : Int) + 1) (.slice av ln cv) (.slice a6 F.length c6) L F) := HS3.out.other HKY.out HY.out.1 HY.out.2.2.1 HY.out.2.1
              have HX3 : Hid ((W2.setCell ⟨by1, 0, none⟩ (.int .i64 (S : Int))).heap[bx]? = some (.cells #[.int .i64 fI, .int .i64 tI, .int .i64 iI, .int .i64 oI, .int .i64 xI] 64 (0, 0))) := (HKY.out.block _ (lt_at HX2.out) (fun e => HY.out.2.2.2 e)).trans HX2.out
              clear HS3 HX2 HKY
              generalize hV : W2.setCell ⟨by1, 0, none⟩ (.int .i64 (S : Int)) = W3 at *
              clear hV
              have y0 := cell_of_row _ _ 0 _ _ _ HY3.out
              have y1 := cell_of_row _ _ 1 _ _ _ HY3.out
              have y2 := cell_of_row _ _ 2 _ _ _ HY3.out
              have y3 := cell_of_row _ _ 3 _ _ _ HY3.out
              have y4 := cell_of_row _ _ 4 _ _ _ HY3.out
              have m1 := cell_of_row _ _ 1 _ _ _ HS4.out.sq.mac
              have har : Hid (W3.ownsRow w.heap.size 64 5 (.slice av ln cv) ln (acs L)) := by have h := HS4.out.sq.arow; rw [HL.out.2] at h; exact h
              go_wp2_with (refine wpList_append_own_at _ rfl _ _ 22 rfl w.heap.size 64 i64 (.agg #[.int .i64 0, .int .i64 0, .int .i64 0, .int .i64 0, .int .i64 0]) 5 40 Tryd.underlying22 hi64 hy0 hy1 hy2 rfl (by decide) _ _ _ rfl (har.out.alloc _) ⟨_, 0, none⟩ 1 1 [.int .i64 (S : Int), .int .i64 tI, .int .i64 iI, .int .i64 oI, .int .i64 xI] rfl rfl (cell_five_new _ _ _ _ _ _ _) (ac_one ((S : Int), tI, iI, oI, xI)) (by have := HLN.out; unfold maxLen; omega) (by have := HLN.out; omega) (by have := HS4.out.sq.below.size; simp; omega) ?_; intro v15 w15 ho15 hg15 _ hl15; obtain ⟨g15, c15, rfl, _, _⟩ := own_some ho15 (Nat.succ_pos _); have hld := HS4.out.laid (below_al W3 (.cells #[.int .i64 (S : Int), .int .i64 tI, .int .i64 iI, .int .i64 oI, .int .i64 xI] 64)); have x15 := hld.mac1 hld.sq.arow (by decide) hg15; have y15 := cell_of_row _ _ 1 _ _ _ x15; have z15 := frozen_of_row _ _ 1 _ _ x15; have HSN : Hid _ := hld.addA (a := ((S : Int), tI, iI, oI, xI)) (by rw [HL.out.2]; exact ho15) hg15; have HXN : Hid _ := hld.five (v1 := .slice (some ⟨g15, 0, none⟩) (ln + 1) c15) hg15 (((below_al W3 (.cells #[.int .i64 (S : Int), .int .i64 tI, .int .i64 iI, .int .i64 oI, .int .i64 xI] 64)).block _ (lt_at HX3.out)).trans HX3.out) HX.out.2.1; have HNB : Hid ((Value.slice (some ⟨g15, 0, none⟩) (ln + 1) c15).ownBlock ≠ some bx) := (fun e => (by rcases hl15 with h | h; (exact HX.out.2.1 (h.symm.trans e)); (rw [h] at e; injection e with e; have := lt_at HX3.out; simp at e; omega))); clear ho15 hg15 hl15 x15 hld)
              go_meet
              case rel => exact ⟨_, _, _, _, (by rw [if_pos trivial]), (by rw [List.length_append, HL.out.2]; rfl), (by have := HLN.out; omega), HSN.out, HXN.out, HNB.out⟩
            · have q1 : (fI == tt) = false := by simp [hf]
              have q1' : decide (fI = tt) = false := by simp [hf]
              go_wp2
              go_meet
              case rel => exact ⟨L, ln, av, cv, by rw [if_neg hf, List.append_nil], HL.out.2, by have := HLN.out; omega, HS2.out, HX.out.1, HX.out.2.1⟩
          case rest =>
            obtain ⟨L2, ln2, av2, cv2, hL2, hln2, hl2b, hs2, hx2, hnb2⟩ := hcut
            have HL2 : Hid (L2 = L ++ (if fI = tt then [((S : Int), tI, iI, oI, xI)] else []) ∧ L2.length = ln2 ∧ ln2 ≤ 40000 + 3) := ⟨hL2, hln2, hl2b⟩
            have HS5 : Hid (Sp w wc p2 p4 p7 #[.int .i64 (S : Int), .slice (some ⟨ba, oa, none⟩) A.length ca, .slice af F.length cf] ((S : Int) + 1) (.slice av2 ln2 cv2) (.slice a6 F.length c6) L2 F) := hs2
            have HX5 : Hid (wc.heap[bx]? = some (.cells #[.int .i64 fI, .int .i64 tI, .int .i64 iI, .int .i64 oI, .int .i64 xI] 64 (0, 0)) ∧ (Value.slice av2 ln2 cv2).ownBlock ≠ some bx ∧ w.heap.size ≤ bx) := ⟨hx2, hnb2, HX.out.2.2⟩
            clear HS2 HX hL2 hln2 hl2b hs2 hx2 hnb2 HLN
            by_cases hk2 : i = k
            · subst hk2
              have y1 := cell_of_row _ _ 1 _ _ _ HX5.out.1
              have g1 := frozen_of_row _ _ 1 _ _ HX5.out.1
              go_upto_region 17 with fail
              clear y1 g1
              have HKY : Hid (Kp (fun k => k = bx) wc (wc.setCell ⟨bx, 1, none⟩ (.int .i64 (S : Int)))) := (Kp.refl _ wc).setCell _ _ _ (fun _ => rfl)
              have HX6 : Hid ((wc.setCell ⟨bx, 1, none⟩ (.int .i64 (S : Int))).heap[bx]? = some (.cells #[.int .i64 fI, .int .i64 (S : Int), .int .i64 iI, .int .i64 oI, .int .i64 xI] 64 (0, 0)) ∧ True) := ⟨heap_setCell_same wc bx 1 _ 64 (.int .i64 (S : Int)) HX5.out.1, trivial⟩
              have HS6 : Hid (Sp w (wc.setCell ⟨bx, 1, none⟩ (.int .i64 (S : Int))) p2 p4 p7 #[.int .i64 (S : Int), .slice (some ⟨ba, oa, none⟩) A.length ca, .slice af F.length cf] ((S : Int) + 1) (.slice av2 ln2 cv2) (.slice a6 F.length c6) L2 F) := HS5.out.other HKY.out HX5.out.1 HX5.out.2.2 HX5.out.2.1
              clear HS5 HX5 HKY
              generalize hV : wc.setCell ⟨bx, 1, none⟩ (.int .i64 (S : Int)) = W6 at *
              clear hV
              have hAb := HFL.out.2.1
              have y0 := cell_of_row _ _ 0 _ _ _ HX6.out.1
              have y1 := cell_of_row _ _ 1 _ _ _ HX6.out.1
              have y2 := cell_of_row _ _ 2 _ _ _ HX6.out.1
              have y3 := cell_of_row _ _ 3 _ _ _ HX6.out.1
              have y4 := cell_of_row _ _ 4 _ _ _ HX6.out.1
              have m1 := cell_of_row _ _ 1 _ _ _ HS6.out.sq.mac
              have har : Hid (W6.ownsRow w.heap.size 64 5 (.slice av2 ln2 cv2) ln2 (acs L2)) := by have h := HS6.out.sq.arow; rw [HL2.out.2.1] at h; exact h
              go_wp2_with (refine wpList_append_own_at _ rfl _ _ 22 rfl w.heap.size 64 i64 (.agg #[.int .i64 0, .int .i64 0, .int .i64 0, .int .i64 0, .int .i64 0]) 5 40 Tryd.underlying22 hi64 hy0 hy1 hy2 rfl (by decide) _ _ _ rfl (har.out.alloc _) ⟨_, 0, none⟩ 1 1 [.int .i64 fI, .int .i64 (S : Int), .int .i64 iI, .int .i64 oI, .int .i64 xI] rfl rfl (cell_five_new _ _ _ _ _ _ _) (ac_one (fI, (S : Int), iI, oI, xI)) (by have := HL2.out.2.2; unfold maxLen; omega) (by have := HL2.out.2.2; omega) (by have := HS6.out.sq.below.size; simp; omega) ?_; intro v15 w15 ho15 hg15 _ hl15; obtain ⟨g15, c15, rfl, _, _⟩ := own_some ho15 (Nat.succ_pos _); have hld := HS6.out.laid (below_al W6 (.cells #[.int .i64 fI, .int .i64 (S : Int), .int .i64 iI, .int .i64 oI, .int .i64 xI] 64)); have x15 := hld.mac1 hld.sq.arow (by decide) hg15; have y15 := cell_of_row _ _ 1 _ _ _ x15; have z15 := frozen_of_row _ _ 1 _ _ x15; have HSN : Hid _ := hld.addA (a := (fI, (S : Int), iI, oI, xI)) (by rw [HL2.out.2.1]; exact ho15) hg15; clear ho15 hg15 hl15 x15 hld)
              go_roundw
              case rel => exact ⟨i + 1, _, by go_num, hlt, by rw [spA_up HEA.out, HL.out.1]; unfold sp1; dsimp only; rw [if_pos rfl, ← List.append_assoc, ← HL2.out.1]; exact HSN.out⟩
              case measure => simp [intOf]; omega
            · have q2 : ((i : Int) == (k : Int)) = false := by simp; omega
              go_upto_region 17 with fail
              have hAb := HFL.out.2.1
              have y0 := cell_of_row _ _ 0 _ _ _ HX5.out.1
              have y1 := cell_of_row _ _ 1 _ _ _ HX5.out.1
              have y2 := cell_of_row _ _ 2 _ _ _ HX5.out.1
              have y3 := cell_of_row _ _ 3 _ _ _ HX5.out.1
              have y4 := cell_of_row _ _ 4 _ _ _ HX5.out.1
              have m1 := cell_of_row _ _ 1 _ _ _ HS5.out.sq.mac
              have har : Hid (wc.ownsRow w.heap.size 64 5 (.slice av2 ln2 cv2) ln2 (acs L2)) := by have h := HS5.out.sq.arow; rw [HL2.out.2.1] at h; exact h
              go_wp2_with (refine wpList_append_own_at _ rfl _ _ 22 rfl w.heap.size 64 i64 (.agg #[.int .i64 0, .int .i64 0, .int .i64 0, .int .i64 0, .int .i64 0]) 5 40 Tryd.underlying22 hi64 hy0 hy1 hy2 rfl (by decide) _ _ _ rfl (har.out.alloc _) ⟨_, 0, none⟩ 1 1 [.int .i64 fI, .int .i64 tI, .int .i64 iI, .int .i64 oI, .int .i64 xI] rfl rfl (cell_five_new _ _ _ _ _ _ _) (ac_one (fI, tI, iI, oI, xI)) (by have := HL2.out.2.2; unfold maxLen; omega) (by have := HL2.out.2.2; omega) (by have := HS5.out.sq.below.size; simp; omega) ?_; intro v15 w15 ho15 hg15 _ hl15; obtain ⟨g15, c15, rfl, _, _⟩ := own_some ho15 (Nat.succ_pos _); have hld := HS5.out.laid (below_al wc (.cells #[.int .i64 fI, .int .i64 tI, .int .i64 iI, .int .i64 oI, .int .i64 xI] 64)); have x15 := hld.mac1 hld.sq.arow (by decide) hg15; have y15 := cell_of_row _ _ 1 _ _ _ x15; have z15 := frozen_of_row _ _ 1 _ _ x15; have HSN : Hid _ := hld.addA (a := (fI, tI, iI, oI, xI)) (by rw [HL2.out.2.1]; exact ho15) hg15; clear ho15 hg15 hl15 x15 hld)
              go_roundw
              case rel => exact ⟨i + 1, _, by go_num, hlt, by rw [spA_up HEA.out, HL.out.1]; unfold sp1; dsimp only; rw [if_neg hk2, ← List.append_assoc, ← HL2.out.1]; exact HSN.out⟩
              case measure => simp [intOf]; omega
        · obtain rfl : i = A.length := by omega
          have HS20 : Hid (Sp w wr p2 p4 p7 #[.int .i64 (S : Int), .slice (some ⟨ba, oa, none⟩) A.length ca, .slice af F.length cf] ((S : Int) + 1) (.slice av ln cv) (.slice a6 F.length c6) L (spF F tt (S : Int) 0)) := HS1.out
          clear HS1
          have b1 := cell_of_row _ _ 1 _ _ _ HS20.out.box
          go_upto_region 19 with fail
          clear b1
          go_loopw [12] (fun a wr => ∃ (j : Nat) (vg : Value), a = .int .i64 (j : Int) ∧ j ≤ F.length ∧ Sp w wr p2 p4 p7 #[.int .i64 (S : Int), .slice (some ⟨ba, oa, none⟩) A.length ca, .slice af F.length cf] ((S : Int) + 1) (.slice av ln cv) vg L (spF F tt (S : Int) j)) (fun a _ => F.length - (intOf a).toNat)
          case atStart => exact ⟨0, _, rfl, Nat.zero_le _, HS20.out⟩
          case round =>
            clear HS20
            obtain ⟨j, vg, rfl, hj, hsp⟩ := hrel
            obtain ⟨G, hG⟩ : ∃ L, spF F tt (S : Int) j = L := ⟨_, rfl⟩
            obtain ⟨gn, hgn⟩ : ∃ n, G.length = n := ⟨_, rfl⟩
            have HG : Hid (spF F tt (S : Int) j = G ∧ G.length = gn) := ⟨hG, hgn⟩
            have HGN : Hid (gn ≤ 6000) := by have h := spF_len F tt (S : Int) j; rw [hG] at h; have := HFL.out; show _ ≤ _; omega
            rw [hG] at hsp
            obtain ⟨gv, gc, rfl⟩ := oslice hsp.sq.grow
            have HS21 : Hid (Sp w wr p2 p4 p7 #[.int .i64 (S : Int), .slice (some ⟨ba, oa, none⟩) A.length ca, .slice af F.length cf] ((S : Int) + 1) (.slice av ln cv) (.slice gv gn gc) L G) := by have h := hsp; rw [hgn] at h; exact h
            clear hsp hG hgn
            by_cases hlt : j < F.length
            · obtain ⟨bf9, of9, rfl, hcs⟩ : ∃ b off, af = some ⟨b, off, none⟩ ∧ ∀ j u, (fcs F)[j]? = some u → wr.cell? ⟨b, off + j, none⟩ = some u := by
                obtain ⟨_, a', c', e1, _, h⟩ := HR.out.2
                injection e1 with e2 e3 e4
                subst e2
                obtain ⟨b, off, e, hb, hc⟩ := h.resolve_left (by omega)
                exact ⟨b, off, e, fun j u hu => (HS21.out.sq.below.cell (p := ⟨b, off + j, none⟩) hb).trans (hc j u hu)⟩
              have hjj : (j : Int) < (F.length : Int) := by omega
              obtain ⟨fI, xI, ea⟩ : ∃ f x, F[j] = (f, x) := ⟨_, _, rfl⟩
              have HEA : Hid (F[j]? = some (fI, xI)) := by show _ = _; rw [List.getElem?_eq_getElem hlt, ea]
              have hFb := HFL.out.1
              have b2 := cell_of_row _ _ 2 _ _ _ HS21.out.box
              have u := (fcs_at F j hlt).1
              rw [ea] at u
              have p0 := hcs _ _ u
              clear u ea hcs
              by_cases hf : fI = tt
              · subst hf
                have m2 := cell_of_row _ _ 2 _ _ _ HS21.out.sq.mac
                have har : Hid (wr.ownsRow w.heap.size 66 2 (.slice gv gn gc) gn (fcs G)) := by have h := HS21.out.sq.grow; rw [HG.out.2] at h; exact h
                go_wp2_with (refine wpList_append_own_at _ rfl _ _ 23 rfl w.heap.size 66 i66 (.agg #[.int .i64 0, .int .i64 0]) 2 16 Tryd.underlying23 hi66 hz0 hz1 hz2 rfl (by decide) _ _ _ rfl (har.out.alloc _) ⟨_, 0, none⟩ 1 1 [.int .i64 (S : Int), .int .i64 0] rfl rfl (cell_two_new _ _ _ _) (fc_one ((S : Int), 0)) (by have := HGN.out; unfold maxLen; omega) (by have := HGN.out; omega) (by have := HS21.out.sq.below.size; simp; omega) ?_; intro v15 w15 ho15 hg15 _ hl15; obtain ⟨g15, c15, rfl, _, _⟩ := own_some ho15 (Nat.succ_pos _); have hld := HS21.out.laid (below_al _ (.cells #[.int .i64 (S : Int), .int .i64 0] 66)); have x15 := hld.mac1 hld.sq.grow (by decide) hg15; have y15 := cell_of_row _ _ 2 _ _ _ x15; have z15 := frozen_of_row _ _ 2 _ _ x15; have HSN : Hid _ := hld.addG (f := ((S : Int), 0)) (by rw [HG.out.2]; exact ho15) hg15; clear ho15 hg15 hl15 x15 hld)
                go_roundw
                case rel => exact ⟨j + 1, _, by go_num, hlt, by rw [spF_up HEA.out, if_pos rfl, HG.out.1]; exact HSN.out⟩
                case measure => simp [intOf]; omega
              · have q1 : (fI == tt) = false := by simp [hf]
                go_wp2
                go_roundw
                case rel => exact ⟨j + 1, _, by go_num, hlt, by rw [spF_up HEA.out, if_neg hf, HG.out.1, List.append_nil]; exact HS21.out⟩
                case measure => simp [intOf]; omega
            · obtain rfl : j = F.length := by omega
              have b2 := cell_of_row _ _ 2 _ _ _ HS21.out.box
              have c0 := cell_of_row _ _ 0 _ _ _ HS21.out.sq.mac
              have c1 := cell_of_row _ _ 1 _ _ _ HS21.out.sq.mac
              have c2 := cell_of_row _ _ 2 _ _ _ HS21.out.sq.mac
              have z0 := cell_of_row _ _ 0 _ _ _ HS21.out.sq.out
              have z1 := cell_of_row _ _ 1 _ _ _ HS21.out.sq.out
              have z2 := cell_of_row _ _ 2 _ _ _ HS21.out.sq.out
              have f0 := frozen_of_row _ _ 0 _ _ HS21.out.sq.out
              have f1 := frozen_of_row _ _ 1 _ _ HS21.out.sq.out
              have f2 := frozen_of_row _ _ 2 _ _ HS21.out.sq.out
              go_wp2
              have hr := HS21.out.fin (by rw [HL.out.2]; have := HLN.out; omega) (by rw [HG.out.2]; have := HGN.out; omega)
              refine bodyPost_ret (results_cell_row rfl _ _ p4 25 _ (0, 0) _ rfl hr.2.1 Tryd.underlying25 rfl row25) rfl ⟨_, _, _, _, _, _, _, k, rfl, hr.1, ?_⟩
              have he : spl ⟨(S : Int), A, F⟩ k = ⟨(S : Int) + 1, L, G⟩ := by
                unfold spl
                rw [HAK.out, ← HL.out.1, ← HG.out.1]
              rw [he]
              exact hr.2.2
end Go.Proofs.YtfjocafepigijaaDoor.Su
