/- The document's typed: its own memory, step by step. No conditions. -/
import Derived.Test.YtofbnfpncekddaaTp
import Derived.Laws.AppendOwnNone
namespace Go.Proofs.Ytofbnfpncekddaa.Te
open Go.RowKit

/-- a row of types that lie in w0, to be read -/
def RowB (w0 W : World) (br : List Ty) (xa : Option Addr) (ca : Nat) : Prop := (br = [] ∧ xa = none ∧ ca = 0) ∨ ∃ g, xa = some ⟨g, 0, none⟩ ∧ g < W.heap.size ∧ ∀ i (_ : i < br.length), ∃ a' c' d, W.cell? ⟨g, i * 3, none⟩ = some (.int .i64 br[i].kind) ∧ W.cell? ⟨g, i * 3 + 1, none⟩ = some (.int .i64 br[i].n) ∧ W.cell? ⟨g, i * 3 + 2, none⟩ = some (.slice a' br[i].kids.length c') ∧ TyAt w0 d br[i] a' c'
theorem RowB.below {w0 W W' : World} {br : List Ty} {xa : Option Addr} {ca : Nat} (h : RowB w0 W br xa ca) (hb : Below W.heap.size W W') : RowB w0 W' br xa ca := by
  rcases h with h | ⟨g, ha, hg, h⟩
  · exact .inl h
  · refine .inr ⟨g, ha, Nat.lt_of_lt_of_le hg hb.size, fun i hi => ?_⟩
    obtain ⟨a', c', d, h0, h1, h2, h3⟩ := h i hi
    exact ⟨a', c', d, (hb.cell (p := ⟨g, _, none⟩) hg).trans h0, (hb.cell (p := ⟨g, _, none⟩) hg).trans h1, (hb.cell (p := ⟨g, _, none⟩) hg).trans h2, h3⟩
/-- the cells of a block -/
def cellsOf (W : World) (g m : Nat) : List Value := (List.range m).map fun q => (W.cell? ⟨g, q, none⟩).getD undef
theorem cellsOf_len (W : World) (g m : Nat) : (cellsOf W g m).length = m := by simp [cellsOf]
theorem cellsOf_at {W : World} {g m j : Nat} (h : j < m) : (cellsOf W g m)[j]? = some ((W.cell? ⟨g, j, none⟩).getD undef) := by
  simp [cellsOf, h]
theorem row_cell {w0 W : World} {br : List Ty} {g : Nat} (h : ∀ i (_ : i < br.length), ∃ a' c' d, W.cell? ⟨g, i * 3, none⟩ = some (.int .i64 br[i].kind) ∧ W.cell? ⟨g, i * 3 + 1, none⟩ = some (.int .i64 br[i].n) ∧ W.cell? ⟨g, i * 3 + 2, none⟩ = some (.slice a' br[i].kids.length c') ∧ TyAt w0 d br[i] a' c') {q : Nat} (hq : q < br.length * 3) : ∃ u, W.cell? ⟨g, q, none⟩ = some u ∧ u.oneCell' = true := by
  obtain ⟨i, r, rfl, hr⟩ : ∃ i r, q = i * 3 + r ∧ r < 3 := ⟨q / 3, q % 3, by omega, by omega⟩
  obtain ⟨a', c', d, h0, h1, h2, _⟩ := h i (by omega)
  have hm : r = 0 ∨ r = 1 ∨ r = 2 := by omega
  rcases hm with rfl | rfl | rfl
  · exact ⟨_, h0, rfl⟩
  · exact ⟨_, h1, rfl⟩
  · exact ⟨_, h2, rfl⟩
/-- as all lies while typed goes on -/
structure Gs (w0 w : World) (tb : Obj) (y : Ty) (bt : Option Addr × Nat) (br : List Ty) (W : World) (al bl : Option Nat) (ap : Option (Option Addr × Nat)) (tp : Option (Ty × Option Addr × Nat)) : Prop where
  bel : Below w.heap.size w W
  hi : w.heap.size + 3 ≤ W.heap.size
  tb : W.heap[w.heap.size]? = some tb
  rb : W.heap[w.heap.size + 1]? = some (.cells #[.int .i64 0, .int .i64 0, .slice none 0 0] 24 (0, 0))
  nb : W.heap[w.heap.size + 2]? = some (.cells #[.int .i64 0, .int .i64 0, .slice none 0 0] 24 (0, 0))
  ab : ∀ R, al = some R → w.heap.size + 3 ≤ R ∧ W.heap[R]? = some (.cells #[.int .i64 0, .int .i64 0, .slice none 0 0] 24 (0, 0))
  bb : ∀ B, bl = some B → w.heap.size + 3 ≤ B ∧ al ≠ some B ∧ W.heap[B]? = some (.cells #[.int .i64 y.kind, .int .i64 y.n, .slice bt.1 y.kids.length bt.2] 24 (0, 0))
  ap : ∀ x c, ap = some (x, c) → RowB w0 W (y :: br) x c
  tt : ∀ z a c, tp = some (z, a, c) → ∃ d, TyP (fun g => g < w0.heap.size ∨ (w.heap.size + 3 ≤ g ∧ al ≠ some g)) W d z a c
section
variable {w0 w : World} {tb : Obj} {y : Ty} {bt : Option Addr × Nat} {br : List Ty} {W W' : World} {al bl : Option Nat} {ap : Option (Option Addr × Nat)} {tp : Option (Ty × Option Addr × Nat)}
theorem Gs.below (h : Gs w0 w tb y bt br W al bl ap tp) (hb : Below W.heap.size W W') : Gs w0 w tb y bt br W' al bl ap tp := by
  have hi := h.hi
  refine ⟨h.bel.trans (hb.mono h.bel.size), Nat.le_trans hi hb.size, (hb.block _ (by omega)).trans h.tb, (hb.block _ (by omega)).trans h.rb, (hb.block _ (by omega)).trans h.nb, fun R hR => ?_, fun B hB => ?_, fun x c hx => (h.ap x c hx).below hb, fun z a c hz => ?_⟩
  · obtain ⟨h1, h2⟩ := h.ab R hR
    exact ⟨h1, (hb.block _ (lt_of_get h2)).trans h2⟩
  · obtain ⟨h1, h2, h3⟩ := h.bb B hB
    exact ⟨h1, h2, (hb.block _ (lt_of_get h3)).trans h3⟩
  · obtain ⟨d, h2⟩ := h.tt z a c hz
    exact ⟨d, h2.below hb⟩
theorem Gs.box (h : Gs w0 w tb y bt br W none bl ap tp) : Gs w0 w tb y bt br (W.alloc (.cells #[.int .i64 0, .int .i64 0, .slice none 0 0] 24)) (some W.heap.size) bl ap tp := by
  have k := h.below ((Below.refl _ W).alloc (Nat.le_refl _) (.cells #[.int .i64 0, .int .i64 0, .slice none 0 0] 24))
  refine ⟨k.bel, k.hi, k.tb, k.rb, k.nb, fun R hR => ?_, fun B hB => ?_, k.ap, fun z a c hz => ?_⟩
  · cases hR
    exact ⟨h.hi, heap_alloc_new _ _⟩
  · obtain ⟨h1, _, h3⟩ := k.bb B hB
    have := lt_of_get (h.bb B hB).2.2
    exact ⟨h1, fun e => by simp only [Option.some.injEq] at e; omega, h3⟩
  · obtain ⟨d, h2⟩ := h.tt z a c hz
    refine ⟨d, h2.keep (by simp) (fun g hg hP => ⟨?_, ((Below.refl _ W).alloc (Nat.le_refl _) _).block g hg⟩)⟩
    rcases hP with hP | ⟨hP, _⟩
    · exact .inl hP
    · exact .inr ⟨hP, fun e => by simp only [Option.some.injEq] at e; omega⟩
theorem Gs.built (h : Gs w0 w tb y bt br W al none ap tp) : Gs w0 w tb y bt br (W.alloc (.cells #[.int .i64 y.kind, .int .i64 y.n, .slice bt.1 y.kids.length bt.2] 24)) al (some W.heap.size) ap tp := by
  have k := h.below ((Below.refl _ W).alloc (Nat.le_refl _) (.cells #[.int .i64 y.kind, .int .i64 y.n, .slice bt.1 y.kids.length bt.2] 24))
  refine ⟨k.bel, k.hi, k.tb, k.rb, k.nb, k.ab, fun B hB => ?_, k.ap, k.tt⟩
  cases hB
  exact ⟨h.hi, fun e => by have := lt_of_get (h.ab _ e).2; omega, heap_alloc_new _ _⟩
/-- the append: whichever way it goes -/
theorem Gs.run {B : Nat} {xa : Option Addr} {ca dy : Nat} (h : Gs w0 w tb y bt br W al (some B) none none) (hr : RowB w0 w br xa ca) (hy : TyAt w0 dy y bt.1 bt.2) (hl : br.length ≤ 1000) (ty : TypeId) :
    ∃ x' c' W', (Builtin.append_ #[22, 22] ty #[.slice (some ⟨B, 0, none⟩) 1 1, .slice xa br.length ca]).run Try.prog W = .ok (.slice x' (br.length + 1) c') W' ∧ Gs w0 w tb y bt br W' al none (some (x', c')) none := by
  obtain ⟨i24, hi24, hz240, hz241, hz242⟩ := info_parts info24
  obtain ⟨hB, hal, hbb⟩ := h.bb B rfl
  have hi := h.hi
  have hown : W.ownsRow B 24 3 (.slice (some ⟨B, 0, none⟩) 1 1) 1 (tyc y bt.1 bt.2) := ⟨rfl, .inr ⟨B, 1, _, rfl, Nat.le_refl _, hbb, Nat.le_refl _, by unfold maxLen; omega, rfl, rfl⟩⟩
  rcases hr with ⟨rfl, rfl, rfl⟩ | ⟨g, rfl, hg, hr⟩
  · refine ⟨_, _, W, run_append_owned_none (P := Try.prog) W B 22 ty 24 i24 3 Try.underlying22 hi24 _ 1 _ hown, ⟨h.bel, h.hi, h.tb, h.rb, h.nb, h.ab, (fun _ e => by cases e), fun x c hx => ?_, (fun _ _ _ e => by cases e)⟩⟩
    cases hx
    refine .inr ⟨B, rfl, lt_of_get hbb, fun i hi' => ?_⟩
    have : i = 0 := by simp at hi'; exact hi'
    subst this
    exact ⟨bt.1, bt.2, dy, cell_of_row _ _ 0 _ _ _ hbb, cell_of_row _ _ 1 _ _ _ hbb, cell_of_row _ _ 2 _ _ _ hbb, hy⟩
  · have hrc : ∀ i (_ : i < br.length), ∃ a' c' d, W.cell? ⟨g, i * 3, none⟩ = some (.int .i64 br[i].kind) ∧ W.cell? ⟨g, i * 3 + 1, none⟩ = some (.int .i64 br[i].n) ∧ W.cell? ⟨g, i * 3 + 2, none⟩ = some (.slice a' br[i].kids.length c') ∧ TyAt w0 d br[i] a' c' := fun i hi => by
      obtain ⟨a', c', d, h0, h1, h2, h3⟩ := hr i hi
      exact ⟨a', c', d, (h.bel.cell (p := ⟨g, _, none⟩) hg).trans h0, (h.bel.cell (p := ⟨g, _, none⟩) hg).trans h1, (h.bel.cell (p := ⟨g, _, none⟩) hg).trans h2, h3⟩
    obtain ⟨v', W', hrun, ho, hgr, _, _⟩ := run_append_own_at (P := Try.prog) W B 22 ty 24 i24 (.agg #[.int .i64 0, .int .i64 0, .slice none 0 0]) 3 40 Try.underlying22 hi24 hz240 hz241 hz242 rfl (by decide) _ 1 _ hown ⟨g, 0, none⟩ br.length ca (cellsOf W g (br.length * 3)) (cellsOf_len _ _ _)
      (fun j u hu => by
        have hj : j < br.length * 3 := by have := (List.getElem?_eq_some_iff.1 hu).1; rwa [cellsOf_len] at this
        rw [cellsOf_at hj] at hu
        obtain ⟨u', h1, _⟩ := row_cell hrc hj
        rw [h1] at hu
        rw [Zz.addr_add0, h1]
        exact hu)
      (fun u hu => by
        obtain ⟨j, hj, rfl⟩ := List.getElem_of_mem hu
        rw [cellsOf_len] at hj
        have e1 := cellsOf_at (W := W) (g := g) hj
        obtain ⟨u', h1, h2⟩ := row_cell hrc hj
        rw [h1, List.getElem?_eq_getElem (by rw [cellsOf_len]; exact hj)] at e1
        simp only [Option.getD_some, Option.some.injEq] at e1
        rw [e1]
        exact h2) (by unfold maxLen; omega) (by omega) (by have := lt_of_get hbb; omega)
    rw [Nat.add_comm] at ho
    obtain ⟨g', c', rfl, hg'⟩ := slice_of1 ho
    have hne : ∀ q, q ≠ B → some q ≠ (Value.slice (some ⟨B, 0, none⟩) 1 1).ownBlock := fun q hq e => hq (Option.some.inj e)
    have hlo : ∀ q, q < w.heap.size + 3 → W'.heap[q]? = W.heap[q]? := fun q hq => hgr.block q (by omega) (hne q (by omega))
    refine ⟨_, _, W', hrun, ⟨h.bel.grown hgr h.bel.size (fun q hq => by have e : B = q := Option.some.inj hq; omega), Nat.le_trans hi hgr.size, (hlo _ (by omega)).trans h.tb, (hlo _ (by omega)).trans h.rb, (hlo _ (by omega)).trans h.nb, fun R hR => ?_, (fun _ e => by cases e), fun x c hx => ?_, (fun _ _ _ e => by cases e)⟩⟩
    · obtain ⟨h1, h2⟩ := h.ab R hR
      exact ⟨h1, (hgr.block R (lt_of_get h2) (hne R (fun e => hal (by rw [hR, e])))).trans h2⟩
    · cases hx
      refine .inr ⟨g', rfl, (ho.lt g' rfl).2, fun i hi' => ?_⟩
      have hc : ∀ q, q < (br.length + 1) * 3 → W'.cell? ⟨g', q, none⟩ = (tyc y bt.1 bt.2 ++ cellsOf W g (br.length * 3))[q]? := fun q hq => ho.cellAt q hq
      have hi2 : i < br.length + 1 := by simpa using hi'
      cases i with
      | zero => exact ⟨bt.1, bt.2, dy, hc _ (by omega), hc _ (by omega), hc _ (by omega), hy⟩
      | succ j =>
        have hj : j < br.length := by omega
        obtain ⟨a', c2, d, h0, h1, h2, h3⟩ := hrc j hj
        have hl3 : (tyc y bt.1 bt.2).length = 3 := rfl
        have hq : ∀ r, r < 3 → W'.cell? ⟨g', (j + 1) * 3 + r, none⟩ = some ((W.cell? ⟨g, j * 3 + r, none⟩).getD undef) := fun r hr3 => by
          rw [hc _ (by omega), List.getElem?_append_right (by omega), hl3, show (j + 1) * 3 + r - 3 = j * 3 + r by omega, cellsOf_at (by omega)]
        have q0 := hq 0 (by omega)
        have q1 := hq 1 (by omega)
        have q2 := hq 2 (by omega)
        rw [h1] at q1
        rw [h2] at q2
        simp only [Nat.add_zero] at q0
        rw [h0] at q0
        exact ⟨a', c2, d, q0, q1, q2, h3⟩
theorem Gs.called {x : Option Addr} {c : Nat} (h : Gs w0 w tb y bt br W al bl (some (x, c)) none) (hb : Below W.heap.size W W') {z : Ty} {a1 : Option Addr} {c1 d : Nat} (hz : TyP (fun g => g < w0.heap.size ∨ W.heap.size ≤ g) W' d z a1 c1) : Gs w0 w tb y bt br W' al none none (some (z, a1, c1)) := by
  have k := h.below hb
  have hi := h.hi
  refine ⟨k.bel, k.hi, k.tb, k.rb, k.nb, k.ab, (fun _ e => by cases e), (fun _ _ e => by cases e), fun z' a' c' hz' => ?_⟩
  cases hz'
  refine ⟨d, hz.keep (Nat.le_refl _) (fun g _ hP => ⟨?_, rfl⟩)⟩
  rcases hP with hP | hP
  · exact .inl hP
  · refine .inr ⟨by omega, fun e => ?_⟩
    have := lt_of_get (h.ab g e).2
    omega
/-- what has come is laid into its box -/
theorem Gs.laid {R : Nat} {z : Ty} {a1 : Option Addr} {c1 : Nat} (h : Gs w0 w tb y bt br W (some R) none none (some (z, a1, c1))) (hw : w0.heap.size ≤ w.heap.size) :
    Gs w0 w tb y bt br (((W.setCell ⟨R, 0, none⟩ (.int .i64 z.kind)).setCell ⟨R, 1, none⟩ (.int .i64 z.n)).setCell ⟨R, 2, none⟩ (.slice a1 z.kids.length c1)) none none none none ∧ w.heap.size + 3 ≤ R ∧ (((W.setCell ⟨R, 0, none⟩ (.int .i64 z.kind)).setCell ⟨R, 1, none⟩ (.int .i64 z.n)).setCell ⟨R, 2, none⟩ (.slice a1 z.kids.length c1)).heap[R]? = some (.cells #[.int .i64 z.kind, .int .i64 z.n, .slice a1 z.kids.length c1] 24 (0, 0)) ∧ (∃ d, TyP (fun g => g < w0.heap.size ∨ (w.heap.size + 3 ≤ g ∧ g ≠ R)) (((W.setCell ⟨R, 0, none⟩ (.int .i64 z.kind)).setCell ⟨R, 1, none⟩ (.int .i64 z.n)).setCell ⟨R, 2, none⟩ (.slice a1 z.kids.length c1)) d z a1 c1) := by
  obtain ⟨hR, hb⟩ := h.ab R rfl
  have k3 := ko3 W R (.int .i64 z.kind) (.int .i64 z.n) (.slice a1 z.kids.length c1)
  refine ⟨⟨?_, by simpa using h.hi, (k3 _ (by omega)).trans h.tb, (k3 _ (by omega)).trans h.rb, (k3 _ (by omega)).trans h.nb, (fun _ e => by cases e), (fun _ e => by cases e), (fun _ _ e => by cases e), (fun _ _ _ e => by cases e)⟩, hR, laid_box hb _ _ _ _ _, ?_⟩
  · exact ((h.bel.setCell (p := ⟨R, 0, none⟩) (by show w.heap.size ≤ R; omega) _).setCell (p := ⟨R, 1, none⟩) (by show w.heap.size ≤ R; omega) _).setCell (p := ⟨R, 2, none⟩) (by show w.heap.size ≤ R; omega) _
  · obtain ⟨d, h2⟩ := h.tt z a1 c1 rfl
    refine ⟨d, h2.keep (by simp) (fun g _ hP => ⟨?_, k3 g ?_⟩)⟩
    · rcases hP with hP | ⟨hP, hn⟩
      · exact .inl hP
      · exact .inr ⟨hP, fun e => hn (by rw [e])⟩
    · rcases hP with hP | ⟨hP, hn⟩
      · omega
      · exact fun e => hn (by rw [e])
end
/-- the append as one step of a region that draws -/
theorem step_prep {w0 w : World} {tb : Obj} {y : Ty} {bt : Option Addr × Nat} {br : List Ty} {W : World} {al : Option Nat} {ops : Array Oper} {o : Oper} {a : Act} {K : Act → World → Prop} {Q : Exit → Act → World → Prop} {E : Prop} {B : Nat} {xa : Option Addr} {ca dy : Nat}
    (hgd : o.guard = none) (s x : Operand) (ho : o.op = .call { callee := .builtin .append, args := #[s, x], argTypes := #[22, 22] }) (h : Gs w0 w tb y bt br W al (some B) none none) (hr : RowB w0 w br xa ca) (hy : TyAt w0 dy y bt.1 bt.2) (hl : br.length ≤ 1000) (hs : a.eval s = .slice (some ⟨B, 0, none⟩) 1 1) (hx : a.eval x = .slice xa br.length ca)
    (k : ∀ x' c' W', Gs w0 w tb y bt br W' al none (some (x', c')) none → K (a.put o.dst (.slice x' (br.length + 1) c')) W') :
    if Region.wanted o (yielded ops a.tmps) = true then Oper.wp Try.prog o a W K Q else E := by
  have hw : Region.wanted o (yielded ops a.tmps) = true := by simp [Region.wanted, hgd]
  rw [if_pos hw]
  obtain ⟨x', c', W', hrun, h2⟩ := h.run hr hy hl o.type
  unfold Oper.wp execOp
  simp only [ho, resolve, invoke, builtin, Sem.run_bind, Sem.run_pure, Result.andThen_ok, List.map_toArray, List.map_cons, List.map_nil, hs, hx, hrun]
  exact k x' c' W' h2
end Go.Proofs.Ytofbnfpncekddaa.Te
