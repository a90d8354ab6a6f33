/- The program's pop: the first entry is handed back; the others stay. Condition: there is one. -/
import Derived.Test.YtfjocafepigijaaDoorTdM
import Derived.Deep.MidRow
namespace Go.Proofs.YtfjocafepigijaaDoor.Po
open Go.RowKit Mv Qp Sk

/-- the field's block -/
def IsF (w : World) (F : Nat) (a0 a1 a2 v : Value) : Prop := w.heap[F]? = some (.cells #[a0, a1, a2, v] 167 (0, 0))
theorem IsF.lt {w : World} {F : Nat} {a0 a1 a2 v : Value} (h : IsF w F a0 a1 a2 v) : F < w.heap.size := (Array.getElem?_eq_some_iff.1 h).1
theorem IsF.cell {w : World} {F : Nat} {a0 a1 a2 v : Value} (h : IsF w F a0 a1 a2 v) (j : Nat) : w.cell? ⟨F, j, none⟩ = (#[a0, a1, a2, v])[j]? := cell_of_row w F j _ 167 (0, 0) h
theorem IsF.frozen {w : World} {F : Nat} {a0 a1 a2 v : Value} (h : IsF w F a0 a1 a2 v) (j : Nat) : w.frozen? ⟨F, j, none⟩ = false := frozen_of_row w F j _ 167 h
theorem IsF.store {w : World} {F : Nat} {a0 a1 a2 v : Value} (h : IsF w F a0 a1 a2 v) (v' : Value) : IsF (w.setCell ⟨F, 3, none⟩ v') F a0 a1 a2 v' := heap_setCell_same w F 3 _ 167 v' h

/-- nothing but these blocks has changed, of those that were there -/
structure Kp (X : Nat → Prop) (w w' : World) : Prop where
  os : w'.os = w.os
  tape : w'.tape = w.tape
  output : w'.output = w.output
  size : w.heap.size ≤ w'.heap.size
  block : ∀ k, k < w.heap.size → ¬ X k → w'.heap[k]? = w.heap[k]?

theorem Kp.refl (X : Nat → Prop) (w : World) : Kp X w w := ⟨rfl, rfl, rfl, Nat.le_refl _, fun _ _ _ => rfl⟩
theorem Kp.trans {X : Nat → Prop} {a b c : World} (h : Kp X a b) (k : Kp X b c) : Kp X a c :=
  ⟨k.os.trans h.os, k.tape.trans h.tape, k.output.trans h.output, Nat.le_trans h.size k.size, fun i hi hx => (k.block i (Nat.lt_of_lt_of_le hi h.size) hx).trans (h.block i hi hx)⟩
theorem Kp.mono {X Y : Nat → Prop} {a b : World} (h : Kp X a b) (hXY : ∀ k, k < a.heap.size → X k → Y k) : Kp Y a b :=
  ⟨h.os, h.tape, h.output, h.size, fun k hk hy => h.block k hk (fun hx => hy (hXY k hk hx))⟩
theorem Kp.alloc {X : Nat → Prop} {a w : World} (h : Kp X a w) (o : Obj) : Kp X a (w.alloc o) :=
  h.trans ⟨rfl, rfl, rfl, by simp, fun k hk _ => heap_alloc_old w o hk⟩
theorem Kp.drewN {X : Nat → Prop} {a w : World} (h : Kp X a w) (d : Nat) : Kp X a (w.drewN d) := ⟨h.os, h.tape, h.output, h.size, h.block⟩
theorem Kp.grown {X : Nat → Prop} {a w w' : World} {row : Option Nat} (h : Kp X a w) (hg : w.grownBy w' row) (hX : ∀ k, row = some k → k < a.heap.size → X k) : Kp X a w' :=
  ⟨hg.os.trans h.os, hg.tape.trans h.tape, hg.output.trans h.output, Nat.le_trans h.size hg.size, fun k hk hx => (hg.block k (Nat.lt_of_lt_of_le hk h.size) (fun e => hx (hX k e.symm hk))).trans (h.block k hk hx)⟩
theorem Kp.setCell {X : Nat → Prop} {a w : World} (h : Kp X a w) (b j : Nat) (u : Value) (hX : b < a.heap.size → X b) : Kp X a (w.setCell ⟨b, j, none⟩ u) := by
  refine ⟨h.os, h.tape, h.output, ?_, fun k hk hx => ?_⟩
  · have := h.size
    simp
    omega
  · rw [Below.heap_setCell _ _ _ _ (fun e => by subst e; exact hx (hX hk))]
    exact h.block k hk hx
theorem Kp.cell {X : Nat → Prop} {w w' : World} (h : Kp X w w') {b j : Nat} (hb : b < w.heap.size) (hx : ¬ X b) : w'.cell? ⟨b, j, none⟩ = w.cell? ⟨b, j, none⟩ := World.cell?_of_block (w := w) (h.block b hb hx)
theorem IsF.kept {w w' : World} {F : Nat} {a0 a1 a2 v : Value} (h : IsF w F a0 a1 a2 v) {X : Nat → Prop} (hk : Kp X w w') (hx : ¬ X F) : IsF w' F a0 a1 a2 v := (hk.block F h.lt hx).trans h
/-- a row with one element less -/
theorem shrunk {w : World} {base e g n cap : Nat} {p : List (Int × Int)} (h : w.ownsRow base e 2 (.slice (some ⟨g, 0, none⟩) (n + 1) cap) (n + 1) (fcs p)) : w.ownsRow base e 2 (.slice (some ⟨g, 0, none⟩) n cap) n (fcs (p.take n)) := by
  have hl : p.length = n + 1 := by have := h.1; rw [fcs_length] at this; omega
  rcases h.2 with ⟨h', _⟩ | ⟨g', cap', cur, hv, hb, hg, hnc, hcm, hcs, htake⟩
  · simp at h'
  · simp only [Value.slice.injEq, Option.some.injEq, Addr.mk.injEq, and_true, true_and] at hv
    obtain ⟨rfl, rfl⟩ := hv
    refine ⟨by rw [fcs_length, List.length_take, hl]; simp, .inr ⟨g, cap, cur, rfl, hb, hg, by omega, hcm, hcs, ?_⟩⟩
    have e1 : fcs (p.take n) = (fcs p).take (n * 2) := by
      clear hl h htake hg hcs hcm hnc hb
      induction p generalizing n with
      | nil => simp [fcs]
      | cons x p ih =>
        cases n with
        | zero => simp [fcs]
        | succ n =>
          have e2 : ∀ m : List (Int × Int), fcs (x :: m) = .int .i64 x.1 :: .int .i64 x.2 :: fcs m := fun m => rfl
          have e3 : (n + 1) * 2 = n * 2 + 1 + 1 := by omega
          rw [List.take_succ_cons, e2, e2, e3, List.take_succ_cons, List.take_succ_cons, ih]
    rw [e1, ← htake, List.take_take]
    congr 1
    omega
theorem popped {es : List (Int × Int)} {n : Nat} (hn : es.length = n + 1) (h0 : 0 < n) {q : List (Int × Int)} (hq : q.Perm ((es.take n).set 0 (es[n]'(by omega)))) : es.Perm (es[0]'(by omega) :: q) := by
  obtain ⟨x, r, rfl⟩ : ∃ x r, es = x :: r := by cases es with | nil => simp at hn | cons x r => exact ⟨x, r, rfl⟩
  obtain ⟨m, rfl⟩ : ∃ m, n = m + 1 := ⟨n - 1, by omega⟩
  simp only [List.length_cons, Nat.add_right_cancel_iff] at hn
  simp only [List.take_succ_cons, List.set_cons_zero, List.getElem_cons_succ, List.getElem_cons_zero] at hq ⊢
  refine List.Perm.cons x ?_
  refine List.Perm.trans ?_ hq.symm
  have e : r = r.take m ++ [r[m]'(by omega)] := by
    rw [List.take_append_getElem]
    rw [List.take_of_length_le (by omega)]
  conv => lhs; rw [e]
  exact List.perm_append_singleton _ _
theorem own_set {w : World} {base e size g n cap : Nat} {xs : List Value} {F : Nat} (h : w.ownsRow base e size (.slice (some ⟨g, 0, none⟩) n cap) n xs) (hne : F ≠ g) (j : Nat) (u : Value) : (w.setCell ⟨F, j, none⟩ u).ownsRow base e size (.slice (some ⟨g, 0, none⟩) n cap) n xs :=
  h.kept (row := some F) ⟨rfl, rfl, rfl, by simp, fun k _ hk => Below.heap_setCell _ _ _ _ (fun e => hk (by rw [e]))⟩ (.inr (by simpa [Value.ownBlock] using fun e => hne e.symm))
theorem size69 : (Tryd.prog.info? 192).map (·.size) = some 2 := by kernel_rfl
theorem load_entry {w : World} {g : Nat} {a b : Int} (h0 : w.cell? ⟨g, 0, none⟩ = some (.int .i64 a)) (h1 : w.cell? ⟨g, 1, none⟩ = some (.int .i64 b)) : (loadVar 192 ⟨g, 0, none⟩).run Tryd.prog w = .ok (.agg #[.int .i64 a, .int .i64 b]) w := by
  have := run_loadVar_mid (P := Tryd.prog) w g 0 192 [.int .i64 a, .int .i64 b] _ (by
    intro j v hj
    match j, hj with
    | 0, hj => simp at hj; subst hj; exact h0
    | 1, hj => simp at hj; subst hj; exact h1
    | j + 2, hj => simp at hj) Tryd.underlying192 rfl size69
  exact this
theorem results_entry {fn : Func} {p : Tmp} (h : fn.results = #[.cell p 192]) {tmps : Array Value} {g : Nat} (hp : tmps.getD p undef = .pointer (some ⟨g, 0, none⟩)) {w : World} {a b : Int} (h0 : w.cell? ⟨g, 0, none⟩ = some (.int .i64 a)) (h1 : w.cell? ⟨g, 1, none⟩ = some (.int .i64 b)) : (results fn tmps).run Tryd.prog w = .ok (.agg #[.int .i64 a, .int .i64 b]) w := by
  have e : (results fn tmps).run Tryd.prog w = ((asAddr (tmps.getD p undef)).run Tryd.prog w).andThen fun a w₁ => (loadVar 192 a).run Tryd.prog w₁ := by
    simp only [results, h]
    simp [Sem.run_bind, Result.andThen]
  rw [e, hp]
  simp only [asAddr, Sem.run_pure, Result.andThen_ok]
  exact load_entry h0 h1
theorem three {w : World} {a b c : Obj} {F j : Nat} {v : Value} (hF : F < w.heap.size) : ((((w.alloc a).alloc b).alloc c).setCell ⟨F, j, none⟩ v).drew.heap[w.heap.size]? = some a ∧ ((((w.alloc a).alloc b).alloc c).setCell ⟨F, j, none⟩ v).drew.heap[w.heap.size + 1]? = some b ∧ ((((w.alloc a).alloc b).alloc c).setCell ⟨F, j, none⟩ v).drew.heap[w.heap.size + 1 + 1]? = some c := by
  have e : ∀ k, k ≠ F → ((((w.alloc a).alloc b).alloc c).setCell ⟨F, j, none⟩ v).drew.heap[k]? = (((w.alloc a).alloc b).alloc c).heap[k]? := fun k hk => Below.heap_setCell _ _ _ _ hk
  refine ⟨(e _ (by omega)).trans ?_, (e _ (by omega)).trans ?_, (e _ (by omega)).trans ?_⟩
  · rw [heap_alloc_old _ _ (by simp; omega), heap_alloc_old _ _ (by simp)]; exact heap_alloc_new _ _
  · rw [heap_alloc_old _ _ (by simp)]; simpa using heap_alloc_new (w.alloc a) b
  · simpa using heap_alloc_new ((w.alloc a).alloc b) c
theorem fieldF {w : World} {a b c : Obj} {F : Nat} {a0 a1 a2 v v' : Value} (h : IsF w F a0 a1 a2 v) : IsF ((((w.alloc a).alloc b).alloc c).setCell ⟨F, 3, none⟩ v').drew F a0 a1 a2 v' := by
  have h1 : IsF (((w.alloc a).alloc b).alloc c) F a0 a1 a2 v := h.kept ((((Kp.refl (fun _ => False) w).alloc a).alloc b).alloc c) (fun h => h)
  exact h1.store v'
theorem keptF {w : World} {a b c : Obj} {F g : Nat} {v : Value} : Kp (fun k => k = F ∨ k = g) w ((((w.alloc a).alloc b).alloc c).setCell ⟨F, 3, none⟩ v).drew := by
  have h1 := ((((Kp.refl (fun k => k = F ∨ k = g) w).alloc a).alloc b).alloc c).setCell F 3 v (fun _ => .inl rfl)
  exact ⟨h1.os, h1.tape, h1.output, h1.size, h1.block⟩
theorem popF {w W : World} {F g base n cap : Nat} {q : List (Int × Int)} {a0 a1 a2 v : Value} {x y : Int} (hA : W.heap[w.heap.size]? = some (.cells #[.int .i64 0, .int .i64 0] 192 (0, 0))) (hF : IsF W F a0 a1 a2 v) (hown : W.ownsRow base 192 2 (.slice (some ⟨g, 0, none⟩) n cap) n (fcs q)) (hK : Kp (fun k => k = F ∨ k = g) w W) (h1 : w.heap.size ≠ g) (h2 : F ≠ w.heap.size) :
    ((W.setCell ⟨w.heap.size, 0, none⟩ (.int .i64 x)).setCell ⟨w.heap.size, 1, none⟩ (.int .i64 y)).cell? ⟨w.heap.size, 0, none⟩ = some (.int .i64 x) ∧ ((W.setCell ⟨w.heap.size, 0, none⟩ (.int .i64 x)).setCell ⟨w.heap.size, 1, none⟩ (.int .i64 y)).cell? ⟨w.heap.size, 1, none⟩ = some (.int .i64 y) ∧
    IsF ((W.setCell ⟨w.heap.size, 0, none⟩ (.int .i64 x)).setCell ⟨w.heap.size, 1, none⟩ (.int .i64 y)) F a0 a1 a2 v ∧ ((W.setCell ⟨w.heap.size, 0, none⟩ (.int .i64 x)).setCell ⟨w.heap.size, 1, none⟩ (.int .i64 y)).ownsRow base 192 2 (.slice (some ⟨g, 0, none⟩) n cap) n (fcs q) ∧ Kp (fun k => k = F ∨ k = g) w ((W.setCell ⟨w.heap.size, 0, none⟩ (.int .i64 x)).setCell ⟨w.heap.size, 1, none⟩ (.int .i64 y)) := by
  have e1 := heap_setCell_same W w.heap.size 0 _ 192 (.int .i64 x) hA
  have e2 := heap_setCell_same _ w.heap.size 1 _ 192 (.int .i64 y) e1
  refine ⟨cell_of_row _ _ 0 _ 192 (0, 0) e2, cell_of_row _ _ 1 _ 192 (0, 0) e2, ?_, own_set (own_set hown h1 _ _) h1 _ _, (hK.setCell _ _ _ (fun h => absurd h (Nat.lt_irrefl _))).setCell _ _ _ (fun h => absurd h (Nat.lt_irrefl _))⟩
  show ((W.setCell ⟨w.heap.size, 0, none⟩ (.int .i64 x)).setCell ⟨w.heap.size, 1, none⟩ (.int .i64 y)).heap[F]? = _
  rw [Below.heap_setCell _ _ _ _ h2, Below.heap_setCell _ _ _ _ h2]
  exact hF
theorem popG {w : World} {b c : Obj} {F g base cap : Nat} {es : List (Int × Int)} {a0 a1 a2 v : Value} {x y : Int} (hF : IsF w F a0 a1 a2 v) (hown : w.ownsRow base 192 2 (.slice (some ⟨g, 0, none⟩) (0 + 1) cap) (0 + 1) (fcs es)) (hgF : F ≠ g) (h1 : w.heap.size ≠ g) (hfl : F < w.heap.size) :
    ((((((w.alloc (.cells #[.int .i64 0, .int .i64 0] 192)).alloc b).alloc c).setCell ⟨F, 3, none⟩ (.slice (some ⟨g, 0, none⟩) 0 cap)).setCell ⟨w.heap.size, 0, none⟩ (.int .i64 x)).setCell ⟨w.heap.size, 1, none⟩ (.int .i64 y)).drew.cell? ⟨w.heap.size, 0, none⟩ = some (.int .i64 x) ∧ ((((((w.alloc (.cells #[.int .i64 0, .int .i64 0] 192)).alloc b).alloc c).setCell ⟨F, 3, none⟩ (.slice (some ⟨g, 0, none⟩) 0 cap)).setCell ⟨w.heap.size, 0, none⟩ (.int .i64 x)).setCell ⟨w.heap.size, 1, none⟩ (.int .i64 y)).drew.cell? ⟨w.heap.size, 1, none⟩ = some (.int .i64 y) ∧ IsF ((((((w.alloc (.cells #[.int .i64 0, .int .i64 0] 192)).alloc b).alloc c).setCell ⟨F, 3, none⟩ (.slice (some ⟨g, 0, none⟩) 0 cap)).setCell ⟨w.heap.size, 0, none⟩ (.int .i64 x)).setCell ⟨w.heap.size, 1, none⟩ (.int .i64 y)).drew F a0 a1 a2 (.slice (some ⟨g, 0, none⟩) 0 cap) ∧ ((((((w.alloc (.cells #[.int .i64 0, .int .i64 0] 192)).alloc b).alloc c).setCell ⟨F, 3, none⟩ (.slice (some ⟨g, 0, none⟩) 0 cap)).setCell ⟨w.heap.size, 0, none⟩ (.int .i64 x)).setCell ⟨w.heap.size, 1, none⟩ (.int .i64 y)).drew.ownsRow base 192 2 (.slice (some ⟨g, 0, none⟩) 0 cap) 0 (fcs []) ∧ Kp (fun k => k = F ∨ k = g) w ((((((w.alloc (.cells #[.int .i64 0, .int .i64 0] 192)).alloc b).alloc c).setCell ⟨F, 3, none⟩ (.slice (some ⟨g, 0, none⟩) 0 cap)).setCell ⟨w.heap.size, 0, none⟩ (.int .i64 x)).setCell ⟨w.heap.size, 1, none⟩ (.int .i64 y)).drew :=
  popF (x := x) (y := y) (q := []) (W := ((((w.alloc (.cells #[.int .i64 0, .int .i64 0] 192)).alloc b).alloc c).setCell ⟨F, 3, none⟩ (.slice (some ⟨g, 0, none⟩) 0 cap)).drew) (three hfl).1 (fieldF hF) (own_set ((((shrunk hown).alloc _).alloc _).alloc _) hgF _ _).drew keptF h1 (Nat.ne_of_lt hfl)
theorem sink_n (base g cap n : Nat) (q : List (Int × Int)) (hn : q.length = n) (c s : Int) (w : World) (hown : w.ownsRow base 192 2 (.slice (some ⟨g, 0, none⟩) n cap) n (fcs q)) (hq : 0 < n) (hb : n ≤ 1000000000000) :
    Calls Tryd.prog 102 #[.slice (some ⟨g, 0, none⟩) n cap, .agg #[.int .i64 c, .int .i64 s]] w fun e w' => e = .returned (.tuple #[]) ∧ ∃ q', q'.Perm (q.set 0 (c, s)) ∧ w'.ownsRow base 192 2 (.slice (some ⟨g, 0, none⟩) n cap) n (fcs q') ∧ w.grownBy w' (some g) := by
  subst hn
  exact sink_any base g cap q c s w hown hq hb

set_option maxHeartbeats 2000000 in
set_option maxRecDepth 100000 in
theorem pop_one (F g cap base : Nat) (a0 a1 a2 : Value) (es : List (Int × Int)) (w : World) (hF : IsF w F a0 a1 a2 (.slice (some ⟨g, 0, none⟩) es.length cap)) (hown : w.ownsRow base 192 2 (.slice (some ⟨g, 0, none⟩) es.length cap) es.length (fcs es)) (hb : F < base) (hne : 0 < es.length) (hl : es.length ≤ 1000000000000) :
    Calls Tryd.prog 100 #[.pointer (some ⟨F, 3, none⟩)] w fun e w' => ∃ c s es', e = .returned (.agg #[.int .i64 c, .int .i64 s]) ∧ es.Perm ((c, s) :: es') ∧ IsF w' F a0 a1 a2 (.slice (some ⟨g, 0, none⟩) es'.length cap) ∧ w'.ownsRow base 192 2 (.slice (some ⟨g, 0, none⟩) es'.length cap) es'.length (fcs es') ∧ Kp (fun k => k = F ∨ k = g) w w' := by
  have k3 : w.cell? ⟨F, 3, none⟩ = some (.slice (some ⟨g, 0, none⟩) es.length cap) := hF.cell 3
  have fr := hF.frozen 3
  have hcap : es.length ≤ cap ∧ cap ≤ 9223372036854775807 := by
    rcases hown.2 with ⟨h', _⟩ | ⟨g', cap', cur, hv, _, _, hnc, hcm, _⟩
    · simp at h'
    · simp only [Value.slice.injEq, Option.some.injEq, Addr.mk.injEq, and_true, true_and] at hv
      obtain ⟨rfl, rfl⟩ := hv
      exact ⟨hnc, by unfold maxLen at hcm; omega⟩
  obtain ⟨n, en⟩ : ∃ n, es.length = n + 1 := ⟨es.length - 1, by omega⟩
  have u0 := fcs_at es 0 hne
  have u1 := fcs_at es n (by omega)
  have c0 : w.cell? ⟨g, 0, none⟩ = some (.int .i64 (es[0]).1) := by rw [hown.cellAt _ (by omega)]; exact u0.1
  have c1 : w.cell? ⟨g, 1, none⟩ = some (.int .i64 (es[0]).2) := by rw [hown.cellAt _ (by omega)]; exact u0.2
  have d0 : w.cell? ⟨g, n * 2, none⟩ = some (.int .i64 (es[n]'(by omega)).1) := by rw [hown.cellAt _ (by omega)]; exact u1.1
  have d1 : w.cell? ⟨g, n * 2 + 1, none⟩ = some (.int .i64 (es[n]'(by omega)).2) := by rw [hown.cellAt _ (by omega)]; exact u1.2
  obtain ⟨⟨x0, x1⟩, ex⟩ : ∃ v, es[0] = v := ⟨_, rfl⟩
  obtain ⟨⟨l0, l1⟩, el⟩ : ∃ v, es[n]'(by omega) = v := ⟨_, rfl⟩
  rw [ex] at c0 c1
  rw [el] at d0 d1
  have HX : Hid (es[0] = (x0, x1) ∧ es[n]'(by omega) = (l0, l1)) := ⟨ex, el⟩
  clear u0 u1 ex el
  rw [en] at k3
  have hgl := (hown.lt g rfl).2
  have hfl := hF.lt
  have wr1 : wrap64 ((n : Int) + 1 - 1) = (n : Int) := by unfold wrap64; omega
  have wr2 : IntKind.i64.wrap ((n : Int) + 1 - 1) = (n : Int) := by rw [IntKind.wrap_i64]; omega
  have past : ∀ {a : Nat} {j : Nat} {x : Value}, a < w.heap.size → w.cell? ⟨a, j, none⟩ = some x → (∀ o1, (w.alloc o1).cell? ⟨a, j, none⟩ = some x) ∧ (∀ o1 o2, ((w.alloc o1).alloc o2).cell? ⟨a, j, none⟩ = some x) ∧ ∀ o1 o2 o3, (((w.alloc o1).alloc o2).alloc o3).cell? ⟨a, j, none⟩ = some x := by
    intro a j x ha hx
    have p1 : ∀ o1, (w.alloc o1).cell? ⟨a, j, none⟩ = some x := fun o1 => by rw [World.cell?_alloc_past _ _ _ ha]; exact hx
    have p2 : ∀ o1 o2, ((w.alloc o1).alloc o2).cell? ⟨a, j, none⟩ = some x := fun o1 o2 => by rw [World.cell?_alloc_past _ _ _ (show a < (w.alloc o1).heap.size by simp; omega)]; exact p1 o1
    exact ⟨p1, p2, fun o1 o2 o3 => by rw [World.cell?_alloc_past _ _ _ (show a < ((w.alloc o1).alloc o2).heap.size by simp; omega)]; exact p2 o1 o2⟩
  have d01 := (past hgl d0).1
  have d02 := (past hgl d0).2.1
  have d03 := (past hgl d0).2.2
  have d11 := (past hgl d1).1
  have d12 := (past hgl d1).2.1
  have d13 := (past hgl d1).2.2
  have c01 := (past hgl c0).1
  have c02 := (past hgl c0).2.1
  have c03 := (past hgl c0).2.2
  have c11 := (past hgl c1).1
  have c12 := (past hgl c1).2.1
  have c13 := (past hgl c1).2.2
  clear past
  have k33 : ∀ o1 o2 o3, (((w.alloc o1).alloc o2).alloc o3).cell? ⟨F, 3, none⟩ = some (.slice (some ⟨g, 0, none⟩) (n + 1) cap) := fun o1 o2 o3 => by
    rw [World.cell?_alloc_past _ _ _ (by simp; omega), World.cell?_alloc_past _ _ _ (by simp; omega), World.cell?_alloc_past _ _ _ hfl]; exact k3
  have fr3 : ∀ o1 o2 o3, (((w.alloc o1).alloc o2).alloc o3).frozen? ⟨F, 3, none⟩ = false := fun o1 o2 o3 => by
    rw [((((Below.refl _ w).alloc (Nat.le_refl _) o1).alloc (by simp) o2).alloc (by simp; omega) o3).frozen hfl]; exact fr
  have HO : Hid _ := hown
  have HFF : Hid _ := hF
  have HL : Hid (es.length ≤ 1000000000000) := hl
  have hgF : F ≠ g := by have := (hown.lt g rfl).1; omega
  clear hown hF hl
  have HO2 : Hid (w.ownsRow base 192 2 (.slice (some ⟨g, 0, none⟩) (n + 1) cap) (n + 1) (fcs es)) := by have h := HO.out; rw [en] at h; exact h
  go_enter Tryd.func100, Tryd.ntmps100
  go_wp2
  go_region
  all_goals go_wp2_with (go_at_call 102; refine (sink_n base g cap n (es.take n) (by rw [List.length_take, en]; omega) l0 l1 _ (own_set ((((shrunk HO2.out).alloc _).alloc _).alloc _) hgF _ _).drew (by omega) (by have := HL.out; omega)).mono ?_; rintro e w2 ⟨rfl, q', hq', hown2, hgr2⟩; have zA := (hgr2.block w.heap.size (by simp <;> omega) (by simp <;> omega)).trans (three hfl).1; have zB := (hgr2.block (w.heap.size + 1) (by simp <;> omega) (by simp <;> omega)).trans (three hfl).2.1; have zC := (hgr2.block (w.heap.size + 1 + 1) (by simp <;> omega) (by simp <;> omega)).trans (three hfl).2.2; have zA0 := cell_of_row w2 _ 0 _ 192 (0, 0) zA; have zA1 := cell_of_row w2 _ 1 _ 192 (0, 0) zA; have zB0 := cell_of_row w2 _ 0 _ 192 (0, 0) zB; have zB1 := cell_of_row w2 _ 1 _ 192 (0, 0) zB; have zC0 := cell_of_row w2 _ 0 _ 192 (0, 0) zC; have zC1 := cell_of_row w2 _ 1 _ 192 (0, 0) zC; simp at zA0 zA1 zB0 zB1 zC0 zC1; have fA0 := frozen_of_row w2 _ 0 _ 192 zA; have fA1 := frozen_of_row w2 _ 1 _ 192 zA; have HR : Hid (w2.heap[w.heap.size]? = some (.cells #[.int .i64 0, .int .i64 0] 192 (0, 0)) ∧ IsF w2 F a0 a1 a2 (.slice (some ⟨g, 0, none⟩) n cap) ∧ w2.ownsRow base 192 2 (.slice (some ⟨g, 0, none⟩) n cap) n (fcs q') ∧ Kp (fun k => k = F ∨ k = g) w w2) := ⟨zA, (hgr2.block F (by simp <;> omega) (by simp <;> omega)).trans (fieldF HFF.out), hown2, keptF.grown hgr2 (fun k hk _ => .inr (by simpa using hk.symm))⟩; clear zA zB zC hown2 hgr2)
  all_goals first
    | (have hl2 : q'.length = n := by rw [hq'.length_eq, List.length_set, List.length_take, en]; omega
       have hp := popF (x := x0) (y := x1) HR.out.1 HR.out.2.1 HR.out.2.2.1 HR.out.2.2.2 (by omega) (by omega)
       refine bodyPost_ret (results_entry rfl rfl hp.1 hp.2.1) rfl ⟨x0, x1, q', rfl, ?_, ?_, ?_, hp.2.2.2.2⟩
       · rw [← HX.out.1]
         exact popped en (by omega) (by rw [HX.out.2]; exact hq')
       · rw [hl2]; exact hp.2.2.1
       · rw [hl2]; exact hp.2.2.2.1)
    | skip
  all_goals
      (have hn0 : n = 0 := by omega
       subst hn0
       refine bodyPost_ret (results_entry rfl rfl (popG HFF.out HO2.out hgF (by omega) hfl).1 (popG HFF.out HO2.out hgF (by omega) hfl).2.1) rfl ⟨x0, x1, [], rfl, ?_, (popG HFF.out HO2.out hgF (by omega) hfl).2.2.1, (popG HFF.out HO2.out hgF (by omega) hfl).2.2.2.1, (popG HFF.out HO2.out hgF (by omega) hfl).2.2.2.2⟩
       rw [← HX.out.1]
       obtain ⟨z, rfl⟩ : ∃ z, es = [z] := by
         match es, en with
         | [z], _ => exact ⟨z, rfl⟩
       exact List.Perm.refl _)
end Go.Proofs.YtfjocafepigijaaDoor.Po
