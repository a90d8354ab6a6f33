/- The program's pop: the first entry is handed back; the others stay. Condition: there is one. -/
import Derived.Test.YtfjocafepigijaaDoorSkM
import Derived.Deep.MidRow
import Derived.Deep.RegionLaw
import Derived.Maps.AppendAt
namespace Go.Proofs.YtfjocafepigijaaDoor.Po
open Go.RowKit Mv Qp Sk

/-- the field's block -/
def IsF (w : World) (F : Nat) (a0 a1 a2 v : Value) : Prop := w.heap[F]? = some (.cells #[a0, a1, a2, v] 167 (0, 0))
theorem IsF.lt {w : World} {F : Nat} {a0 a1 a2 v : Value} (h : IsF w F a0 a1 a2 v) : F < w.heap.size := (Array.getElem?_eq_some_iff.1 h).1
theorem IsF.cell {w : World} {F : Nat} {a0 a1 a2 v : Value} (h : IsF w F a0 a1 a2 v) (j : Nat) : w.cell? ⟨F, j, none⟩ = (#[a0, a1, a2, v])[j]? := cell_of_row w F j _ 167 (0, 0) h
theorem IsF.frozen {w : World} {F : Nat} {a0 a1 a2 v : Value} (h : IsF w F a0 a1 a2 v) (j : Nat) : w.frozen? ⟨F, j, none⟩ = false := frozen_of_row w F j _ 167 h
theorem IsF.store {w : World} {F : Nat} {a0 a1 a2 v : Value} (h : IsF w F a0 a1 a2 v) (v' : Value) : IsF (w.setCell ⟨F, 3, none⟩ v') F a0 a1 a2 v' := heap_setCell_same w F 3 _ 167 v' h

/-- nothing but these blocks has changed, of those that were there -/
structure Kp (X : Nat → Prop) (w w' : World) : Prop where
  os : w'.os = w.os
  tape : w'.tape = w.tape
  output : w'.output = w.output
  size : w.heap.size ≤ w'.heap.size
  block : ∀ k, k < w.heap.size → ¬ X k → w'.heap[k]? = w.heap[k]?

theorem Kp.refl (X : Nat → Prop) (w : World) : Kp X w w := ⟨rfl, rfl, rfl, Nat.le_refl _, fun _ _ _ => rfl⟩
theorem Kp.trans {X : Nat → Prop} {a b c : World} (h : Kp X a b) (k : Kp X b c) : Kp X a c :=
  ⟨k.os.trans h.os, k.tape.trans h.tape, k.output.trans h.output, Nat.le_trans h.size k.size, fun i hi hx => (k.block i (Nat.lt_of_lt_of_le hi h.size) hx).trans (h.block i hi hx)⟩
theorem Kp.mono {X Y : Nat → Prop} {a b : World} (h : Kp X a b) (hXY : ∀ k, k < a.heap.size → X k → Y k) : Kp Y a b :=
  ⟨h.os, h.tape, h.output, h.size, fun k hk hy => h.block k hk (fun hx => hy (hXY k hk hx))⟩
theorem Kp.alloc {X : Nat → Prop} {a w : World} (h : Kp X a w) (o : Obj) : Kp X a (w.alloc o) :=
  h.trans ⟨rfl, rfl, rfl, by simp, fun k hk _ => heap_alloc_old w o hk⟩
theorem Kp.drewN {X : Nat → Prop} {a w : World} (h : Kp X a w) (d : Nat) : Kp X a (w.drewN d) := ⟨h.os, h.tape, h.output, h.size, h.block⟩
theorem Kp.grown {X : Nat → Prop} {a w w' : World} {row : Option Nat} (h : Kp X a w) (hg : w.grownBy w' row) (hX : ∀ k, row = some k → k < a.heap.size → X k) : Kp X a w' :=
  ⟨hg.os.trans h.os, hg.tape.trans h.tape, hg.output.trans h.output, Nat.le_trans h.size hg.size, fun k hk hx => (hg.block k (Nat.lt_of_lt_of_le hk h.size) (fun e => hx (hX k e.symm hk))).trans (h.block k hk hx)⟩
theorem Kp.setCell {X : Nat → Prop} {a w : World} (h : Kp X a w) (b j : Nat) (u : Value) (hX : b < a.heap.size → X b) : Kp X a (w.setCell ⟨b, j, none⟩ u) := by
  refine ⟨h.os, h.tape, h.output, ?_, fun k hk hx => ?_⟩
  · have := h.size
    simp
    omega
  · rw [Below.heap_setCell _ _ _ _ (fun e => by subst e; exact hx (hX hk))]
    exact h.block k hk hx
theorem Kp.cell {X : Nat → Prop} {w w' : World} (h : Kp X w w') {b j : Nat} (hb : b < w.heap.size) (hx : ¬ X b) : w'.cell? ⟨b, j, none⟩ = w.cell? ⟨b, j, none⟩ := World.cell?_of_block (w := w) (h.block b hb hx)
theorem IsF.kept {w w' : World} {F : Nat} {a0 a1 a2 v : Value} (h : IsF w F a0 a1 a2 v) {X : Nat → Prop} (hk : Kp X w w') (hx : ¬ X F) : IsF w' F a0 a1 a2 v := (hk.block F h.lt hx).trans h
/-- a row with one element less -/
theorem shrunk {w : World} {base e g n cap : Nat} {p : List (Int × Int)} (h : w.ownsRow base e 2 (.slice (some ⟨g, 0, none⟩) (n + 1) cap) (n + 1) (fcs p)) : w.ownsRow base e 2 (.slice (some ⟨g, 0, none⟩) n cap) n (fcs (p.take n)) := by
  have hl : p.length = n + 1 := by have := h.1; rw [fcs_length] at this; omega
  rcases h.2 with ⟨h', _⟩ | ⟨g', cap', cur, hv, hb, hg, hnc, hcm, hcs, htake⟩
  · simp at h'
  · simp only [Value.slice.injEq, Option.some.injEq, Addr.mk.injEq, and_true, true_and] at hv
    obtain ⟨rfl, rfl⟩ := hv
    refine ⟨by rw [fcs_length, List.length_take, hl]; simp, .inr ⟨g, cap, cur, rfl, hb, hg, by omega, hcm, hcs, ?_⟩⟩
    have e1 : fcs (p.take n) = (fcs p).take (n * 2) := by
      clear hl h htake hg hcs hcm hnc hb
      induction p generalizing n with
      | nil => simp [fcs]
      | cons x p ih =>
        cases n with
        | zero => simp [fcs]
        | succ n =>
          have e2 : ∀ m : List (Int × Int), fcs (x :: m) = .int .i64 x.1 :: .int .i64 x.2 :: fcs m := fun m => rfl
          have e3 : (n + 1) * 2 = n * 2 + 1 + 1 := by omega
          rw [List.take_succ_cons, e2, e2, e3, List.take_succ_cons, List.take_succ_cons, ih]
    rw [e1, ← htake, List.take_take]
    congr 1
    omega
theorem popped {es : List (Int × Int)} {n : Nat} (hn : es.length = n + 1) (h0 : 0 < n) {q : List (Int × Int)} (hq : q.Perm ((es.take n).set 0 (es[n]'(by omega)))) : es.Perm (es[0]'(by omega) :: q) := by
  obtain ⟨x, r, rfl⟩ : ∃ x r, es = x :: r := by cases es with | nil => simp at hn | cons x r => exact ⟨x, r, rfl⟩
  obtain ⟨m, rfl⟩ : ∃ m, n = m + 1 := ⟨n - 1, by omega⟩
  simp only [List.length_cons, Nat.add_right_cancel_iff] at hn
  simp only [List.take_succ_cons, List.set_cons_zero, List.getElem_cons_succ, List.getElem_cons_zero] at hq ⊢
  refine List.Perm.cons x ?_
  refine List.Perm.trans ?_ hq.symm
  have e : r = r.take m ++ [r[m]'(by omega)] := by
    rw [List.take_append_getElem]
    rw [List.take_of_length_le (by omega)]
  conv => lhs; rw [e]
  exact List.perm_append_singleton _ _
theorem own_set {w : World} {base e size g n cap : Nat} {xs : List Value} {F : Nat} (h : w.ownsRow base e size (.slice (some ⟨g, 0, none⟩) n cap) n xs) (hne : F ≠ g) (j : Nat) (u : Value) : (w.setCell ⟨F, j, none⟩ u).ownsRow base e size (.slice (some ⟨g, 0, none⟩) n cap) n xs :=
  h.kept (row := some F) ⟨rfl, rfl, rfl, by simp, fun k _ hk => Below.heap_setCell _ _ _ _ (fun e => hk (by rw [e]))⟩ (.inr (by simpa [Value.ownBlock] using fun e => hne e.symm))
theorem size69 : (Tryd.prog.info? 192).map (·.size) = some 2 := by kernel_rfl
theorem load_entry {w : World} {g : Nat} {a b : Int} (h0 : w.cell? ⟨g, 0, none⟩ = some (.int .i64 a)) (h1 : w.cell? ⟨g, 1, none⟩ = some (.int .i64 b)) : (loadVar 192 ⟨g, 0, none⟩).run Tryd.prog w = .ok (.agg #[.int .i64 a, .int .i64 b]) w := by
  have := run_loadVar_mid (P := Tryd.prog) w g 0 192 [.int .i64 a, .int .i64 b] _ (by
    intro j v hj
    match j, hj with
    | 0, hj => simp at hj; subst hj; exact h0
    | 1, hj => simp at hj; subst hj; exact h1
    | j + 2, hj => simp at hj) Tryd.underlying192 rfl size69
  exact this
theorem results_entry {fn : Func} {p : Tmp} (h : fn.results = #[.cell p 192]) {tmps : Array Value} {g : Nat} (hp : tmps.getD p undef = .pointer (some ⟨g, 0, none⟩)) {w : World} {a b : Int} (h0 : w.cell? ⟨g, 0, none⟩ = some (.int .i64 a)) (h1 : w.cell? ⟨g, 1, none⟩ = some (.int .i64 b)) : (results fn tmps).run Tryd.prog w = .ok (.agg #[.int .i64 a, .int .i64 b]) w := by
  have e : (results fn tmps).run Tryd.prog w = ((asAddr (tmps.getD p undef)).run Tryd.prog w).andThen fun a w₁ => (loadVar 192 a).run Tryd.prog w₁ := by
    simp only [results, h]
    simp [Sem.run_bind, Result.andThen]
  rw [e, hp]
  simp only [asAddr, Sem.run_pure, Result.andThen_ok]
  exact load_entry h0 h1
theorem three {w : World} {a b c : Obj} {F j : Nat} {v : Value} (hF : F < w.heap.size) : ((((w.alloc a).alloc b).alloc c).setCell ⟨F, j, none⟩ v).drew.heap[w.heap.size]? = some a ∧ ((((w.alloc a).alloc b).alloc c).setCell ⟨F, j, none⟩ v).drew.heap[w.heap.size + 1]? = some b ∧ ((((w.alloc a).alloc b).alloc c).setCell ⟨F, j, none⟩ v).drew.heap[w.heap.size + 1 + 1]? = some c := by
  have e : ∀ k, k ≠ F → ((((w.alloc a).alloc b).alloc c).setCell ⟨F, j, none⟩ v).drew.heap[k]? = (((w.alloc a).alloc b).alloc c).heap[k]? := fun k hk => Below.heap_setCell _ _ _ _ hk
  refine ⟨(e _ (by omega)).trans ?_, (e _ (by omega)).trans ?_, (e _ (by omega)).trans ?_⟩
  · rw [heap_alloc_old _ _ (by simp; omega), heap_alloc_old _ _ (by simp)]; exact heap_alloc_new _ _
  · rw [heap_alloc_old _ _ (by simp)]; simpa using heap_alloc_new (w.alloc a) b
  · simpa using heap_alloc_new ((w.alloc a).alloc b) c
theorem fieldF {w : World} {a b c : Obj} {F : Nat} {a0 a1 a2 v v' : Value} (h : IsF w F a0 a1 a2 v) : IsF ((((w.alloc a).alloc b).alloc c).setCell ⟨F, 3, none⟩ v').drew F a0 a1 a2 v' := by
  have h1 : IsF (((w.alloc a).alloc b).alloc c) F a0 a1 a2 v := h.kept ((((Kp.refl (fun _ => False) w).alloc a).alloc b).alloc c) (fun h => h)
  exact h1.store v'
theorem keptF {w : World} {a b c : Obj} {F g : Nat} {v : Value} : Kp (fun k => k = F ∨ k = g) w ((((w.alloc a).alloc b).alloc c).setCell ⟨F, 3, none⟩ v).drew := by
  have h1 := ((((Kp.refl (fun k => k = F ∨ k = g) w).alloc a).alloc b).alloc c).setCell F 3 v (fun _ => .inl rfl)
  exact ⟨h1.os, h1.tape, h1.output, h1.size, h1.block⟩
theorem popF {w W : World} {F g base n cap : Nat} {q : List (Int × Int)} {a0 a1 a2 v : Value} {x y : Int} (hA : W.heap[w.heap.size]? = some (.cells #[.int .i64 0, .int .i64 0] 192 (0, 0))) (hF : IsF W F a0 a1 a2 v) (hown : W.ownsRow base 192 2 (.slice (some ⟨g, 0, none⟩) n cap) n (fcs q)) (hK : Kp (fun k => k = F ∨ k = g) w W) (h1 : w.heap.size ≠ g) (h2 : F ≠ w.heap.size) :
    ((W.setCell ⟨w.heap.size, 0, none⟩ (.int .i64 x)).setCell ⟨w.heap.size, 1, none⟩ (.int .i64 y)).cell? ⟨w.heap.size, 0, none⟩ = some (.int .i64 x) ∧ ((W.setCell ⟨w.heap.size, 0, none⟩ (.int .i64 x)).setCell ⟨w.heap.size, 1, none⟩ (.int .i64 y)).cell? ⟨w.heap.size, 1, none⟩ = some (.int .i64 y) ∧
    IsF ((W.setCell ⟨w.heap.size, 0, none⟩ (.int .i64 x)).setCell ⟨w.heap.size, 1, none⟩ (.int .i64 y)) F a0 a1 a2 v ∧ ((W.setCell ⟨w.heap.size, 0, none⟩ (.int .i64 x)).setCell ⟨w.heap.size, 1, none⟩ (.int .i64 y)).ownsRow base 192 2 (.slice (some ⟨g, 0, none⟩) n cap) n (fcs q) ∧ Kp (fun k => k = F ∨ k = g) w ((W.setCell ⟨w.heap.size, 0, none⟩ (.int .i64 x)).setCell ⟨w.heap.size, 1, none⟩ (.int .i64 y)) := by
  have e1 := heap_setCell_same W w.heap.size 0 _ 192 (.int .i64 x) hA
  have e2 := heap_setCell_same _ w.heap.size 1 _ 192 (.int .i64 y) e1
  refine ⟨cell_of_row _ _ 0 _ 192 (0, 0) e2, cell_of_row _ _ 1 _ 192 (0, 0) e2, ?_, own_set (own_set hown h1 _ _) h1 _ _, (hK.setCell _ _ _ (fun h => absurd h (Nat.lt_irrefl _))).setCell _ _ _ (fun h => absurd h (Nat.lt_irrefl _))⟩
  show ((W.setCell ⟨w.heap.size, 0, none⟩ (.int .i64 x)).setCell ⟨w.heap.size, 1, none⟩ (.int .i64 y)).heap[F]? = _
  rw [Below.heap_setCell _ _ _ _ h2, Below.heap_setCell _ _ _ _ h2]
  exact hF
theorem popG {w : World} {b c : Obj} {F g base cap : Nat} {es : List (Int × Int)} {a0 a1 a2 v : Value} {x y : Int} (hF : IsF w F a0 a1 a2 v) (hown : w.ownsRow base 192 2 (.slice (some ⟨g, 0, none⟩) (0 + 1) cap) (0 + 1) (fcs es)) (hgF : F ≠ g) (h1 : w.heap.size ≠ g) (hfl : F < w.heap.size) :
    ((((((w.alloc (.cells #[.int .i64 0, .int .i64 0] 192)).alloc b).alloc c).setCell ⟨F, 3, none⟩ (.slice (some ⟨g, 0, none⟩) 0 cap)).setCell ⟨w.heap.size, 0, none⟩ (.int .i64 x)).setCell ⟨w.heap.size, 1, none⟩ (.int .i64 y)).drew.cell? ⟨w.heap.size, 0, none⟩ = some (.int .i64 x) ∧ ((((((w.alloc (.cells #[.int .i64 0, .int .i64 0] 192)).alloc b).alloc c).setCell ⟨F, 3, none⟩ (.slice (some ⟨g, 0, none⟩) 0 cap)).setCell ⟨w.heap.size, 0, none⟩ (.int .i64 x)).setCell ⟨w.heap.size, 1, none⟩ (.int .i64 y)).drew.cell? ⟨w.heap.size, 1, none⟩ = some (.int .i64 y) ∧ IsF ((((((w.alloc (.cells #[.int .i64 0, .int .i64 0] 192)).alloc b).alloc c).setCell ⟨F, 3, none⟩ (.slice (some ⟨g, 0, none⟩) 0 cap)).setCell ⟨w.heap.size, 0, none⟩ (.int .i64 x)).setCell ⟨w.heap.size, 1, none⟩ (.int .i64 y)).drew F a0 a1 a2 (.slice (some ⟨g, 0, none⟩) 0 cap) ∧ ((((((w.alloc (.cells #[.int .i64 0, .int .i64 0] 192)).alloc b).alloc c).setCell ⟨F, 3, none⟩ (.slice (some ⟨g, 0, none⟩) 0 cap)).setCell ⟨w.heap.size, 0, none⟩ (.int .i64 x)).setCell ⟨w.heap.size, 1, none⟩ (.int .i64 y)).drew.ownsRow base 192 2 (.slice (some ⟨g, 0, none⟩) 0 cap) 0 (fcs []) ∧ Kp (fun k => k = F ∨ k = g) w ((((((w.alloc (.cells #[.int .i64 0, .int .i64 0] 192)).alloc b).alloc c).setCell ⟨F, 3, none⟩ (.slice (some ⟨g, 0, none⟩) 0 cap)).setCell ⟨w.heap.size, 0, none⟩ (.int .i64 x)).setCell ⟨w.heap.size, 1, none⟩ (.int .i64 y)).drew :=
  popF (x := x) (y := y) (q := []) (W := ((((w.alloc (.cells #[.int .i64 0, .int .i64 0] 192)).alloc b).alloc c).setCell ⟨F, 3, none⟩ (.slice (some ⟨g, 0, none⟩) 0 cap)).drew) (three hfl).1 (fieldF hF) (own_set ((((shrunk hown).alloc _).alloc _).alloc _) hgF _ _).drew keptF h1 (Nat.ne_of_lt hfl)
theorem sink_n (base g cap n : Nat) (q : List (Int × Int)) (hn : q.length = n) (c s : Int) (w : World) (hown : w.ownsRow base 192 2 (.slice (some ⟨g, 0, none⟩) n cap) n (fcs q)) (hq : 0 < n) (hb : n ≤ 1000000000000) :
    Calls Tryd.prog 102 #[.slice (some ⟨g, 0, none⟩) n cap, .agg #[.int .i64 c, .int .i64 s]] w fun e w' => e = .returned (.tuple #[]) ∧ ∃ q', q'.Perm (q.set 0 (c, s)) ∧ w'.ownsRow base 192 2 (.slice (some ⟨g, 0, none⟩) n cap) n (fcs q') ∧ w.grownBy w' (some g) := by
  subst hn
  exact sink_any base g cap q c s w hown hq hb

set_option maxHeartbeats 2000000 in
set_option maxRecDepth 100000 in
theorem pop_one (F g cap base : Nat) (a0 a1 a2 : Value) (es : List (Int × Int)) (w : World) (hF : IsF w F a0 a1 a2 (.slice (some ⟨g, 0, none⟩) es.length cap)) (hown : w.ownsRow base 192 2 (.slice (some ⟨g, 0, none⟩) es.length cap) es.length (fcs es)) (hb : F < base) (hne : 0 < es.length) (hl : es.length ≤ 1000000000000) :
    Calls Tryd.prog 100 #[.pointer (some ⟨F, 3, none⟩)] w fun e w' => ∃ c s es', e = .returned (.agg #[.int .i64 c, .int .i64 s]) ∧ es.Perm ((c, s) :: es') ∧ IsF w' F a0 a1 a2 (.slice (some ⟨g, 0, none⟩) es'.length cap) ∧ w'.ownsRow base 192 2 (.slice (some ⟨g, 0, none⟩) es'.length cap) es'.length (fcs es') ∧ Kp (fun k => k = F ∨ k = g) w w' := by
  have k3 : w.cell? ⟨F, 3, none⟩ = some (.slice (some ⟨g, 0, none⟩) es.length cap) := hF.cell 3
  have fr := hF.frozen 3
  have hcap : es.length ≤ cap ∧ cap ≤ 9223372036854775807 := by
    rcases hown.2 with ⟨h', _⟩ | ⟨g', cap', cur, hv, _, _, hnc, hcm, _⟩
    · simp at h'
    · simp only [Value.slice.injEq, Option.some.injEq, Addr.mk.injEq, and_true, true_and] at hv
      obtain ⟨rfl, rfl⟩ := hv
      exact ⟨hnc, by unfold maxLen at hcm; omega⟩
  obtain ⟨n, en⟩ : ∃ n, es.length = n + 1 := ⟨es.length - 1, by omega⟩
  have u0 := fcs_at es 0 hne
  have u1 := fcs_at es n (by omega)
  have c0 : w.cell? ⟨g, 0, none⟩ = some (.int .i64 (es[0]).1) := by rw [hown.cellAt _ (by omega)]; exact u0.1
  have c1 : w.cell? ⟨g, 1, none⟩ = some (.int .i64 (es[0]).2) := by rw [hown.cellAt _ (by omega)]; exact u0.2
  have d0 : w.cell? ⟨g, n * 2, none⟩ = some (.int .i64 (es[n]'(by omega)).1) := by rw [hown.cellAt _ (by omega)]; exact u1.1
  have d1 : w.cell? ⟨g, n * 2 + 1, none⟩ = some (.int .i64 (es[n]'(by omega)).2) := by rw [hown.cellAt _ (by omega)]; exact u1.2
  obtain ⟨⟨x0, x1⟩, ex⟩ : ∃ v, es[0] = v := ⟨_, rfl⟩
  obtain ⟨⟨l0, l1⟩, el⟩ : ∃ v, es[n]'(by omega) = v := ⟨_, rfl⟩
  rw [ex] at c0 c1
  rw [el] at d0 d1
  have HX : Hid (es[0] = (x0, x1) ∧ es[n]'(by omega) = (l0, l1)) := ⟨ex, el⟩
  clear u0 u1 ex el
  rw [en] at k3
  have hgl := (hown.lt g rfl).2
  have hfl := hF.lt
  have wr1 : wrap64 ((n : Int) + 1 - 1) = (n : Int) := by unfold wrap64; omega
  have wr2 : IntKind.i64.wrap ((n : Int) + 1 - 1) = (n : Int) := by rw [IntKind.wrap_i64]; omega
  have past : ∀ {a : Nat} {j : Nat} {x : Value}, a < w.heap.size → w.cell? ⟨a, j, none⟩ = some x → (∀ o1, (w.alloc o1).cell? ⟨a, j, none⟩ = some x) ∧ (∀ o1 o2, ((w.alloc o1).alloc o2).cell? ⟨a, j, none⟩ = some x) ∧ ∀ o1 o2 o3, (((w.alloc o1).alloc o2).alloc o3).cell? ⟨a, j, none⟩ = some x := by
    intro a j x ha hx
    have p1 : ∀ o1, (w.alloc o1).cell? ⟨a, j, none⟩ = some x := fun o1 => by rw [World.cell?_alloc_past _ _ _ ha]; exact hx
    have p2 : ∀ o1 o2, ((w.alloc o1).alloc o2).cell? ⟨a, j, none⟩ = some x := fun o1 o2 => by rw [World.cell?_alloc_past _ _ _ (show a < (w.alloc o1).heap.size by simp; omega)]; exact p1 o1
    exact ⟨p1, p2, fun o1 o2 o3 => by rw [World.cell?_alloc_past _ _ _ (show a < ((w.alloc o1).alloc o2).heap.size by simp; omega)]; exact p2 o1 o2⟩
  have d01 := (past hgl d0).1
  have d02 := (past hgl d0).2.1
  have d03 := (past hgl d0).2.2
  have d11 := (past hgl d1).1
  have d12 := (past hgl d1).2.1
  have d13 := (past hgl d1).2.2
  have c01 := (past hgl c0).1
  have c02 := (past hgl c0).2.1
  have c03 := (past hgl c0).2.2
  have c11 := (past hgl c1).1
  have c12 := (past hgl c1).2.1
  have c13 := (past hgl c1).2.2
  clear past
  have k33 : ∀ o1 o2 o3, (((w.alloc o1).alloc o2).alloc o3).cell? ⟨F, 3, none⟩ = some (.slice (some ⟨g, 0, none⟩) (n + 1) cap) := fun o1 o2 o3 => by
    rw [World.cell?_alloc_past _ _ _ (by simp; omega), World.cell?_alloc_past _ _ _ (by simp; omega), World.cell?_alloc_past _ _ _ hfl]; exact k3
  have fr3 : ∀ o1 o2 o3, (((w.alloc o1).alloc o2).alloc o3).frozen? ⟨F, 3, none⟩ = false := fun o1 o2 o3 => by
    rw [((((Below.refl _ w).alloc (Nat.le_refl _) o1).alloc (by simp) o2).alloc (by simp; omega) o3).frozen hfl]; exact fr
  have HO : Hid _ := hown
  have HFF : Hid _ := hF
  have HL : Hid (es.length ≤ 1000000000000) := hl
  have hgF : F ≠ g := by have := (hown.lt g rfl).1; omega
  clear hown hF hl
  have HO2 : Hid (w.ownsRow base 192 2 (.slice (some ⟨g, 0, none⟩) (n + 1) cap) (n + 1) (fcs es)) := by have h := HO.out; rw [en] at h; exact h
  go_enter Tryd.func100, Tryd.ntmps100
  go_wp2
  go_region
  all_goals go_wp2_with (go_at_call 102; refine (sink_n base g cap n (es.take n) (by rw [List.length_take, en]; omega) l0 l1 _ (own_set ((((shrunk HO2.out).alloc _).alloc _).alloc _) hgF _ _).drew (by omega) (by have := HL.out; omega)).mono ?_; rintro e w2 ⟨rfl, q', hq', hown2, hgr2⟩; have zA := (hgr2.block w.heap.size (by simp <;> omega) (by simp <;> omega)).trans (three hfl).1; have zB := (hgr2.block (w.heap.size + 1) (by simp <;> omega) (by simp <;> omega)).trans (three hfl).2.1; have zC := (hgr2.block (w.heap.size + 1 + 1) (by simp <;> omega) (by simp <;> omega)).trans (three hfl).2.2; have zA0 := cell_of_row w2 _ 0 _ 192 (0, 0) zA; have zA1 := cell_of_row w2 _ 1 _ 192 (0, 0) zA; have zB0 := cell_of_row w2 _ 0 _ 192 (0, 0) zB; have zB1 := cell_of_row w2 _ 1 _ 192 (0, 0) zB; have zC0 := cell_of_row w2 _ 0 _ 192 (0, 0) zC; have zC1 := cell_of_row w2 _ 1 _ 192 (0, 0) zC; simp at zA0 zA1 zB0 zB1 zC0 zC1; have fA0 := frozen_of_row w2 _ 0 _ 192 zA; have fA1 := frozen_of_row w2 _ 1 _ 192 zA; have HR : Hid (w2.heap[w.heap.size]? = some (.cells #[.int .i64 0, .int .i64 0] 192 (0, 0)) ∧ IsF w2 F a0 a1 a2 (.slice (some ⟨g, 0, none⟩) n cap) ∧ w2.ownsRow base 192 2 (.slice (some ⟨g, 0, none⟩) n cap) n (fcs q') ∧ Kp (fun k => k = F ∨ k = g) w w2) := ⟨zA, (hgr2.block F (by simp <;> omega) (by simp <;> omega)).trans (fieldF HFF.out), hown2, keptF.grown hgr2 (fun k hk _ => .inr (by simpa using hk.symm))⟩; clear zA zB zC hown2 hgr2)
  all_goals first
    | (have hl2 : q'.length = n := by rw [hq'.length_eq, List.length_set, List.length_take, en]; omega
       have hp := popF (x := x0) (y := x1) HR.out.1 HR.out.2.1 HR.out.2.2.1 HR.out.2.2.2 (by omega) (by omega)
       refine bodyPost_ret (results_entry rfl rfl hp.1 hp.2.1) rfl ⟨x0, x1, q', rfl, ?_, ?_, ?_, hp.2.2.2.2⟩
       · rw [← HX.out.1]
         exact popped en (by omega) (by rw [HX.out.2]; exact hq')
       · rw [hl2]; exact hp.2.2.1
       · rw [hl2]; exact hp.2.2.2.1)
    | skip
  all_goals
      (have hn0 : n = 0 := by omega
       subst hn0
       refine bodyPost_ret (results_entry rfl rfl (popG HFF.out HO2.out hgF (by omega) hfl).1 (popG HFF.out HO2.out hgF (by omega) hfl).2.1) rfl ⟨x0, x1, [], rfl, ?_, (popG HFF.out HO2.out hgF (by omega) hfl).2.2.1, (popG HFF.out HO2.out hgF (by omega) hfl).2.2.2.1, (popG HFF.out HO2.out hgF (by omega) hfl).2.2.2.2⟩
       rw [← HX.out.1]
       obtain ⟨z, rfl⟩ : ∃ z, es = [z] := by
         match es, en with
         | [z], _ => exact ⟨z, rfl⟩
       exact List.Perm.refl _)
end Go.Proofs.YtfjocafepigijaaDoor.Po
/- The program's push: an entry more. Condition: there are fewer than a million. -/
namespace Go.Proofs.YtfjocafepigijaaDoor.Ps
open Go.RowKit Mv Qp Sk Po

/-- an append onto an owned row, as one step of a region that draws its order; where what comes lies -/
theorem step_append_at {P : Program} {ops : Array Oper} {o : Oper} {a : Act} {w : World} {K : Act → World → Prop} {Q : Exit → Act → World → Prop} {E : Prop}
  (hgd : o.guard = none) (s x : Operand) (t : TypeId) (ho : o.op = .call { callee := .builtin .append, args := #[s, x], argTypes := #[t, t] })
  (base : Nat) (e : TypeId) (i : TypeInfo) (z : Value) (size bytes : Nat) (ht : P.underlying t = some (.slice e)) (hi : P.info? e = some i) (hz : i.zero = some z)
  (hsize : i.size = size) (hby : i.bytes = bytes) (hzs : z.cells.size = size) (hsz : 0 < size)
  (v : Value) (n : Nat) (xs : List Value) (hs : a.eval s = v) (hown : w.ownsRow base e size v n xs)
  (ad : Addr) (m c : Nat) (news : List Value) (hx : a.eval x = .slice (some ad) m c) (hl : news.length = m * size) (hnews : ∀ j u, news[j]? = some u → w.cell? (ad.add j) = some u) (h1 : ∀ u ∈ news, u.oneCell' = true)
  (h63 : n + m ≤ maxLen) (hbytes : (n + m) * bytes ≤ 140737488355328) (hbase : base ≤ w.heap.size)
  (h : ∀ v' w', w'.ownsRow base e size v' (n + m) (xs ++ news) → w.grownBy w' v.ownBlock → (v'.ownBlock = v.ownBlock ∨ v'.ownBlock = some w.heap.size) → K (a.put o.dst v') w') :
  if Region.wanted o (yielded ops a.tmps) = true then Oper.wp P o a w K Q else E := by
 have hw : Region.wanted o (yielded ops a.tmps) = true := by simp [Region.wanted, hgd]
 rw [if_pos hw]
 obtain ⟨v', w', hr, h2, h3, h4, h5⟩ := run_append_own_at (P := P) w base t o.type e i z size bytes ht hi hz hsize hby hzs hsz v n xs hown ad m c news hl hnews h1 h63 hbytes hbase
 unfold Oper.wp execOp
 simp only [ho, resolve, invoke, builtin, Sem.run_bind, Sem.run_pure, Result.andThen_ok, List.map_toArray, List.map_cons, List.map_nil, hs, hx, hr]
 exact h v' w' h2 h3 h5

theorem own_some {w : World} {base e size n : Nat} {v : Value} {xs : List Value} (h : w.ownsRow base e size v n xs) (hn : 0 < n) : ∃ g cap, v = .slice (some ⟨g, 0, none⟩) n cap ∧ base ≤ g ∧ g < w.heap.size := by
 rcases h.2 with ⟨_, h0⟩ | ⟨g, cap, cur, hv, hb, hg, _⟩
 ·omega
 ·exact ⟨g, cap, hv, hb, (Array.getElem?_eq_some_iff.1 hg).1⟩
theorem two_one (a b : Int) : ∀ x ∈ [Value.int .i64 a, .int .i64 b], x.oneCell' = true := by
 intro x hx
 simp at hx
 rcases hx with rfl | rfl <;> rfl
theorem cell_two_at (w : World) (g : Nat) (a b : Value) (t : TypeId) (hg : g = w.heap.size) : ∀ j u, [a, b][j]? = some u → (w.alloc (.cells #[a, b] t)).cell? ((⟨g, 0, none⟩ : Addr).add j) = some u := by
 intro j u hj
 subst hg
 match j, hj with
 | 0, hj => simp at hj; subst hj; simp [Addr.add]
 | 1, hj => simp at hj; subst hj; simp [Addr.add]
theorem info69 : (Tryd.prog.info? 192).map (fun i => (i.zero, i.size, i.bytes)) = some (some (.agg #[.int .i64 0, .int .i64 0]), 2, 16) := by kernel_rfl
theorem fcs_snoc (l : List (Int × Int)) (c s : Int) : fcs l ++ [.int .i64 c, .int .i64 s] = fcs (l ++ [(c, s)]) := by simp [fcs, fc]

theorem kept2 {w w1 : World} {a b : Obj} {row : Option Nat} (h : ((w.alloc a).alloc b).drew.grownBy w1 row) {F : Nat} (_ : row = some F → False) : (∀ k, k < w.heap.size → some k ≠ row → w1.cell? ⟨k, 3, none⟩ = w.cell? ⟨k, 3, none⟩) ∧ ∀ {a0 a1 a2 v : Value}, IsF w F a0 a1 a2 v → row ≠ some F → w1.frozen? ⟨F, 3, none⟩ = false := by
 have e : ∀ k, k < w.heap.size → some k ≠ row → w1.heap[k]? = w.heap[k]? := fun k hk hne => by
  rw [h.block k (by simp; omega) hne]
  show ((w.alloc a).alloc b).heap[k]? = _
  rw [heap_alloc_old _ _ (by simp; omega), heap_alloc_old _ _ hk]
 exact ⟨fun k hk hne => World.cell?_of_block (w := w) (e k hk hne), fun hF hne => frozen_of_row w1 F 3 _ 167 ((e F hF.lt (fun h => hne h.symm)).trans hF)⟩

/-- what stands beside the row while an entry is laid into it -/
structure Side (w wr : World) (F : Nat) (a0 a1 a2 v : Value) (c s : Int) (X : Nat → Prop) : Prop where
 box : wr.heap[w.heap.size]? = some (.cells #[.int .i64 c, .int .i64 s] 192 (0, 0))
 field : IsF wr F a0 a1 a2 v
 kept : Kp X w wr
theorem begun {w w1 : World} {F g base n cap : Nat} {a0 a1 a2 v : Value} {c s : Int} {xs : List Value} (h : ((w.alloc (.cells #[.int .i64 c, .int .i64 s] 192)).alloc (.cells #[.int .i64 c, .int .i64 s] 192)).drew.grownBy w1 v.ownBlock) (hF : IsF w F a0 a1 a2 v) (hown : w.ownsRow base 192 2 v n xs) (hvF : v.ownBlock ≠ some F) : Side w (w1.setCell ⟨F, 3, none⟩ (.slice (some ⟨g, 0, none⟩) (n + 1) cap)) F a0 a1 a2 (.slice (some ⟨g, 0, none⟩) (n + 1) cap) c s (fun k => k = F ∨ v.ownBlock = some k) := by
 have e : ∀ k, k < w.heap.size + 1 → some k ≠ v.ownBlock → w1.heap[k]? = (w.alloc (.cells #[.int .i64 c, .int .i64 s] 192)).heap[k]? := fun k hk hne => by
  rw [h.block k (by simp; omega) hne]
  show ((w.alloc _).alloc _).heap[k]? = _
  rw [heap_alloc_old _ _ (by simp; omega)]
 have hfl := hF.lt
 refine ⟨?_, ?_, ?_⟩
 ·rw [Below.heap_setCell _ _ _ _ (by simp; omega), e _ (by omega) (fun h2 => by have := (hown.lt _ h2.symm).2; omega)]
  exact heap_alloc_new _ _
 ·have h1 : IsF w1 F a0 a1 a2 v := by
   show w1.heap[F]? = _
   rw [e F (by omega) (fun h2 => hvF h2.symm), heap_alloc_old _ _ hfl]
   exact hF
  exact h1.store _
 ·refine Kp.setCell ?_ _ _ _ (fun _ => .inl rfl)
  have h0 : Kp (fun k => k = F ∨ v.ownBlock = some k) w ((w.alloc (.cells #[.int .i64 c, .int .i64 s] 192)).alloc (.cells #[.int .i64 c, .int .i64 s] 192)).drew := by
   have := ((Kp.refl (fun k => k = F ∨ v.ownBlock = some k) w).alloc (.cells #[.int .i64 c, .int .i64 s] 192)).alloc (.cells #[.int .i64 c, .int .i64 s] 192)
   exact ⟨this.os, this.tape, this.output, this.size, this.block⟩
  exact h0.grown h (fun k hk _ => .inr hk)

theorem Side.store {w wr : World} {F g : Nat} {a0 a1 a2 v : Value} {c s : Int} {X : Nat → Prop} (h : Side w wr F a0 a1 a2 v c s X) (h1 : g ≠ w.heap.size) (h2 : g ≠ F) (h3 : g < w.heap.size → X g) (d i j : Nat) (a b : Value) : Side w (((wr.drewN d).setCell ⟨g, i, none⟩ a).setCell ⟨g, j, none⟩ b) F a0 a1 a2 v c s X := by
 refine ⟨?_, ?_, ((h.kept.drewN d).setCell _ _ _ h3).setCell _ _ _ h3⟩
 ·rw [Below.heap_setCell _ _ _ _ (fun e => h1 e.symm), Below.heap_setCell _ _ _ _ (fun e => h1 e.symm)]
  exact h.box
 ·show (((wr.drewN d).setCell ⟨g, i, none⟩ a).setCell ⟨g, j, none⟩ b).heap[F]? = _
  rw [Below.heap_setCell _ _ _ _ (fun e => h2 e.symm), Below.heap_setCell _ _ _ _ (fun e => h2 e.symm)]
  exact h.field
theorem movedP {w wr : World} {base g cap n m F : Nat} {a0 a1 a2 v : Value} {X : Nat → Prop} {p z : List (Int × Int)} {c s a b : Int} (hown : wr.ownsRow base 192 2 (.slice (some ⟨g, 0, none⟩) n cap) n (fcs p)) (hs : Side w wr F a0 a1 a2 v c s X) (hperm : (p.set (m + 1) (c, s)).Perm z) (hpl : p.length = n) (hk : m + 1 < n) (hv : p[m / 2]? = some (a, b)) (h1 : g ≠ w.heap.size) (h2 : g ≠ F) (h3 : g < w.heap.size → X g) (d : Nat) :
  ∃ (k' : Nat) (p' : List (Int × Int)), Value.int .i64 ((m : Int) / 2) = .int .i64 (k' : Int) ∧ k' < n ∧ p'.length = n ∧ (p'.set k' (c, s)).Perm z ∧ (((wr.drewN d).setCell ⟨g, (m + 1) * 2, none⟩ (.int .i64 a)).setCell ⟨g, (m + 1) * 2 + 1, none⟩ (.int .i64 b)).ownsRow base 192 2 (.slice (some ⟨g, 0, none⟩) n cap) n (fcs p') ∧ Side w (((wr.drewN d).setCell ⟨g, (m + 1) * 2, none⟩ (.int .i64 a)).setCell ⟨g, (m + 1) * 2 + 1, none⟩ (.int .i64 b)) F a0 a1 a2 v c s X := by
 have e : p[m / 2]'(by omega) = (a, b) := (List.getElem?_eq_some_iff.1 hv).2
 refine ⟨m / 2, p.set (m + 1) (a, b), by simp, by omega, by simpa using hpl, ?_, (put2 hown (m + 1) a b d).1, hs.store h1 h2 h3 d _ _ _ _⟩
 rw [← e]
 exact (set_swap p (m + 1) (m / 2) (c, s) (by omega) (by omega) (by omega)).trans hperm

set_option maxHeartbeats 2000000 in
set_option maxRecDepth 100000 in
theorem push_any (F base : Nat) (a0 a1 a2 v : Value) (es : List (Int × Int)) (c s : Int) (w : World) (hF : IsF w F a0 a1 a2 v) (hown : w.ownsRow base 192 2 v es.length (fcs es)) (hb : F < base) (hbs : base ≤ w.heap.size) (hl : es.length < 1000000000000) :
  Calls Tryd.prog 99 #[.pointer (some ⟨F, 3, none⟩), .agg #[.int .i64 c, .int .i64 s]] w fun e w' => e = .returned (.tuple #[]) ∧ ∃ v' es', es'.Perm ((c, s) :: es) ∧ IsF w' F a0 a1 a2 v' ∧ w'.ownsRow base 192 2 v' es'.length (fcs es') ∧ (v'.ownBlock = v.ownBlock ∨ ∃ g, v'.ownBlock = some g ∧ w.heap.size ≤ g) ∧ Kp (fun k => k = F ∨ v.ownBlock = some k) w w' := by
 obtain ⟨i0, hi, hz0, hz1, hz2⟩ := info_parts info69
 have k3 : w.cell? ⟨F, 3, none⟩ = some v := hF.cell 3
 have hfl := hF.lt
 have k31 : ∀ o1, (w.alloc o1).cell? ⟨F, 3, none⟩ = some v := fun o1 => by rw [World.cell?_alloc_past _ _ _ hfl]; exact k3
 have k32 : ∀ o1 o2, ((w.alloc o1).alloc o2).cell? ⟨F, 3, none⟩ = some v := fun o1 o2 => by rw [World.cell?_alloc_past _ _ _ (by simp; omega)]; exact k31 o1
 have HO : Hid (w.ownsRow base 192 2 v es.length (fcs es)) := hown
 have HF : Hid (IsF w F a0 a1 a2 v) := hF
 have hvF : v.ownBlock ≠ some F := fun h => by have := (hown.lt F h).1; omega
 clear hown hF
 go_enter Tryd.func99, Tryd.ntmps99
 go_wp2
 go_region_law (refine step_append_at rfl (.tmp 9) (.tmp 11) 165 rfl base 192 i0 (.agg #[.int .i64 0, .int .i64 0]) 2 16 Tryd.underlying165 hi hz0 hz1 hz2 rfl (by decide) _ _ _ rfl ((HO.out.alloc _).alloc _).drew ⟨_, 0, none⟩ 1 1 [.int .i64 c, .int .i64 s] rfl rfl (cell_two_at _ _ _ _ _ (by simp)) (two_one _ _) (by unfold maxLen; omega) (by omega) (by simp; omega) ?_; intro v1 w1 hown1 hgr1 hloc1; have hk1 := kept2 hgr1 (fun h => hvF h); obtain ⟨g, cap, rfl, hg1, hg2⟩ := own_some hown1 (Nat.succ_pos _); have q3 : w1.cell? ⟨F, 3, none⟩ = some v := (hk1.1 F hfl (fun h => hvF h.symm)).trans k3; have qf : w1.frozen? ⟨F, 3, none⟩ = false := hk1.2 HF.out hvF; have HR : Hid (((w.alloc (.cells #[.int .i64 c, .int .i64 s] 192)).alloc (.cells #[.int .i64 c, .int .i64 s] 192)).drew.grownBy w1 v.ownBlock) := hgr1; clear hgr1 hk1)
 all_goals
  have hown2 : (w1.setCell ⟨F, 3, none⟩ (.slice (some ⟨g, 0, none⟩) (es.length + 1) cap)).ownsRow base 192 2 (.slice (some ⟨g, 0, none⟩) (es.length + 1) cap) (es.length + 1) (fcs (es ++ [(c, s)])) := own_set (by rw [← fcs_snoc]; exact hown1) (by omega) _ _
  have hst := begun HR.out HF.out HO.out hvF (g := g) (cap := cap)
  have hgX : Hid (g < w.heap.size → (g = F ∨ v.ownBlock = some g)) := fun h => by rcases hloc1 with h1 | h1 <;> simp [Value.ownBlock] at h1 <;> first | exact .inr h1.symm | omega
  have hgw : g ≠ w.heap.size := fun h => by rcases hloc1 with h1 | h1 <;> simp [Value.ownBlock] at h1 <;> first | (have := (HO.out.lt g h1.symm).2; omega) | omega
  have hgF : g ≠ F := by omega
  have HLo : Hid _ := hloc1
  have qn : (w1.setCell ⟨F, 3, none⟩ (.slice (some ⟨g, 0, none⟩) (es.length + 1) cap)).cell? ⟨F, 3, none⟩ = some (.slice (some ⟨g, 0, none⟩) (es.length + 1) cap) := hst.field.cell 3
  clear hown1 hloc1 q3 qf k31 k32
  go_wp2
  clear qn
 all_goals
  go_loopw [5] (fun a wr => ∃ (k : Nat) (p : List (Int × Int)), a = .int .i64 k ∧ k < es.length + 1 ∧ p.length = es.length + 1 ∧ (p.set k (c, s)).Perm ((c, s) :: es) ∧ wr.ownsRow base 192 2 (.slice (some ⟨g, 0, none⟩) (es.length + 1) cap) (es.length + 1) (fcs p) ∧ Side w wr F a0 a1 a2 (.slice (some ⟨g, 0, none⟩) (es.length + 1) cap) c s (fun k => k = F ∨ v.ownBlock = some k)) (fun a _ => (intOf a).toNat)
  case atStart => exact ⟨es.length, es ++ [(c, s)], by first | rfl | go_num, Nat.lt_succ_self _, by simp, by rw [List.set_append_right _ _ (Nat.le_refl _)]; simp <;> exact List.perm_append_singleton _ _, hown2, hst⟩
  case round =>
   clear hown2 hst
   obtain ⟨k, p, rfl, hk, hpl, hperm, hown, hsd⟩ := hrel
   have y0 : wr.cell? ⟨w.heap.size, 0, none⟩ = some (.int .i64 c) := cell_of_row wr _ 0 _ 192 (0, 0) hsd.box
   have y1 : wr.cell? ⟨w.heap.size, 1, none⟩ = some (.int .i64 s) := cell_of_row wr _ 1 _ 192 (0, 0) hsd.box
   have HP : Hid _ := hperm
   have HS : Hid _ := hsd
   clear hperm hsd
   have f0 := hown.frozenAt (k * 2)
   have f1 := hown.frozenAt (k * 2 + 1)
   obtain ⟨z0, c0⟩ : ∃ z, wr.cell? ⟨g, k * 2, none⟩ = some z := ⟨_, by rw [hown.cellAt _ (by omega)]; exact (fcs_at p k (by omega)).1⟩
   obtain ⟨z1, c1⟩ : ∃ z, wr.cell? ⟨g, k * 2 + 1, none⟩ = some z := ⟨_, by rw [hown.cellAt _ (by omega)]; exact (fcs_at p k (by omega)).2⟩
   by_cases hk0 : k = 0
   ·subst hk0
    simp only [Nat.zero_mul, Nat.zero_add] at f0 f1 c0 c1
    go_wp2
    repeat (go_quiet (fail); go_wp2)
    go_end0
    exact ⟨rfl, _, p.set 0 (c, s), HP.out, (HS.out.store hgw hgF hgX.out _ _ _ _ _).field, by rw [List.length_set, hpl]; exact (put2 hown 0 c s _).1, HLo.out.imp id (fun h => ⟨_, h, by simp; omega⟩), (HS.out.store hgw hgF hgX.out _ _ _ _ _).kept⟩
   ·obtain ⟨m, rfl⟩ : ∃ m, k = m + 1 := ⟨k - 1, by omega⟩
    obtain ⟨⟨v1, s1⟩, e1⟩ : ∃ v, p[m / 2]? = some v := ⟨_, List.getElem?_eq_getElem (by omega)⟩
    have ca : wr.cell? ⟨g, m / 2 * 2, none⟩ = some (.int .i64 v1) := by rw [hown.cellAt _ (by omega), (fcs_at p (m / 2) (by omega)).1, (List.getElem?_eq_some_iff.1 e1).2]
    have cb : wr.cell? ⟨g, m / 2 * 2 + 1, none⟩ = some (.int .i64 s1) := by rw [hown.cellAt _ (by omega), (fcs_at p (m / 2) (by omega)).2, (List.getElem?_eq_some_iff.1 e1).2]
    have HE : Hid (p[m / 2]? = some (v1, s1)) := e1
    clear e1
    by_cases hlt : c < v1
    ·go_wp2
     repeat (go_quiet (fail); go_wp2)
     exact ⟨movedP hown HS.out HP.out hpl hk HE.out hgw hgF hgX.out _, by simp [intOf]; omega⟩
    ·go_wp2
     repeat (go_quiet (fail); go_wp2)
     go_end0
     exact ⟨rfl, _, p.set (m + 1) (c, s), HP.out, (HS.out.store hgw hgF hgX.out _ _ _ _ _).field, by rw [List.length_set, hpl]; exact (put2 hown (m + 1) c s _).1, HLo.out.imp id (fun h => ⟨_, h, by simp; omega⟩), (HS.out.store hgw hgF hgX.out _ _ _ _ _).kept⟩
end Go.Proofs.YtfjocafepigijaaDoor.Ps
/- Plain facts on going along silent arcs from a queue, in whatever order: what comes of it is the least. No conditions beyond that arcs are right. -/
namespace Go.Proofs.YtfjocafepigijaaDoor.Wd
open Mv Wk

def far : Nat := 9223372036854775807
/-- what a row has at a state -/
def cv (R : List Nat) (s : Nat) : Nat := R.getD s far
theorem cv_set (R : List Nat) (q v r : Nat) (hq : q < R.length) : cv (R.set q v) r = if q = r then v else cv R r := by
 unfold cv
 rw [List.getD_eq_getElem?_getD, List.getD_eq_getElem?_getD, List.getElem?_set]
 split
 ·simp
 ·rfl
def fin (R : List Nat) : Nat := R.countP fun x => decide (x < far)
theorem fin_le (R : List Nat) : fin R ≤ R.length := List.countP_le_length
theorem fin_set (R : List Nat) (q v : Nat) (hq : q < R.length) (hv : v < far) : (cv R q < far → fin (R.set q v) = fin R) ∧ (¬ cv R q < far → fin (R.set q v) = fin R + 1) := by
 have e : cv R q = R[q] := by unfold cv; simp [hq]
 unfold fin
 rw [List.countP_set hq, e]
 constructor
 ·intro h
  have hp : 0 < R.countP (fun x => decide (x < far)) := List.countP_pos_iff.2 ⟨R[q], List.getElem_mem hq, by simpa using h⟩
  simp [h, hv]
  omega
 ·intro h
  simp [h, hv]

abbrev Arc := Int × Int × Int × Int × Int
/-- the silent arcs that leave a state; the arcs of a label -/
def sil (A : List Arc) (f : Nat) : List Arc := A.filter fun a => a.2.2.1 == 0 && a.2.2.2.1 == 0 && a.1 == (f : Int)
def lab (A : List Arc) (i o : Int) : List Arc := A.filter fun a => a.2.2.1 == i && a.2.2.2.1 == o

/-- a row on its way: what it has is come to -/
structure Row (S : Nat) (P : Nat → Nat → Prop) (bd : Nat) (R : List Nat) : Prop where
 len : R.length = S
 top : ∀ s, cv R s ≤ far
 real : ∀ s, s < S → cv R s < far → P s (cv R s)
 small : ∀ s, cv R s < far → cv R s ≤ bd + 1000000 * fin R

/-- what a row weighs, with so much for what is not come to -/
def pot (cap : Nat) (R : List Nat) : Nat := (R.map fun v => if v < far then v else cap).sum
theorem pot_set (cap : Nat) (R : List Nat) (q v : Nat) (hq : q < R.length) : pot cap (R.set q v) + (if cv R q < far then cv R q else cap) = pot cap R + (if v < far then v else cap) := by
 induction R generalizing q with
 | nil => simp at hq
 | cons a R ih =>
  cases q with
  | zero => simp [pot, cv]; omega
  | succ q =>
   have := ih q (by simpa using hq)
   simp [pot, cv] at this ⊢
   omega

theorem relax {S : Nat} {P : Nat → Nat → Prop} {bd : Nat} {R : List Nat} (h : Row S P bd R) (f t W : Nat) (ht : t < S) (hW : W ≤ 1000000) (hf : cv R f < far) (hlt : cv R f + W < cv R t) (hP : P t (cv R f + W)) :
  Row S P bd (R.set t (cv R f + W)) ∧ pot (bd + 1000000 * S + 1) (R.set t (cv R f + W)) < pot (bd + 1000000 * S + 1) R ∧ (∀ s, cv (R.set t (cv R f + W)) s ≤ cv R s) ∧ cv (R.set t (cv R f + W)) t = cv R f + W ∧ (∀ s, s ≠ t → cv (R.set t (cv R f + W)) s = cv R s) ∧ cv R f + W < far := by
 have htl : t < R.length := by rw [h.len]; exact ht
 have hsm := h.small f hf
 have hfl := fin_le R
 rw [h.len] at hfl
 generalize hp : cv R f = p at *
 have hvd : p + W < far := Nat.lt_of_lt_of_le hlt (h.top t)
 have hfs := fin_set R t (p + W) htl hvd
 have hge : fin R ≤ fin (R.set t (p + W)) := by
  by_cases hd : cv R t < far
  ·rw [hfs.1 hd]; omega
  ·rw [hfs.2 hd]; omega
 have hle : ∀ s, cv (R.set t (p + W)) s ≤ cv R s := by
  intro s
  rw [cv_set R t _ s htl]
  split
  ·rename_i e; subst e; omega
  ·omega
 have hps := pot_set (bd + 1000000 * S + 1) R t (p + W) htl
 have hfl2 : fin (R.set t (p + W)) ≤ S := by have := fin_le (R.set t (p + W)); rw [List.length_set, h.len] at this; exact this
 have hsv : p + W ≤ bd + 1000000 * fin (R.set t (p + W)) := by
  by_cases hd : cv R t < far
  ·have := h.small t hd
   rw [hfs.1 hd]
   omega
  ·rw [hfs.2 hd]
   omega
 have hmul : 1000000 * fin (R.set t (p + W)) ≤ 1000000 * S := Nat.mul_le_mul_left _ hfl2
 refine ⟨⟨by rw [List.length_set]; exact h.len, ?_, ?_, ?_⟩, ?_, hle, by rw [cv_set R t _ t htl]; simp, fun s hs => by rw [cv_set R t _ s htl, if_neg (fun e => hs e.symm)], hvd⟩
 ·intro s
  exact Nat.le_trans (hle s) (h.top s)
 ·intro s hs
  rw [cv_set R t _ s htl]
  split
  ·rename_i e; subst e; intro _; exact hP
  ·exact h.real s hs
 ·intro s
  rw [cv_set R t _ s htl]
  split
  ·intro _; exact hsv
  ·intro hd
   have := h.small s hd
   omega
 ·rw [if_pos hvd] at hps
  split at hps <;> omega

/-- an entry of the queue -/
def Ent (S : Nat) (R : List Nat) (e : Int × Int) : Prop := ∃ c s : Nat, e = ((c : Int), (s : Int)) ∧ s < S ∧ c < far ∧ cv R s ≤ c
/-- no silent arc of a state betters anything -/
def Done (A : List Arc) (R : List Nat) (f : Nat) : Prop := ∀ a ∈ sil A f, ∀ t W : Nat, a.2.1 = (t : Int) → a.2.2.2.2 = (W : Int) → cv R t ≤ cv R f + W
structure Dij (A : List Arc) (S : Nat) (P : Nat → Nat → Prop) (bd : Nat) (H R : List Nat) (es : List (Int × Int)) : Prop where
 row : Row S P bd R
 le : ∀ s, cv R s ≤ cv H s
 q : ∀ e ∈ es, Ent S R e
 rel : ∀ f, f < S → cv R f < far → ((cv R f : Int), (f : Int)) ∈ es ∨ Done A R f
 qb : es.length + pot (bd + 1000000 * S + 1) R ≤ S + pot (bd + 1000000 * S + 1) H
/-- while the silent arcs of f are gone along: the first y are -/
structure Inn (A : List Arc) (S : Nat) (P : Nat → Nat → Prop) (bd : Nat) (H : List Nat) (f c M : Nat) (R : List Nat) (es : List (Int × Int)) (y : Nat) : Prop where
 row : Row S P bd R
 le : ∀ s, cv R s ≤ cv H s
 q : ∀ e ∈ es, Ent S R e
 here : cv R f = c
 done : ∀ k, k < y → ∀ h : k < (sil A f).length, ∀ t W : Nat, ((sil A f)[k]).2.1 = (t : Int) → ((sil A f)[k]).2.2.2.2 = (W : Int) → cv R t ≤ c + W
 rel : ∀ g, g < S → g ≠ f → cv R g < far → ((cv R g : Int), (g : Int)) ∈ es ∨ Done A R g
 qb : es.length + pot (bd + 1000000 * S + 1) R ≤ S + pot (bd + 1000000 * S + 1) H
 ms : 2 * pot (bd + 1000000 * S + 1) R + es.length ≤ M

theorem Ent.mono {S : Nat} {R R' : List Nat} {e : Int × Int} (h : Ent S R e) (hle : ∀ s, cv R' s ≤ cv R s) : Ent S R' e := by
 obtain ⟨c, s, e1, h1, h2, h3⟩ := h
 exact ⟨c, s, e1, h1, h2, Nat.le_trans (hle s) h3⟩
/-- an entry is taken that is no longer so cheap -/
theorem Dij.stale {A : List Arc} {S : Nat} {P : Nat → Nat → Prop} {bd : Nat} {H R : List Nat} {es es' : List (Int × Int)} {c f : Nat} (h : Dij A S P bd H R es) (hp : es.Perm (((c : Int), (f : Int)) :: es')) (hc : cv R f < c) : Dij A S P bd H R es' := by
 refine ⟨h.row, h.le, fun e he => h.q e (hp.mem_iff.2 (List.mem_cons_of_mem _ he)), fun g hg hd => ?_, ?_⟩
 ·rcases h.rel g hg hd with h1 | h1
  ·rcases List.mem_cons.1 (hp.mem_iff.1 h1) with h2 | h2
   ·simp only [Prod.mk.injEq] at h2
    have : g = f := by omega
    subst this
    omega
   ·exact .inl h2
  ·exact .inr h1
 ·have := hp.length_eq
  have := h.qb
  simp only [List.length_cons] at *
  omega
theorem Dij.take {A : List Arc} {S : Nat} {P : Nat → Nat → Prop} {bd : Nat} {H R : List Nat} {es es' : List (Int × Int)} {c f : Nat} (h : Dij A S P bd H R es) (hp : es.Perm (((c : Int), (f : Int)) :: es')) (hc : cv R f = c) : Inn A S P bd H f c (2 * pot (bd + 1000000 * S + 1) R + es'.length) R es' 0 := by
 refine ⟨h.row, h.le, fun e he => h.q e (hp.mem_iff.2 (List.mem_cons_of_mem _ he)), hc, fun k hk => absurd hk (Nat.not_lt_zero _), fun g hg hgf hd => ?_, ?_, Nat.le_refl _⟩
 ·rcases h.rel g hg hd with h1 | h1
  ·rcases List.mem_cons.1 (hp.mem_iff.1 h1) with h2 | h2
   ·simp only [Prod.mk.injEq] at h2
    exact absurd (show g = f by omega) hgf
   ·exact .inl h2
  ·exact .inr h1
 ·have := hp.length_eq
  have := h.qb
  simp only [List.length_cons] at *
  omega
theorem Inn.skip {A : List Arc} {S : Nat} {P : Nat → Nat → Prop} {bd : Nat} {H : List Nat} {f c M : Nat} {R : List Nat} {es : List (Int × Int)} {y t W : Nat} (h : Inn A S P bd H f c M R es y) (hy : y < (sil A f).length) (ht : ((sil A f)[y]).2.1 = (t : Int)) (hW : ((sil A f)[y]).2.2.2.2 = (W : Int)) (hge : ¬ c + W < cv R t) : Inn A S P bd H f c M R es (y + 1) := by
 refine ⟨h.row, h.le, h.q, h.here, fun k hk hkl t' W' e1 e2 => ?_, h.rel, h.qb, h.ms⟩
 by_cases e : k = y
 ·subst e
  rw [ht] at e1
  rw [hW] at e2
  have : t = t' := by omega
  have : W = W' := by omega
  subst_vars
  omega
 ·exact h.done k (by omega) hkl t' W' e1 e2
theorem Inn.took {A : List Arc} {S : Nat} {P : Nat → Nat → Prop} {bd : Nat} {H : List Nat} {f c M : Nat} {R : List Nat} {es es' : List (Int × Int)} {y t W : Nat} (h : Inn A S P bd H f c M R es y) (hy : y < (sil A f).length) (ht : ((sil A f)[y]).2.1 = (t : Int)) (hW : ((sil A f)[y]).2.2.2.2 = (W : Int)) (hts : t < S) (hWb : W ≤ 1000000) (hcf : c < far) (hP : P t (c + W)) (hlt : c + W < cv R t) (hp : es'.Perm ((((c + W : Nat) : Int), (t : Int)) :: es)) :
  Inn A S P bd H f c M (R.set t (c + W)) es' (y + 1) := by
 obtain ⟨r1, r2, r3, r4, r5, r6⟩ := relax h.row f t W hts hWb (by rw [h.here]; exact hcf) (by rw [h.here]; exact hlt) (by rw [h.here]; exact hP)
 rw [h.here] at r1 r2 r3 r4 r5 r6
 have hne : f ≠ t := fun e => by subst e; have := h.here; omega
 have hlen := hp.length_eq
 have hqb := h.qb
 have hms := h.ms
 simp only [List.length_cons] at hlen
 refine ⟨r1, fun s => Nat.le_trans (r3 s) (h.le s), fun e he => ?_, by rw [r5 f hne]; exact h.here, fun k hk hkl t' W' e1 e2 => ?_, fun g hg hgf hd => ?_, by omega, by omega⟩
 ·rcases List.mem_cons.1 (hp.mem_iff.1 he) with rfl | h2
  ·exact ⟨c + W, t, rfl, hts, r6, by rw [r4]; exact Nat.le_refl _⟩
  ·exact (h.q e h2).mono r3
 ·by_cases e : k = y
  ·subst e
   rw [ht] at e1
   rw [hW] at e2
   have : t = t' := by omega
   have : W = W' := by omega
   subst_vars
   rw [r4]
   exact Nat.le_refl _
  ·exact Nat.le_trans (r3 t') (h.done k (by omega) hkl t' W' e1 e2)
 ·by_cases e : g = t
  ·subst e
   exact .inl (hp.mem_iff.2 (by rw [r4]; exact List.mem_cons_self))
  ·rw [r5 g e] at hd ⊢
   rcases h.rel g hg hgf hd with h1 | h1
   ·exact .inl (hp.mem_iff.2 (List.mem_cons_of_mem _ h1))
   ·refine .inr (fun a ha t' W' e1 e2 => ?_)
    rw [r5 g e]
    exact Nat.le_trans (r3 t') (h1 a ha t' W' e1 e2)
theorem Inn.fin {A : List Arc} {S : Nat} {P : Nat → Nat → Prop} {bd : Nat} {H : List Nat} {f c M : Nat} {R : List Nat} {es : List (Int × Int)} (h : Inn A S P bd H f c M R es (sil A f).length) : Dij A S P bd H R es := by
 refine ⟨h.row, h.le, h.q, fun g hg hd => ?_, h.qb⟩
 by_cases e : g = f
 ·subst e
  refine .inr (fun a ha t W e1 e2 => ?_)
  obtain ⟨k, hk, rfl⟩ := List.getElem_of_mem ha
  rw [h.here]
  exact h.done k hk hk t W e1 e2
 ·exact h.rel g hg e hd
/-- the first loop: what is come to waits -/
structure Ph (A : List Arc) (S : Nat) (H : List Nat) (k : Nat) (es : List (Int × Int)) : Prop where
 q : ∀ e ∈ es, Ent S H e
 rel : ∀ f, f < k → cv H f < far → ((cv H f : Int), (f : Int)) ∈ es ∨ sil A f = []
 len : es.length ≤ k
theorem Ph.start (A : List Arc) (S : Nat) (H : List Nat) : Ph A S H 0 [] := ⟨fun _ he => (List.not_mem_nil he).elim, fun _ hf => absurd hf (Nat.not_lt_zero _), Nat.le_refl _⟩
theorem Ph.skip {A : List Arc} {S : Nat} {H : List Nat} {k : Nat} {es : List (Int × Int)} (h : Ph A S H k es) (hs : ¬ cv H k < far ∨ sil A k = []) : Ph A S H (k + 1) es := by
 refine ⟨h.q, fun f hf hd => ?_, Nat.le_succ_of_le h.len⟩
 by_cases e : f = k
 ·subst e
  rcases hs with hs | hs
  ·exact absurd hd hs
  ·exact .inr hs
 ·exact h.rel f (by omega) hd
theorem Ph.push {A : List Arc} {S : Nat} {H : List Nat} {k : Nat} {es es' : List (Int × Int)} (h : Ph A S H k es) (hk : k < S) (hd : cv H k < far) (hp : es'.Perm (((cv H k : Int), (k : Int)) :: es)) : Ph A S H (k + 1) es' := by
 have hlen := hp.length_eq
 have hl := h.len
 simp only [List.length_cons] at hlen
 refine ⟨fun e he => ?_, fun f hf hd' => ?_, by omega⟩
 ·rcases List.mem_cons.1 (hp.mem_iff.1 he) with rfl | h2
  ·exact ⟨cv H k, k, rfl, hk, hd, Nat.le_refl _⟩
  ·exact h.q e h2
 ·by_cases e : f = k
  ·subst e
   exact .inl (hp.mem_iff.2 List.mem_cons_self)
  ·rcases h.rel f (by omega) hd' with h1 | h1
   ·exact .inl (hp.mem_iff.2 (List.mem_cons_of_mem _ h1))
   ·exact .inr h1
theorem Ph.fin {A : List Arc} {S : Nat} {P : Nat → Nat → Prop} {bd : Nat} {H : List Nat} {es : List (Int × Int)} (h : Ph A S H S es) (hr : Row S P bd H) : Dij A S P bd H H es := by
 refine ⟨hr, fun _ => Nat.le_refl _, h.q, fun f hf hd => ?_, Nat.add_le_add_right h.len _⟩
 rcases h.rel f hf hd with h1 | h1
 ·exact .inl h1
 ·exact .inr (fun a ha => by rw [h1] at ha; exact (List.not_mem_nil ha).elim)
/-- a row along which no silent arc betters anything -/
structure Settled (A : List Arc) (S : Nat) (P : Nat → Nat → Prop) (bd : Nat) (H R : List Nat) : Prop where
 row : Row S P bd R
 le : ∀ s, cv R s ≤ cv H s
 done : ∀ f, f < S → cv R f < far → Done A R f
theorem Dij.fin {A : List Arc} {S : Nat} {P : Nat → Nat → Prop} {bd : Nat} {H R : List Nat} (h : Dij A S P bd H R []) : Settled A S P bd H R :=
 ⟨h.row, h.le, fun f hf hd => (h.rel f hf hd).resolve_left (List.not_mem_nil)⟩
theorem pot_le {S : Nat} {P : Nat → Nat → Prop} {bd : Nat} {R : List Nat} (h : Row S P bd R) : pot (bd + 1000000 * S + 1) R ≤ S * (bd + 1000000 * S + 1) := by
 have hfl := fin_le R
 rw [h.len] at hfl
 have hm : 1000000 * fin R ≤ 1000000 * S := Nat.mul_le_mul_left _ hfl
 have key : ∀ L : List Nat, (∀ v ∈ L, (if v < far then v else bd + 1000000 * S + 1) ≤ bd + 1000000 * S + 1) → pot (bd + 1000000 * S + 1) L ≤ L.length * (bd + 1000000 * S + 1) := by
  intro L hL
  induction L with
  | nil => simp [pot]
  | cons a L ih =>
   have h1 := ih (fun v hv => hL v (List.mem_cons_of_mem _ hv))
   have h2 := hL a List.mem_cons_self
   have e : pot (bd + 1000000 * S + 1) (a :: L) = (if a < far then a else bd + 1000000 * S + 1) + pot (bd + 1000000 * S + 1) L := by simp [pot]
   rw [e, List.length_cons, Nat.add_mul, Nat.one_mul]
   omega
 have := key R (fun v hv => by
  split
  ·rename_i hd
   obtain ⟨k, hk, rfl⟩ := List.getElem_of_mem hv
   have e : cv R k = R[k] := by unfold cv; simp [hk]
   have := h.small k (by rw [e]; exact hd)
   rw [e] at this
   omega
  ·omega)
 rw [h.len] at this
 exact this
end Go.Proofs.YtfjocafepigijaaDoor.Wd
