/- How a talker lies in memory; compare, put and hear of a slot. Conditions: the slot is one of the talker's twenty; what is put has at most 100 bytes. -/
import Derived.Test.YtmhgoddlbklbfaaTa
import Derived.Deep.RegionHeld3
namespace Go.Proofs.Ytmhgoddlbklbfaa.Tb
open Go.RowKit Ta

/-- a slot of the program's -/
structure Sl where
  sl : Int
  ver : Int
  who : Int
  val : ByteArray
  op : Bool
  ow : Bool
def sc (e : Sl) : List Value := [.int .i64 e.sl, .int .i64 e.ver, .int .i64 e.who, .string e.val, .bool e.op, .bool e.ow]
def tc (W n : Int) (es : List Sl) : List Value := .int .i64 W :: .int .i64 n :: es.flatMap sc
def Tk (w : World) (b : Nat) (W n : Int) (es : List Sl) : Prop := w.heap[b]? = some (.cells (tc W n es).toArray 57 (0, 0)) ∧ es.length = 20
/-- all but one block is as it was -/
structure Ko (W W' : World) (X : Nat) : Prop where
  size : W.heap.size ≤ W'.heap.size
  block : ∀ b, b ≠ X → b < W.heap.size → W'.heap[b]? = W.heap[b]?
  os : W'.os = W.os
  tape : W'.tape = W.tape
  output : W'.output = W.output
theorem Ko.refl (W : World) (X : Nat) : Ko W W X := ⟨Nat.le_refl _, fun _ _ _ => rfl, rfl, rfl, rfl⟩
theorem Ko.trans {A B C : World} {X : Nat} (h : Ko A B X) (k : Ko B C X) : Ko A C X := ⟨Nat.le_trans h.1 k.1, fun b hb hl => (k.2 b hb (Nat.lt_of_lt_of_le hl h.1)).trans (h.2 b hb hl), k.os.trans h.os, k.tape.trans h.tape, k.output.trans h.output⟩
theorem ko_below {W W' : World} {X : Nat} (h : Below W.heap.size W W') : Ko W W' X := ⟨h.size, fun b _ hb => h.block b hb, h.os, h.tape, h.output⟩
theorem Ko.toBelow {W W' : World} {X n : Nat} (h : Ko W W' X) (h1 : n ≤ X) (h2 : n ≤ W.heap.size) : Below n W W' := ⟨h.os, h.tape, h.output, h.1, fun b hb => h.2 b (by omega) (by omega)⟩
theorem Ko.then {A B C : World} {X : Nat} (h : Ko A B X) (k : Below B.heap.size B C) : Ko A C X := h.trans (ko_below k)
theorem ko_set (W : World) (X q : Nat) (v : Value) : Ko W (W.setCell ⟨X, q, none⟩ v) X := ⟨by simp, fun _ hb _ => heap_setCell_other _ _ _ _ hb, rfl, rfl, rfl⟩

theorem fm_set {α : Type} (f : α → List Value) (k : Nat) (hk : ∀ a, (f a).length = k) (l : List α) (i : Nat) (hi : i < l.length) (j : Nat) (hj : j < k) (v : Value) (x : α) (hx : (f l[i]).set j v = f x) : (l.flatMap f).set (i * k + j) v = (l.set i x).flatMap f := by
  induction l generalizing i with
  | nil => simp at hi
  | cons a l ih =>
    cases i with
    | zero =>
      simp only [List.flatMap_cons, Nat.zero_mul, Nat.zero_add, List.set_cons_zero, List.getElem_cons_zero] at hx ⊢
      rw [List.set_append_left _ _ (by rw [hk]; exact hj), hx]
    | succ i =>
      have e : (i + 1) * k + j = (f a).length + (i * k + j) := by rw [hk, Nat.add_mul]; omega
      simp only [List.flatMap_cons, List.set_cons_succ, List.getElem_cons_succ] at hx ⊢
      rw [e, List.set_append_right _ _ (by omega), Nat.add_sub_cancel_left, ih i (by simpa using hi) hx]
theorem fm_at {α : Type} (f : α → List Value) (k : Nat) (hk : ∀ a, (f a).length = k) (l : List α) (i : Nat) (hi : i < l.length) (j : Nat) (hj : j < k) : (l.flatMap f)[i * k + j]? = (f l[i])[j]? := by
  induction l generalizing i with
  | nil => simp at hi
  | cons a l ih =>
    cases i with
    | zero =>
      simp only [List.flatMap_cons, Nat.zero_mul, Nat.zero_add, List.getElem_cons_zero]
      exact List.getElem?_append_left (by rw [hk]; exact hj)
    | succ i =>
      have e : (i + 1) * k + j = (f a).length + (i * k + j) := by rw [hk, Nat.add_mul]; omega
      simp only [List.flatMap_cons, List.getElem_cons_succ]
      rw [e, List.getElem?_append_right (by omega), Nat.add_sub_cancel_left]
      exact ih i (by simpa using hi)
theorem tc_at {W n : Int} {es : List Sl} {i k : Nat} (hi : i < es.length) (hk : k < 6) : (tc W n es)[2 + i * 6 + k]? = (sc es[i])[k]? := by
  rw [show 2 + i * 6 + k = (i * 6 + k) + 1 + 1 by omega]
  simp only [tc, List.getElem?_cons_succ]
  exact fm_at sc 6 (fun _ => rfl) es i hi k hk
/-- the slot's own place -/
def at6 (i : Nat) : Nat := 2 + i * 6
theorem Tk.slot {w : World} {b : Nat} {W n : Int} {es : List Sl} (h : Tk w b W n es) {i : Nat} (hi : i < es.length) : w.cell? ⟨b, at6 i, none⟩ = some (.int .i64 es[i].sl) ∧ w.cell? ⟨b, at6 i + 1, none⟩ = some (.int .i64 es[i].ver) ∧ w.cell? ⟨b, at6 i + 2, none⟩ = some (.int .i64 es[i].who) ∧ w.cell? ⟨b, at6 i + 3, none⟩ = some (.string es[i].val) ∧ w.cell? ⟨b, at6 i + 4, none⟩ = some (.bool es[i].op) ∧ w.cell? ⟨b, at6 i + 5, none⟩ = some (.bool es[i].ow) := by
  have g := fun k (hk : k < 6) => tc_at (W := W) (n := n) hi hk
  refine ⟨?_, ?_, ?_, ?_, ?_, ?_⟩ <;> rw [cell_of_row _ _ _ _ 57 (0, 0) h.1] <;> simp only [List.getElem?_toArray, at6]
  · exact g 0 (by omega)
  · exact g 1 (by omega)
  · exact g 2 (by omega)
  · exact g 3 (by omega)
  · exact g 4 (by omega)
  · exact g 5 (by omega)
theorem Tk.head {w : World} {b : Nat} {W n : Int} {es : List Sl} (h : Tk w b W n es) : w.cell? ⟨b, 0, none⟩ = some (.int .i64 W) ∧ w.cell? ⟨b, 1, none⟩ = some (.int .i64 n) := by
  constructor <;> rw [cell_of_row _ _ _ _ 57 (0, 0) h.1] <;> simp [tc]
theorem Tk.frozen {w : World} {b : Nat} {W n : Int} {es : List Sl} (h : Tk w b W n es) (q : Nat) : w.frozen? ⟨b, q, none⟩ = false := frozen_of_row _ _ _ _ 57 h.1
theorem Tk.lt {w : World} {b : Nat} {W n : Int} {es : List Sl} (h : Tk w b W n es) : b < w.heap.size := World.block_lt_of_cell? w _ h.head.1
theorem Tk.set {w : World} {b : Nat} {W n : Int} {es : List Sl} (h : Tk w b W n es) {i : Nat} (hi : i < es.length) (k : Nat) (hk : k < 6) (v : Value) (x : Sl) (hx : (sc es[i]).set k v = sc x) : Tk (w.setCell ⟨b, at6 i + k, none⟩ v) b W n (es.set i x) := by
  refine ⟨?_, by rw [List.length_set]; exact h.2⟩
  rw [heap_setCell_same w b _ _ 57 v h.1]
  congr 2
  rw [List.setIfInBounds_toArray]
  congr 1
  rw [at6, show 2 + i * 6 + k = (i * 6 + k) + 1 + 1 by omega]
  simp only [tc, List.set_cons_succ]
  rw [fm_set sc 6 (fun _ => rfl) es i hi k hk v x hx]
theorem Tk.below {w w' : World} {b : Nat} {W n : Int} {es : List Sl} (h : Tk w b W n es) (hb : Below w.heap.size w w') : Tk w' b W n es := ⟨(hb.block b h.lt).trans h.1, h.2⟩
theorem Tk.ko {w w' : World} {b X : Nat} {W n : Int} {es : List Sl} (h : Tk w b W n es) (hk : Ko w w' X) (hX : b ≠ X) : Tk w' b W n es := ⟨(hk.2 b hX h.lt).trans h.1, h.2⟩
/-- what put makes of a slot -/
def putS (e : Sl) (v who : Int) (s : ByteArray) : Sl := ⟨e.sl, v, who, s, true, false⟩
theorem put_world {w : World} {b : Nat} {W n : Int} {es : List Sl} (h : Tk w b W n es) {i : Nat} (hi : i < es.length) (v who : Int) (s : ByteArray) :
    Tk (((((w.setCell ⟨b, at6 i + 1, none⟩ (.int .i64 v)).setCell ⟨b, at6 i + 2, none⟩ (.int .i64 who)).setCell ⟨b, at6 i + 3, none⟩ (.string s)).setCell ⟨b, at6 i + 4, none⟩ (.bool true)).setCell ⟨b, at6 i + 5, none⟩ (.bool false)) b W n (es.set i (putS es[i] v who s)) ∧
    Ko w (((((w.setCell ⟨b, at6 i + 1, none⟩ (.int .i64 v)).setCell ⟨b, at6 i + 2, none⟩ (.int .i64 who)).setCell ⟨b, at6 i + 3, none⟩ (.string s)).setCell ⟨b, at6 i + 4, none⟩ (.bool true)).setCell ⟨b, at6 i + 5, none⟩ (.bool false)) b := by
  refine ⟨?_, ((((ko_set _ _ _ _).trans (ko_set _ _ _ _)).trans (ko_set _ _ _ _)).trans (ko_set _ _ _ _)).trans (ko_set _ _ _ _)⟩
  have h1 := h.set hi 1 (by omega) (.int .i64 v) { es[i] with ver := v } rfl
  have h2 := h1.set (i := i) (by simpa using hi) 2 (by omega) (.int .i64 who) { es[i] with ver := v, who := who } (by simp; rfl)
  have h3 := h2.set (i := i) (by simpa using hi) 3 (by omega) (.string s) { es[i] with ver := v, who := who, val := s } (by simp; rfl)
  have h4 := h3.set (i := i) (by simpa using hi) 4 (by omega) (.bool true) { es[i] with ver := v, who := who, val := s, op := true } (by simp; rfl)
  have h5 := h4.set (i := i) (by simpa using hi) 5 (by omega) (.bool false) { es[i] with ver := v, who := who, val := s, op := true, ow := false } (by simp; rfl)
  simpa [putS] using h5

set_option maxHeartbeats 1000000 in
theorem put_any {w : World} {b : Nat} {W n : Int} {es : List Sl} (h : Tk w b W n es) {i : Nat} (hi : i < es.length) (v who : Int) (s : ByteArray) (hs : s.size ≤ 100) :
    Calls Try.prog 23 #[.pointer (some ⟨b, at6 i, none⟩), .int .i64 v, .int .i64 who, .string s] w fun e w' => e = .returned (.tuple #[]) ∧ Tk w' b W n (es.set i (putS es[i] v who s)) ∧ Ko w w' b := by
  have K := clone_any s w (by omega)
  have HT : Hid (Tk w b W n es) := h
  clear h
  generalize hat : at6 i = o
  have HO : Hid (at6 i = o) := hat
  clear hat
  go_enter Try.func23, Try.ntmps23
  go_wp2_with (go_at_call 28; (with_reducible refine K.mono ?_); rintro e w1 ⟨rfl, hb⟩; have T1 := HT.out.below hb; have fz := T1.frozen; have g := T1.slot hi; rw [HO.out] at g; obtain ⟨g0, g1, g2, g3, g4, g5⟩ := g)
  refine bodyPost_end (results_none rfl _ _ _) rfl ?_
  have P := put_world T1 hi v who s
  rw [HO.out] at P
  exact ⟨rfl, P.1, (ko_below hb).trans P.2⟩

theorem third (w : World) (a b c : Obj) : (((w.alloc a).alloc b).alloc c).drew.heap[w.heap.size + 1 + 1]? = some c := by
  have s2 : ((w.alloc a).alloc b).heap.size = w.heap.size + 1 + 1 := by simp
  have := heap_alloc_new ((w.alloc a).alloc b) c
  rwa [s2] at this
theorem two (w : World) (a b : Obj) : ((w.alloc a).alloc b).heap[w.heap.size]? = some a ∧ ((w.alloc a).alloc b).heap[w.heap.size + 1]? = some b ∧ ((w.alloc a).alloc b).heap.size = w.heap.size + 2 := by
  have s1 : (w.alloc a).heap.size = w.heap.size + 1 := by simp
  have h1 := heap_alloc_new w a
  have h2 := heap_alloc_new (w.alloc a) b
  rw [s1] at h2
  exact ⟨(((Below.refl _ _).alloc (Nat.le_refl _) b).block w.heap.size (by omega)).trans h1, h2, by simp⟩
set_option maxHeartbeats 2000000 in
theorem compare_any (x y : To) (w : World) : Calls Try.prog 29 #[vt x, vt y] w fun e w' => e = .returned (.int .i64 (cmpT x y)) ∧ Below w.heap.size w w' := by
  obtain ⟨x0, x1, x2, x3, x4⟩ := x
  obtain ⟨y0, y1, y2, y3, y4⟩ := y
  unfold vt cmpT
  dsimp only
  have K1 := fun W => cmpI_any x1 y1 W
  have K2 := fun W => cmpI_any x2 y2 W
  have K3 := fun W => Try.strings_Compare x3 y3 W
  generalize cmpI x1 y1 = c1 at *
  generalize cmpI x2 y2 = c2 at *
  generalize Lib.compareBytes x3.data.toList y3.data.toList = c3 at *
  obtain ⟨W0, hW0⟩ : ∃ W, (w.alloc (.cells #[.int .i64 x0, .int .i64 x1, .int .i64 x2, .string x3, .bool x4] 44)).alloc (.cells #[.int .i64 y0, .int .i64 y1, .int .i64 y2, .string y3, .bool y4] 44) = W := ⟨_, rfl⟩
  have hb0 : Below w.heap.size w W0 := hW0 ▸ ((Below.refl w.heap.size w).alloc (Nat.le_refl _) _).alloc (by simp) _
  have hh := two w (.cells #[.int .i64 x0, .int .i64 x1, .int .i64 x2, .string x3, .bool x4] 44) (.cells #[.int .i64 y0, .int .i64 y1, .int .i64 y2, .string y3, .bool y4] 44)
  rw [hW0] at hh
  have a1 := cell_of_row _ _ 1 _ _ _ hh.1
  have a2 := cell_of_row _ _ 2 _ _ _ hh.1
  have a3 := cell_of_row _ _ 3 _ _ _ hh.1
  have d1 := cell_of_row _ _ 1 _ _ _ hh.2.1
  have d2 := cell_of_row _ _ 2 _ _ _ hh.2.1
  have d3 := cell_of_row _ _ 3 _ _ _ hh.2.1
  have HW0 : Hid ((w.alloc (.cells #[.int .i64 x0, .int .i64 x1, .int .i64 x2, .string x3, .bool x4] 44)).alloc (.cells #[.int .i64 y0, .int .i64 y1, .int .i64 y2, .string y3, .bool y4] 44) = W0) := hW0
  have hlt : w.heap.size + 1 < W0.heap.size := by rw [hh.2.2]; omega
  have hnew : (W0.alloc (.cells #[.int .i64 c1, .int .i64 c2, .int .i64 c3] 3)).drew.heap[W0.heap.size]? = some (.cells #[.int .i64 c1, .int .i64 c2, .int .i64 c3] 3 (0, 0)) := heap_alloc_new W0 _
  have K4 : Calls Try.prog 31 #[.slice (some ⟨W0.heap.size, 0, none⟩) 3 3] (W0.alloc (.cells #[.int .i64 c1, .int .i64 c2, .int .i64 c3] 3)).drew fun e w' => e = .returned (.int .i64 (or3 c1 c2 c3)) ∧ w' = (W0.alloc (.cells #[.int .i64 c1, .int .i64 c2, .int .i64 c3] 3)).drew := or_any c1 c2 c3 W0.heap.size _ (cell_of_row _ _ 0 _ 3 (0, 0) hnew) (cell_of_row _ _ 1 _ 3 (0, 0) hnew) (cell_of_row _ _ 2 _ 3 (0, 0) hnew)
  have hb1 : Below w.heap.size w (W0.alloc (.cells #[.int .i64 c1, .int .i64 c2, .int .i64 c3] 3)).drew := (hb0.alloc hb0.size _).drew
  clear hnew
  clear hW0 hh
  go_enter Try.func29, Try.ntmps29
  go_wp2_with fail
  rw [HW0.out]
  go_region_held3 (fun W => W.cell? ⟨w.heap.size, 1, none⟩ = some (.int .i64 x1) ∧ W.cell? ⟨w.heap.size, 2, none⟩ = some (.int .i64 x2) ∧ W.cell? ⟨w.heap.size, 3, none⟩ = some (.string x3) ∧ W.cell? ⟨w.heap.size + 1, 1, none⟩ = some (.int .i64 y1) ∧ W.cell? ⟨w.heap.size + 1, 2, none⟩ = some (.int .i64 y2) ∧ W.cell? ⟨w.heap.size + 1, 3, none⟩ = some (.string y3)) (go_keep) (first | (go_at_call 32; (with_reducible refine (K1 _).mono ?_); rintro e w1 ⟨rfl, rfl⟩) | (go_at_call 32; (with_reducible refine (K2 _).mono ?_); rintro e w1 ⟨rfl, rfl⟩) | (go_at_call 33; (with_reducible refine (K3 _).mono ?_); rintro e w1 ⟨rfl, rfl⟩) | (go_at_call 31; (with_reducible refine K4.mono ?_); rintro e w1 ⟨rfl, rfl⟩))
  all_goals
    go_wp2
    go_ret
    exact ⟨rfl, hb1⟩
end Go.Proofs.Ytmhgoddlbklbfaa.Tb
