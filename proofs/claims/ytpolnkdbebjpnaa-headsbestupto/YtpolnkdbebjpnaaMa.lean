/- How numbers and scores lie in memory, what turns and what stays; slices made. No conditions but sizes. -/
import Derived.Test.YtpolnkdbebjpnaaProg
import Derived.WalkKit
import Derived.WalkSpells
import Derived.WalkLawsBesides
import Derived.BigCall
import Derived.OwnWalk
import Derived.Deep.MidRow
import Derived.Test.YtpolnkdbebjpnaaPa
namespace Go.Proofs.Ytpolnkdbebjpnaa.Hd
open Go.RowKit

theorem inf3 : (Try.prog.info? 3).map (fun i => (i.zero, i.size, i.bytes)) = some (some (.int .i64 0), 1, 8) := by kernel_rfl
/-- a slice that is read: n elements of so many cells each -/
def Row (w : World) (v : Value) (size n : Nat) (xs : List Value) : Prop :=
  xs.length = n * size ∧ ∃ a cap, v = .slice a n cap ∧ n ≤ 140737488355328 ∧ (n = 0 ∨ ∃ b off, a = some ⟨b, off, none⟩ ∧ b < w.heap.size ∧ ∀ j u, xs[j]? = some u → w.cell? ⟨b, off + j, none⟩ = some u)
theorem Row.below {w w' : World} {v : Value} {size n : Nat} {xs : List Value} (h : Row w v size n xs) (hb : Below w.heap.size w w') : Row w' v size n xs := by
  obtain ⟨hl, a, cap, hv, hn, h⟩ := h
  refine ⟨hl, a, cap, hv, hn, ?_⟩
  rcases h with h | ⟨b, off, ha, hlt, hc⟩
  · exact .inl h
  · exact .inr ⟨b, off, ha, Nat.lt_of_lt_of_le hlt hb.size, fun j u hu => (hb.cell (p := ⟨b, off + j, none⟩) hlt).trans (hc j u hu)⟩
theorem Row.alloc {w : World} {v : Value} {size n : Nat} {xs : List Value} (h : Row w v size n xs) (o : Obj) : Row (w.alloc o) v size n xs := h.below ((Below.refl _ w).alloc (Nat.le_refl _) o)
/-- nothing but these blocks has changed, of those that were there -/
structure Kp (X : Nat → Prop) (w w' : World) : Prop where
  os : w'.os = w.os
  tape : w'.tape = w.tape
  output : w'.output = w.output
  size : w.heap.size ≤ w'.heap.size
  block : ∀ k, k < w.heap.size → ¬ X k → w'.heap[k]? = w.heap[k]?
theorem Kp.refl (X : Nat → Prop) (w : World) : Kp X w w := ⟨rfl, rfl, rfl, Nat.le_refl _, fun _ _ _ => rfl⟩
theorem Kp.trans {X : Nat → Prop} {a b c : World} (h : Kp X a b) (k : Kp X b c) : Kp X a c :=
  ⟨k.os.trans h.os, k.tape.trans h.tape, k.output.trans h.output, Nat.le_trans h.size k.size, fun i hi hx => (k.block i (Nat.lt_of_lt_of_le hi h.size) hx).trans (h.block i hi hx)⟩
theorem Kp.mono {X Y : Nat → Prop} {a b : World} (h : Kp X a b) (hXY : ∀ k, k < a.heap.size → X k → Y k) : Kp Y a b :=
  ⟨h.os, h.tape, h.output, h.size, fun k hk hy => h.block k hk (fun hx => hy (hXY k hk hx))⟩
theorem Kp.alloc {X : Nat → Prop} {a w : World} (h : Kp X a w) (o : Obj) : Kp X a (w.alloc o) :=
  h.trans ⟨rfl, rfl, rfl, by simp, fun k hk _ => heap_alloc_old w o hk⟩
theorem Kp.drewN {X : Nat → Prop} {a w : World} (h : Kp X a w) (d : Nat) : Kp X a (w.drewN d) := ⟨h.os, h.tape, h.output, h.size, h.block⟩
theorem Kp.grown {X : Nat → Prop} {a w w' : World} {row : Option Nat} (h : Kp X a w) (hg : w.grownBy w' row) (hX : ∀ k, row = some k → k < a.heap.size → X k) : Kp X a w' :=
  ⟨hg.os.trans h.os, hg.tape.trans h.tape, hg.output.trans h.output, Nat.le_trans h.size hg.size, fun k hk hx => (hg.block k (Nat.lt_of_lt_of_le hk h.size) (fun e => hx (hX k e.symm hk))).trans (h.block k hk hx)⟩
theorem Kp.setCell {X : Nat → Prop} {a w : World} (h : Kp X a w) (b j : Nat) (u : Value) (hX : b < a.heap.size → X b) : Kp X a (w.setCell ⟨b, j, none⟩ u) := by
  refine ⟨h.os, h.tape, h.output, ?_, fun k hk hx => ?_⟩
  · have := h.size
    simp
    omega
  · rw [Below.heap_setCell _ _ _ _ (fun e => by subst e; exact hx (hX hk))]
    exact h.block k hk hx
theorem Kp.cell {X : Nat → Prop} {w w' : World} (h : Kp X w w') {b j : Nat} (hb : b < w.heap.size) (hx : ¬ X b) : w'.cell? ⟨b, j, none⟩ = w.cell? ⟨b, j, none⟩ := World.cell?_of_block (w := w) (h.block b hb hx)
theorem own_ty {w : World} {base e size n : Nat} {v : Value} {xs : List Value} (h : w.ownsRow base e size v n xs) {k : Nat} (hk : v.ownBlock = some k) : ∃ cur, w.heap[k]? = some (.cells cur e (0, 0)) := by
  rcases h.2 with ⟨rfl, _⟩ | ⟨g, cap, cur, rfl, _, hg, _⟩
  · simp [Value.ownBlock] at hk
  · simp [Value.ownBlock] at hk
    subst hk
    exact ⟨cur, hg⟩
theorem ty_ne {w : World} {k : Nat} {c1 c2 : Array Value} {e1 e2 : TypeId} (h1 : w.heap[k]? = some (.cells c1 e1 (0, 0))) (h2 : w.heap[k]? = some (.cells c2 e2 (0, 0))) (hne : e1 ≠ e2) : False := by
  rw [h1] at h2
  simp only [Option.some.injEq, Obj.cells.injEq] at h2
  exact hne h2.2.1
theorem own_kp2 {w w' : World} {base e size n : Nat} {v : Value} {xs : List Value} {X : Nat → Prop} (h : w.ownsRow base e size v n xs) (hk : Kp X w w') (hx : ∀ k, v.ownBlock = some k → ¬ X k) : w'.ownsRow base e size v n xs := by
  refine ⟨h.1, ?_⟩
  rcases h.2 with hn | ⟨g, cap, cur, rfl, hb, hg, rest⟩
  · exact .inl hn
  · exact .inr ⟨g, cap, cur, rfl, hb, (hk.block g (Array.getElem?_eq_some_iff.1 hg).1 (hx g rfl)).trans hg, rest⟩
theorem own_some {w : World} {base e size n : Nat} {v : Value} {xs : List Value} (h : w.ownsRow base e size v n xs) (hn : 0 < n) : ∃ g cap, v = .slice (some ⟨g, 0, none⟩) n cap ∧ base ≤ g ∧ g < w.heap.size := by
  rcases h.2 with ⟨_, h0⟩ | ⟨g, cap, cur, hv, hb, hg, _⟩
  · omega
  · exact ⟨g, cap, hv, hb, (Array.getElem?_eq_some_iff.1 hg).1⟩
theorem kp_then {X Y : Nat → Prop} {a b c : World} (h : Kp X a b) (k : Kp Y b c) (hY : ∀ i, i < a.heap.size → Y i → X i) : Kp X a c :=
  ⟨k.os.trans h.os, k.tape.trans h.tape, k.output.trans h.output, Nat.le_trans h.size k.size, fun i hi hx => (k.block i (Nat.lt_of_lt_of_le hi h.size) (fun e => hx (hY i hi e))).trans (h.block i hi hx)⟩
theorem below_al (W : World) (o : Obj) : Below W.heap.size W (W.alloc o) := (Below.refl _ _).alloc (Nat.le_refl _) _
theorem lt_at {w : World} {g : Nat} {o : Obj} (h : w.heap[g]? = some o) : g < w.heap.size := (Array.getElem?_eq_some_iff.1 h).1
theorem kp_below {w w' : World} (h : Below w.heap.size w w') (X : Nat → Prop) : Kp X w w' := ⟨h.os, h.tape, h.output, h.size, fun k hk _ => h.block k hk⟩
theorem below_kp {w w1 w2 : World} {X : Nat → Prop} (h : Below w.heap.size w w1) (k : Kp X w1 w2) (hX : ∀ b, b < w.heap.size → ¬ X b) : Below w.heap.size w w2 :=
  ⟨k.os.trans h.os, k.tape.trans h.tape, k.output.trans h.output, Nat.le_trans h.size k.size, fun b hb => (k.block b (Nat.lt_of_lt_of_le hb h.size) (hX b hb)).trans (h.block b hb)⟩
theorem own_le {w : World} {b b' e s n : Nat} {v : Value} {xs : List Value} (h : w.ownsRow b e s v n xs) (hb : b' ≤ b) : w.ownsRow b' e s v n xs := by
  refine ⟨h.1, ?_⟩
  rcases h.2 with h' | ⟨g, cap, cur, hv, hg, hrest⟩
  · exact .inl h'
  · exact .inr ⟨g, cap, cur, hv, Nat.le_trans hb hg, hrest⟩
theorem oslice {w : World} {base e size n : Nat} {v : Value} {xs : List Value} (h : w.ownsRow base e size v n xs) : ∃ a cap, v = .slice a n cap := by
  rcases h.2 with ⟨rfl, rfl⟩ | ⟨g, cap, cur, hv, _⟩
  · exact ⟨none, 0, rfl⟩
  · exact ⟨_, _, hv⟩
theorem own_rowN {w : World} {base e s n : Nat} {v : Value} {xs : List Value} (h : w.ownsRow base e s v n xs) (hn : n ≤ 140737488355328) : Row w v s n xs := by
  obtain ⟨a, c, hv⟩ := oslice h
  refine ⟨h.1, a, c, hv, hn, ?_⟩
  rcases Nat.eq_zero_or_pos n with h0 | h0
  · exact .inl h0
  · obtain ⟨g, cap, hv2, _, hg⟩ := own_some h h0
    rw [hv] at hv2
    rw [Value.slice.injEq] at hv2
    refine .inr ⟨g, 0, hv2.1, hg, fun j u hu => ?_⟩
    have hj : j < n * s := by have := (List.getElem?_eq_some_iff.1 hu).1; have := h.1; omega
    have hcap := h
    rw [hv, hv2.1] at hcap
    rw [Nat.zero_add]
    exact (hcap.cellAt j hj).trans hu
def ns (T : List Nat) : List Value := T.map fun (k : Nat) => Value.int .i64 (k : Int)
theorem ns_snoc (l : List Nat) (x : Nat) : ns (l ++ [x]) = ns l ++ ns [x] := by simp [ns]
theorem ns_at {l : List Nat} {y z : Nat} (h : l[y]? = some z) : (ns l)[y]? = some (.int .i64 (z : Int)) := by unfold ns; rw [List.getElem?_map, h]; rfl
theorem ns_set (l : List Nat) (i x : Nat) : (ns l).set i (.int .i64 (x : Int)) = ns (l.set i x) := by unfold ns; rw [List.map_set]
theorem ns_getD {l : List Nat} {j : Nat} (h : j < l.length) : (ns l)[j]? = some (.int .i64 (l.getD j 0 : Int)) := by
  rw [ns_at (List.getElem?_eq_getElem h), List.getD_eq_getElem?_getD, List.getElem?_eq_getElem h]
  rfl
def ints (l : List Int) : List Value := l.map (Value.int .i64)
theorem ints_at {l : List Int} {k : Nat} (h : k < l.length) : (ints l)[k]? = some (.int .i64 l[k]) := by
  unfold ints
  simp [h]
theorem cell_one_new (w : World) (u : Value) (ty : TypeId) : ∀ j v, [u][j]? = some v → (w.alloc (.cells #[u] ty)).cell? ((⟨w.heap.size, 0, none⟩ : Addr).add j) = some v := fun j v hj => by
  have e0 : j = 0 := by have := (List.getElem?_eq_some_iff.1 hj).1; simpa using this
  subst e0
  have e : u = v := by simpa using hj
  subst e
  rw [show (⟨w.heap.size, 0, none⟩ : Addr).add 0 = ⟨w.heap.size, 0, none⟩ by simp [Addr.add]]
  exact cell_of_row _ _ 0 _ _ _ (heap_alloc_new w _)
theorem sl_one (v : Value) (h : v.oneCell' = true) : ∀ u ∈ [v], u.oneCell' = true := fun u hu => by rw [List.mem_singleton.1 hu]; exact h
theorem run_mk26n (n : Nat) (hn : n ≤ 2000000) (W : World) : (Instr.makeSlice 26 (.int .i64 (n : Int)) (.int .i64 (n : Int))).run Try.prog W = .ok (.slice (some ⟨W.heap.size, 0, none⟩) n n) (W.alloc (.cells (madeCells #[.int .i64 0] n) 3)) := by
  obtain ⟨i0, hi, hz0, hz1, hz2⟩ := info_parts inf3
  have hr := run_make (P := Try.prog) W 26 3 i0 (.int .i64 0) Try.underlying26 hi hz0 .i64 .i64 (n : Int) (n : Int) (by omega) (Int.le_refl _) (by rw [hz2]; omega) (by omega)
  simp only [Int.toNat_natCast, hz1, Nat.mul_one] at hr
  exact hr
theorem own_mk26n (W : World) (base n : Nat) (hb : base ≤ W.heap.size) (hn : n ≤ 2000000) : (W.alloc (.cells (madeCells #[.int .i64 0] n) 3)).ownsRow base 3 1 (.slice (some ⟨W.heap.size, 0, none⟩) n n) n (ns (List.replicate n 0)) := by
  have e : (madeCells #[.int .i64 0] n).toList = ns (List.replicate n 0) := by rw [toList_madeCells_one]; simp [ns]
  refine ⟨by simp [ns], .inr ⟨W.heap.size, n, madeCells #[.int .i64 0] n, rfl, hb, heap_alloc_new _ _, Nat.le_refl _, by unfold maxLen; omega, ?_, ?_⟩⟩
  · rw [← Array.length_toList, e]; simp [ns]
  · rw [e]; simp [ns]

/-- scores as they lie, to be read: n words, so n + 1 rows of n numbers; s h w: what it is worth that w hangs on h -/
structure Sc (w : World) (b off n : Nat) (ra : Nat → Option Addr) (rc : Nat → Nat) (s : Nat → Nat → Int) : Prop where
  lt : b < w.heap.size
  row : ∀ h, h ≤ n → w.cell? ⟨b, off + h, none⟩ = some (.slice (ra h) n (rc h))
  num : ∀ h, h ≤ n → 0 < n → ∃ rb ro, ra h = some ⟨rb, ro, none⟩ ∧ rb < w.heap.size ∧ ∀ i, i < n → w.cell? ⟨rb, ro + i, none⟩ = some (.int .i64 (s h (i + 1)))
theorem Sc.below {w w' : World} {b off n : Nat} {ra : Nat → Option Addr} {rc : Nat → Nat} {s : Nat → Nat → Int} (h : Sc w b off n ra rc s) (hb : Below w.heap.size w w') : Sc w' b off n ra rc s :=
  ⟨Nat.lt_of_lt_of_le h.lt hb.size, fun i hi => (hb.cell (p := ⟨b, off + i, none⟩) h.lt).trans (h.row i hi), fun i hi h0 => by
    obtain ⟨rb, ro, e, hl, hc⟩ := h.num i hi h0
    exact ⟨rb, ro, e, Nat.lt_of_lt_of_le hl hb.size, fun j hj => (hb.cell (p := ⟨rb, ro + j, none⟩) hl).trans (hc j hj)⟩⟩
/-- on which a word hangs, as a list tells -/
def uv (l : List Nat) : Nat → Nat
  | 0 => 0
  | w + 1 => l.getD w 0
theorem uv_zero (l : List Nat) : uv l 0 = 0 := rfl
theorem uv_at {l : List Nat} {i : Nat} (h : i < l.length) : l[i]? = some (uv l (i + 1)) := by
  show l[i]? = some (l.getD i 0)
  rw [List.getD_eq_getElem?_getD, List.getElem?_eq_getElem h]; rfl
theorem uv_set {l : List Nat} {i x : Nat} (h : i < l.length) (w : Nat) : uv (l.set i x) w = if w = i + 1 then x else uv l w := by
  cases w with
  | zero => rw [if_neg (by omega)]; rfl
  | succ w =>
    show (l.set i x).getD w 0 = if w + 1 = i + 1 then x else l.getD w 0
    rw [List.getD_eq_getElem?_getD, List.getD_eq_getElem?_getD, List.getElem?_set]
    by_cases e : i = w
    · subst e; rw [if_pos rfl, if_pos h, if_pos rfl]; rfl
    · rw [if_neg e, if_neg (by omega)]
theorem ns_length (l : List Nat) : (ns l).length = l.length := by simp [ns]
theorem ns_uv {l : List Nat} {i : Nat} (h : i < l.length) : (ns l)[i]? = some (.int .i64 (uv l (i + 1) : Int)) := ns_at (uv_at h)
end Go.Proofs.Ytpolnkdbebjpnaa.Hd
