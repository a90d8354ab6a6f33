/- How machines and lists of numbers lie in memory, to be read; what Check says of a machine, in plain words. No conditions. -/
import Derived.Test.YtfjocafepigijaaDoorProg
import Derived.WalkKit
import Derived.WalkSpells
import Derived.WalkLawsBesides
import Derived.BigCall
import Derived.Laws.Bits64b
namespace Go.Proofs.YtfjocafepigijaaDoor.Mv
open Go.RowKit

/-- a slice that is read: n elements of so many cells each -/
def Row (w : World) (v : Value) (size n : Nat) (xs : List Value) : Prop :=
  xs.length = n * size ∧ ∃ a cap, v = .slice a n cap ∧ n ≤ 140737488355328 ∧ (n = 0 ∨ ∃ b off, a = some ⟨b, off, none⟩ ∧ b < w.heap.size ∧ ∀ j u, xs[j]? = some u → w.cell? ⟨b, off + j, none⟩ = some u)

theorem Row.below {w w' : World} {v : Value} {size n : Nat} {xs : List Value} (h : Row w v size n xs) (hb : Below w.heap.size w w') : Row w' v size n xs := by
  obtain ⟨hl, a, cap, hv, hn, h⟩ := h
  refine ⟨hl, a, cap, hv, hn, ?_⟩
  rcases h with h | ⟨b, off, ha, hlt, hc⟩
  · exact .inl h
  · exact .inr ⟨b, off, ha, Nat.lt_of_lt_of_le hlt hb.size, fun j u hu => (hb.cell (p := ⟨b, off + j, none⟩) hlt).trans (hc j u hu)⟩
/-- a machine: states; arcs (from, to, in, out, cost); finals (state, cost) -/
structure M where
  st : Int
  arcs : List (Int × Int × Int × Int × Int)
  fins : List (Int × Int)
def ac (a : Int × Int × Int × Int × Int) : List Value := [.int .i64 a.1, .int .i64 a.2.1, .int .i64 a.2.2.1, .int .i64 a.2.2.2.1, .int .i64 a.2.2.2.2]
def acs (l : List (Int × Int × Int × Int × Int)) : List Value := l.flatMap ac
def fc (a : Int × Int) : List Value := [.int .i64 a.1, .int .i64 a.2]
def fcs (l : List (Int × Int)) : List Value := l.flatMap fc

theorem acs_length (l : List (Int × Int × Int × Int × Int)) : (acs l).length = l.length * 5 := by
  induction l with
  | nil => rfl
  | cons a l ih => simp [acs, ac] at ih ⊢; omega
theorem fcs_length (l : List (Int × Int)) : (fcs l).length = l.length * 2 := by
  induction l with
  | nil => rfl
  | cons a l ih => simp [fcs, fc] at ih ⊢; omega
theorem acs_at (l : List (Int × Int × Int × Int × Int)) (k : Nat) (h : k < l.length) :
    (acs l)[k * 5]? = some (.int .i64 (l[k]).1) ∧ (acs l)[k * 5 + 1]? = some (.int .i64 (l[k]).2.1) ∧ (acs l)[k * 5 + 2]? = some (.int .i64 (l[k]).2.2.1) ∧ (acs l)[k * 5 + 3]? = some (.int .i64 (l[k]).2.2.2.1) ∧ (acs l)[k * 5 + 4]? = some (.int .i64 (l[k]).2.2.2.2) := by
  induction l generalizing k with
  | nil => simp at h
  | cons a l ih =>
    cases k with
    | zero => simp [acs, ac]
    | succ k =>
      have := ih k (by simpa using h)
      have e : ∀ j, (acs (a :: l))[(k + 1) * 5 + j]? = (acs l)[k * 5 + j]? := by
        intro j
        have : (k + 1) * 5 + j = (k * 5 + j) + 5 := by omega
        rw [this]
        simp [acs, ac]
      exact ⟨(e 0).trans this.1, (e 1).trans this.2.1, (e 2).trans this.2.2.1, (e 3).trans this.2.2.2.1, (e 4).trans this.2.2.2.2⟩
theorem fcs_at (l : List (Int × Int)) (k : Nat) (h : k < l.length) : (fcs l)[k * 2]? = some (.int .i64 (l[k]).1) ∧ (fcs l)[k * 2 + 1]? = some (.int .i64 (l[k]).2) := by
  induction l generalizing k with
  | nil => simp at h
  | cons a l ih =>
    cases k with
    | zero => simp [fcs, fc]
    | succ k =>
      have := ih k (by simpa using h)
      have e : ∀ j, (fcs (a :: l))[(k + 1) * 2 + j]? = (fcs l)[k * 2 + j]? := by
        intro j
        have : (k + 1) * 2 + j = (k * 2 + j) + 2 := by omega
        rw [this]
        simp [fcs, fc]
      exact ⟨(e 0).trans this.1, (e 1).trans this.2⟩

/-- a machine, handed in by value -/
def IsM (w : World) (v : Value) (m : M) : Prop := ∃ va vf, v = .agg #[.int .i64 m.st, va, vf] ∧ Row w va 5 m.arcs.length (acs m.arcs) ∧ Row w vf 2 m.fins.length (fcs m.fins)
theorem IsM.below {w w' : World} {v : Value} {m : M} (h : IsM w v m) (hb : Below w.heap.size w w') : IsM w' v m := by
  obtain ⟨va, vf, hv, h1, h2⟩ := h
  exact ⟨va, vf, hv, h1.below hb, h2.below hb⟩

/-- B1, in plain words -/
def arcB (st : Int) (a : Int × Int × Int × Int × Int) : Bool :=
  decide (0 ≤ a.1 ∧ a.1 < st ∧ 0 ≤ a.2.1 ∧ a.2.1 < st ∧ 0 ≤ a.2.2.1 ∧ a.2.2.1 ≤ 60 ∧ 0 ≤ a.2.2.2.1 ∧ a.2.2.2.1 ≤ 60 ∧ 0 ≤ a.2.2.2.2 ∧ a.2.2.2.2 ≤ 1000000)
def finB (st : Int) (f : Int × Int) : Bool := decide (0 ≤ f.1 ∧ f.1 < st ∧ 0 ≤ f.2 ∧ f.2 ≤ 1000000)
def sizeB (m : M) : Bool := decide (1 ≤ m.st ∧ m.st ≤ 3000 ∧ (m.arcs.length : Int) ≤ 20000 ∧ (m.fins.length : Int) ≤ m.st)
/-- no state is final twice among the first k -/
def onceK (m : M) (k : Nat) : Prop := ∀ i j (hi : i < m.fins.length) (hj : j < m.fins.length), i < j → j < k → (m.fins[i]).1 ≠ (m.fins[j]).1
def checkP (m : M) (e : Int) : Prop :=
  (sizeB m = false ∧ e = 7) ∨
  (sizeB m = true ∧ (∃ k, ∃ h : k < m.arcs.length, arcB m.st m.arcs[k] = false) ∧ e = 3) ∨
  (sizeB m = true ∧ (∀ k (h : k < m.arcs.length), arcB m.st m.arcs[k] = true) ∧ (∃ k, ∃ h : k < m.fins.length, finB m.st m.fins[k] = false) ∧ e = 3) ∨
  (sizeB m = true ∧ (∀ k (h : k < m.arcs.length), arcB m.st m.arcs[k] = true) ∧ (∀ k (h : k < m.fins.length), finB m.st m.fins[k] = true) ∧ ¬ onceK m m.fins.length ∧ e = 6) ∨
  (sizeB m = true ∧ (∀ k (h : k < m.arcs.length), arcB m.st m.arcs[k] = true) ∧ (∀ k (h : k < m.fins.length), finB m.st m.fins[k] = true) ∧ onceK m m.fins.length ∧ e = 0)
theorem checkP_one {m : M} {e e' : Int} (h : checkP m e) (h' : checkP m e') : e = e' := by
  rcases h with ⟨a, r⟩ | ⟨a, ⟨k, hk, b⟩, r⟩ | ⟨a, b, ⟨k, hk, c⟩, r⟩ | ⟨a, b, c, d, r⟩ | ⟨a, b, c, d, r⟩ <;>
  rcases h' with ⟨a', r'⟩ | ⟨a', ⟨k', hk', b'⟩, r'⟩ | ⟨a', b', ⟨k', hk', c'⟩, r'⟩ | ⟨a', b', c', d', r'⟩ | ⟨a', b', c', d', r'⟩ <;>
  first
  | omega
  | (rw [a] at a'; exact absurd a' (by decide))
  | (have q := b' k hk; rw [b] at q; exact absurd q (by decide))
  | (have q := b k' hk'; rw [b'] at q; exact absurd q (by decide))
  | (have q := c' k hk; rw [c] at q; exact absurd q (by decide))
  | (have q := c k' hk'; rw [c'] at q; exact absurd q (by decide))
  | exact absurd d' d
  | exact absurd d d'
end Go.Proofs.YtfjocafepigijaaDoor.Mv
/- The program's sets of numbers, a bit for each: newSet and add. Condition: the number lies in the set's words. -/
namespace Go.Proofs.YtfjocafepigijaaDoor.Set
open Go.RowKit Mv

theorem info102 : (Tryd.prog.info? 136).map (fun i => (i.zero, i.size, i.bytes)) = some (some (.int .u64 0), 1, 8) := by kernel_rfl

/-- is a number in the set of these words? -/
def mem (ws : List Nat) (k : Nat) : Bool := (ws[k / 64]?.getD 0).testBit (k % 64)
def cellsW (ws : List Nat) : List Value := ws.map fun (x : Nat) => Value.int .u64 (x : Int)
/-- a set that the call owns, for numbers below n -/
def IsSet (w : World) (base : Nat) (v : Value) (n : Nat) (ws : List Nat) : Prop := w.ownsRow base 136 1 v ws.length (cellsW ws) ∧ (∀ x ∈ ws, x < 18446744073709551616) ∧ n ≤ 64 * ws.length ∧ ws.length ≤ 281474976710656

theorem pow_lt (j : Nat) (h : j < 64) : 2 ^ j < 18446744073709551616 := by
  have : 2 ^ j < 2 ^ 64 := Nat.pow_lt_pow_right (by decide) h
  simpa using this
theorem wrap_pow (j : Nat) (h : j < 64) : IntKind.u64.wrap (2 ^ j) = ((2 ^ j : Nat) : Int) := by
  have := pow_lt j h
  rw [IntKind.wrap_u64]
  have e : ((2 : Int) ^ j) = ((2 ^ j : Nat) : Int) := by simp
  rw [e]
  generalize 2 ^ j = y at *
  omega
theorem and_pow (x j : Nat) : x &&& 2 ^ j = if x.testBit j then 2 ^ j else 0 := by
  apply Nat.eq_of_testBit_eq
  intro i
  rw [Nat.testBit_and, Nat.testBit_two_pow]
  by_cases e : j = i
  · subst e
    cases x.testBit j <;> simp
  · split <;> simp [e]
theorem and_bit (x j : Nat) (hx : x < 18446744073709551616) (h : j < 64) : (bits .and .u64 (x : Int) (IntKind.u64.wrap (2 ^ j)) == 0) = !x.testBit j := by
  rw [wrap_pow j h, bits_and_u64_nat x (2 ^ j) hx (pow_lt j h), and_pow]
  have hp := Nat.two_pow_pos j
  cases x.testBit j with
  | true =>
    rw [if_pos rfl]
    generalize 2 ^ j = y at *
    simp
    omega
  | false => simp
theorem or_bit (x j : Nat) (hx : x < 18446744073709551616) (h : j < 64) : bits .or .u64 (x : Int) (IntKind.u64.wrap (2 ^ j)) = ((x ||| 2 ^ j : Nat) : Int) := by
  rw [wrap_pow j h, bits_or_u64_nat x (2 ^ j) hx (pow_lt j h)]
def put (ws : List Nat) (k : Nat) : List Nat := ws.set (k / 64) (ws[k / 64]?.getD 0 ||| 2 ^ (k % 64))
theorem mem_put (ws : List Nat) (k j : Nat) (h : k / 64 < ws.length) : mem (put ws k) j = (mem ws j || decide (j = k)) := by
  unfold mem put
  by_cases e : j / 64 = k / 64
  · rw [e, List.getElem?_set_self h]
    simp only [Option.getD_some, Nat.testBit_or, Nat.testBit_two_pow]
    congr 1
    rw [decide_eq_decide]
    omega
  · rw [List.getElem?_set_ne (fun h => e h.symm)]
    have : ¬ j = k := fun h => e (by rw [h])
    simp [this]
theorem put_bd (ws : List Nat) (k : Nat) (h : ∀ x ∈ ws, x < 18446744073709551616) : ∀ x ∈ put ws k, x < 18446744073709551616 := by
  intro x hx
  rcases List.mem_or_eq_of_mem_set hx with hx | rfl
  · exact h x hx
  · have h1 : ws[k / 64]?.getD 0 < 2 ^ 64 := by
      cases e : ws[k / 64]? with
      | none => simp
      | some y => simpa using h y (List.mem_of_getElem? e)
    have h2 : 2 ^ (k % 64) < 2 ^ 64 := Nat.pow_lt_pow_right (by decide) (Nat.mod_lt _ (by decide))
    have := Nat.or_lt_two_pow h1 h2
    simpa using this

set_option maxHeartbeats 400000 in
theorem add_walk (g cap n k x : Nat) (w : World) (h1 : k / 64 < n) (hk : k < 1000000000) (hn : n ≤ 281474976710656) (hc : w.cell? ⟨g, k / 64, none⟩ = some (.int .u64 (x : Int))) (hf : w.frozen? ⟨g, k / 64, none⟩ = false) :
    Calls Tryd.prog 60 #[.slice (some ⟨g, 0, none⟩) n cap, .int .i64 k] w fun e w' => e = .returned (.bool (bits .and .u64 (x : Int) (IntKind.u64.wrap (2 ^ (k % 64))) == 0)) ∧ w' = w.setCell ⟨g, k / 64, none⟩ (.int .u64 (bits .or .u64 (x : Int) (IntKind.u64.wrap (2 ^ (k % 64))))) := by
  go_enter Tryd.func60, Tryd.ntmps60
  go_wp2
  go_ret
  exact ⟨rfl, rfl⟩

/-- add: whether it is new; the set with it -/
theorem add_any (base : Nat) (v : Value) (n k : Nat) (ws : List Nat) (w : World) (h : IsSet w base v n ws) (hk : k < n) (hk2 : k < 1000000000) :
    Calls Tryd.prog 60 #[v, .int .i64 k] w fun e w' => e = .returned (.bool (!mem ws k)) ∧ IsSet w' base v n (put ws k) ∧ w.grownBy w' v.ownBlock := by
  obtain ⟨hown, hbd, hnw, hlw⟩ := h
  have hkw : k / 64 < ws.length := by omega
  have hv : ∃ g cap, v = .slice (some ⟨g, 0, none⟩) ws.length cap := by
    rcases hown.2 with ⟨_, h0⟩ | ⟨g, cap, cur, hv, _⟩
    · omega
    · exact ⟨g, cap, hv⟩
  obtain ⟨g, cap, rfl⟩ := hv
  have ex : ws[k / 64]?.getD 0 = ws[k / 64] := by simp [hkw]
  have hc : w.cell? ⟨g, k / 64, none⟩ = some (.int .u64 ((ws[k / 64] : Nat) : Int)) := by
    rw [hown.cellAt (k / 64) (by omega)]
    simp [cellsW, hkw]
  have hx := hbd _ (List.getElem_mem hkw)
  refine (add_walk g cap ws.length k ws[k / 64] w hkw hk2 hlw hc (hown.frozenAt _)).mono ?_
  rintro e w' ⟨rfl, rfl⟩
  rw [and_bit _ _ hx (Nat.mod_lt _ (by decide)), or_bit _ _ hx (Nat.mod_lt _ (by decide))]
  have hst := hown.stored (k / 64) (.int .u64 ((ws[k / 64] ||| 2 ^ (k % 64) : Nat) : Int))
  refine ⟨by unfold mem; rw [ex], ⟨?_, put_bd ws k hbd, by simp [put]; omega, by simp [put]; omega⟩, hst.2⟩
  unfold put cellsW
  rw [List.map_set, List.length_set, ex]
  exact hst.1

set_option maxHeartbeats 400000 in
set_option maxRecDepth 100000 in
/-- newSet: none is in it -/
theorem new_any (n : Nat) (w : World) (h : n < 1000000000) :
    Calls Tryd.prog 59 #[.int .i64 n] w fun e w' => ∃ v ws, e = .returned v ∧ IsSet w' w.heap.size v n ws ∧ (∀ k, mem ws k = false) ∧ Below w.heap.size w w' := by
  obtain ⟨i0, hi, hz0, hz1, hz2⟩ := info_parts info102
  go_enter Tryd.func59, Tryd.ntmps59
  go_wp2_with (at_make; refine wpList_make_full _ rfl _ _ 77 rfl w.heap.size 136 i0 (.int .u64 0) 1 Tryd.underlying77 hi hz0 hz1 .i64 .i64 _ _ ((n + 63) / 64) rfl rfl (by omega) (by omega) (by rw [hz2]; omega) (by unfold maxLen; omega) (Nat.le_refl _) ?_; intro w1 hown0 hgrow0)
  go_ret
  have e2 : (madeCells (Value.cells (.int .u64 0)) ((n + 63) / 64 * 1)).toList = cellsW (List.replicate ((n + 63) / 64) 0) := by
    rw [Nat.mul_one]
    show (madeCells #[.int .u64 0] ((n + 63) / 64)).toList = _
    rw [toList_madeCells_one]
    simp [cellsW]
  rw [e2] at hown0
  refine ⟨_, List.replicate ((n + 63) / 64) 0, rfl, ⟨by rw [List.length_replicate]; exact hown0, ?_, ?_, ?_⟩, ?_, (Below.refl _ w).grown hgrow0 (Nat.le_refl _) (by simp)⟩
  · intro x hx
    rw [List.eq_of_mem_replicate hx]
    decide
  · simp; omega
  · simp; omega
  · intro k
    unfold mem
    rw [List.getElem?_replicate]
    split <;> simp
end Go.Proofs.YtfjocafepigijaaDoor.Set
/- The document's CheckMachine: what it answers of any machine. No conditions. -/
namespace Go.Proofs.YtfjocafepigijaaDoor.CkR
open Go.RowKit Mv

theorem size_no {m : M} (h : sizeB m = false) : checkP m 7 := .inl ⟨h, rfl⟩

theorem info4 : (Tryd.prog.info? 4).map (fun i => (i.zero, i.size, i.bytes)) = some (some (.bool false), 1, 1) := by kernel_rfl

/-- which states are among the first k finals -/
def Had (st : Nat) (fins : List (Int × Int)) (k : Nat) (hs : List Bool) : Prop := hs.length = st ∧ ∀ s (h : s < hs.length), hs[s] = true ↔ ∃ j, ∃ hj : j < fins.length, j < k ∧ (fins[j]).1 = (s : Int)
theorem Had.zero (st : Nat) (fins : List (Int × Int)) : Had st fins 0 (List.replicate st false) := by
  refine ⟨by simp, fun s h => ?_⟩
  simp
theorem Had.step {st : Nat} {fins : List (Int × Int)} {k : Nat} {hs : List Bool} (h : Had st fins k hs) (hk : k < fins.length) (f : Nat) (hf : (fins[k]).1 = (f : Int)) : Had st fins (k + 1) (hs.set f true) := by
  refine ⟨by simpa using h.1, fun s hl => ?_⟩
  have hl' : s < hs.length := by simpa using hl
  rw [List.getElem_set]
  by_cases e : f = s
  · subst e
    rw [if_pos rfl]
    exact ⟨fun _ => ⟨k, hk, by omega, hf⟩, fun _ => rfl⟩
  · rw [if_neg e, h.2 s hl']
    constructor
    · rintro ⟨j, hj, hjk, hjs⟩
      exact ⟨j, hj, by omega, hjs⟩
    · rintro ⟨j, hj, hjk, hjs⟩
      refine ⟨j, hj, ?_, hjs⟩
      rcases Nat.lt_or_ge j k with h | h
      · exact h
      · obtain rfl : j = k := by omega
        rw [hf] at hjs
        omega
theorem once_step {st : Int} {arcs : List (Int × Int × Int × Int × Int)} {fins : List (Int × Int)} {k n : Nat} {hs : List Bool} (h : onceK ⟨st, arcs, fins⟩ k) (hh : Had n fins k hs) (hk : k < fins.length) (f : Nat) (hf : (fins[k]).1 = (f : Int)) (hl : f < hs.length) (hn : hs[f] = false) : onceK ⟨st, arcs, fins⟩ (k + 1) := by
  intro i j hi hj hij hjk
  rcases Nat.lt_or_ge j k with h' | h'
  · exact h i j hi hj hij h'
  · obtain rfl : j = k := by omega
    intro e
    have := (hh.2 f hl).2 ⟨i, hi, hij, by show (fins[i]).1 = _; rw [show (fins[i]).1 = (fins[j]).1 from e, hf]⟩
    rw [hn] at this
    cases this
theorem once_not {st : Int} {arcs : List (Int × Int × Int × Int × Int)} {fins : List (Int × Int)} {k n : Nat} {hs : List Bool} (hh : Had n fins k hs) (hk : k < fins.length) (f : Nat) (hf : (fins[k]).1 = (f : Int)) (hl : f < hs.length) (hn : hs[f] = true) : ¬ onceK ⟨st, arcs, fins⟩ fins.length := by
  intro h
  obtain ⟨j, hj, hjk, hjs⟩ := (hh.2 f hl).1 hn
  exact h j k hj hk hjk hk (by show (fins[j]).1 = (fins[k]).1; rw [hjs, hf])

set_option maxHeartbeats 4000000 in
set_option maxRecDepth 100000 in
theorem small (st : Int) (arcs : List (Int × Int × Int × Int × Int)) (fins : List (Int × Int)) (aa af : Option Addr) (ca cf : Nat) (w : World) (h : sizeB ⟨st, arcs, fins⟩ = false) :
    Calls Tryd.prog 10 #[.agg #[.int .i64 st, .slice aa arcs.length ca, .slice af fins.length cf]] w fun e w' => e = .returned (.int .i64 7) ∧ Below w.heap.size w w' := by
  unfold sizeB at h
  simp only [decide_eq_false_iff_not] at h
  by_cases h1 : st < 1
  · go_enter Tryd.func10, Tryd.ntmps10
    go_wp2
    go_ret
    exact ⟨rfl, (Below.refl _ _).alloc (Nat.le_refl _) _⟩
  by_cases h2 : 3000 < st
  · clear h
    go_enter Tryd.func10, Tryd.ntmps10
    go_wp2
    go_ret
    exact ⟨rfl, (Below.refl _ _).alloc (Nat.le_refl _) _⟩
  by_cases h3 : (20000 : Int) < (arcs.length : Int)
  · clear h
    go_enter Tryd.func10, Tryd.ntmps10
    go_wp2
    go_ret
    exact ⟨rfl, (Below.refl _ _).alloc (Nat.le_refl _) _⟩
  have h4 : st < (fins.length : Int) := by omega
  clear h
  go_enter Tryd.func10, Tryd.ntmps10
  go_wp2
  go_ret
  exact ⟨rfl, (Below.refl _ _).alloc (Nat.le_refl _) _⟩

set_option maxHeartbeats 4000000 in
set_option maxRecDepth 100000 in
theorem big (st : Int) (arcs : List (Int × Int × Int × Int × Int)) (fins : List (Int × Int)) (aa af : Option Addr) (ca cf : Nat) (w : World) (h : sizeB ⟨st, arcs, fins⟩ = true)
    (hA : arcs.length = 0 ∨ ∃ b off, aa = some ⟨b, off, none⟩ ∧ b < w.heap.size ∧ ∀ j u, (acs arcs)[j]? = some u → w.cell? ⟨b, off + j, none⟩ = some u)
    (hF : fins.length = 0 ∨ ∃ b off, af = some ⟨b, off, none⟩ ∧ b < w.heap.size ∧ ∀ j u, (fcs fins)[j]? = some u → w.cell? ⟨b, off + j, none⟩ = some u) :
    Calls Tryd.prog 10 #[.agg #[.int .i64 st, .slice aa arcs.length ca, .slice af fins.length cf]] w fun e w' => (∃ x, e = .returned (.int .i64 x) ∧ checkP ⟨st, arcs, fins⟩ x) ∧ Below w.heap.size w w' := by
  have hsz := h
  unfold sizeB at hsz
  simp only [decide_eq_true_eq] at hsz
  obtain ⟨h1, h2, h3, h4⟩ := hsz
  have HS : Hid (sizeB ⟨st, arcs, fins⟩ = true) := h
  clear h
  have d1 : decide (st < 1) = false := decide_eq_false (by omega)
  have d2 : decide (3000 < st) = false := decide_eq_false (by omega)
  have d3 : decide ((20000 : Int) < (arcs.length : Int)) = false := decide_eq_false (by omega)
  have d4 : decide (st < (fins.length : Int)) = false := decide_eq_false (by omega)
  obtain ⟨i4, hi4, hz40, hz41, hz42⟩ := info_parts info4
  have hb0 : Below w.heap.size w (w.alloc (.cells #[.int .i64 st, .slice aa arcs.length ca, .slice af fins.length cf] 25)) := (Below.refl _ _).alloc (Nat.le_refl _) _
  go_enter Tryd.func10, Tryd.ntmps10
  go_wp2
  go_loopw [3] (fun i wr => ∃ k : Nat, i = .int .i64 k ∧ k ≤ arcs.length ∧ Below (w.heap.size + 1) (w.alloc (.cells #[.int .i64 st, .slice aa arcs.length ca, .slice af fins.length cf] 25)) wr ∧ ∀ j (hj : j < arcs.length), j < k → arcB st arcs[j] = true) (fun i _ => arcs.length - (intOf i).toNat)
  case atStart => exact ⟨0, rfl, by omega, Below.refl _ _, fun j _ h => by omega⟩
  case round =>
    obtain ⟨k, rfl, hk, hbw, hall⟩ := hrel
    have hws := hbw.size
    simp only [World.size_alloc] at hws
    have c0 : wr.cell? ⟨w.heap.size, 0, none⟩ = some (.int .i64 st) := by rw [hbw.cell (by show w.heap.size < w.heap.size + 1; omega)]; simp
    have c1 : wr.cell? ⟨w.heap.size, 1, none⟩ = some (.slice aa arcs.length ca) := by rw [hbw.cell (by show w.heap.size < w.heap.size + 1; omega)]; simp
    have c2 : wr.cell? ⟨w.heap.size, 2, none⟩ = some (.slice af fins.length cf) := by rw [hbw.cell (by show w.heap.size < w.heap.size + 1; omega)]; simp
    by_cases hlt : k < arcs.length
    · have hbx : ∃ b off, aa = some ⟨b, off, none⟩ ∧ b < w.heap.size ∧ ∀ j u, (acs arcs)[j]? = some u → wr.cell? ⟨b, off + j, none⟩ = some u := by
        rcases hA with h | ⟨b, off, e, hb, hc⟩
        · omega
        · refine ⟨b, off, e, hb, fun j u hu => ?_⟩
          rw [hbw.cell (p := ⟨b, off + j, none⟩) (by show b < _; omega), World.cell?_alloc_past _ _ _ hb]
          exact hc j u hu
      obtain ⟨b, off, rfl, hbl, hcs⟩ := hbx
      have u := acs_at arcs k hlt
      obtain ⟨f, t, i, o, x, ea⟩ : ∃ f t i o x, arcs[k] = (f, t, i, o, x) := ⟨_, _, _, _, _, rfl⟩
      rw [ea] at u
      have p0 := hcs _ _ u.1
      have p1 := hcs _ _ u.2.1
      have p2 := hcs _ _ u.2.2.1
      have p3 := hcs _ _ u.2.2.2.1
      have p4 := hcs _ _ u.2.2.2.2
      rw [← Nat.add_assoc] at p1 p2 p3 p4
      have e0 : ∀ o, (wr.alloc o).cell? ⟨w.heap.size, 0, none⟩ = some (.int .i64 st) := fun o => (World.cell?_alloc_past _ _ _ (by show w.heap.size < _; omega)).trans c0
      have hbT := hb0.trans (hbw.mono (by omega))
      clear u hcs
      cases hok : arcB st (f, t, i, o, x) with
      | true =>
        have hok2 := hok
        unfold arcB at hok2
        simp only [decide_eq_true_eq] at hok2
        obtain ⟨g0, g1, g2, g3, g4, g5, g6, g7, g8, g9⟩ := hok2
        have HE : Hid (arcs[k] = (f, t, i, o, x)) := ea
        have HK : Hid (arcB st (f, t, i, o, x) = true) := hok
        clear ea hok hbT
        go_wp2
        go_roundw
        case rel =>
          refine ⟨k + 1, by go_num, by omega, hbw.alloc (by omega) _, fun j hj hjk => ?_⟩
          by_cases hjk2 : j < k
          · exact hall j hj hjk2
          · obtain rfl : j = k := by omega
            rw [HE.out]
            exact HK.out
        case measure => simp [intOf]; omega
      | false =>
        have hno := hok
        unfold arcB at hno
        simp only [decide_eq_false_iff_not] at hno
        have HP : Hid (checkP ⟨st, arcs, fins⟩ 3) := .inr (.inl ⟨HS.out, ⟨k, hlt, by rw [ea]; exact hok⟩, rfl⟩)
        have HN : Hid _ := hno
        clear ea hok hall hF hno
        go_wp2
        all_goals first | (go_ret; exact ⟨⟨3, rfl, HP.out⟩, hbT.alloc (by omega) _⟩) | exact absurd (by simp at *; omega) HN.out | (exfalso; have q := HN.out; simp at *; omega)
    · have hallA : ∀ j (hj : j < arcs.length), arcB st arcs[j] = true := fun j hj => hall j hj (by omega)
      have HA : Hid (∀ j (hj : j < arcs.length), arcB st arcs[j] = true) := hallA
      clear hallA hall hA
      obtain ⟨wa, rfl⟩ : ∃ wa : World, wa = wr := ⟨_, rfl⟩
      go_wp2
      go_loopw [5] (fun i wr => ∃ k : Nat, i = .int .i64 k ∧ k ≤ fins.length ∧ Below wa.heap.size wa wr ∧ ∀ j (hj : j < fins.length), j < k → finB st fins[j] = true) (fun i _ => fins.length - (intOf i).toNat)
      case atStart => exact ⟨0, rfl, by omega, Below.refl _ _, fun j _ h => by omega⟩
      case round =>
        obtain ⟨m, rfl, hm, hbx, hallF⟩ := hrel
        have hwx := hbx.size
        have x0 : wr.cell? ⟨w.heap.size, 0, none⟩ = some (.int .i64 st) := by rw [hbx.cell (by show w.heap.size < _; omega)]; exact c0
        have x2 : wr.cell? ⟨w.heap.size, 2, none⟩ = some (.slice af fins.length cf) := by rw [hbx.cell (by show w.heap.size < _; omega)]; exact c2
        by_cases hml : m < fins.length
        · have hbq : ∃ b off, af = some ⟨b, off, none⟩ ∧ b < w.heap.size ∧ ∀ j u, (fcs fins)[j]? = some u → wr.cell? ⟨b, off + j, none⟩ = some u := by
            rcases hF with h | ⟨b, off, e, hb, hc⟩
            · omega
            · refine ⟨b, off, e, hb, fun j u hu => ?_⟩
              rw [hbx.cell (p := ⟨b, off + j, none⟩) (by show b < _; omega), hbw.cell (p := ⟨b, off + j, none⟩) (by show b < _; omega), World.cell?_alloc_past _ _ _ hb]
              exact hc j u hu
          obtain ⟨b, off, rfl, hbl, hcs⟩ := hbq
          have u := fcs_at fins m hml
          obtain ⟨f, x, ea⟩ : ∃ f x, fins[m] = (f, x) := ⟨_, _, rfl⟩
          rw [ea] at u
          have p0 := hcs _ _ u.1
          have p1 := hcs _ _ u.2
          rw [← Nat.add_assoc] at p1
          have e0 : ∀ o, (wr.alloc o).cell? ⟨w.heap.size, 0, none⟩ = some (.int .i64 st) := fun o => (World.cell?_alloc_past _ _ _ (by show w.heap.size < _; omega)).trans x0
          have hbT := (hb0.trans (hbw.mono (by omega))).trans (hbx.mono (by omega))
          clear u hcs
          cases hok : finB st (f, x) with
          | true =>
            have hok2 := hok
            unfold finB at hok2
            simp only [decide_eq_true_eq] at hok2
            obtain ⟨g0, g1, g2, g3⟩ := hok2
            have HE : Hid (fins[m] = (f, x)) := ea
            have HK : Hid (finB st (f, x) = true) := hok
            clear ea hok hbT
            go_wp2
            go_roundw
            case rel =>
              refine ⟨m + 1, by go_num, by omega, hbx.alloc (by omega) _, fun j hj hjk => ?_⟩
              by_cases hjk2 : j < m
              · exact hallF j hj hjk2
              · obtain rfl : j = m := by omega
                rw [HE.out]
                exact HK.out
            case measure => simp [intOf]; omega
          | false =>
            have hno := hok
            unfold finB at hno
            simp only [decide_eq_false_iff_not] at hno
            have HP : Hid (checkP ⟨st, arcs, fins⟩ 3) := .inr (.inr (.inl ⟨HS.out, HA.out, ⟨m, hml, by rw [ea]; exact hok⟩, rfl⟩))
            have HN : Hid _ := hno
            clear ea hok hallF hno
            go_wp2
            all_goals first | (go_ret; exact ⟨⟨3, rfl, HP.out⟩, hbT.alloc (by omega) _⟩) | exact absurd (by simp at *; omega) HN.out | (exfalso; have q := HN.out; simp at *; omega)
        · have hallG : ∀ j (hj : j < fins.length), finB st fins[j] = true := fun j hj => hallF j hj (by omega)
          have HG : Hid (∀ j (hj : j < fins.length), finB st fins[j] = true) := hallG
          clear hallF hallG
          obtain ⟨wb, rfl⟩ : ∃ wb : World, wb = wr := ⟨_, rfl⟩
          obtain ⟨n, rfl⟩ : ∃ n : Nat, st = (n : Int) := ⟨st.toNat, by omega⟩
          go_wp2_with (at_make; refine wpList_make_full _ rfl _ _ 67 rfl wb.heap.size 4 i4 (.bool false) 1 Tryd.underlying67 hi4 hz40 hz41 .i64 .i64 _ _ n rfl rfl rfl rfl (by rw [hz42]; omega) (by unfold maxLen; omega) (Nat.le_refl _) ?_; intro wc hown0 hgrow0)
          have hoc : wc.ownsRow wb.heap.size 4 1 (.slice (some ⟨wb.heap.size, 0, none⟩) n n) n ((List.replicate n false).map Value.bool) := by
            have e : (madeCells (Value.cells (.bool false)) (n * 1)).toList = (List.replicate n false).map Value.bool := by
              rw [Nat.mul_one]
              show (madeCells #[.bool false] n).toList = _
              rw [toList_madeCells_one]
              simp
            rw [e] at hown0
            exact hown0
          have hbc : Below wb.heap.size wb wc := (Below.refl _ wb).grown hgrow0 (Nat.le_refl _) (by simp)
          clear hown0 hgrow0
          go_loopw [8] (fun i wr => ∃ (k : Nat) (hs : List Bool), i = .int .i64 k ∧ k ≤ fins.length ∧ Below wb.heap.size wb wr ∧ wr.ownsRow wb.heap.size 4 1 (.slice (some ⟨wb.heap.size, 0, none⟩) n n) n (hs.map Value.bool) ∧ Had n fins k hs ∧ onceK ⟨(n : Int), arcs, fins⟩ k) (fun i _ => fins.length - (intOf i).toNat)
          case atStart => exact ⟨0, _, rfl, by omega, hbc, hoc, Had.zero n fins, fun i j hi hj h1 h2 => by omega⟩
          case round =>
            clear hbc hoc
            obtain ⟨q, hs, rfl, hq, hby, hown, hhad, honce⟩ := hrel
            have hwy := hby.size
            have y0 : wr.cell? ⟨w.heap.size, 0, none⟩ = some (.int .i64 (n : Int)) := by rw [hby.cell (by show w.heap.size < _; omega)]; exact x0
            have y2 : wr.cell? ⟨w.heap.size, 2, none⟩ = some (.slice af fins.length cf) := by rw [hby.cell (by show w.heap.size < _; omega)]; exact x2
            have hbT := ((hb0.trans (hbw.mono (by omega))).trans (hbx.mono (by omega))).trans (hby.mono (by omega))
            by_cases hql : q < fins.length
            · have hbq : ∃ b off, af = some ⟨b, off, none⟩ ∧ b < w.heap.size ∧ ∀ j u, (fcs fins)[j]? = some u → wr.cell? ⟨b, off + j, none⟩ = some u := by
                rcases hF with h | ⟨b, off, e, hb, hc⟩
                · omega
                · refine ⟨b, off, e, hb, fun j u hu => ?_⟩
                  rw [hby.cell (p := ⟨b, off + j, none⟩) (by show b < _; omega), hbx.cell (p := ⟨b, off + j, none⟩) (by show b < _; omega), hbw.cell (p := ⟨b, off + j, none⟩) (by show b < _; omega), World.cell?_alloc_past _ _ _ hb]
                  exact hc j u hu
              obtain ⟨b, off, rfl, hbl, hcs⟩ := hbq
              have u := fcs_at fins q hql
              have hfb := HG.out q hql
              unfold finB at hfb
              simp only [decide_eq_true_eq] at hfb
              obtain ⟨f, ef⟩ : ∃ f : Nat, fins[q].1 = (f : Int) := ⟨(fins[q].1).toNat, by omega⟩
              rw [ef] at u hfb
              have p0 := hcs _ _ u.1
              have hfl : f < hs.length := by rw [hhad.1]; omega
              have hfn : (f : Int) < (n : Int) := hfb.2.1
              have hcf : wr.cell? ⟨wb.heap.size, f, none⟩ = some (.bool hs[f]) := by
                rw [hown.cellAt f (by rw [hhad.1] at hfl; omega)]
                simp [hfl]
              have hff : wr.frozen? ⟨wb.heap.size, f, none⟩ = false := hown.frozenAt f
              have hne1 : ¬ wb.heap.size = w.heap.size := by omega
              have hne2 : ¬ b = wb.heap.size := by omega
              have HF1 : Hid (fins[q].1 = (f : Int)) := ef
              have HH : Hid _ := hhad
              have HO : Hid _ := honce
              clear u hcs ef hfb hhad honce hF
              cases hsf : hs[f] with
              | true =>
                rw [hsf] at hcf
                have HP : Hid (checkP ⟨(n : Int), arcs, fins⟩ 6) := .inr (.inr (.inr (.inl ⟨HS.out, HA.out, HG.out, once_not HH.out hql f HF1.out hfl hsf, rfl⟩)))
                go_wp2
                go_ret
                exact ⟨⟨6, rfl, HP.out⟩, hbT⟩
              | false =>
                rw [hsf] at hcf
                go_wp2
                go_roundw
                case rel =>
                  have hst := hown.stored f (.bool true)
                  refine ⟨q + 1, hs.set f true, by go_num, by omega, hby.grown hst.2 hwy (fun j hj => by cases hj; exact Nat.le_refl _), ?_, Had.step HH.out hql f HF1.out, once_step HO.out HH.out hql f HF1.out hfl hsf⟩
                  rw [List.map_set]
                  exact hst.1
                case measure => simp [intOf]; omega
            · have hon : onceK ⟨(n : Int), arcs, fins⟩ fins.length := by
                obtain rfl : q = fins.length := by omega
                exact honce
              have HP : Hid (checkP ⟨(n : Int), arcs, fins⟩ 0) := .inr (.inr (.inr (.inr ⟨HS.out, HA.out, HG.out, hon, rfl⟩)))
              clear hon
              clear hhad honce hF
              go_wp2
              go_ret
              exact ⟨⟨0, rfl, HP.out⟩, hbT⟩

/-- THE DOCUMENT's CheckMachine -/
theorem check_any (m : M) (v : Value) (w : World) (h : IsM w v m) : Calls Tryd.prog 10 #[v] w fun e w' => (∃ x, e = .returned (.int .i64 x) ∧ checkP m x) ∧ Below w.heap.size w w' := by
  obtain ⟨st, arcs, fins⟩ := m
  obtain ⟨va, vf, rfl, ⟨_, aa, ca, rfl, _, hA⟩, ⟨_, af, cf, rfl, _, hF⟩⟩ := h
  cases hs : sizeB ⟨st, arcs, fins⟩ with
  | true => exact big st arcs fins aa af ca cf w hs hA hF
  | false =>
    refine (small st arcs fins aa af ca cf w hs).mono ?_
    rintro e w' ⟨rfl, hb⟩
    exact ⟨⟨7, rfl, size_no hs⟩, hb⟩
end Go.Proofs.YtfjocafepigijaaDoor.CkR
