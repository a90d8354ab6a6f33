/- The program's sets of numbers, a bit for each: newSet and add. Condition: the number lies in the set's words. -/
import Derived.Test.YtfjocafepigijaaDoorMv
import Derived.Laws.Bits64b
namespace Go.Proofs.YtfjocafepigijaaDoor.Set
open Go.RowKit Mv

theorem info102 : (Tryd.prog.info? 136).map (fun i => (i.zero, i.size, i.bytes)) = some (some (.int .u64 0), 1, 8) := by kernel_rfl

/-- is a number in the set of these words? -/
def mem (ws : List Nat) (k : Nat) : Bool := (ws[k / 64]?.getD 0).testBit (k % 64)
def cellsW (ws : List Nat) : List Value := ws.map fun (x : Nat) => Value.int .u64 (x : Int)
/-- a set that the call owns, for numbers below n -/
def IsSet (w : World) (base : Nat) (v : Value) (n : Nat) (ws : List Nat) : Prop := w.ownsRow base 136 1 v ws.length (cellsW ws) ∧ (∀ x ∈ ws, x < 18446744073709551616) ∧ n ≤ 64 * ws.length ∧ ws.length ≤ 281474976710656

theorem pow_lt (j : Nat) (h : j < 64) : 2 ^ j < 18446744073709551616 := by
  have : 2 ^ j < 2 ^ 64 := Nat.pow_lt_pow_right (by decide) h
  simpa using this
theorem wrap_pow (j : Nat) (h : j < 64) : IntKind.u64.wrap (2 ^ j) = ((2 ^ j : Nat) : Int) := by
  have := pow_lt j h
  rw [IntKind.wrap_u64]
  have e : ((2 : Int) ^ j) = ((2 ^ j : Nat) : Int) := by simp
  rw [e]
  generalize 2 ^ j = y at *
  omega
theorem and_pow (x j : Nat) : x &&& 2 ^ j = if x.testBit j then 2 ^ j else 0 := by
  apply Nat.eq_of_testBit_eq
  intro i
  rw [Nat.testBit_and, Nat.testBit_two_pow]
  by_cases e : j = i
  · subst e
    cases x.testBit j <;> simp
  · split <;> simp [e]
theorem and_bit (x j : Nat) (hx : x < 18446744073709551616) (h : j < 64) : (bits .and .u64 (x : Int) (IntKind.u64.wrap (2 ^ j)) == 0) = !x.testBit j := by
  rw [wrap_pow j h, bits_and_u64_nat x (2 ^ j) hx (pow_lt j h), and_pow]
  have hp := Nat.two_pow_pos j
  cases x.testBit j with
  | true =>
    rw [if_pos rfl]
    generalize 2 ^ j = y at *
    simp
    omega
  | false => simp
theorem or_bit (x j : Nat) (hx : x < 18446744073709551616) (h : j < 64) : bits .or .u64 (x : Int) (IntKind.u64.wrap (2 ^ j)) = ((x ||| 2 ^ j : Nat) : Int) := by
  rw [wrap_pow j h, bits_or_u64_nat x (2 ^ j) hx (pow_lt j h)]
def put (ws : List Nat) (k : Nat) : List Nat := ws.set (k / 64) (ws[k / 64]?.getD 0 ||| 2 ^ (k % 64))
theorem mem_put (ws : List Nat) (k j : Nat) (h : k / 64 < ws.length) : mem (put ws k) j = (mem ws j || decide (j = k)) := by
  unfold mem put
  by_cases e : j / 64 = k / 64
  · rw [e, List.getElem?_set_self h]
    simp only [Option.getD_some, Nat.testBit_or, Nat.testBit_two_pow]
    congr 1
    rw [decide_eq_decide]
    omega
  · rw [List.getElem?_set_ne (fun h => e h.symm)]
    have : ¬ j = k := fun h => e (by rw [h])
    simp [this]
theorem put_bd (ws : List Nat) (k : Nat) (h : ∀ x ∈ ws, x < 18446744073709551616) : ∀ x ∈ put ws k, x < 18446744073709551616 := by
  intro x hx
  rcases List.mem_or_eq_of_mem_set hx with hx | rfl
  · exact h x hx
  · have h1 : ws[k / 64]?.getD 0 < 2 ^ 64 := by
      cases e : ws[k / 64]? with
      | none => simp
      | some y => simpa using h y (List.mem_of_getElem? e)
    have h2 : 2 ^ (k % 64) < 2 ^ 64 := Nat.pow_lt_pow_right (by decide) (Nat.mod_lt _ (by decide))
    have := Nat.or_lt_two_pow h1 h2
    simpa using this

set_option maxHeartbeats 400000 in
theorem add_walk (g cap n k x : Nat) (w : World) (h1 : k / 64 < n) (hk : k < 1000000000) (hn : n ≤ 281474976710656) (hc : w.cell? ⟨g, k / 64, none⟩ = some (.int .u64 (x : Int))) (hf : w.frozen? ⟨g, k / 64, none⟩ = false) :
    Calls Tryd.prog 60 #[.slice (some ⟨g, 0, none⟩) n cap, .int .i64 k] w fun e w' => e = .returned (.bool (bits .and .u64 (x : Int) (IntKind.u64.wrap (2 ^ (k % 64))) == 0)) ∧ w' = w.setCell ⟨g, k / 64, none⟩ (.int .u64 (bits .or .u64 (x : Int) (IntKind.u64.wrap (2 ^ (k % 64))))) := by
  go_enter Tryd.func60, Tryd.ntmps60
  go_wp2
  go_ret
  exact ⟨rfl, rfl⟩

/-- add: whether it is new; the set with it -/
theorem add_any (base : Nat) (v : Value) (n k : Nat) (ws : List Nat) (w : World) (h : IsSet w base v n ws) (hk : k < n) (hk2 : k < 1000000000) :
    Calls Tryd.prog 60 #[v, .int .i64 k] w fun e w' => e = .returned (.bool (!mem ws k)) ∧ IsSet w' base v n (put ws k) ∧ w.grownBy w' v.ownBlock := by
  obtain ⟨hown, hbd, hnw, hlw⟩ := h
  have hkw : k / 64 < ws.length := by omega
  have hv : ∃ g cap, v = .slice (some ⟨g, 0, none⟩) ws.length cap := by
    rcases hown.2 with ⟨_, h0⟩ | ⟨g, cap, cur, hv, _⟩
    · omega
    · exact ⟨g, cap, hv⟩
  obtain ⟨g, cap, rfl⟩ := hv
  have ex : ws[k / 64]?.getD 0 = ws[k / 64] := by simp [hkw]
  have hc : w.cell? ⟨g, k / 64, none⟩ = some (.int .u64 ((ws[k / 64] : Nat) : Int)) := by
    rw [hown.cellAt (k / 64) (by omega)]
    simp [cellsW, hkw]
  have hx := hbd _ (List.getElem_mem hkw)
  refine (add_walk g cap ws.length k ws[k / 64] w hkw hk2 hlw hc (hown.frozenAt _)).mono ?_
  rintro e w' ⟨rfl, rfl⟩
  rw [and_bit _ _ hx (Nat.mod_lt _ (by decide)), or_bit _ _ hx (Nat.mod_lt _ (by decide))]
  have hst := hown.stored (k / 64) (.int .u64 ((ws[k / 64] ||| 2 ^ (k % 64) : Nat) : Int))
  refine ⟨by unfold mem; rw [ex], ⟨?_, put_bd ws k hbd, by simp [put]; omega, by simp [put]; omega⟩, hst.2⟩
  unfold put cellsW
  rw [List.map_set, List.length_set, ex]
  exact hst.1

set_option maxHeartbeats 400000 in
set_option maxRecDepth 100000 in
/-- newSet: none is in it -/
theorem new_any (n : Nat) (w : World) (h : n < 1000000000) :
    Calls Tryd.prog 59 #[.int .i64 n] w fun e w' => ∃ v ws, e = .returned v ∧ IsSet w' w.heap.size v n ws ∧ (∀ k, mem ws k = false) ∧ Below w.heap.size w w' := by
  obtain ⟨i0, hi, hz0, hz1, hz2⟩ := info_parts info102
  go_enter Tryd.func59, Tryd.ntmps59
  go_wp2_with (at_make; refine wpList_make_full _ rfl _ _ 77 rfl w.heap.size 136 i0 (.int .u64 0) 1 Tryd.underlying77 hi hz0 hz1 .i64 .i64 _ _ ((n + 63) / 64) rfl rfl (by omega) (by omega) (by rw [hz2]; omega) (by unfold maxLen; omega) (Nat.le_refl _) ?_; intro w1 hown0 hgrow0)
  go_ret
  have e2 : (madeCells (Value.cells (.int .u64 0)) ((n + 63) / 64 * 1)).toList = cellsW (List.replicate ((n + 63) / 64) 0) := by
    rw [Nat.mul_one]
    show (madeCells #[.int .u64 0] ((n + 63) / 64)).toList = _
    rw [toList_madeCells_one]
    simp [cellsW]
  rw [e2] at hown0
  refine ⟨_, List.replicate ((n + 63) / 64) 0, rfl, ⟨by rw [List.length_replicate]; exact hown0, ?_, ?_, ?_⟩, ?_, (Below.refl _ w).grown hgrow0 (Nat.le_refl _) (by simp)⟩
  · intro x hx
    rw [List.eq_of_mem_replicate hx]
    decide
  · simp; omega
  · simp; omega
  · intro k
    unfold mem
    rw [List.getElem?_replicate]
    split <;> simp
end Go.Proofs.YtfjocafepigijaaDoor.Set
