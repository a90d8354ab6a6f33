/- New of a talker. Conditions: none. -/
import Derived.Test.YtmhgoddlbklbfaaTg
import Derived.Deep.WholeRow
namespace Go.Proofs.Ytmhgoddlbklbfaa.Tb
open Go.RowKit Ta

def zeroS : Sl := ⟨0, 0, 0, ByteArray.empty, false, false⟩
def num (i : Nat) : Sl := ⟨(i : Int), 0, 0, ByteArray.empty, false, false⟩
/-- a new talker's slots: the first i are numbered -/
def newS (i : Nat) : List Sl := (List.range 20).map fun j => if j < i then num j else zeroS
theorem newS_length (i : Nat) : (newS i).length = 20 := by simp [newS]
theorem newS_at {i j : Nat} (hj : j < 20) : (newS i)[j]'(by rw [newS_length]; exact hj) = if j < i then num j else zeroS := by simp [newS]
theorem newS_succ {i : Nat} (hi : i < 20) : (newS i).set i { (newS i)[i]'(by rw [newS_length]; exact hi) with sl := (i : Int) } = newS (i + 1) := by
  refine List.ext_getElem (by simp [newS]) fun j h1 h2 => ?_
  have hj : j < 20 := by rw [List.length_set, newS_length] at h1; exact h1
  rw [List.getElem_set]
  by_cases e : i = j
  · subst e
    have h0 : (newS i)[i]'(by rw [newS_length]; exact hi) = zeroS := by rw [newS_at hi, if_neg (Nat.lt_irrefl _)]
    have h3 : (newS (i + 1))[i]'(by rw [newS_length]; exact hi) = num i := by rw [newS_at hi, if_pos (by omega)]
    rw [if_pos rfl, h0, h3]
    rfl
  · rw [if_neg e, newS_at hj, newS_at hj]
    by_cases h : j < i
    · rw [if_pos h, if_pos (by omega)]
    · rw [if_neg h, if_neg (by omega)]
/-- the zero talker's cells -/
def ZZ : Array Value := (tc 0 0 (newS 0)).toArray
theorem zero57 : (Try.prog.info? 57).map (fun i => (i.zero, i.size)) = some (some (.agg ZZ), 122) := by kernel_rfl
theorem z57 (w : World) : (zeroValue 57).run Try.prog w = .ok (.agg ZZ) w := (zero_of_info zero57).1 w
theorem zz_size : ZZ.size = 122 := by kernel_rfl
theorem zz_ne : (ZZ = #[]) = False := by
  apply eq_false
  intro h
  have := congrArg Array.size h
  rw [zz_size] at this
  simp at this
theorem zz_set (W N : Int) : (ZZ.setIfInBounds 0 (.int .i64 W)).setIfInBounds 1 (.int .i64 N) = (tc W N (newS 0)).toArray := by
  unfold ZZ tc
  simp only [List.setIfInBounds_toArray, List.set_cons_zero, List.set_cons_succ]
/-- what New answers -/
def newE (who N : Int) : Int := if whoB who = false then 3 else if N < 1 ∨ 20 < N then 7 else 0

set_option maxHeartbeats 4000000 in
set_option maxRecDepth 100000 in
theorem new_ok {w : World} {W : Int} {N : Nat} (hW : whoB W = true) (h1 : 1 ≤ N) (h2 : N ≤ 20) :
    Calls Try.prog 6 #[.int .i64 W, .int .i64 (N : Int)] w fun e w' => ∃ b, e = .returned (.tuple #[.pointer (some ⟨b, 0, none⟩), .int .i64 0]) ∧ w.heap.size ≤ b ∧ Tk w' b W (N : Int) (newS N) ∧ Below w.heap.size w w' := by
  have K20 := fun w' => who_any W w'
  rw [hW] at K20
  have hz57 := z57
  have hzs := zz_size
  have hzn := zz_ne
  have hn1 : ¬ (N : Int) < 1 := by omega
  have hn2 : ¬ (20 : Int) < (N : Int) := by omega
  go_enter Try.func6, Try.ntmps6
  have hT0 : ∀ v1 v2, v1 = Value.int .i64 W → v2 = Value.int .i64 (N : Int) → Tk (w.alloc (.cells ((ZZ.setIfInBounds 0 v1).setIfInBounds 1 v2) 57)) w.heap.size W (N : Int) (newS 0) := fun v1 v2 e1 e2 => by
    subst e1 e2
    refine ⟨?_, newS_length 0⟩
    rw [heap_alloc_new, zz_set]
  have K21 := form_any (hT0 _ _ rfl rfl) h2
  go_wp2_with (first | (go_at_call 20; (with_reducible refine (K20 _).mono ?_); rintro e w1 ⟨rfl, hw1⟩; rw [hw1]) | (go_at_call 21; (with_reducible refine K21.mono ?_); rintro e w2 ⟨rfl, hb2⟩))
  have hT := (hT0 _ _ rfl rfl).below hb2
  have hB : Below w.heap.size w w2 := ((Below.refl _ w).alloc (Nat.le_refl _) _).trans (hb2.mono (by simp))
  clear hT0 K21 hb2
  go_loopw [7, 24] (fun _ iv wr => ∃ (i : Nat), iv = .int .i64 (i : Int) ∧ i ≤ N ∧ Tk wr w.heap.size W (N : Int) (newS i) ∧ Below w.heap.size w wr) (fun _ iv _ => N - (intOf iv).toNat)
  case atStart => exact ⟨0, rfl, by omega, hT, hB⟩
  case round =>
    clear hT hB
    obtain ⟨i, rfl, hi, hT, hB⟩ := hrel
    by_cases hil : i < N
    · have hil' : (i : Int) < (N : Int) := by omega
      have hi20 : (i : Int) < 20 := by omega
      have hin : i < (newS i).length := by rw [newS_length]; omega
      have g := hT.slot hin
      unfold at6 at g
      obtain ⟨g0, _⟩ := g
      have fz := hT.frozen
      have HX : Hid (Tk (wr.setCell ⟨w.heap.size, 2 + i * 6, none⟩ (.int .i64 (i : Int))) w.heap.size W (N : Int) (newS (i + 1)) ∧ Below w.heap.size w (wr.setCell ⟨w.heap.size, 2 + i * 6, none⟩ (.int .i64 (i : Int)))) := by
        have := hT.set hin 0 (by omega) (.int .i64 (i : Int)) { (newS i)[i] with sl := (i : Int) } rfl
        rw [newS_succ (by omega)] at this
        exact ⟨this, hB.setCell (p := ⟨w.heap.size, 2 + i * 6, none⟩) (Nat.le_refl _) _⟩
      clear hT hB
      go_wp2
      go_roundw
      case rel => exact ⟨i + 1, by go_num, by omega, HX.out.1, HX.out.2⟩
      case measure => simp [intOf]; omega
    · have hil' : ¬ (i : Int) < (N : Int) := by omega
      have e : i = N := by omega
      subst e
      go_wp2
      go_ret2
      exact ⟨w.heap.size, rfl, Nat.le_refl _, hT, hB⟩
theorem new_who {w : World} {W N : Int} (hW : whoB W = false) : Calls Try.prog 6 #[.int .i64 W, .int .i64 N] w fun e w' => e = .returned (.tuple #[.pointer none, .int .i64 3]) ∧ w' = w := by
  have K20 := fun w' => who_any W w'
  rw [hW] at K20
  go_enter Try.func6, Try.ntmps6
  go_wp2_with (first | (go_at_call 20; (with_reducible refine (K20 _).mono ?_); rintro e w1 ⟨rfl, hw1⟩; rw [hw1]))
  go_ret2
  exact ⟨rfl, rfl⟩
theorem new_many {w : World} {W N : Int} (hW : whoB W = true) (hN : N < 1 ∨ 20 < N) : Calls Try.prog 6 #[.int .i64 W, .int .i64 N] w fun e w' => e = .returned (.tuple #[.pointer none, .int .i64 7]) ∧ w' = w := by
  have K20 := fun w' => who_any W w'
  rw [hW] at K20
  by_cases h1 : N < 1
  · clear hN
    go_enter Try.func6, Try.ntmps6
    go_wp2_with (first | (go_at_call 20; (with_reducible refine (K20 _).mono ?_); rintro e w1 ⟨rfl, hw1⟩; rw [hw1]))
    go_ret2
    exact ⟨rfl, rfl⟩
  · have h2 : 20 < N := by omega
    clear hN
    go_enter Try.func6, Try.ntmps6
    go_wp2_with (first | (go_at_call 20; (with_reducible refine (K20 _).mono ?_); rintro e w1 ⟨rfl, hw1⟩; rw [hw1]))
    go_ret2
    exact ⟨rfl, rfl⟩
end Go.Proofs.Ytmhgoddlbklbfaa.Tb
