/- What is told, in plain words, and the small functions: isNaN, cmp.Compare, cmp.Or, strings.Clone, isWho, choose. Conditions: what is copied has at most 2^48 bytes. -/
import Derived.Test.YtmhgoddlbklbfaaShelf
import Derived.RowKit
import Derived.BigRegion
import Derived.BigQuiet
namespace Go.Proofs.Ytmhgoddlbklbfaa.Ta
open Go.RowKit

/-- what is told of a slot -/
structure To where
  sl : Int
  ver : Int
  who : Int
  val : ByteArray
  op : Bool
def tl (t : To) : List Value := [.int .i64 t.sl, .int .i64 t.ver, .int .i64 t.who, .string t.val, .bool t.op]
def vt (t : To) : Value := .agg #[.int .i64 t.sl, .int .i64 t.ver, .int .i64 t.who, .string t.val, .bool t.op]
def cmpI (x y : Int) : Int := if x < y then -1 else if y < x then 1 else 0
def or3 (x y z : Int) : Int := if x ≠ 0 then x else if y ≠ 0 then y else z
def cmpT (a b : To) : Int := or3 (cmpI a.ver b.ver) (cmpI a.who b.who) (Lib.compareBytes a.val.data.toList b.val.data.toList)

theorem nan_any (x : Int) (w : World) : Calls Try.prog 34 #[.int .i64 x] w fun e w' => e = .returned (.bool false) ∧ w' = w := by
  have h : (x != x) = false := by simp
  go_enter Try.func34, Try.ntmps34
  go_wp2
  go_ret
  exact ⟨rfl, rfl⟩
theorem cmpI_any (x y : Int) (w : World) : Calls Try.prog 32 #[.int .i64 x, .int .i64 y] w fun e w' => e = .returned (.int .i64 (cmpI x y)) ∧ w' = w := by
  unfold cmpI
  by_cases h1 : x < y
  · rw [if_pos h1]
    go_enter Try.func32, Try.ntmps32
    go_wp2_with (go_at_call 34; (with_reducible refine (nan_any _ _).mono ?_); rintro e w1 ⟨rfl, rfl⟩)
    go_ret
    exact ⟨rfl, rfl⟩
  · rw [if_neg h1]
    by_cases h2 : y < x
    · rw [if_pos h2]
      go_enter Try.func32, Try.ntmps32
      go_wp2_with (go_at_call 34; (with_reducible refine (nan_any _ _).mono ?_); rintro e w1 ⟨rfl, rfl⟩)
      go_ret
      exact ⟨rfl, rfl⟩
    · rw [if_neg h2]
      go_enter Try.func32, Try.ntmps32
      go_wp2_with (go_at_call 34; (with_reducible refine (nan_any _ _).mono ?_); rintro e w1 ⟨rfl, rfl⟩)
      go_ret
      exact ⟨rfl, rfl⟩
theorem clone_any (s : ByteArray) (w : World) (h : s.size ≤ 281474976710656) : Calls Try.prog 28 #[.string s] w fun e w' => e = .returned (.string s) ∧ Below w.heap.size w w' := by
  have K := Try.stringslite_Clone s w h
  go_enter Try.func28, Try.ntmps28
  go_wp2_with (go_at_call 30; (with_reducible refine K.mono ?_); rintro e w1 ⟨rfl, hb⟩)
  go_ret
  exact ⟨rfl, hb⟩
def whoB (x : Int) : Bool := decide (1 ≤ x ∧ x ≤ 9)
theorem who_any (x : Int) (w : World) : Calls Try.prog 20 #[.int .i64 x] w fun e w' => e = .returned (.bool (whoB x)) ∧ w' = w := by
  unfold whoB
  by_cases h1 : 1 ≤ x
  · by_cases h2 : x ≤ 9
    · rw [decide_eq_true (And.intro h1 h2)]
      go_enter Try.func20, Try.ntmps20
      go_wp2
      go_ret
      exact ⟨rfl, rfl⟩
    · rw [decide_eq_false (fun h => h2 h.2)]
      go_enter Try.func20, Try.ntmps20
      go_wp2
      go_ret
      exact ⟨rfl, rfl⟩
  · rw [decide_eq_false (fun h => h1 h.1)]
    go_enter Try.func20, Try.ntmps20
    go_wp2
    go_ret
    exact ⟨rfl, rfl⟩

theorem or_any (x y z : Int) (b : Nat) (w : World) (h0 : w.cell? ⟨b, 0, none⟩ = some (.int .i64 x)) (h1 : w.cell? ⟨b, 1, none⟩ = some (.int .i64 y)) (h2 : w.cell? ⟨b, 2, none⟩ = some (.int .i64 z)) : Calls Try.prog 31 #[.slice (some ⟨b, 0, none⟩) 3 3] w fun e w' => e = .returned (.int .i64 (or3 x y z)) ∧ w' = w := by
  go_enter Try.func31, Try.ntmps31
  go_wp2
  go_loopw [5, 8] (fun xv iv wr => ∃ i : Nat, iv = .int .i64 (i : Int) ∧ wr = w ∧ i ≤ 3 ∧ (1 ≤ i → x = 0) ∧ (2 ≤ i → y = 0) ∧ (3 ≤ i → z = 0)) (fun _ iv _ => 3 - (intOf iv).toNat)
  case atStart => exact ⟨0, rfl, rfl, by omega, by omega, by omega, by omega⟩
  case round =>
    obtain ⟨i, rfl, rfl, hi, e1, e2, e3⟩ := hrel
    rcases i with _ | _ | _ | i
    · have H : Hid ((x : Int) ≠ 0 → or3 x y z = x) := fun h => by unfold or3; rw [if_pos h]
      have HE : Hid ((1 ≤ 0 → x = 0) ∧ (2 ≤ 0 → y = 0) ∧ (3 ≤ 0 → z = 0)) := ⟨e1, e2, e3⟩
      clear e1 e2 e3
      by_cases hv : x = 0
      · have bv : (x != 0) = false := by simp [hv]
        have HV : Hid (x = 0) := hv
        clear hv
        go_wp2
        go_roundw
        case rel => exact ⟨0 + 1, by go_num, by trivial, by omega, by have := HE.out.1; have := HV.out; omega, by have := HE.out.2.1; have := HV.out; omega, by have := HE.out.2.2; have := HV.out; omega⟩
        case measure => simp [intOf]
      · have bv : (x != 0) = true := by simp [hv]
        have HQ : Hid (or3 x y z = x) := H.out hv
        clear hv H
        go_wp2
        go_ret
        exact ⟨by rw [HQ.out]; rfl, rfl⟩
    · have H : Hid ((y : Int) ≠ 0 → or3 x y z = y) := fun h => by unfold or3; rw [if_neg (by have := e1 (by omega); omega), if_pos h]
      have HE : Hid ((1 ≤ (0 + 1) → x = 0) ∧ (2 ≤ (0 + 1) → y = 0) ∧ (3 ≤ (0 + 1) → z = 0)) := ⟨e1, e2, e3⟩
      clear e1 e2 e3
      by_cases hv : y = 0
      · have bv : (y != 0) = false := by simp [hv]
        have HV : Hid (y = 0) := hv
        clear hv
        go_wp2
        go_roundw
        case rel => exact ⟨(0 + 1) + 1, by go_num, by trivial, by omega, by have := HE.out.1; have := HV.out; omega, by have := HE.out.2.1; have := HV.out; omega, by have := HE.out.2.2; have := HV.out; omega⟩
        case measure => simp [intOf]
      · have bv : (y != 0) = true := by simp [hv]
        have HQ : Hid (or3 x y z = y) := H.out hv
        clear hv H
        go_wp2
        go_ret
        exact ⟨by rw [HQ.out]; rfl, rfl⟩
    · have H : Hid ((z : Int) ≠ 0 → or3 x y z = z) := fun _ => by unfold or3; rw [if_neg (by have := e1 (by omega); omega), if_neg (by have := e2 (by omega); omega)]
      have HE : Hid ((1 ≤ (0 + 1 + 1) → x = 0) ∧ (2 ≤ (0 + 1 + 1) → y = 0) ∧ (3 ≤ (0 + 1 + 1) → z = 0)) := ⟨e1, e2, e3⟩
      clear e1 e2 e3
      by_cases hv : z = 0
      · have bv : (z != 0) = false := by simp [hv]
        have HV : Hid (z = 0) := hv
        clear hv
        go_wp2
        go_roundw
        case rel => exact ⟨(0 + 1 + 1) + 1, by go_num, by trivial, by omega, by have := HE.out.1; have := HV.out; omega, by have := HE.out.2.1; have := HV.out; omega, by have := HE.out.2.2; have := HV.out; omega⟩
        case measure => simp [intOf]
      · have bv : (z != 0) = true := by simp [hv]
        have HQ : Hid (or3 x y z = z) := H.out hv
        clear hv H
        go_wp2
        go_ret
        exact ⟨by rw [HQ.out]; rfl, rfl⟩
    · have h3 : i = 0 := by omega
      have HQ : Hid (or3 x y z = 0) := by (show or3 x y z = 0; unfold or3; rw [if_neg (by have := e1 (by omega); omega), if_neg (by have := e2 (by omega); omega)]; exact e3 (by omega))
      subst h3
      clear e1 e2 e3
      go_wp2
      go_ret
      exact ⟨by rw [HQ.out]; rfl, rfl⟩
end Go.Proofs.Ytmhgoddlbklbfaa.Ta
