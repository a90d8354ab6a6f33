/- is and Is: whether an individual is a literal. Condition: it is one, and that is a literal. -/
import Derived.Test.YtcnanbimpajonaaCf
import Derived.Test.YtcnanbimpajonaaCo
import Derived.Laws.Bits64b
namespace Go.Proofs.Ytcnanbimpajonaa.Hd
open Go.RowKit Cl Cf

/-- noun number m of individual x -/
def bitP (x m : Int) : Bool := (x / 2 ^ (m.toNat - 1)) % 2 == 1
def isP (x l : Int) : Bool := if l < 0 then !bitP x (-l) else bitP x l

theorem tab (q : Nat → Int) (m : Int) (h : (List.range 64).all (fun n => (bits .and .i64 (q n) 1 == 1) == bitP n m) = true) (n : Nat) (hn : n < 64) : (bits .and .i64 (q n) 1 == 1) = bitP n m := by
  have := List.all_eq_true.1 h n (List.mem_range.2 hn)
  simpa using this
theorem tab1 (n : Nat) (hn : n < 64) : (bits .and .i64 ((n : Int)) 1 == 1) = bitP n 1 := tab (fun n => (n : Int)) 1 (by kernel_rfl) n hn
theorem tab2 (n : Nat) (hn : n < 64) : (bits .and .i64 ((n : Int) / 2) 1 == 1) = bitP n 2 := tab (fun n => (n : Int) / 2) 2 (by kernel_rfl) n hn
theorem tab3 (n : Nat) (hn : n < 64) : (bits .and .i64 ((n : Int) / 4) 1 == 1) = bitP n 3 := tab (fun n => (n : Int) / 4) 3 (by kernel_rfl) n hn
theorem tab4 (n : Nat) (hn : n < 64) : (bits .and .i64 ((n : Int) / 8) 1 == 1) = bitP n 4 := tab (fun n => (n : Int) / 8) 4 (by kernel_rfl) n hn
theorem tab5 (n : Nat) (hn : n < 64) : (bits .and .i64 ((n : Int) / 16) 1 == 1) = bitP n 5 := tab (fun n => (n : Int) / 16) 5 (by kernel_rfl) n hn
theorem tab6 (n : Nat) (hn : n < 64) : (bits .and .i64 ((n : Int) / 32) 1 == 1) = bitP n 6 := tab (fun n => (n : Int) / 32) 6 (by kernel_rfl) n hn

set_option maxHeartbeats 2000000 in
set_option maxRecDepth 100000 in
theorem pos_any (n : Nat) (m : Int) (w : World) (hx : n < 64) (h1 : 1 ≤ m) (h2 : m ≤ 6) : Calls Try.prog 43 #[.int .i64 (n : Int), .int .i64 m] w fun e w' => e = .returned (.bool (bitP n m)) ∧ w' = w := by
  rcases (by omega : m = 1 ∨ m = 2 ∨ m = 3 ∨ m = 4 ∨ m = 5 ∨ m = 6) with rfl | rfl | rfl | rfl | rfl | rfl
  · go_enter Try.func43, Try.ntmps43
    go_wp2
    go_ret
    exact ⟨by show Ending.returned (.bool (bits .and .i64 ((n : Int)) 1 == 1)) = _; rw [tab1 n hx], rfl⟩
  · go_enter Try.func43, Try.ntmps43
    go_wp2
    go_ret
    exact ⟨by show Ending.returned (.bool (bits .and .i64 ((n : Int) / 2) 1 == 1)) = _; rw [tab2 n hx], rfl⟩
  · go_enter Try.func43, Try.ntmps43
    go_wp2
    go_ret
    exact ⟨by show Ending.returned (.bool (bits .and .i64 ((n : Int) / 4) 1 == 1)) = _; rw [tab3 n hx], rfl⟩
  · go_enter Try.func43, Try.ntmps43
    go_wp2
    go_ret
    exact ⟨by show Ending.returned (.bool (bits .and .i64 ((n : Int) / 8) 1 == 1)) = _; rw [tab4 n hx], rfl⟩
  · go_enter Try.func43, Try.ntmps43
    go_wp2
    go_ret
    exact ⟨by show Ending.returned (.bool (bits .and .i64 ((n : Int) / 16) 1 == 1)) = _; rw [tab5 n hx], rfl⟩
  · go_enter Try.func43, Try.ntmps43
    go_wp2
    go_ret
    exact ⟨by show Ending.returned (.bool (bits .and .i64 ((n : Int) / 32) 1 == 1)) = _; rw [tab6 n hx], rfl⟩

set_option maxHeartbeats 2000000 in
theorem is_any (n : Nat) (l : Int) (w : World) (hx : n < 64) (hl : litB l = true) : Calls Try.prog 43 #[.int .i64 (n : Int), .int .i64 l] w fun e w' => e = .returned (.bool (isP n l)) ∧ w' = w := by
  unfold litB at hl
  simp only [ne_eq, decide_eq_true_eq] at hl
  unfold isP
  by_cases h0 : l < 0
  · rw [if_pos h0]
    have n1 := Co.wrap_neg (n := l) hl.2.1 hl.2.2
    have con := pos_any n (-l) w hx (by omega) (by omega)
    cases hb : bitP n (-l)
    all_goals
      rw [hb] at con
      clear hb
      go_enter Try.func43, Try.ntmps43
      go_wp2_with (go_at_call 43; refine con.mono ?_; rintro e w2 ⟨rfl, rfl⟩; clear con)
      go_ret
      exact ⟨rfl, rfl⟩
  · rw [if_neg h0]
    exact pos_any n l w hx (by omega) (by omega)

theorem quo_nat (n k : Nat) : ((n / 2 ^ k : Nat) : Int) / 2 = ((n / 2 ^ (k + 1) : Nat) : Int) := by
  rw [Nat.pow_succ, ← Nat.div_div_eq_div_mul]
  rfl
theorem bitP_nat (n m : Nat) : bitP n m = (((n / 2 ^ (m - 1) : Nat) : Int) % 2 == 1) := by
  unfold bitP
  simp

set_option maxHeartbeats 2000000 in
set_option maxRecDepth 100000 in
/-- the document's Is -/
theorem ref_is (n : Nat) (l : Int) (w : World) (hx : n < 64) (hl : litB l = true) : Calls Try.prog 21 #[.int .i64 (n : Int), .int .i64 l] w fun e w' => e = .returned (.bool (isP n l)) ∧ w' = w := by
  unfold litB at hl
  simp only [ne_eq, decide_eq_true_eq] at hl
  obtain ⟨hl0, hl1, hl2⟩ := hl
  unfold isP
  by_cases h0 : l < 0
  · rw [if_pos h0]
    obtain ⟨m, rfl⟩ : ∃ m : Nat, l = -(m : Int) := ⟨(-l).toNat, by omega⟩
    have hm1 : 1 ≤ m := by omega
    have hm6 : m ≤ 6 := by omega
    have hng : -(m : Int) < 0 := by omega
    have n1 : IntKind.i64.wrap (- -(m : Int)) = (m : Int) := by rw [Co.wrap_neg (by omega) (by omega)]; omega
    have n2 : IntKind.i64.wrap (m : Int) = (m : Int) := by have := Co.wrap_neg (n := -(m : Int)) (by omega) (by omega); rwa [Int.neg_neg] at this
    rw [Int.neg_neg, bitP_nat]
    go_enter Try.func21, Try.ntmps21
    go_wp2
    go_loopw [0, 6] (fun a b wr => ∃ (k : Nat), a = .int .i64 ((n / 2 ^ k : Nat) : Int) ∧ b = .int .i64 ((k : Int) + 1) ∧ k + 1 ≤ m ∧ w = wr) (fun _ b _ => m - (intOf b).toNat)
    case atStart => exact ⟨0, by simp, rfl, hm1, rfl⟩
    case round =>
      obtain ⟨k, rfl, rfl, hk, rfl⟩ := hrel
      have hq := quo_nat n k
      have hqb : n / 2 ^ k < 64 := Nat.lt_of_le_of_lt (Nat.div_le_self _ _) hx
      have HQ : Hid _ := hq
      clear hq
      obtain ⟨y, hy⟩ : ∃ y, n / 2 ^ k = y := ⟨_, rfl⟩
      rw [hy] at hqb HQ ⊢
      have HY : Hid (n / 2 ^ k = y) := hy
      clear hy
      by_cases hlt : k + 1 < m
      · go_wp2
        go_roundw
        case rel => exact ⟨k + 1, by rw [← HQ.out] <;> rfl, by go_num, hlt, by first | trivial | rfl⟩
        case measure => simp [intOf]; omega
      · have ek : m - 1 = k := by omega
        have HK : Hid (n / 2 ^ (m - 1) = y) := by show n / 2 ^ (m - 1) = y; rw [ek]; exact HY.out
        clear ek
        go_wp2
        go_ret
        rw [HK.out]
        exact ⟨by simp; rw [show decide ((m : Int) < 0) = false from decide_eq_false (by omega)]; cases ((y : Int) % 2 == 1) <;> rfl, rfl⟩
  · rw [if_neg h0]
    obtain ⟨m, rfl⟩ : ∃ m : Nat, l = (m : Int) := ⟨l.toNat, by omega⟩
    have hm1 : 1 ≤ m := by omega
    have hm6 : m ≤ 6 := by omega
    rw [bitP_nat]
    go_enter Try.func21, Try.ntmps21
    go_wp2
    go_loopw [0, 6] (fun a b wr => ∃ (k : Nat), a = .int .i64 ((n / 2 ^ k : Nat) : Int) ∧ b = .int .i64 ((k : Int) + 1) ∧ k + 1 ≤ m ∧ w = wr) (fun _ b _ => m - (intOf b).toNat)
    case atStart => exact ⟨0, by simp, rfl, hm1, rfl⟩
    case round =>
      obtain ⟨k, rfl, rfl, hk, rfl⟩ := hrel
      have hq := quo_nat n k
      have hqb : n / 2 ^ k < 64 := Nat.lt_of_le_of_lt (Nat.div_le_self _ _) hx
      have HQ : Hid _ := hq
      clear hq
      obtain ⟨y, hy⟩ : ∃ y, n / 2 ^ k = y := ⟨_, rfl⟩
      rw [hy] at hqb HQ ⊢
      have HY : Hid (n / 2 ^ k = y) := hy
      clear hy
      by_cases hlt : k + 1 < m
      · go_wp2
        go_roundw
        case rel => exact ⟨k + 1, by rw [← HQ.out] <;> rfl, by go_num, hlt, by first | trivial | rfl⟩
        case measure => simp [intOf]; omega
      · have ek : m - 1 = k := by omega
        have HK : Hid (n / 2 ^ (m - 1) = y) := by show n / 2 ^ (m - 1) = y; rw [ek]; exact HY.out
        clear ek
        go_wp2
        go_ret
        rw [HK.out]
        exact ⟨by simp; rw [show decide (0 < m) = true from decide_eq_true (by omega)]; cases ((y : Int) % 2 == 1) <;> rfl, rfl⟩
end Go.Proofs.Ytcnanbimpajonaa.Hd
