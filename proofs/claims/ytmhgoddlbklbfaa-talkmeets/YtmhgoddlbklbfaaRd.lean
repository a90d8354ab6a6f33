/- The document's WrongTold; sameTold; structs that are compared. Conditions: both lists can be read. -/
import Derived.Test.YtmhgoddlbklbfaaRc
namespace Go.Proofs.Ytmhgoddlbklbfaa.Ra
open Go.RowKit Ta Tb

def sameB (x y : To) : Bool := x.sl == y.sl && x.ver == y.ver && x.who == y.who && (x.val.toList == y.val.toList) && x.op == y.op
theorem eql44 (a0 a1 a2 b0 b1 b2 : Int) (a3 b3 : ByteArray) (a4 b4 : Bool) (w : World) : (binOp .eql 44 (.agg #[.int .i64 a0, .int .i64 a1, .int .i64 a2, .string a3, .bool a4]) (.agg #[.int .i64 b0, .int .i64 b1, .int .i64 b2, .string b3, .bool b4])).run Try.prog w = .ok (.bool (sameB ⟨a0, a1, a2, a3, a4⟩ ⟨b0, b1, b2, b3, b4⟩)) w := by
  have u3 := Try.underlying3
  have u4 := Try.underlying4
  have u9 := Try.underlying9
  have hS : Try.prog.underlying 44 = some (.struct (Try.prog.fieldsOf 44)) := by kernel_rfl
  have hp : Try.prog.stoodInHeld 44 = false := by kernel_rfl
  rw [run_eql_struct, show (10000 : Nat) = 9999 + 1 from rfl, run_equalIn_agg w 9999 44 _ _ hS hp]
  simp only [Program.fieldsOf, Try.underlying44]
  unfold sameB
  go_simp
  by_cases h0 : a0 = b0 <;> by_cases h1 : a1 = b1 <;> by_cases h2 : a2 = b2 <;> by_cases h3 : a3.toList = b3.toList <;> by_cases h4 : a4 = b4 <;> simp [h0, h1, h2, h3, h4]
theorem neq44 (a0 a1 a2 b0 b1 b2 : Int) (a3 b3 : ByteArray) (a4 b4 : Bool) (w : World) : (binOp .neq 44 (.agg #[.int .i64 a0, .int .i64 a1, .int .i64 a2, .string a3, .bool a4]) (.agg #[.int .i64 b0, .int .i64 b1, .int .i64 b2, .string b3, .bool b4])).run Try.prog w = .ok (.bool !(sameB ⟨a0, a1, a2, a3, a4⟩ ⟨b0, b1, b2, b3, b4⟩)) w := by
  have u3 := Try.underlying3
  have u4 := Try.underlying4
  have u9 := Try.underlying9
  have hS : Try.prog.underlying 44 = some (.struct (Try.prog.fieldsOf 44)) := by kernel_rfl
  have hp : Try.prog.stoodInHeld 44 = false := by kernel_rfl
  rw [run_neq_struct, show (10000 : Nat) = 9999 + 1 from rfl, run_equalIn_agg w 9999 44 _ _ hS hp]
  simp only [Program.fieldsOf, Try.underlying44]
  unfold sameB
  go_simp
  by_cases h0 : a0 = b0 <;> by_cases h1 : a1 = b1 <;> by_cases h2 : a2 = b2 <;> by_cases h3 : a3.toList = b3.toList <;> by_cases h4 : a4 = b4 <;> simp [h0, h1, h2, h3, h4]
theorem sameB_self (x : To) : sameB x x = true := by simp [sameB]

set_option maxHeartbeats 2000000 in
theorem same_told {w : World} {a a' : Option Addr} {c c' : Nat} {l : List To} (h1 : IsT w a l) (h2 : IsT w a' l) : Calls Try.prog 13 #[.slice a l.length c, .slice a' l.length c'] w fun e w' => e = .returned (.bool true) ∧ Below w.heap.size w w' := by
  have bl : ((l.length : Int) != (l.length : Int)) = false := by simp
  have hln := h1.1
  have HQ := neq44
  go_enter Try.func13, Try.ntmps13
  go_wp2
  go_loopw [5] (fun iv wr => ∃ (i : Nat), iv = .int .i64 (i : Int) ∧ i ≤ l.length ∧ Below w.heap.size w wr) (fun iv _ => l.length - (intOf iv).toNat)
  case atStart => exact ⟨0, rfl, by omega, Below.refl _ _⟩
  case round =>
    obtain ⟨i, rfl, hi, hB⟩ := hrel
    by_cases hil : i < l.length
    · have hil' : (i : Int) < (l.length : Int) := by omega
      obtain ⟨g, off, rfl, hg, c0, c1, c2, c3, c4⟩ := (h1.below hB).at hil
      obtain ⟨g', off', rfl, hg', d0, d1, d2, d3, d4⟩ := (h2.below hB).at hil
      obtain ⟨⟨t0, t1, t2, t3, t4⟩, ht⟩ : ∃ t, l[i] = t := ⟨_, rfl⟩
      rw [ht] at c0 c1 c2 c3 c4 d0 d1 d2 d3 d4
      dsimp only at c0 c1 c2 c3 c4 d0 d1 d2 d3 d4
      have hs := sameB_self ⟨t0, t1, t2, t3, t4⟩
      clear ht h1 h2
      go_wp2_with fail
      go_quiet (fail)
      go_wp2
      go_roundw
      case rel => exact ⟨i + 1, by go_num, by omega, by first | exact hB | exact below_drewN hB _⟩
      case measure => simp [intOf]; omega
    · have hil' : ¬ (i : Int) < (l.length : Int) := by omega
      go_wp2
      go_ret
      exact ⟨rfl, hB⟩

set_option maxHeartbeats 4000000 in
theorem wrong_told {w : World} {a : Option Addr} {c N : Nat} {l : List To} (hl : IsT w a l) : Calls Try.prog 26 #[.slice a l.length c, .int .i64 (N : Int)] w fun e w' => e = .returned (.int .i64 (hearE N l)) ∧ Below w.heap.size w w' := by
  unfold hearE
  have hln := hl.1
  by_cases h20 : 20 < l.length
  · have h20' : (20 : Int) < (l.length : Int) := by omega
    rw [if_pos h20]
    go_enter Try.func26, Try.ntmps26
    go_wp2
    go_ret
    exact ⟨rfl, Below.refl _ _⟩
  have h20' : ¬ (20 : Int) < (l.length : Int) := by omega
  rw [if_neg h20]
  obtain ⟨F, hF⟩ : ∃ F, firstE N l = F := ⟨_, rfl⟩
  rw [hF]
  have HF : Hid (firstE N l = F) := hF
  have HL : Hid (IsT w a l) := hl
  clear hF hl
  go_enter Try.func26, Try.ntmps26
  go_wp2
  go_loopw [5, 6] (fun iv _ wr => ∃ (i : Nat), iv = .int .i64 (i : Int) ∧ i ≤ l.length ∧ (∀ j (h : j < l.length), j < i → wrongT N l[j] = 0) ∧ Below w.heap.size w wr) (fun iv _ _ => l.length - (intOf iv).toNat)
  case atStart => exact ⟨0, rfl, by omega, by omega, Below.refl _ _⟩
  case round =>
    obtain ⟨i, rfl, hi, hz, hB⟩ := hrel
    have HZ : Hid (∀ j (h : j < l.length), j < i → wrongT N l[j] = 0) := hz
    clear hz
    by_cases hil : i < l.length
    · have hil' : (i : Int) < (l.length : Int) := by omega
      obtain ⟨g, off, rfl, hg, c0, c1, c2, c3, c4⟩ := (HL.out.below hB).at hil
      have HFB : Hid (∀ x, wrongT N l[i] = x → x ≠ 0 → F = x) := fun x hx hne => HF.out.symm.trans ((firstE_bad hil HZ.out (by rw [hx]; exact hne)).trans hx)
      have HZ2 : Hid (wrongT N l[i] = 0 → ∀ j (h : j < l.length), j < i + 1 → wrongT N l[j] = 0) := fun h0 j hj hji => by
        by_cases e : j = i
        · subst e; exact h0
        · exact HZ.out j hj (by omega)
      obtain ⟨⟨t0, t1, t2, t3, t4⟩, ht⟩ : ∃ t, l[i] = t := ⟨_, rfl⟩
      rw [ht] at HFB HZ2 c0 c1 c2 c3 c4
      dsimp only at c0 c1 c2 c3 c4
      have hws := hB.size
      clear ht HZ
      by_cases p0 : t0 < 0
      · have HE : Hid (F = 5) := HFB.out 5 (by unfold wrongT hasB whoB; dsimp only; simp; omega) (by decide)
        clear HFB HZ2
        go_wp2
        go_ret
        rw [HE.out]
        exact ⟨rfl, hB.alloc hws _⟩
      by_cases p1 : (N : Int) ≤ t0
      · have HE : Hid (F = 5) := HFB.out 5 (by unfold wrongT hasB whoB; dsimp only; simp; omega) (by decide)
        clear HFB HZ2
        go_wp2
        go_ret
        rw [HE.out]
        exact ⟨rfl, hB.alloc hws _⟩
      by_cases p2 : t1 < 1
      · have HE : Hid (F = 3) := HFB.out 3 (by unfold wrongT hasB whoB; dsimp only; simp; omega) (by decide)
        clear HFB HZ2
        go_wp2
        go_ret
        rw [HE.out]
        exact ⟨rfl, hB.alloc hws _⟩
      by_cases p3 : 1000000 < t1
      · have HE : Hid (F = 3) := HFB.out 3 (by unfold wrongT hasB whoB; dsimp only; simp; omega) (by decide)
        clear HFB HZ2
        go_wp2
        go_ret
        rw [HE.out]
        exact ⟨rfl, hB.alloc hws _⟩
      by_cases p4 : t2 < 1
      · have HE : Hid (F = 3) := HFB.out 3 (by unfold wrongT hasB whoB; dsimp only; simp; omega) (by decide)
        clear HFB HZ2
        go_wp2
        go_ret
        rw [HE.out]
        exact ⟨rfl, hB.alloc hws _⟩
      by_cases p5 : 9 < t2
      · have HE : Hid (F = 3) := HFB.out 3 (by unfold wrongT hasB whoB; dsimp only; simp; omega) (by decide)
        clear HFB HZ2
        go_wp2
        go_ret
        rw [HE.out]
        exact ⟨rfl, hB.alloc hws _⟩
      by_cases p6 : 100 < t3.size
      · have HE : Hid (F = 2) := HFB.out 2 (by unfold wrongT hasB whoB; dsimp only; simp; omega) (by decide)
        have p8 : (100 : Int) < (t3.size : Int) := by omega
        clear HFB HZ2
        go_wp2
        go_ret
        rw [HE.out]
        exact ⟨rfl, hB.alloc hws _⟩
      have p8 : ¬ (100 : Int) < (t3.size : Int) := by omega
      have HZ3 := HZ2.out (by unfold wrongT hasB whoB; dsimp only; simp; omega)
      have HZ4 : Hid (∀ j (h : j < l.length), j < i + 1 → wrongT N l[j] = 0) := HZ3
      clear HFB HZ2 HZ3
      go_wp2
      go_roundw
      case rel => exact ⟨i + 1, by go_num, by omega, HZ4.out, hB.alloc hws _⟩
      case measure => simp [intOf]; omega
    · have hil' : ¬ (i : Int) < (l.length : Int) := by omega
      have HE : Hid (F = 0) := HF.out.symm.trans (firstE_ok (fun j hj => HZ.out j hj (by omega)))
      clear HZ
      go_wp2
      go_ret
      rw [HE.out]
      exact ⟨rfl, hB⟩
end Go.Proofs.Ytmhgoddlbklbfaa.Ra
