/- choose and talkBegun. Conditions: what is chosen of is not nothing, and the number is an int. -/
import Derived.Test.YtmhgoddlbklbfaaRg
namespace Go.Proofs.Ytmhgoddlbklbfaa.Ra
open Go.RowKit Ta Tb

def Chose (n : Nat) (w : World) (e : Ending) (w' : World) : Prop := ∃ k : Nat, e = .returned (.int .i64 (k : Int)) ∧ k < n ∧ w' = w
theorem mod_nat {c : Int} {n : Nat} (hc : 0 ≤ c) (hn : 1 ≤ n) : ∃ k : Nat, c.tmod (n : Int) = (k : Int) ∧ k < n := by
  refine ⟨(c.tmod (n : Int)).toNat, ?_, ?_⟩
  · have := Int.tmod_nonneg (n : Int) hc
    omega
  · have h1 := Int.tmod_nonneg (n : Int) hc
    have h2 := Int.tmod_lt_of_pos c (show 0 < (n : Int) by omega)
    omega
theorem choose_any (c : Int) (n : Nat) (w : World) (hn : 1 ≤ n) (hm : n ≤ 1000) (h1 : -9223372036854775808 ≤ c) (h2 : c ≤ 9223372036854775807) : Calls Try.prog 8 #[.int .i64 c, .int .i64 (n : Int)] w (Chose n w) := by
  have hn0 : ¬ (n : Int) = 0 := by omega
  have hn1 : ((n : Int) == 0) = false := by simp; omega
  by_cases hc : c < 0
  · have hd : 0 ≤ -(c + 1) := by omega
    obtain ⟨k, hk, hkn⟩ := mod_nat hd hn
    go_enter Try.func8, Try.ntmps8
    go_wp2
    go_ret
    exact ⟨k, rfl, hkn, rfl⟩
  · obtain ⟨k, hk, hkn⟩ := mod_nat (show 0 ≤ c by omega) hn
    go_enter Try.func8, Try.ntmps8
    go_wp2
    go_ret
    exact ⟨k, rfl, hkn, rfl⟩

theorem begun_say : (sayR 1 2 (newS 2) 1 ⟨#[120]⟩).1 = 0 := by decide +kernel
theorem begun_told : toldL ((sayR 1 2 (newS 2) 1 ⟨#[120]⟩).2.take 2) = [⟨1, 1, 1, ⟨#[120]⟩, true⟩] := by rfl
theorem own_one {w : World} {base : Nat} {v : Value} {t : To} (h : w.ownsRow base 44 5 v 1 (tls [t])) : ∃ g cap, v = .slice (some ⟨g, 0, none⟩) 1 cap ∧ w.cell? ⟨g, 3, none⟩ = some (.string t.val) ∧ w.cell? ⟨g, 4, none⟩ = some (.bool t.op) := by
  rcases h.2 with ⟨_, h'⟩ | ⟨g, cap, cur, hv, _⟩
  · omega
  · rw [hv] at h
    exact ⟨g, cap, hv, h.cellAt 3 (by omega), h.cellAt 4 (by omega)⟩
set_option maxHeartbeats 2000000 in
theorem begun_any (w : World) : Calls Try.prog 5 #[] w fun e w' => e = .returned (.bool true) ∧ Below w.heap.size w w' := by
  have KN : Calls Try.prog 6 #[.int .i64 1, .int .i64 2] w fun e w' => ∃ b, e = .returned (.tuple #[.pointer (some ⟨b, 0, none⟩), .int .i64 0]) ∧ w.heap.size ≤ b ∧ Tk w' b 1 ((2 : Nat) : Int) (newS 2) ∧ Below w.heap.size w w' := new_ok (w := w) (W := 1) (N := 2) rfl (by omega) (by omega)
  have KS : ∀ w' b, Tk w' b 1 ((2 : Nat) : Int) (newS 2) → Calls Try.prog 9 #[.pointer (some ⟨b, 0, none⟩), .int .i64 1, .string ⟨#[120]⟩] w' fun e w'' => e = .returned (.int .i64 0) ∧ Tk w'' b 1 ((2 : Nat) : Int) (sayR 1 2 (newS 2) 1 ⟨#[120]⟩).2 ∧ Ko w' w'' b := fun w' b h => by
    have := say_any h (by omega) (sim_new (N := 2) (by omega)).versE 1 ⟨#[120]⟩
    rwa [begun_say] at this
  have KT : ∀ w' b, Tk w' b 1 ((2 : Nat) : Int) (sayR 1 2 (newS 2) 1 ⟨#[120]⟩).2 → Calls Try.prog 11 #[.pointer (some ⟨b, 0, none⟩)] w' fun e w'' => ∃ g cap, e = .returned (.slice (some ⟨g, 0, none⟩) 1 cap) ∧ w''.cell? ⟨g, 3, none⟩ = some (.string ⟨#[120]⟩) ∧ w''.cell? ⟨g, 4, none⟩ = some (.bool true) ∧ Ko w' w'' b := fun w' b h => (take_any h (by omega)).mono fun e w'' ⟨v, he, ho, _, hk⟩ => by
    rw [begun_told] at ho
    obtain ⟨g, cap, hv, h3, h4⟩ := own_one ho
    exact ⟨g, cap, by rw [he, hv], h3, h4, hk⟩
  have hx : ((⟨#[120]⟩ : ByteArray).toList == (⟨#[120]⟩ : ByteArray).toList) = true := by simp
  go_enter Try.func5, Try.ntmps5
  go_wp2_with (first | (go_at_call 6; (with_reducible refine KN.mono ?_); rintro e w1 ⟨p, rfl, hp, hT, hb1⟩) | (go_at_call 9; (with_reducible refine (KS _ _ hT).mono ?_); rintro e w2 ⟨rfl, hT2, hk2⟩) | (go_at_call 11; (with_reducible refine (KT _ _ hT2).mono ?_); rintro e w3 ⟨g, cap, rfl, c3, c4, hk3⟩))
  go_ret
  exact ⟨rfl, (hb1.trans (hk2.toBelow hp hb1.size)).trans (hk3.toBelow hp (Nat.le_trans hb1.size hk2.1))⟩
end Go.Proofs.Ytmhgoddlbklbfaa.Ra
