/- HangWorth (16), choose (19), Same (20). Conditions: a tree of at most 12 words, scores of no great size. -/
import Derived.Test.YtpolnkdbebjpnaaNi
import Derived.Deep.QuietTactic
import Derived.BigQuiet
namespace Go.Proofs.Ytpolnkdbebjpnaa.Hd
open Go.RowKit

set_option maxHeartbeats 2000000 in
set_option maxRecDepth 100000 in
theorem worth_any (n b off cap g : Nat) (ra : Nat → Option Addr) (rc : Nat → Nat) (s : Nat → Nat → Int) (ul : List Nat) (w : World) (hS : Sc w b off n ra rc s) (hn : n ≤ 12) (hs : ∀ h x, h ≤ n → 1 ≤ x → x ≤ n → -1000000 ≤ s h x ∧ s h x ≤ 1000000) (hu : Row w (.slice (some ⟨g, 0, none⟩) n n) 1 n (ns ul)) (hul : ul.length = n) (hle : ∀ x, 1 ≤ x → x ≤ n → uv ul x ≤ n) :
    Calls Try.prog 16 #[.slice (some ⟨b, off, none⟩) (n + 1) cap, .slice (some ⟨g, 0, none⟩) n n] w fun e w' => e = .returned (.int .i64 (wo s n (uv ul))) ∧ Below w.heap.size w w' := by
  have HS : Hid (∀ W, Below w.heap.size w W → Sc W b off n ra rc s) := fun W hW => hS.below hW
  have HU : Hid (∀ W, Below w.heap.size w W → ∀ i, i < n → W.cell? ⟨g, i, none⟩ = some (.int .i64 (uv ul (i + 1) : Int))) := fun W hW i hi => by
    obtain ⟨_, a, c, hv, _, hc⟩ := hu
    injection hv with e1 e2 e3
    obtain ⟨b1, o1, f1, f2, f3⟩ := hc.resolve_left (by omega)
    rw [← e1] at f1
    injection f1 with f1
    injection f1 with f1 f4
    subst f1
    subst f4
    have h := f3 i _ (ns_uv (by omega))
    rw [Nat.zero_add] at h
    exact (hW.cell (p := ⟨g, i, none⟩) f2).trans h
  have HUL : Hid ((∀ x, 1 ≤ x → x ≤ n → uv ul x ≤ n) ∧ ∀ i, i ≤ n → -(1000000 * (i : Int)) ≤ sg s (uv ul) 1 i ∧ sg s (uv ul) 1 i ≤ 1000000 * (i : Int)) := ⟨hle, sg_bound hs hle⟩
  obtain ⟨m1, hm1⟩ : ∃ m, n + 1 = m := ⟨_, rfl⟩
  have HM : Hid (n + 1 = m1) := hm1
  rw [hm1]
  clear hS hs hu hul hle hm1
  go_enter Try.func16, Try.ntmps16
  go_upto_region 3 with fail
  go_loopw [5, 6] (fun a c wr => ∃ i : Nat, a = .int .i64 (sg s (uv ul) 1 i) ∧ c = .int .i64 (i : Int) ∧ i ≤ n ∧ Below w.heap.size w wr) (fun _ c _ => n - (intOf c).toNat)
  case atStart => exact ⟨0, rfl, rfl, Nat.zero_le _, Below.refl _ _⟩
  case round =>
    obtain ⟨i, rfl, rfl, hi, hb⟩ := hrel
    have HI : Hid (Below w.heap.size w wr) := hb
    clear hb
    by_cases hlt : i < n
    · have hii : (i : Int) < (n : Int) := by omega
      obtain ⟨h, hh⟩ : ∃ h, uv ul (i + 1) = h := ⟨_, rfl⟩
      have hhn : h ≤ n := by rw [← hh]; exact HUL.out.1 (i + 1) (by omega) (by omega)
      have c0 := HU.out wr HI.out i hlt
      rw [hh] at c0
      have hhm : (h : Int) < (m1 : Int) := by have := HM.out; omega
      obtain ⟨rb, ro, e1, _, hcc⟩ := (HS.out wr HI.out).num h hhn (by omega)
      have c1 := (HS.out wr HI.out).row h hhn
      rw [e1] at c1
      have c2 := hcc i hlt
      obtain ⟨y, hy⟩ : ∃ y, s h (i + 1) = y := ⟨_, rfl⟩
      rw [hy] at c2
      obtain ⟨x, hx⟩ : ∃ x, sg s (uv ul) 1 i = x := ⟨_, rfl⟩
      have HX : Hid (sg s (uv ul) 1 (i + 1) = x + y) := by show _ = _; rw [sg_up, hx, hh, hy]
      have wx : wrap64 (x + y) = x + y := by
        have h1 := HUL.out.2 (i + 1) (by omega)
        rw [HX.out] at h1
        unfold wrap64
        omega
      rw [hx]
      clear e1 hcc hy hx hh
      go_wp2
      go_roundw
      case rel => exact ⟨i + 1, by first | rw [wx, HX.out] | rw [HX.out], by go_num, by omega, HI.out⟩
      case measure => simp [intOf]; omega
    · obtain rfl : i = n := by omega
      go_wp2
      go_ret
      exact ⟨rfl, HI.out⟩
theorem wrap_neg {c : Int} (h1 : -9223372036854775808 ≤ c) (h2 : c < 0) : wrap64 (-(wrap64 (c + 1))) = -(c + 1) ∧ wrap64 (c + 1) = c + 1 := by
  have e : wrap64 (c + 1) = c + 1 := by unfold wrap64; omega
  rw [e]
  refine ⟨?_, rfl⟩
  unfold wrap64
  omega
set_option maxRecDepth 100000 in
theorem choose_any (c : Int) (n : Nat) (w : World) (hn : 0 < n) (hn2 : n ≤ 100000) (h1 : -9223372036854775808 ≤ c) (h2 : c ≤ 9223372036854775807) :
    Calls Try.prog 19 #[.int .i64 c, .int .i64 n] w fun e w' => ∃ k : Nat, k < n ∧ e = .returned (.int .i64 k) ∧ Below w.heap.size w w' := by
  have key : ∀ x : Int, 0 ≤ x → ∃ k : Nat, k < n ∧ x.tmod n = (k : Int) := fun x hx => by
    have h3 : 0 ≤ x.tmod n := Int.tmod_nonneg _ hx
    have h4 : x.tmod n < n := Int.tmod_lt_of_pos _ (by omega)
    exact ⟨(x.tmod n).toNat, by omega, by omega⟩
  have hn0 : ¬ (n : Int) = 0 := by omega
  by_cases hc : c < 0
  · obtain ⟨e1, e2⟩ := wrap_neg h1 hc
    obtain ⟨x, hx⟩ : ∃ x, -(c + 1) = x := ⟨_, rfl⟩
    obtain ⟨k, hk, hm⟩ := key x (by omega)
    rw [hx] at e1
    rw [e2, hx] at e1
    have HK : Hid (k < n ∧ wrap64 x = x ∧ x.tmod n = (k : Int)) := ⟨hk, e1, hm⟩
    clear hk key h1 h2 hn hn2 hm e1
    go_enter Try.func19, Try.ntmps19
    go_wp2
    go_ret
    exact ⟨k, HK.out.1, by rw [HK.out.2.1, HK.out.2.2]; rfl, Below.refl _ _⟩
  · obtain ⟨k, hk, hm⟩ := key c (by omega)
    have HK : Hid (k < n) := hk
    clear hk key h1 h2 hn hn2
    go_enter Try.func19, Try.ntmps19
    go_wp2
    go_ret
    exact ⟨k, HK.out, rfl, Below.refl _ _⟩
set_option maxHeartbeats 2000000 in
set_option maxRecDepth 100000 in
theorem same_any (g1 g2 n c1 c2 : Nat) (w : World) (hn : n ≤ 1000) (h1 : ∀ j, j < n → ∃ x : Int, w.cell? ⟨g1, j, none⟩ = some (.int .i64 x) ∧ w.cell? ⟨g2, j, none⟩ = some (.int .i64 x)) :
    Calls Try.prog 20 #[.slice (some ⟨g1, 0, none⟩) n c1, .slice (some ⟨g2, 0, none⟩) n c2] w fun e w' => e = .returned (.bool true) ∧ ∃ q, w' = w.drewN q := by
  have HC : Hid (∀ j, j < n → ∃ x : Int, w.cell? ⟨g1, j, none⟩ = some (.int .i64 x) ∧ w.cell? ⟨g2, j, none⟩ = some (.int .i64 x)) := h1
  have HN : Hid (n ≤ 1000) := hn
  clear h1 hn
  go_enter Try.func20, Try.ntmps20
  go_upto_region 4 with fail
  go_loopw [5] (fun a wr => ∃ i q : Nat, a = .int .i64 (i : Int) ∧ i ≤ n ∧ wr = w.drewN q) (fun a _ => n - (intOf a).toNat)
  case atStart => exact ⟨0, 0, rfl, Nat.zero_le _, rfl⟩
  case round =>
    obtain ⟨i, q, rfl, hi, rfl⟩ := hrel
    by_cases hlt : i < n
    · have hii : (i : Int) < (n : Int) := by omega
      have hnb := HN.out
      obtain ⟨x, k1, k2⟩ := HC.out i hlt
      have d1 : (x == x) = true := by simp
      go_wp2
      go_quiet (fail)
      go_wp2
      go_roundw
      case rel => exact ⟨i + 1, q + nq, by go_num, by omega, by simp [World.drewN]⟩
      case measure => simp [intOf]; omega
    · obtain rfl : i = n := by omega
      go_wp2
      go_ret
      exact ⟨rfl, q, rfl⟩
end Go.Proofs.Ytpolnkdbebjpnaa.Hd
