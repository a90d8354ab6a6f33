/- Check (10) and what it calls (26-30, 44, 45), at any rows of numbers. No conditions but how the rows lie. -/
import Derived.Test.YtpolnkdbebjpnaaNg
namespace Go.Proofs.Ytpolnkdbebjpnaa.Hd
open Go.RowKit

/-- a number that is out of bounds -/
def outB (x : Int) : Bool := decide (x < -1000000) || decide (1000000 < x)
set_option maxRecDepth 100000 in
theorem isOut_any (x : Int) (w : World) : Calls Try.prog 27 #[.int .i64 x] w fun e w' => e = .returned (.bool (outB x)) ∧ Below w.heap.size w w' := by
  have HO : Hid (outB x = (decide (x < -1000000) || decide (1000000 < x))) := rfl
  by_cases h1 : x < -1000000
  · have q1 : decide (x < -1000000) = true := by simp [h1]
    go_enter Try.func27, Try.ntmps27
    go_wp2
    go_ret
    exact ⟨by rw [HO.out, q1]; rfl, Below.refl _ _⟩
  · have q1 : decide (x < -1000000) = false := by simp [h1]
    go_enter Try.func27, Try.ntmps27
    go_wp2
    go_ret
    exact ⟨by rw [HO.out, q1]; rfl, Below.refl _ _⟩
set_option maxHeartbeats 2000000 in
set_option maxRecDepth 100000 in
theorem idx_27 (val : Nat → Value) (p : Nat → Bool) (b off n cap : Nat) (a : Option Addr) (w : World) (ha : 0 < n → a = some ⟨b, off, none⟩ ∧ b < w.heap.size) (hn : n ≤ 1000) (hc : ∀ j, j < n → w.cell? ⟨b, off + j, none⟩ = some (val j)) (hf : ∀ j, j < n → ∀ W, Below w.heap.size w W → Calls Try.prog 27 #[val j] W fun e W' => e = .returned (.bool (p j)) ∧ Below W.heap.size W W') :
    Calls Try.prog 45 #[.slice a n cap, .func (.func 27) #[] #[]] w fun e w' => ∃ z : Int, e = .returned (.int .i64 z) ∧ (0 ≤ z ↔ ∃ j, j < n ∧ p j = true) ∧ Below w.heap.size w w' := by
  have HA : Hid (0 < n → a = some ⟨b, off, none⟩ ∧ b < w.heap.size) := ha
  have HC : Hid (∀ W, Below w.heap.size w W → ∀ j, j < n → W.cell? ⟨b, off + j, none⟩ = some (val j)) := fun W hW j hj => (hW.cell (p := ⟨b, off + j, none⟩) (ha (by omega)).2).trans (hc j hj)
  have HF : Hid (∀ j, j < n → ∀ W, Below w.heap.size w W → Calls Try.prog 27 #[val j] W fun e W' => e = .returned (.bool (p j)) ∧ Below W.heap.size W W') := hf
  have HN : Hid (n ≤ 1000) := hn
  clear ha hc hf hn
  go_enter Try.func45, Try.ntmps45
  go_upto_region 2 with fail
  go_loopw [8] (fun c wr => ∃ i : Nat, c = .int .i64 (i : Int) ∧ i ≤ n ∧ Below w.heap.size w wr ∧ ∀ j, j < i → p j = false) (fun c _ => n - (intOf c).toNat)
  case atStart => exact ⟨0, rfl, Nat.zero_le _, Below.refl _ _, fun j hj => absurd hj (Nat.not_lt_zero _)⟩
  case round =>
    obtain ⟨i, rfl, hi, hb, hp⟩ := hrel
    have HI : Hid (Below w.heap.size w wr ∧ ∀ j, j < i → p j = false) := ⟨hb, hp⟩
    clear hb hp
    by_cases hlt : i < n
    · obtain ⟨rfl, _⟩ := HA.out (by omega)
      have hii : (i : Int) < (n : Int) := by omega
      have hnb := HN.out
      obtain ⟨u, hu⟩ : ∃ u, val i = u := ⟨_, rfl⟩
      have c0 := HC.out wr HI.out.1 i hlt
      rw [hu] at c0
      have K := HF.out i hlt wr HI.out.1
      rw [hu] at K
      clear hu
      by_cases hpi : p i = true
      · rw [hpi] at K
        have HP : Hid (p i = true) := hpi
        clear hpi
        go_wp2_with (go_at_call 27; (with_reducible refine K.mono ?_); clear K; rintro e w1 ⟨rfl, hb1⟩; have HB1 : Hid (Below w.heap.size w w1) := HI.out.1.trans (hb1.mono HI.out.1.size); clear hb1)
        try rw [Exit.noGoto_ret]
        go_ret
        exact ⟨i, rfl, ⟨fun _ => ⟨i, hlt, HP.out⟩, fun _ => by omega⟩, HB1.out⟩
      · have hpf : p i = false := by simpa using hpi
        rw [hpf] at K
        have HP : Hid (p i = false) := hpf
        clear hpi hpf
        go_wp2_with (go_at_call 27; (with_reducible refine K.mono ?_); clear K; rintro e w1 ⟨rfl, hb1⟩; have HB1 : Hid (Below w.heap.size w w1) := HI.out.1.trans (hb1.mono HI.out.1.size); clear hb1)
        go_roundw
        case rel => exact ⟨i + 1, by go_num, by omega, HB1.out, fun j hj => by
          by_cases e : j = i
          · rw [e]; exact HP.out
          · exact HI.out.2 j (by omega)⟩
        case measure => simp [intOf]; omega
    · obtain rfl : i = n := by omega
      go_wp2
      go_ret
      refine ⟨-1, rfl, ⟨fun h => absurd h (by decide), fun ⟨j, hj, hpj⟩ => ?_⟩, HI.out.1⟩
      rw [HI.out.2 j hj] at hpj
      cases hpj
set_option maxRecDepth 100000 in
theorem has_27 (val : Nat → Value) (p : Nat → Bool) (b off n cap : Nat) (a : Option Addr) (w : World) (ha : 0 < n → a = some ⟨b, off, none⟩ ∧ b < w.heap.size) (hn : n ≤ 1000) (hc : ∀ j, j < n → w.cell? ⟨b, off + j, none⟩ = some (val j)) (hf : ∀ j, j < n → ∀ W, Below w.heap.size w W → Calls Try.prog 27 #[val j] W fun e W' => e = .returned (.bool (p j)) ∧ Below W.heap.size W W') :
    Calls Try.prog 30 #[.slice a n cap, .func (.func 27) #[] #[]] w fun e w' => ∃ z : Bool, e = .returned (.bool z) ∧ (z = true ↔ ∃ j, j < n ∧ p j = true) ∧ Below w.heap.size w w' := by
  have K := idx_27 val p b off n cap a w ha hn hc hf
  clear ha hn hc hf
  go_enter Try.func30, Try.ntmps30
  go_wp2_with (go_at_call 45; (with_reducible refine K.mono ?_); clear K; rintro e w1 ⟨z, rfl, hz, hb⟩; have HZ : Hid ((0 ≤ z ↔ ∃ j, j < n ∧ p j = true) ∧ Below w.heap.size w w1) := ⟨hz, hb⟩; clear hz hb)
  go_ret
  exact ⟨_, rfl, by rw [decide_eq_true_iff]; exact HZ.out.1, HZ.out.2⟩
set_option maxHeartbeats 2000000 in
set_option maxRecDepth 100000 in
theorem idx_26 (val : Nat → Value) (p : Nat → Bool) (pw : Nat) (b off n cap : Nat) (a : Option Addr) (w : World) (ha : 0 < n → a = some ⟨b, off, none⟩ ∧ b < w.heap.size) (hn : n ≤ 1000) (hc : ∀ j, j < n → w.cell? ⟨b, off + j, none⟩ = some (val j)) (hf : ∀ j, j < n → ∀ W, Below w.heap.size w W → Calls Try.prog 26 #[val j, .pointer (some ⟨pw, 0, none⟩)] W fun e W' => e = .returned (.bool (p j)) ∧ Below W.heap.size W W') :
    Calls Try.prog 44 #[.slice a n cap, .func (.func 26) #[] #[.pointer (some ⟨pw, 0, none⟩)]] w fun e w' => ∃ z : Int, e = .returned (.int .i64 z) ∧ (0 ≤ z ↔ ∃ j, j < n ∧ p j = true) ∧ Below w.heap.size w w' := by
  have HA : Hid (0 < n → a = some ⟨b, off, none⟩ ∧ b < w.heap.size) := ha
  have HC : Hid (∀ W, Below w.heap.size w W → ∀ j, j < n → W.cell? ⟨b, off + j, none⟩ = some (val j)) := fun W hW j hj => (hW.cell (p := ⟨b, off + j, none⟩) (ha (by omega)).2).trans (hc j hj)
  have HF : Hid (∀ j, j < n → ∀ W, Below w.heap.size w W → Calls Try.prog 26 #[val j, .pointer (some ⟨pw, 0, none⟩)] W fun e W' => e = .returned (.bool (p j)) ∧ Below W.heap.size W W') := hf
  have HN : Hid (n ≤ 1000) := hn
  clear ha hc hf hn
  go_enter Try.func44, Try.ntmps44
  go_upto_region 2 with fail
  go_loopw [8] (fun c wr => ∃ i : Nat, c = .int .i64 (i : Int) ∧ i ≤ n ∧ Below w.heap.size w wr ∧ ∀ j, j < i → p j = false) (fun c _ => n - (intOf c).toNat)
  case atStart => exact ⟨0, rfl, Nat.zero_le _, Below.refl _ _, fun j hj => absurd hj (Nat.not_lt_zero _)⟩
  case round =>
    obtain ⟨i, rfl, hi, hb, hp⟩ := hrel
    have HI : Hid (Below w.heap.size w wr ∧ ∀ j, j < i → p j = false) := ⟨hb, hp⟩
    clear hb hp
    by_cases hlt : i < n
    · obtain ⟨rfl, _⟩ := HA.out (by omega)
      have hii : (i : Int) < (n : Int) := by omega
      have hnb := HN.out
      obtain ⟨u, hu⟩ : ∃ u, val i = u := ⟨_, rfl⟩
      have c0 := HC.out wr HI.out.1 i hlt
      rw [hu] at c0
      have K := HF.out i hlt wr HI.out.1
      rw [hu] at K
      clear hu
      by_cases hpi : p i = true
      · rw [hpi] at K
        have HP : Hid (p i = true) := hpi
        clear hpi
        go_wp2_with (go_at_call 26; (with_reducible refine K.mono ?_); clear K; rintro e w1 ⟨rfl, hb1⟩; have HB1 : Hid (Below w.heap.size w w1) := HI.out.1.trans (hb1.mono HI.out.1.size); clear hb1)
        try rw [Exit.noGoto_ret]
        go_ret
        exact ⟨i, rfl, ⟨fun _ => ⟨i, hlt, HP.out⟩, fun _ => by omega⟩, HB1.out⟩
      · have hpf : p i = false := by simpa using hpi
        rw [hpf] at K
        have HP : Hid (p i = false) := hpf
        clear hpi hpf
        go_wp2_with (go_at_call 26; (with_reducible refine K.mono ?_); clear K; rintro e w1 ⟨rfl, hb1⟩; have HB1 : Hid (Below w.heap.size w w1) := HI.out.1.trans (hb1.mono HI.out.1.size); clear hb1)
        go_roundw
        case rel => exact ⟨i + 1, by go_num, by omega, HB1.out, fun j hj => by
          by_cases e : j = i
          · rw [e]; exact HP.out
          · exact HI.out.2 j (by omega)⟩
        case measure => simp [intOf]; omega
    · obtain rfl : i = n := by omega
      go_wp2
      go_ret
      refine ⟨-1, rfl, ⟨fun h => absurd h (by decide), fun ⟨j, hj, hpj⟩ => ?_⟩, HI.out.1⟩
      rw [HI.out.2 j hj] at hpj
      cases hpj
set_option maxRecDepth 100000 in
theorem has_26 (val : Nat → Value) (p : Nat → Bool) (pw : Nat) (b off n cap : Nat) (a : Option Addr) (w : World) (ha : 0 < n → a = some ⟨b, off, none⟩ ∧ b < w.heap.size) (hn : n ≤ 1000) (hc : ∀ j, j < n → w.cell? ⟨b, off + j, none⟩ = some (val j)) (hf : ∀ j, j < n → ∀ W, Below w.heap.size w W → Calls Try.prog 26 #[val j, .pointer (some ⟨pw, 0, none⟩)] W fun e W' => e = .returned (.bool (p j)) ∧ Below W.heap.size W W') :
    Calls Try.prog 28 #[.slice a n cap, .func (.func 26) #[] #[.pointer (some ⟨pw, 0, none⟩)]] w fun e w' => ∃ z : Bool, e = .returned (.bool z) ∧ (z = true ↔ ∃ j, j < n ∧ p j = true) ∧ Below w.heap.size w w' := by
  have K := idx_26 val p pw b off n cap a w ha hn hc hf
  clear ha hn hc hf
  go_enter Try.func28, Try.ntmps28
  go_wp2_with (go_at_call 44; (with_reducible refine K.mono ?_); clear K; rintro e w1 ⟨z, rfl, hz, hb⟩; have HZ : Hid ((0 ≤ z ↔ ∃ j, j < n ∧ p j = true) ∧ Below w.heap.size w w1) := ⟨hz, hb⟩; clear hz hb)
  go_ret
  exact ⟨_, rfl, by rw [decide_eq_true_iff]; exact HZ.out.1, HZ.out.2⟩
set_option maxHeartbeats 2000000 in
set_option maxRecDepth 100000 in
theorem idx_29 (val : Nat → Value) (p : Nat → Bool) (po : Nat) (b off n cap : Nat) (a : Option Addr) (w : World) (ha : 0 < n → a = some ⟨b, off, none⟩ ∧ b < w.heap.size) (hn : n ≤ 1000) (hc : ∀ j, j < n → w.cell? ⟨b, off + j, none⟩ = some (val j)) (hf : ∀ j, j < n → ∀ W, Below w.heap.size w W → Calls Try.prog 29 #[val j, .pointer (some ⟨po, 0, none⟩)] W fun e W' => e = .returned (.bool (p j)) ∧ Below W.heap.size W W') :
    Calls Try.prog 44 #[.slice a n cap, .func (.func 29) #[] #[.pointer (some ⟨po, 0, none⟩)]] w fun e w' => ∃ z : Int, e = .returned (.int .i64 z) ∧ (0 ≤ z ↔ ∃ j, j < n ∧ p j = true) ∧ Below w.heap.size w w' := by
  have HA : Hid (0 < n → a = some ⟨b, off, none⟩ ∧ b < w.heap.size) := ha
  have HC : Hid (∀ W, Below w.heap.size w W → ∀ j, j < n → W.cell? ⟨b, off + j, none⟩ = some (val j)) := fun W hW j hj => (hW.cell (p := ⟨b, off + j, none⟩) (ha (by omega)).2).trans (hc j hj)
  have HF : Hid (∀ j, j < n → ∀ W, Below w.heap.size w W → Calls Try.prog 29 #[val j, .pointer (some ⟨po, 0, none⟩)] W fun e W' => e = .returned (.bool (p j)) ∧ Below W.heap.size W W') := hf
  have HN : Hid (n ≤ 1000) := hn
  clear ha hc hf hn
  go_enter Try.func44, Try.ntmps44
  go_upto_region 2 with fail
  go_loopw [8] (fun c wr => ∃ i : Nat, c = .int .i64 (i : Int) ∧ i ≤ n ∧ Below w.heap.size w wr ∧ ∀ j, j < i → p j = false) (fun c _ => n - (intOf c).toNat)
  case atStart => exact ⟨0, rfl, Nat.zero_le _, Below.refl _ _, fun j hj => absurd hj (Nat.not_lt_zero _)⟩
  case round =>
    obtain ⟨i, rfl, hi, hb, hp⟩ := hrel
    have HI : Hid (Below w.heap.size w wr ∧ ∀ j, j < i → p j = false) := ⟨hb, hp⟩
    clear hb hp
    by_cases hlt : i < n
    · obtain ⟨rfl, _⟩ := HA.out (by omega)
      have hii : (i : Int) < (n : Int) := by omega
      have hnb := HN.out
      obtain ⟨u, hu⟩ : ∃ u, val i = u := ⟨_, rfl⟩
      have c0 := HC.out wr HI.out.1 i hlt
      rw [hu] at c0
      have K := HF.out i hlt wr HI.out.1
      rw [hu] at K
      clear hu
      by_cases hpi : p i = true
      · rw [hpi] at K
        have HP : Hid (p i = true) := hpi
        clear hpi
        go_wp2_with (go_at_call 29; (with_reducible refine K.mono ?_); clear K; rintro e w1 ⟨rfl, hb1⟩; have HB1 : Hid (Below w.heap.size w w1) := HI.out.1.trans (hb1.mono HI.out.1.size); clear hb1)
        try rw [Exit.noGoto_ret]
        go_ret
        exact ⟨i, rfl, ⟨fun _ => ⟨i, hlt, HP.out⟩, fun _ => by omega⟩, HB1.out⟩
      · have hpf : p i = false := by simpa using hpi
        rw [hpf] at K
        have HP : Hid (p i = false) := hpf
        clear hpi hpf
        go_wp2_with (go_at_call 29; (with_reducible refine K.mono ?_); clear K; rintro e w1 ⟨rfl, hb1⟩; have HB1 : Hid (Below w.heap.size w w1) := HI.out.1.trans (hb1.mono HI.out.1.size); clear hb1)
        go_roundw
        case rel => exact ⟨i + 1, by go_num, by omega, HB1.out, fun j hj => by
          by_cases e : j = i
          · rw [e]; exact HP.out
          · exact HI.out.2 j (by omega)⟩
        case measure => simp [intOf]; omega
    · obtain rfl : i = n := by omega
      go_wp2
      go_ret
      refine ⟨-1, rfl, ⟨fun h => absurd h (by decide), fun ⟨j, hj, hpj⟩ => ?_⟩, HI.out.1⟩
      rw [HI.out.2 j hj] at hpj
      cases hpj
set_option maxRecDepth 100000 in
theorem has_29 (val : Nat → Value) (p : Nat → Bool) (po : Nat) (b off n cap : Nat) (a : Option Addr) (w : World) (ha : 0 < n → a = some ⟨b, off, none⟩ ∧ b < w.heap.size) (hn : n ≤ 1000) (hc : ∀ j, j < n → w.cell? ⟨b, off + j, none⟩ = some (val j)) (hf : ∀ j, j < n → ∀ W, Below w.heap.size w W → Calls Try.prog 29 #[val j, .pointer (some ⟨po, 0, none⟩)] W fun e W' => e = .returned (.bool (p j)) ∧ Below W.heap.size W W') :
    Calls Try.prog 28 #[.slice a n cap, .func (.func 29) #[] #[.pointer (some ⟨po, 0, none⟩)]] w fun e w' => ∃ z : Bool, e = .returned (.bool z) ∧ (z = true ↔ ∃ j, j < n ∧ p j = true) ∧ Below w.heap.size w w' := by
  have K := idx_29 val p po b off n cap a w ha hn hc hf
  clear ha hn hc hf
  go_enter Try.func28, Try.ntmps28
  go_wp2_with (go_at_call 44; (with_reducible refine K.mono ?_); clear K; rintro e w1 ⟨z, rfl, hz, hb⟩; have HZ : Hid ((0 ≤ z ↔ ∃ j, j < n ∧ p j = true) ∧ Below w.heap.size w w1) := ⟨hz, hb⟩; clear hz hb)
  go_ret
  exact ⟨_, rfl, by rw [decide_eq_true_iff]; exact HZ.out.1, HZ.out.2⟩
set_option maxRecDepth 100000 in
theorem isOff_any (a : Option Addr) (n cap pw : Nat) (m : Int) (w : World) (hp : w.cell? ⟨pw, 0, none⟩ = some (.int .i64 m)) :
    Calls Try.prog 26 #[.slice a n cap, .pointer (some ⟨pw, 0, none⟩)] w fun e w' => e = .returned (.bool ((n : Int) != m)) ∧ Below w.heap.size w w' := by
  go_enter Try.func26, Try.ntmps26
  go_wp2
  go_ret
  exact ⟨rfl, Below.refl _ _⟩
/-- a row lies -/
def Rl (w : World) (a : Option Addr) (l : List Int) : Prop := 0 < l.length → ∃ rb ro, a = some ⟨rb, ro, none⟩ ∧ rb < w.heap.size ∧ ∀ i, i < l.length → w.cell? ⟨rb, ro + i, none⟩ = some (.int .i64 (l.getD i 0))
theorem Rl.below {w w' : World} {a : Option Addr} {l : List Int} (h : Rl w a l) (hb : Below w.heap.size w w') : Rl w' a l := fun h0 => by
  obtain ⟨rb, ro, e1, e2, e3⟩ := h h0
  exact ⟨rb, ro, e1, Nat.lt_of_lt_of_le e2 hb.size, fun i hi => (hb.cell (p := ⟨rb, ro + i, none⟩) e2).trans (e3 i hi)⟩
set_option maxRecDepth 100000 in
theorem rowOut_any (a : Option Addr) (cap po : Nat) (l : List Int) (w : World) (hl : l.length ≤ 1000) (hR : Rl w a l) (hp : w.cell? ⟨po, 0, none⟩ = some (.func (.func 27) #[] #[])) :
    Calls Try.prog 29 #[.slice a l.length cap, .pointer (some ⟨po, 0, none⟩)] w fun e w' => e = .returned (.bool (l.any outB)) ∧ Below w.heap.size w w' := by
  obtain ⟨rb, ro, hab⟩ : ∃ rb ro, 0 < l.length → a = some ⟨rb, ro, none⟩ ∧ rb < w.heap.size ∧ ∀ i, i < l.length → w.cell? ⟨rb, ro + i, none⟩ = some (.int .i64 (l.getD i 0)) := by
    rcases Nat.eq_zero_or_pos l.length with h | h
    · exact ⟨0, 0, fun h2 => by omega⟩
    · obtain ⟨rb, ro, h1⟩ := hR h
      exact ⟨rb, ro, fun _ => h1⟩
  have K := has_27 (fun i => .int .i64 (l.getD i 0)) (fun i => outB (l.getD i 0)) rb ro l.length cap a w (fun h => ⟨(hab h).1, (hab h).2.1⟩) hl (fun j hj => (hab (by omega)).2.2 j hj) (fun j _ W _ => isOut_any _ W)
  have HL : Hid (∀ z : Bool, (z = true ↔ ∃ j, j < l.length ∧ outB (l.getD j 0) = true) → z = l.any outB) := fun z hz => by
    rw [Bool.eq_iff_iff, hz, List.any_eq_true]
    constructor
    · rintro ⟨j, hj, h⟩
      rw [List.getD_eq_getElem?_getD, List.getElem?_eq_getElem hj] at h
      exact ⟨l[j], List.getElem_mem hj, h⟩
    · rintro ⟨x, hx, h⟩
      obtain ⟨j, hj, e⟩ := List.getElem_of_mem hx
      exact ⟨j, hj, by rw [List.getD_eq_getElem?_getD, List.getElem?_eq_getElem hj, e]; exact h⟩
  obtain ⟨n, hn⟩ : ∃ n, l.length = n := ⟨_, rfl⟩
  rw [hn] at K ⊢
  have HN : Hid (l.length = n) := hn
  clear hab hR hl hn
  go_enter Try.func29, Try.ntmps29
  go_wp2_with (go_at_call 30; (with_reducible refine K.mono ?_); clear K; rintro e w1 ⟨z, rfl, hz, hb⟩; have HZ : Hid ((z = true ↔ ∃ j, j < n ∧ outB (l.getD j 0) = true) ∧ Below w.heap.size w w1) := ⟨hz, hb⟩; clear hz hb)
  go_ret
  exact ⟨by rw [← HL.out z (by rw [HN.out]; exact HZ.out.1)]; rfl, HZ.out.2⟩
/-- rows of numbers lie -/
structure Rw (w : World) (a : Option Addr) (b off : Nat) (ra : Nat → Option Addr) (rc : Nat → Nat) (rows : List (List Int)) : Prop where
  a0 : 0 < rows.length → a = some ⟨b, off, none⟩ ∧ b < w.heap.size
  row : ∀ h, h < rows.length → w.cell? ⟨b, off + h, none⟩ = some (.slice (ra h) (rows.getD h []).length (rc h))
  num : ∀ h, h < rows.length → Rl w (ra h) (rows.getD h [])
theorem Rw.below {w w' : World} {a : Option Addr} {b off : Nat} {ra : Nat → Option Addr} {rc : Nat → Nat} {rows : List (List Int)} (h : Rw w a b off ra rc rows) (hb : Below w.heap.size w w') : Rw w' a b off ra rc rows :=
  ⟨fun h0 => ⟨(h.a0 h0).1, Nat.lt_of_lt_of_le (h.a0 h0).2 hb.size⟩, fun k hk => (hb.cell (p := ⟨b, off + k, none⟩) (h.a0 (by omega)).2).trans (h.row k hk), fun k hk => (h.num k hk).below hb⟩
/-- what Check says -/
def chk (rows : List (List Int)) : Int :=
  if rows.length = 0 ∨ 13 < rows.length then 7 else if rows.any (fun r => !decide (r.length + 1 = rows.length)) then 1 else if rows.any (fun r => r.any outB) then 3 else 0
theorem any_at (rows : List (List Int)) (f : List Int → Bool) (z : Bool) (h : z = true ↔ ∃ j, j < rows.length ∧ f (rows.getD j []) = true) : z = rows.any f := by
  rw [Bool.eq_iff_iff, h, List.any_eq_true]
  constructor
  · rintro ⟨j, hj, h⟩
    rw [List.getD_eq_getElem?_getD, List.getElem?_eq_getElem hj] at h
    exact ⟨rows[j], List.getElem_mem hj, h⟩
  · rintro ⟨x, hx, h⟩
    obtain ⟨j, hj, e⟩ := List.getElem_of_mem hx
    exact ⟨j, hj, by rw [List.getD_eq_getElem?_getD, List.getElem?_eq_getElem hj, e]; exact h⟩
theorem two_boxes (w : World) (x y : Value) (t u : TypeId) : ((w.alloc (.cells #[x] t)).alloc (.cells #[y] u)).cell? ⟨w.heap.size, 0, none⟩ = some x ∧ ((w.alloc (.cells #[x] t)).alloc (.cells #[y] u)).cell? ⟨w.heap.size + 1, 0, none⟩ = some y := by
  have s1 : (w.alloc (.cells #[x] t)).heap.size = w.heap.size + 1 := by simp
  constructor
  · exact cell_of_row _ _ 0 #[x] t (0, 0) (by rw [heap_alloc_old _ _ (by omega)]; exact heap_alloc_new _ _)
  · rw [← s1]; exact cell_of_row _ _ 0 #[y] u (0, 0) (heap_alloc_new _ _)
set_option maxHeartbeats 2000000 in
set_option maxRecDepth 100000 in
theorem check_any (rows : List (List Int)) (a : Option Addr) (b off cap : Nat) (ra : Nat → Option Addr) (rc : Nat → Nat) (w : World) (hR : Rw w a b off ra rc rows) (hN : rows.length ≤ 140737488355328) :
    Calls Try.prog 10 #[.slice a rows.length cap] w fun e w' => e = .returned (.int .i64 (chk rows)) ∧ Below w.heap.size w w' := by
  obtain ⟨n, hn⟩ : ∃ n, rows.length = n := ⟨_, rfl⟩
  have HN : Hid (rows.length = n) := hn
  by_cases h0 : n = 0
  · subst h0
    have HC : Hid (chk rows = 7) := by show _ = _; unfold chk; rw [if_pos (.inl hn)]
    rw [hn, HC.out]
    clear hR hN hn
    go_enter Try.func10, Try.ntmps10
    go_wp2
    go_ret
    exact ⟨rfl, (below_al w _).trans ((below_al _ _).mono (by simp))⟩
  · by_cases h1 : 13 < n
    · have HC : Hid (chk rows = 7) := by show _ = _; unfold chk; rw [if_pos (.inr (by omega))]
      rw [hn, HC.out]
      have wk : wrap64 ((n : Int) - 1) = (n : Int) - 1 := by unfold wrap64; omega
      have q1 : ¬ (n : Int) - 1 < 0 := by omega
      have q2 : 12 < (n : Int) - 1 := by omega
      clear hR hN hn h0 h1
      go_enter Try.func10, Try.ntmps10
      go_wp2
      go_ret
      exact ⟨rfl, (below_al w _).trans ((below_al _ _).mono (by simp))⟩
    · obtain ⟨k, hk⟩ : ∃ k, n = k + 1 := ⟨n - 1, by omega⟩
      have HK : Hid (n = k + 1 ∧ k ≤ 12) := ⟨hk, by omega⟩
      have HR : Hid (Rw w a b off ra rc rows) := hR
      obtain ⟨rfl, hbl⟩ := hR.a0 (by omega)
      obtain ⟨W2, hW2⟩ : ∃ W2, (w.alloc (.cells #[.int .i64 (k : Int)] 3)).alloc (.cells #[.func (.func 27) #[] #[]] 41) = W2 := ⟨_, rfl⟩
      have hbx := two_boxes w (.int .i64 (k : Int)) (.func (.func 27) #[] #[]) 3 41
      rw [hW2] at hbx
      have HB2 : Hid (Below w.heap.size w W2) := by rw [← hW2]; exact (below_al w _).trans ((below_al _ _).mono (by simp))
      obtain ⟨c1, c2⟩ := hbx
      have HX : Hid (W2.cell? ⟨w.heap.size, 0, none⟩ = some (.int .i64 (k : Int)) ∧ W2.cell? ⟨w.heap.size + 1, 0, none⟩ = some (.func (.func 27) #[] #[])) := ⟨c1, c2⟩
      have K := has_26 (fun j => .slice (ra j) (rows.getD j []).length (rc j)) (fun j => ((rows.getD j []).length : Int) != (k : Int)) w.heap.size b off n cap (some ⟨b, off, none⟩) W2 (fun _ => ⟨rfl, Nat.lt_of_lt_of_le hbl HB2.out.size⟩) (by omega) (fun j hj => (hR.below HB2.out).row j (by omega)) (fun j hj W hW => isOff_any _ _ _ _ _ W ((hW.cell (World.block_lt_of_cell? _ _ c1)).trans c1))
      have wk : wrap64 ((n : Int) - 1) = (k : Int) := by unfold wrap64; omega
      have hk12 : k ≤ 12 := by omega
      rw [hn]
      clear hR hN hn h0 h1 hk hbl c1 c2
      go_enter Try.func10, Try.ntmps10
      go_upto_region 4 with fail
      try rw [hW2]
      clear hW2
      obtain ⟨pw, hpw⟩ : ∃ p, w.heap.size = p := ⟨_, rfl⟩
      obtain ⟨po, hpo⟩ : ∃ p, w.heap.size + 1 = p := ⟨_, rfl⟩
      have HX2 : Hid (W2.cell? ⟨pw, 0, none⟩ = some (.int .i64 (k : Int)) ∧ W2.cell? ⟨po, 0, none⟩ = some (.func (.func 27) #[] #[])) := by rw [← hpo, ← hpw]; exact HX.out
      rw [hpw] at K
      rw [hpo, hpw]
      clear hpw hpo HX wk
      have c1 := HX2.out.1
      have q1 : ¬ (k : Int) < 0 := by omega
      have q2 : ¬ 12 < (k : Int) := by omega
      go_upto_if 15 with (go_at_call 28; (with_reducible refine K.mono ?_); clear K; rintro e w3 ⟨z, rfl, hz, hb3⟩; have HZ : Hid (z = rows.any (fun r => !decide (r.length + 1 = rows.length)) ∧ Below W2.heap.size W2 w3) := ⟨any_at rows _ z (by
        rw [hz]
        have hk := HK.out
        have hn := HN.out
        constructor
        · rintro ⟨j, hj, h⟩
          exact ⟨j, by omega, by simp at h ⊢; omega⟩
        · rintro ⟨j, hj, h⟩
          exact ⟨j, by omega, by simp at h ⊢; omega⟩), hb3⟩; clear hz hb3)
      clear c1 q1 q2
      have HN0 : Hid (¬ (rows.length = 0 ∨ 13 < rows.length)) := by show ¬ _; have := HN.out; have := HK.out; omega
      have HB3 : Hid (Below w.heap.size w w3) := HB2.out.trans (HZ.out.2.mono HB2.out.size)
      cases z with
      | true =>
        have HC : Hid (chk rows = 1) := by show _ = _; unfold chk; rw [if_neg HN0.out, if_pos HZ.out.1.symm]
        go_wp2
        go_ret
        exact ⟨by rw [HC.out]; rfl, HB3.out⟩
      | false =>
        have hall : ∀ j, j < n → (rows.getD j []).length = k := fun j hj => by
          have hn := HN.out
          have hk := HK.out
          have h := HZ.out.1.symm
          rw [List.any_eq_false] at h
          have hjl : j < rows.length := by omega
          have h2 := h (rows.getD j []) (by rw [List.getD_eq_getElem?_getD, List.getElem?_eq_getElem hjl]; exact List.getElem_mem hjl)
          simp at h2
          rw [List.getD_eq_getElem?_getD]
          omega
        have hR3 := HR.out.below HB3.out
        have c2 : w3.cell? ⟨po, 0, none⟩ = some (.func (.func 27) #[] #[]) := (HZ.out.2.cell (World.block_lt_of_cell? _ _ HX2.out.2)).trans HX2.out.2
        have K := has_29 (fun j => .slice (ra j) (rows.getD j []).length (rc j)) (fun j => (rows.getD j []).any outB) po b off n cap (some ⟨b, off, none⟩) w3 (fun _ => hR3.a0 (by have := HN.out; have := HK.out; omega)) (by have := HK.out; omega) (fun j hj => hR3.row j (by have := HN.out; omega)) (fun j hj W hW => rowOut_any _ _ _ _ W (by rw [hall j hj]; omega) ((hR3.num j (by have := HN.out; omega)).below hW) ((hW.cell (World.block_lt_of_cell? _ _ c2)).trans c2))
        clear hall hR3 c2
        go_upto_if 19 with (go_at_call 28; (with_reducible refine K.mono ?_); clear K; rintro e w4 ⟨z, rfl, hz, hb4⟩; have HZ4 : Hid (z = rows.any (fun r => r.any outB) ∧ Below w.heap.size w w4) := ⟨any_at rows _ z (by rw [hz, HN.out]), HB3.out.trans (hb4.mono HB3.out.size)⟩; clear hz hb4)
        cases z with
        | true =>
          have HC : Hid (chk rows = 3) := by show _ = _; unfold chk; rw [if_neg HN0.out, if_neg (by rw [← HZ.out.1]; decide), if_pos HZ4.out.1.symm]
          go_wp2
          go_ret
          exact ⟨by rw [HC.out]; rfl, HZ4.out.2⟩
        | false =>
          have HC : Hid (chk rows = 0) := by show _ = _; unfold chk; rw [if_neg HN0.out, if_neg (by rw [← HZ.out.1]; decide), if_neg (by rw [← HZ4.out.1]; decide)]
          go_wp2
          go_ret
          exact ⟨by rw [HC.out]; rfl, HZ4.out.2⟩
end Go.Proofs.Ytpolnkdbebjpnaa.Hd
