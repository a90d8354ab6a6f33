/- The document's LetterAt: what it answers, by cases on the lead byte. Condition: the place lies in the text, which has fewer than 2097152 bytes. -/
import Derived.Test.YtiiheaopamjijaaLetAt
namespace Go.Proofs.Ytiiheaopamjijaa.LetAt
open Go.RowKit Uni

/-- what is gathered behind so many bytes that go on -/
def acc (s : ByteArray) (i c0 : Nat) : Nat → Nat
  | 0 => c0
  | k + 1 => acc s i c0 k * 64 + (bt s (i + (k + 1)) - 128)

theorem acc_le (s : ByteArray) (i c0 m : Nat) (h : c0 < 32) (hm : m ≤ 3) : acc s i c0 m < 16777216 := by
  have h1 := bt_lt s (i + (0 + 1))
  have h2 := bt_lt s (i + (1 + 1))
  have h3 := bt_lt s (i + (2 + 1))
  have e1 : acc s i c0 1 = c0 * 64 + (bt s (i + (0 + 1)) - 128) := rfl
  have e2 : acc s i c0 2 = acc s i c0 1 * 64 + (bt s (i + (1 + 1)) - 128) := rfl
  have e3 : acc s i c0 3 = acc s i c0 2 * 64 + (bt s (i + (2 + 1)) - 128) := rfl
  have e0 : acc s i c0 0 = c0 := rfl
  rcases (show m = 0 ∨ m = 1 ∨ m = 2 ∨ m = 3 by omega) with hm | hm | hm | hm <;> rw [hm] <;> omega

theorem acc_step (s : ByteArray) (i c0 m : Nat) (h : 128 ≤ bt s (i + (m + 1))) : ((acc s i c0 (m + 1) : Nat) : Int) = (acc s i c0 m : Int) * 64 + (bt s (i + (m + 1)) : Int) - 128 := by
  have e : acc s i c0 (m + 1) = acc s i c0 m * 64 + (bt s (i + (m + 1)) - 128) := rfl
  omega

theorem wrap_bt (s : ByteArray) (k : Nat) (h : k < s.size) : wrap64 ((s[k]'h).toNat : Int) = (bt s k : Int) := by
  have := bt_lt s k
  rw [bt_eq]
  unfold wrap64
  omega

def all (s : ByteArray) (i n : Nat) : Prop := ∀ j, 1 ≤ j → j < n → goesOn s (i + j)

/-- the letter, or a stray -/
def lpost (s : ByteArray) (i n c0 least : Nat) (c m : Int) : Prop :=
  (i + n ≤ s.size ∧ all s i n ∧ least ≤ acc s i c0 (n - 1) ∧ isLet (acc s i c0 (n - 1)) ∧ c = acc s i c0 (n - 1) ∧ m = n) ∨
  (¬ (i + n ≤ s.size ∧ all s i n ∧ least ≤ acc s i c0 (n - 1) ∧ isLet (acc s i c0 (n - 1))) ∧ c = -1 ∧ m = 1)
theorem lpost_short {s : ByteArray} {i n c0 least : Nat} (h : ¬ i + n ≤ s.size) : lpost s i n c0 least (-1) 1 := Or.inr ⟨fun hx => h hx.1, rfl, rfl⟩
theorem lpost_no {s : ByteArray} {i n c0 least : Nat} (h : ¬ all s i n) : lpost s i n c0 least (-1) 1 := Or.inr ⟨fun hx => h hx.2.1, rfl, rfl⟩
theorem lpost_less {s : ByteArray} {i m c0 least : Nat} (h : acc s i c0 m < least) : lpost s i (m + 1) c0 least (-1) 1 := Or.inr ⟨fun hx => absurd hx.2.2.1 (by simp; omega), rfl, rfl⟩
theorem lpost_none {s : ByteArray} {i m c0 least : Nat} (h : ¬ isLet (acc s i c0 m)) : lpost s i (m + 1) c0 least (-1) 1 := Or.inr ⟨fun hx => h hx.2.2.2, rfl, rfl⟩
theorem lpost_yes {s : ByteArray} {i m c0 least : Nat} (h : i + (m + 1) ≤ s.size) (ha : all s i (m + 1)) (hl : ¬ acc s i c0 m < least) (hi : isLet (acc s i c0 m)) : lpost s i (m + 1) c0 least (acc s i c0 m : Nat) (m + 1 : Nat) :=
  Or.inl ⟨h, ha, by simp; omega, hi, rfl, rfl⟩

set_option maxHeartbeats 400000 in
theorem multi (s : ByteArray) (i n c0 least : Nat) (w : World) (h : i < s.size) (hs : s.size < 2097152) (hn : 2 ≤ n) (hn4 : n ≤ 4) (hc0 : c0 < 32)
    (hlead : ∀ w, Calls Try.prog 31 #[.int .i64 (bt s i : Int)] w fun e w' => e = .returned (.tuple #[.int .i64 n, .int .i64 c0, .int .i64 least]) ∧ w' = w) :
    Calls Try.prog 25 #[.string s, .int .i64 i] w fun e w' => (∃ c m : Int, e = .returned (.tuple #[.int .i64 c, .int .i64 m]) ∧ lpost s i n c0 least c m) ∧ w' = w := by
  have hwb := wrap_bt s
  have hn0 : ((n : Int) == 0) = false := by simp; omega
  by_cases hsz : i + n ≤ s.size
  · go_enter Try.func25, Try.ntmps25
    go_wp2_with (go_at_call 31; refine (hlead _).mono ?_; rintro e w' ⟨rfl, rfl⟩)
    go_loop [7, 9] (fun c k => ∃ m : Nat, m + 1 ≤ n ∧ k = .int .i64 (m + 1 : Nat) ∧ c = .int .i64 (acc s i c0 m) ∧ all s i (m + 1)) (fun _ k => n - (intOf k).toNat)
    case atStart => exact ⟨0, by omega, rfl, rfl, fun j h1 h2 => by omega⟩
    case round =>
      obtain ⟨m, hm, rfl, rfl, hall⟩ := hrel
      have hb := bt_lt s (i + (m + 1))
      by_cases hlt : m + 1 < n
      · have ha := acc_le s i c0 m hc0 (by omega)
        have hin : i + (m + 1) < s.size := by omega
        clear hlead
        by_cases hg : 128 ≤ bt s (i + (m + 1)) ∧ bt s (i + (m + 1)) ≤ 191
        · obtain ⟨hg1, hg2⟩ := hg
          go_wp2
          go_round
          case rel =>
            refine ⟨m + 1, by omega, by go_num, ?_, ?_⟩
            · rw [acc_step s i c0 m hg1]
            · intro j h1 h2
              by_cases hj : j < m + 1
              · exact hall j h1 hj
              · obtain rfl : j = m + 1 := by omega
                exact (goesOn_iff _ _).2 ⟨hin, hg1, hg2⟩
          case measure => simp [intOf]; omega
        · have hno : ¬ all s i n := fun hx => hg ((goesOn_iff _ _).1 (hx (m + 1) (by omega) hlt)).2
          by_cases hg1 : bt s (i + (m + 1)) < 128
          · go_wp2
            go_ret2
            exact ⟨⟨_, _, rfl, lpost_no hno⟩, rfl⟩
          · have hg2 : 191 < bt s (i + (m + 1)) := by omega
            go_wp2
            go_ret2
            exact ⟨⟨_, _, rfl, lpost_no hno⟩, rfl⟩
      · obtain rfl : n = m + 1 := by omega
        clear hlead
        by_cases hl : acc s i c0 m < least
        · go_wp2
          go_ret2
          exact ⟨⟨_, _, rfl, lpost_less hl⟩, rfl⟩
        · by_cases hle : isLet (acc s i c0 m)
          · have hlb : isLetB (acc s i c0 m) = true := decide_eq_true hle
            go_wp2_with (go_at_call 32; refine (isLetter_any _ _).mono ?_; rintro e w' ⟨rfl, rfl⟩)
            go_ret2
            exact ⟨⟨_, _, rfl, lpost_yes hsz hall hl hle⟩, rfl⟩
          · have hlb : isLetB (acc s i c0 m) = false := decide_eq_false hle
            go_wp2_with (go_at_call 32; refine (isLetter_any _ _).mono ?_; rintro e w' ⟨rfl, rfl⟩)
            go_ret2
            exact ⟨⟨_, _, rfl, lpost_none hle⟩, rfl⟩
  · have hgt : (s.size : Int) < i + n := by omega
    go_enter Try.func25, Try.ntmps25
    go_wp2_with (go_at_call 31; refine (hlead _).mono ?_; rintro e w' ⟨rfl, rfl⟩)
    go_ret2
    exact ⟨⟨_, _, rfl, lpost_short hsz⟩, rfl⟩

theorem one_any (s : ByteArray) (i : Nat) (w : World) (h : i < s.size) (hs : s.size < 2097152) (hb : bt s i < 128) :
    Calls Try.prog 25 #[.string s, .int .i64 i] w fun e w' => e = .returned (.tuple #[.int .i64 (bt s i), .int .i64 1]) ∧ w' = w := by
  have hwb := wrap_bt s
  have hl : isLetB (bt s i) = true := by unfold isLetB isLet isB; simp; omega
  go_enter Try.func25, Try.ntmps25
  go_wp2_with (go_at_call 31; refine (lead1 _ _ (by omega)).mono ?_; rintro e w' ⟨rfl, rfl⟩)
  refine wp_loop_rounds 1 ?_
  rw [rounds_succ]
  go_wp2_with (go_at_call 32; refine (isLetter_any _ _).mono ?_; rintro e w' ⟨rfl, rfl⟩)
  go_ret2
  exact ⟨rfl, rfl⟩

theorem none_any (s : ByteArray) (i : Nat) (w : World) (h : i < s.size) (h0 : 128 ≤ bt s i) (hb : bt s i < 192 ∨ 248 ≤ bt s i) :
    Calls Try.prog 25 #[.string s, .int .i64 i] w fun e w' => e = .returned (.tuple #[.int .i64 (-1), .int .i64 1]) ∧ w' = w := by
  have hwb := wrap_bt s
  go_enter Try.func25, Try.ntmps25
  go_wp2_with (go_at_call 31; refine (lead0 _ _ (by omega) (by omega)).mono ?_; rintro e w' ⟨rfl, rfl⟩)
  go_ret2
  exact ⟨rfl, rfl⟩

theorem all2 (s : ByteArray) (i : Nat) : all s i 2 ↔ goesOn s (i + 1) :=
  ⟨fun h => h 1 (by omega) (by omega), fun h j h1 h2 => by obtain rfl : j = 1 := by omega
                                                           exact h⟩
theorem all3 (s : ByteArray) (i : Nat) : all s i 3 ↔ goesOn s (i + 1) ∧ goesOn s (i + 2) :=
  ⟨fun h => ⟨h 1 (by omega) (by omega), h 2 (by omega) (by omega)⟩, fun h j h1 h2 => by
    rcases (show j = 1 ∨ j = 2 by omega) with rfl | rfl
    · exact h.1
    · exact h.2⟩
theorem all4 (s : ByteArray) (i : Nat) : all s i 4 ↔ goesOn s (i + 1) ∧ goesOn s (i + 2) ∧ goesOn s (i + 3) :=
  ⟨fun h => ⟨h 1 (by omega) (by omega), h 2 (by omega) (by omega), h 3 (by omega) (by omega)⟩, fun h j h1 h2 => by
    rcases (show j = 1 ∨ j = 2 ∨ j = 3 by omega) with rfl | rfl | rfl
    · exact h.1
    · exact h.2.1
    · exact h.2.2⟩

theorem ua2 (s : ByteArray) (i : Nat) (h0 : 192 ≤ bt s i) (h1 : bt s i < 224) (c m : Int) (h : lpost s i 2 (bt s i - 192) 128 c m) : c = (ua s i).1 ∧ m = (ua s i).2 := by
  have e : acc s i (bt s i - 192) (2 - 1) = c2 s i := rfl
  have hc : c2 s i ≤ 4096 := by
    have := bt_lt s (i + 1)
    unfold c2; omega
  unfold ua
  rw [if_neg (by omega)]
  unfold lpost at h
  rw [e, all2] at h
  rcases h with ⟨a1, a2, a3, a4, rfl, rfl⟩ | ⟨hn, rfl, rfl⟩
  · rw [if_pos ⟨h0, h1, a2, a3⟩]; exact ⟨rfl, rfl⟩
  · have hn' : ¬ (192 ≤ bt s i ∧ bt s i < 224 ∧ goesOn s (i + 1) ∧ 128 ≤ c2 s i) := by
      rintro ⟨_, _, a2, a3⟩
      have := goesOn_lt a2
      exact hn ⟨by omega, a2, a3, (isLet_iff _).2 (by omega)⟩
    rw [if_neg hn', if_neg (fun h => by omega), if_neg (fun h => by omega)]; exact ⟨rfl, rfl⟩

theorem ua3 (s : ByteArray) (i : Nat) (h0 : 224 ≤ bt s i) (h1 : bt s i < 240) (c m : Int) (h : lpost s i 3 (bt s i - 224) 2048 c m) : c = (ua s i).1 ∧ m = (ua s i).2 := by
  have e : acc s i (bt s i - 224) (3 - 1) = c3 s i := rfl
  unfold ua
  rw [if_neg (by omega), if_neg (fun h => by omega)]
  unfold lpost at h
  rw [e, all3] at h
  rcases h with ⟨a1, ⟨a2, a2'⟩, a3, a4, rfl, rfl⟩ | ⟨hn, rfl, rfl⟩
  · rw [if_pos ⟨h0, h1, a2, a2', a3, a4⟩]; exact ⟨rfl, rfl⟩
  · rw [if_neg (fun ⟨_, _, a2, a2', a3, a4⟩ => hn ⟨by have := goesOn_lt a2'; omega, ⟨a2, a2'⟩, a3, a4⟩), if_neg (fun h => by omega)]; exact ⟨rfl, rfl⟩

theorem ua4 (s : ByteArray) (i : Nat) (h0 : 240 ≤ bt s i) (h1 : bt s i < 248) (c m : Int) (h : lpost s i 4 (bt s i - 240) 65536 c m) : c = (ua s i).1 ∧ m = (ua s i).2 := by
  have e : acc s i (bt s i - 240) (4 - 1) = c4 s i := rfl
  unfold ua
  rw [if_neg (by omega), if_neg (fun h => by omega), if_neg (fun h => by omega)]
  unfold lpost at h
  rw [e, all4] at h
  rcases h with ⟨a1, ⟨a2, a2', a2''⟩, a3, a4, rfl, rfl⟩ | ⟨hn, rfl, rfl⟩
  · rw [if_pos ⟨h0, h1, a2, a2', a2'', a3, a4⟩]; exact ⟨rfl, rfl⟩
  · rw [if_neg (fun ⟨_, _, a2, a2', a2'', a3, a4⟩ => hn ⟨by have := goesOn_lt a2''; omega, ⟨a2, a2', a2''⟩, a3, a4⟩)]; exact ⟨rfl, rfl⟩

/-- THE DOCUMENT's LetterAt -/
theorem letterAt_any (s : ByteArray) (i : Nat) (w : World) (h : i < s.size) (hs : s.size < 2097152) :
    Calls Try.prog 25 #[.string s, .int .i64 i] w fun e w' => e = .returned (.tuple #[.int .i64 (ua s i).1, .int .i64 (ua s i).2]) ∧ w' = w := by
  have hb := bt_lt s i
  by_cases h1 : bt s i < 128
  · have e : ua s i = ((bt s i : Int), 1) := by unfold ua; rw [if_pos h1]
    rw [e]
    exact one_any s i w h hs h1
  by_cases h2 : 192 ≤ bt s i ∧ bt s i < 224
  · have e : ((bt s i : Int) - 192) = ((bt s i - 192 : Nat) : Int) := by omega
    refine (multi s i 2 (bt s i - 192) 128 w h hs (by omega) (by omega) (by omega) (fun w => by rw [← e]; exact lead2 _ _ (by omega) (by omega))).mono ?_
    rintro e w' ⟨⟨c, m, rfl, hp⟩, rfl⟩
    obtain ⟨rfl, rfl⟩ := ua2 s i h2.1 h2.2 c m hp
    exact ⟨rfl, rfl⟩
  by_cases h3 : 224 ≤ bt s i ∧ bt s i < 240
  · have e : ((bt s i : Int) - 224) = ((bt s i - 224 : Nat) : Int) := by omega
    refine (multi s i 3 (bt s i - 224) 2048 w h hs (by omega) (by omega) (by omega) (fun w => by rw [← e]; exact lead3 _ _ (by omega) (by omega))).mono ?_
    rintro e w' ⟨⟨c, m, rfl, hp⟩, rfl⟩
    obtain ⟨rfl, rfl⟩ := ua3 s i h3.1 h3.2 c m hp
    exact ⟨rfl, rfl⟩
  by_cases h4 : 240 ≤ bt s i ∧ bt s i < 248
  · have e : ((bt s i : Int) - 240) = ((bt s i - 240 : Nat) : Int) := by omega
    refine (multi s i 4 (bt s i - 240) 65536 w h hs (by omega) (by omega) (by omega) (fun w => by rw [← e]; exact lead4 _ _ (by omega) (by omega))).mono ?_
    rintro e w' ⟨⟨c, m, rfl, hp⟩, rfl⟩
    obtain ⟨rfl, rfl⟩ := ua4 s i h4.1 h4.2 c m hp
    exact ⟨rfl, rfl⟩
  have e : ua s i = (-1, 1) := by
    unfold ua
    rw [if_neg h1, if_neg (fun h => by omega), if_neg (fun h => by omega), if_neg (fun h => by omega)]
  rw [e]
  exact none_any s i w h (by omega) (by omega)
end Go.Proofs.Ytiiheaopamjijaa.LetAt
