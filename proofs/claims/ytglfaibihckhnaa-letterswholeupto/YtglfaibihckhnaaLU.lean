/- LettersUnits: for each text of at most 1048576 bytes and each number, the law returns true. -/
import Derived.Test.YtglfaibihckhnaaUnitsR
import Derived.Test.YtglfaibihckhnaaEnc
import Derived.Test.YtglfaibihckhnaaBegun
import Derived.Deep.QuietTactic
import Derived.BigQuiet
namespace Go.Proofs.Ytglfaibihckhnaa.LU
open Go.RowKit Uni Begun

/-- three numbers at each place -/
def At3 (w : World) (g : Nat) (l : List (Nat × Nat × Int)) : Prop := ∀ j u, (ucs l)[j]? = some u → w.cell? ⟨g, j, none⟩ = some u
theorem At3.below {w w' : World} {g : Nat} {l : List (Nat × Nat × Int)} (h : At3 w g l) (hg : g < w.heap.size) (hb : Below w.heap.size w w') : At3 w' g l :=
  fun j u hu => (hb.cell (p := ⟨g, j, none⟩) hg).trans (h j u hu)

theorem prog_ne (s : ByteArray) (w : World) (hs : s.size ≤ 1048576) (hn : 0 < (units s).length) :
    Calls Try.prog 8 #[.string s] w fun e w' => ∃ g cap, e = .returned (.slice (some ⟨g, 0, none⟩) (units s).length cap) ∧ g < w'.heap.size ∧ At3 w' g (units s) ∧ Below w.heap.size w w' := by
  refine (UnitsP.units_any s w hs).mono ?_
  rintro e w' ⟨v, he, hown, hb⟩
  obtain ⟨g, cap, hv, _, hg, _, hc⟩ := own_open hown hn
  exact ⟨g, cap, by rw [he, hv], hg, hc, hb⟩
theorem ref_ne (s : ByteArray) (w : World) (hs : s.size ≤ 1048576) (hn : 0 < (units s).length) :
    Calls Try.prog 9 #[.string s] w fun e w' => ∃ g cap, e = .returned (.slice (some ⟨g, 0, none⟩) (units s).length cap) ∧ g < w'.heap.size ∧ At3 w' g (units s) ∧ Below w.heap.size w w' := by
  refine (UnitsR.units_any s w hs).mono ?_
  rintro e w' ⟨v, he, hown, hb⟩
  obtain ⟨g, cap, hv, _, hg, _, hc⟩ := own_open hown hn
  exact ⟨g, cap, by rw [he, hv], hg, hc, hb⟩
theorem own_none {w : World} {base : Nat} {e : TypeId} {size : Nat} {v : Value} {n : Nat} {xs : List Value} (h : w.ownsRow base e size v n xs) : ∃ a cap, v = .slice a n cap := by
  rcases h.2 with ⟨rfl, rfl⟩ | ⟨g, cap, cur, rfl, _⟩
  · exact ⟨none, 0, rfl⟩
  · exact ⟨_, cap, rfl⟩
theorem prog_e (s : ByteArray) (w : World) (hs : s.size ≤ 1048576) (hn : (units s).length = 0) :
    Calls Try.prog 8 #[.string s] w fun e w' => ∃ a cap, e = .returned (.slice a 0 cap) ∧ Below w.heap.size w w' := by
  refine (UnitsP.units_any s w hs).mono ?_
  rintro e w' ⟨v, he, hown, hb⟩
  obtain ⟨a, cap, hv⟩ := own_none hown
  exact ⟨a, cap, by rw [he, hv, hn], hb⟩
theorem ref_e (s : ByteArray) (w : World) (hs : s.size ≤ 1048576) (hn : (units s).length = 0) :
    Calls Try.prog 9 #[.string s] w fun e w' => ∃ a cap, e = .returned (.slice a 0 cap) ∧ Below w.heap.size w w' := by
  refine (UnitsR.units_any s w hs).mono ?_
  rintro e w' ⟨v, he, hown, hb⟩
  obtain ⟨a, cap, hv⟩ := own_none hown
  exact ⟨a, cap, by rw [he, hv, hn], hb⟩

set_option maxHeartbeats 1000000 in
set_option maxRecDepth 100000 in
theorem walk_e (s : ByteArray) (c : Int) (w : World) (hs : s.size ≤ 1048576) (hn : (units s).length = 0) (hc0 : -9223372036854775808 ≤ c) (hc1 : c ≤ 9223372036854775807) :
    Calls Try.prog 3 #[.string s, .int .i64 c] w fun e w' => e = .returned (.bool true) ∧ Below w.heap.size w w' := by
  go_enter Try.func3, Try.ntmps3
  go_wp2_with (first | (go_at_call 8; refine (prog_e s _ hs hn).mono ?_; rintro e w1 ⟨a1, cap1, rfl, hb1⟩) | (go_at_call 9; refine (ref_e s _ hs hn).mono ?_; rintro e w2 ⟨a2, cap2, rfl, hb2⟩) | (go_at_call 10; refine (begun_any _).mono ?_; rintro e w3 ⟨rfl, hb3⟩))
  refine wp_loop_rounds 1 ?_
  rw [rounds_succ]
  go_wp2_with (first | (go_at_call 11; refine (Enc.prog_any c _ hc0 hc1).mono ?_; rintro e w' ⟨rfl, rfl⟩) | (go_at_call 12; refine (Enc.ref_any c _).mono ?_; rintro e w4 ⟨rfl, hb4⟩))
  go_ret
  exact ⟨rfl, ((hb1.trans (hb2.mono hb1.size)).trans (hb3.mono (Nat.le_trans hb1.size hb2.size))).trans (hb4.mono (Nat.le_trans (Nat.le_trans hb1.size hb2.size) hb3.size))⟩

set_option maxHeartbeats 1000000 in
set_option maxRecDepth 100000 in
theorem walk_ne (s : ByteArray) (c : Int) (w : World) (hs : s.size ≤ 1048576) (hn : 0 < (units s).length) (hc0 : -9223372036854775808 ≤ c) (hc1 : c ≤ 9223372036854775807) :
    Calls Try.prog 3 #[.string s, .int .i64 c] w fun e w' => e = .returned (.bool true) ∧ Below w.heap.size w w' := by
  have hul := units_length s
  go_enter Try.func3, Try.ntmps3
  go_wp2_with (first | (go_at_call 8; refine (prog_ne s _ hs hn).mono ?_; rintro e w1 ⟨g1, cap1, rfl, hg1, ha1, hb1⟩) | (go_at_call 9; refine (ref_ne s _ hs hn).mono ?_; rintro e w2 ⟨g2, cap2, rfl, hg2, ha2, hb2⟩) | (go_at_call 10; refine (begun_any _).mono ?_; rintro e w3 ⟨rfl, hb3⟩))
  have hA1 : At3 w3 g1 (units s) := (ha1.below hg1 hb2).below (Nat.lt_of_lt_of_le hg1 hb2.size) hb3
  have hA2 : At3 w3 g2 (units s) := ha2.below hg2 hb3
  have hB : Below w.heap.size w w3 := (hb1.trans (hb2.mono hb1.size)).trans (hb3.mono (Nat.le_trans hb1.size hb2.size))
  clear ha1 ha2 hb1 hb2 hb3
  go_loopw [7] (fun i wr => ∃ k d : Nat, i = .int .i64 k ∧ k ≤ (units s).length ∧ wr = w3.drewN d) (fun i _ => (units s).length - (intOf i).toNat)
  case atStart => exact ⟨0, 0, rfl, by omega, rfl⟩
  case round =>
    obtain ⟨k, d, rfl, hk, rfl⟩ := hrel
    by_cases hlt : k < (units s).length
    · have u := ucs_at (units s) k hlt
      have p1 := hA1 _ _ u.1
      have p2 := hA1 _ _ u.2.1
      have p3 := hA1 _ _ u.2.2
      have q1 := hA2 _ _ u.1
      have q2 := hA2 _ _ u.2.1
      have q3 := hA2 _ _ u.2.2
      clear u
      go_wp2
      go_quiet ((fail))
      go_wp2
      go_roundw
      case rel => exact ⟨k + 1, d + nq, by go_num, by omega, by simp⟩
      case measure => simp [intOf]; omega
    · clear hA1 hA2
      go_wp2_with (first | (go_at_call 11; refine (Enc.prog_any c _ hc0 hc1).mono ?_; rintro e w' ⟨rfl, rfl⟩) | (go_at_call 12; refine (Enc.ref_any c _).mono ?_; rintro e w4 ⟨rfl, hb4⟩))
      go_ret
      exact ⟨rfl, (below_drewN hB d).trans (hb4.mono hB.size)⟩

/-- THE WALK -/
theorem walk (s : ByteArray) (c : Int) (w : World) (hs : s.size ≤ 1048576) (hc0 : -9223372036854775808 ≤ c) (hc1 : c ≤ 9223372036854775807) :
    Calls Try.prog 3 #[.string s, .int .i64 c] w fun e w' => e = .returned (.bool true) ∧ Below w.heap.size w w' := by
  by_cases h : (units s).length = 0
  · exact walk_e s c w hs h hc0 hc1
  · exact walk_ne s c w hs (by omega) hc0 hc1
end Go.Proofs.Ytglfaibihckhnaa.LU
