/- LettersFolds: for each text of at most 1048576 bytes the law returns true. -/
import Derived.Test.YtglfaibihckhnaaPiecesR
import Derived.Test.YtglfaibihckhnaaFoldR2
import Derived.Deep.QuietTactic
import Derived.BigQuiet
namespace Go.Proofs.Ytglfaibihckhnaa.LF
open Go.RowKit Uni Begun LU Pc

/-- three numbers at each place -/
def At3 (w : World) (g : Nat) (l : List (Int × Nat × Nat)) : Prop := ∀ j u, (pcs l)[j]? = some u → w.cell? ⟨g, j, none⟩ = some u
theorem At3.below {w w' : World} {g : Nat} {l : List (Int × Nat × Nat)} (h : At3 w g l) (hg : g < w.heap.size) (hb : Below w.heap.size w w') : At3 w' g l :=
  fun j u hu => (hb.cell (p := ⟨g, j, none⟩) hg).trans (h j u hu)

theorem prog_ne (s : ByteArray) (w : World) (hs : s.size ≤ 1048576) (hn : 0 < (pieces s).length) :
    Calls Try.prog 13 #[.string s] w fun e w' => ∃ g cap, e = .returned (.slice (some ⟨g, 0, none⟩) (pieces s).length cap) ∧ g < w'.heap.size ∧ At3 w' g (pieces s) ∧ Below w.heap.size w w' := by
  refine (PiecesP.pieces_any s w hs).mono ?_
  rintro e w' ⟨v, he, hown, hb⟩
  obtain ⟨g, cap, hv, _, hg, _, hc⟩ := own_open hown hn
  exact ⟨g, cap, by rw [he, hv], hg, hc, hb⟩
theorem prog_e (s : ByteArray) (w : World) (hs : s.size ≤ 1048576) (hn : (pieces s).length = 0) :
    Calls Try.prog 13 #[.string s] w fun e w' => ∃ a cap, e = .returned (.slice a 0 cap) ∧ Below w.heap.size w w' := by
  refine (PiecesP.pieces_any s w hs).mono ?_
  rintro e w' ⟨v, he, hown, hb⟩
  obtain ⟨a, cap, hv⟩ := own_none hown
  exact ⟨a, cap, by rw [he, hv, hn], hb⟩

theorem ref_ne (s : ByteArray) (w : World) (hs : s.size ≤ 1048576) (hn : 0 < (pieces s).length) :
    Calls Try.prog 14 #[.string s] w fun e w' => ∃ g cap, e = .returned (.slice (some ⟨g, 0, none⟩) (pieces s).length cap) ∧ g < w'.heap.size ∧ At3 w' g (pieces s) ∧ Below w.heap.size w w' := by
  refine (PiecesR.pieces_any s w hs).mono ?_
  rintro e w' ⟨v, he, hown, hb⟩
  obtain ⟨g, cap, hv, _, hg, _, hc⟩ := own_open hown hn
  exact ⟨g, cap, by rw [he, hv], hg, hc, hb⟩
theorem ref_e (s : ByteArray) (w : World) (hs : s.size ≤ 1048576) (hn : (pieces s).length = 0) :
    Calls Try.prog 14 #[.string s] w fun e w' => ∃ a cap, e = .returned (.slice a 0 cap) ∧ Below w.heap.size w w' := by
  refine (PiecesR.pieces_any s w hs).mono ?_
  rintro e w' ⟨v, he, hown, hb⟩
  obtain ⟨a, cap, hv⟩ := own_none hown
  exact ⟨a, cap, by rw [he, hv, hn], hb⟩

theorem pieces_length (s : ByteArray) : (pieces s).length ≤ s.size := by
  have h := pk_length s (units s).length
  rw [pk_all s _ (Nat.le_refl _)] at h
  have := units_length s
  omega

set_option maxHeartbeats 1000000 in
set_option maxRecDepth 100000 in
theorem walk_e (s : ByteArray) (w : World) (hs : s.size ≤ 1048576) (hn : (pieces s).length = 0) :
    Calls Try.prog 4 #[.string s] w fun e w' => e = .returned (.bool true) ∧ Below w.heap.size w w' := by
  go_enter Try.func4, Try.ntmps4
  go_wp2_with (first | (go_at_call 13; refine (prog_e s _ hs hn).mono ?_; rintro e w1 ⟨a1, cap1, rfl, hb1⟩) | (go_at_call 14; refine (ref_e s _ hs hn).mono ?_; rintro e w2 ⟨a2, cap2, rfl, hb2⟩) | (go_at_call 10; refine (begun_any _).mono ?_; rintro e w3 ⟨rfl, hb3⟩) | (go_at_call 15; refine (FoldP.fold_any s _ hs).mono ?_; rintro e w4 ⟨rfl, hb4⟩) | (go_at_call 16; refine (FoldR.fold_any s _ hs).mono ?_; rintro e w5 ⟨rfl, hb5⟩))
  refine wp_loop_rounds 1 ?_
  rw [rounds_succ]
  go_wp2
  go_ret
  have s1 := hb1.size
  have s2 := hb2.size
  have s3 := hb3.size
  have s4 := hb4.size
  exact ⟨rfl, (((hb1.trans (hb2.mono s1)).trans (hb3.mono (by omega))).trans (hb4.mono (by omega))).trans (hb5.mono (by omega))⟩

set_option maxHeartbeats 1000000 in
set_option maxRecDepth 100000 in
theorem walk_ne (s : ByteArray) (w : World) (hs : s.size ≤ 1048576) (hn : 0 < (pieces s).length) :
    Calls Try.prog 4 #[.string s] w fun e w' => e = .returned (.bool true) ∧ Below w.heap.size w w' := by
  have hul := pieces_length s
  go_enter Try.func4, Try.ntmps4
  go_wp2_with (first | (go_at_call 13; refine (prog_ne s _ hs hn).mono ?_; rintro e w1 ⟨g1, cap1, rfl, hg1, ha1, hb1⟩) | (go_at_call 14; refine (ref_ne s _ hs hn).mono ?_; rintro e w2 ⟨g2, cap2, rfl, hg2, ha2, hb2⟩) | (go_at_call 10; refine (begun_any _).mono ?_; rintro e w3 ⟨rfl, hb3⟩) | (go_at_call 15; refine (FoldP.fold_any s _ hs).mono ?_; rintro e w4 ⟨rfl, hb4⟩) | (go_at_call 16; refine (FoldR.fold_any s _ hs).mono ?_; rintro e w5 ⟨rfl, hb5⟩))
  have s1 := hb1.size
  have s2 := hb2.size
  have s3 := hb3.size
  have s4 := hb4.size
  have s5 := hb5.size
  have hA1 : At3 w5 g1 (pieces s) := (((ha1.below hg1 hb2).below (by omega) hb3).below (by omega) hb4).below (by omega) hb5
  have hA2 : At3 w5 g2 (pieces s) := ((ha2.below hg2 hb3).below (by omega) hb4).below (by omega) hb5
  have hB : Below w.heap.size w w5 := (((hb1.trans (hb2.mono s1)).trans (hb3.mono (by omega))).trans (hb4.mono (by omega))).trans (hb5.mono (by omega))
  clear ha1 ha2 hb1 hb2 hb3 hb4 hb5
  go_loopw [5] (fun i wr => ∃ k d : Nat, i = .int .i64 k ∧ k ≤ (pieces s).length ∧ wr = w5.drewN d) (fun i _ => (pieces s).length - (intOf i).toNat)
  case atStart => exact ⟨0, 0, rfl, by omega, rfl⟩
  case round =>
    obtain ⟨k, d, rfl, hk, rfl⟩ := hrel
    by_cases hlt : k < (pieces s).length
    · have u := pcs_at (pieces s) k hlt
      have p1 := hA1 _ _ u.1
      have p2 := hA1 _ _ u.2.1
      have p3 := hA1 _ _ u.2.2
      have q1 := hA2 _ _ u.1
      have q2 := hA2 _ _ u.2.1
      have q3 := hA2 _ _ u.2.2
      clear u
      go_wp2
      go_quiet ((fail))
      go_wp2
      go_roundw
      case rel => exact ⟨k + 1, d + nq, by go_num, by omega, by simp⟩
      case measure => simp [intOf]; omega
    · clear hA1 hA2
      go_wp2
      go_ret
      exact ⟨rfl, below_drewN hB d⟩

/-- THE WALK -/
theorem walk (s : ByteArray) (w : World) (hs : s.size ≤ 1048576) :
    Calls Try.prog 4 #[.string s] w fun e w' => e = .returned (.bool true) ∧ Below w.heap.size w w' := by
  by_cases h : (pieces s).length = 0
  · exact walk_e s w hs h
  · exact walk_ne s w hs (by omega)
end Go.Proofs.Ytglfaibihckhnaa.LF
