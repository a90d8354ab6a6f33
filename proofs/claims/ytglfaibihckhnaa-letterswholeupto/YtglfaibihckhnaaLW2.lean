/- LettersWhole at every text of at most 1048576 bytes, the empty one too. -/
import Derived.Test.YtglfaibihckhnaaLW
namespace Go.Proofs.Ytglfaibihckhnaa.LW
open Go.RowKit Uni Begun LU Pc Wh Kinds

set_option maxHeartbeats 4000000 in
set_option maxRecDepth 100000 in
theorem walk_e (s : ByteArray) (w : World) (hs : s.size ≤ 1048576) (hz : s.size = 0) (hn : (units s).length = 0) (hm : (pieces s).length = 0) :
    Calls Try.prog 5 #[.string s] w fun e w' => e = .returned (.bool true) ∧ Below w.heap.size w w' := by
  have hnf : (units (ff s)).length = 0 := by rw [units_f]; exact hn
  have hmf : (pieces (ff s)).length = 0 := by rw [pieces_fold]; exact hm
  have hsf : (ff s).size ≤ 1048576 := by rw [ff_size]; exact hs
  have HN : Hid _ := hnf
  have HM : Hid _ := hmf
  have HS : Hid _ := hsf
  have HZ : Hid _ := hz
  have hne : ((0 : Int) != (s.size : Int)) = false := by rw [hz]; rfl
  have heq : ((0 : Int) == (s.size : Int)) = true := by rw [hz]; rfl
  clear hnf hmf hsf hz
  go_enter Try.func5, Try.ntmps5
  go_wp2_with (go_at_call 11; refine (enc_euro _).mono ?_; rintro e w' ⟨rfl, hw⟩; obtain rfl := hw.symm; clear hw)
  refine (fold_x _).mono ?_
  rintro e w1 ⟨rfl, hb1⟩
  go_wp2_with fail
  refine (fold_ff s _ hs).mono ?_
  rintro e w2 ⟨rfl, hb2⟩
  go_wp2_with fail
  refine (prog_e s _ hs hn).mono ?_
  rintro e w3 ⟨a1, cap1, rfl, hb3⟩
  go_wp2_with fail
  refine (prog_e (ff s) _ HS.out HN.out).mono ?_
  rintro e w4 ⟨a2, cap2, rfl, hb4⟩
  go_wp2_with fail
  refine (fold_again s _ hs).mono ?_
  rintro e w5 ⟨rfl, hb5⟩
  go_wp2_with fail
  refine wp_loop_rounds 1 ?_
  rw [rounds_succ]
  go_wp2_with fail
  refine (LF.prog_e s _ hs hm).mono ?_
  rintro e w6 ⟨a3, cap3, rfl, hb6⟩
  go_wp2_with fail
  refine (LF.prog_e (ff s) _ HS.out HM.out).mono ?_
  rintro e w7 ⟨a4, cap4, rfl, hb7⟩
  go_wp2_with fail
  refine wp_loop_rounds 1 ?_
  rw [rounds_succ]
  go_wp2
  go_ret
  have s1 := hb1.size
  have s2 := hb2.size
  have s3 := hb3.size
  have s4 := hb4.size
  have s5 := hb5.size
  have s6 := hb6.size
  exact ⟨rfl, (((((hb1.trans (hb2.mono s1)).trans (hb3.mono (by omega))).trans (hb4.mono (by omega))).trans (hb5.mono (by omega))).trans (hb6.mono (by omega))).trans (hb7.mono (by omega))⟩

/-- THE WALK -/
theorem walk (s : ByteArray) (w : World) (hs : s.size ≤ 1048576) :
    Calls Try.prog 5 #[.string s] w fun e w' => e = .returned (.bool true) ∧ Below w.heap.size w w' := by
  by_cases hz : s.size = 0
  · have hu : units s = [] := unitsFrom_end s _ 0 (by omega)
    exact walk_e s w hs hz (by rw [hu]; rfl) (by unfold pieces; rw [hu]; rfl)
  · refine walk_ne s w hs ?_ ?_
    · unfold units
      cases h : s.size with
      | zero => omega
      | succ n => rw [unitsFrom_step s n 0 (by omega)]; simp
    · rcases Nat.eq_zero_or_pos (pieces s).length with h | h
      · have e := (fine_pieces s).2
        rw [List.eq_nil_of_length_eq_zero h] at e
        simp [lens] at e
        omega
      · exact h
end Go.Proofs.Ytglfaibihckhnaa.LW
