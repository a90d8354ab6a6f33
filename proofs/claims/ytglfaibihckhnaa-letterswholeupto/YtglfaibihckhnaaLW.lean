/- LettersWhole: for each text of at most 1048576 bytes the law returns true. -/
import Derived.Test.YtglfaibihckhnaaWh3
import Derived.Test.YtglfaibihckhnaaLF
namespace Go.Proofs.Ytglfaibihckhnaa.LW
open Go.RowKit Uni Begun LU Pc Wh Kinds

theorem enc_euro (w : World) : Calls Try.prog 11 #[.int .i64 8364] w fun e w' => e = .returned (.tuple #[.string { data := #[226, 130, 172] }, .int .i64 0]) ∧ w' = w := by
  refine (Enc.prog_any 8364 w (by omega) (by omega)).mono ?_
  rintro e w' ⟨he, hw⟩
  exact ⟨he, hw⟩

theorem fold_ff (s : ByteArray) (w : World) (hs : s.size ≤ 1048576) : Calls Try.prog 15 #[.string s] w fun e w' => e = .returned (.string (ff s)) ∧ Below w.heap.size w w' := FoldP.fold_any s w hs
theorem fold_again (s : ByteArray) (w : World) (hs : s.size ≤ 1048576) : Calls Try.prog 15 #[.string (ff s)] w fun e w' => e = .returned (.string (ff s)) ∧ Below w.heap.size w w' := by
  refine (FoldP.fold_any (ff s) w (by rw [ff_size]; exact hs)).mono ?_
  rintro e w' ⟨he, hw⟩
  rw [fold_fold] at he
  exact ⟨he, hw⟩
/-- a unit's letter, written, is what stands there -/
theorem enc_unit (s : ByteArray) (i : Nat) (w : World) (h : i < s.size) (hb : ¬ (ua s i).1 = -1) : Calls Try.prog 11 #[.int .i64 (ua s i).1] w fun e w' => e = .returned (.tuple #[.string (s.extract i (i + (ua s i).2)), .int .i64 0]) ∧ w' = w := by
  have f := ua_facts s i h
  have h0 : 0 ≤ (ua s i).1 := by omega
  have hok : Enc.okB (ua s i).1 = true := by
    unfold Enc.okB
    rw [decide_eq_true_eq]
    exact ⟨h0, f.2.2.2.2.1, (f.2.2.2.2.2.2 h0).2⟩
  refine (Enc.prog_any _ w (by omega) (by omega)).mono ?_
  rintro e w' ⟨he, hw⟩
  have e1 : Enc.encE (ua s i).1 = 0 := by unfold Enc.encE; rw [if_pos hok]
  have e2 : Enc.encS (ua s i).1 = s.extract i (i + (ua s i).2) := by
    apply ByteArray.ext
    apply Array.ext'
    rw [FoldR.enc_list _ hok, bytes_of s i h hb]
  rw [e1, e2] at he
  exact ⟨he, hw⟩

theorem fold_x (w : World) : Calls Try.prog 15 #[.string ({ data := #[226, 130, 172] } ++ { data := #[255, 65] })] w fun e w' => e = .returned (.string ({ data := #[226, 130, 172] } ++ { data := #[255, 97] })) ∧ Below w.heap.size w w' := by
  refine (FoldP.fold_any _ w (by decide)).mono ?_
  rintro e w' ⟨he, hw⟩
  refine ⟨?_, hw⟩
  rw [he]
  congr 2

theorem units_f (s : ByteArray) : (units (ff s)).length = (units s).length := by rw [units_fold]; simp
theorem unit_f (s : ByteArray) (k : Nat) (h : k < (units s).length) : (units (ff s))[k]'(by rw [units_f]; exact h) = ((units s)[k].1, (units s)[k].2.1, sm (units s)[k].2.2) := by
  have e : ∀ l, l = units (ff s) → ∀ hl : k < l.length, l[k] = ((units s)[k].1, (units s)[k].2.1, sm (units s)[k].2.2) := by
    intro l hl
    rw [units_fold] at hl
    subst hl
    intro hl
    simp
  exact e _ rfl _

/-- the units of the folded text, as the program tells them -/
theorem units_ff (s : ByteArray) (w : World) (hs : s.size ≤ 1048576) (hn : 0 < (units s).length) :
    Calls Try.prog 8 #[.string (ff s)] w fun e w' => ∃ g cap, e = .returned (.slice (some ⟨g, 0, none⟩) (units s).length cap) ∧ g < w'.heap.size ∧ At3 w' g (units (ff s)) ∧ Below w.heap.size w w' := by
  have := prog_ne (ff s) w (by rw [ff_size]; exact hs) (by rw [units_f]; exact hn)
  rw [units_f] at this
  exact this
theorem pieces_ff (s : ByteArray) (w : World) (hs : s.size ≤ 1048576) (hn : 0 < (pieces s).length) :
    Calls Try.prog 13 #[.string (ff s)] w fun e w' => ∃ g cap, e = .returned (.slice (some ⟨g, 0, none⟩) (pieces s).length cap) ∧ g < w'.heap.size ∧ LF.At3 w' g (pieces s) ∧ Below w.heap.size w w' := by
  have := LF.prog_ne (ff s) w (by rw [ff_size]; exact hs) (by rw [pieces_fold]; exact hn)
  rw [pieces_fold] at this
  exact this

set_option maxHeartbeats 4000000 in
set_option maxRecDepth 100000 in
theorem walk_ne (s : ByteArray) (w : World) (hs : s.size ≤ 1048576) (hn : 0 < (units s).length) (hm : 0 < (pieces s).length) :
    Calls Try.prog 5 #[.string s] w fun e w' => e = .returned (.bool true) ∧ Below w.heap.size w w' := by
  have hul := units_length s
  go_enter Try.func5, Try.ntmps5
  go_wp2_with (go_at_call 11; refine (enc_euro _).mono ?_; rintro e w' ⟨rfl, hw⟩; obtain rfl := hw.symm; clear hw)
  refine (fold_x _).mono ?_
  rintro e w1 ⟨rfl, hb1⟩
  go_wp2_with fail
  refine (fold_ff s _ hs).mono ?_
  rintro e w2 ⟨rfl, hb2⟩
  go_wp2_with fail
  refine (prog_ne s _ hs hn).mono ?_
  rintro e w3 ⟨g1, cap1, rfl, hg1, ha1, hb3⟩
  go_wp2_with fail
  refine (units_ff s _ hs hn).mono ?_
  rintro e w4 ⟨g2, cap2, rfl, hg2, ha2, hb4⟩
  go_wp2_with fail
  refine (fold_again s _ hs).mono ?_
  rintro e w5 ⟨rfl, hb5⟩
  go_wp2_with fail
  have s1 := hb1.size
  have s2 := hb2.size
  have s3 := hb3.size
  have s4 := hb4.size
  have s5 := hb5.size
  have hA1 : At3 w5 g1 (units s) := (ha1.below hg1 hb4).below (by omega) hb5
  have hA2 : At3 w5 g2 (units (ff s)) := ha2.below hg2 hb5
  have hB : Below w.heap.size w w5 := (((hb1.trans (hb2.mono s1)).trans (hb3.mono (by omega))).trans (hb4.mono (by omega))).trans (hb5.mono (by omega))
  have hg1' : g1 < w5.heap.size := by omega
  have hg2' : g2 < w5.heap.size := by omega
  clear ha1 ha2 hb1 hb2 hb3 hb4 hb5 s1 s2 s3 s4 s5 hg1 hg2
  go_loopw [8, 9] (fun at_ i wr => ∃ k p : Nat, i = .int .i64 k ∧ k ≤ (units s).length ∧ at_ = .int .i64 p ∧ p = atU s (units s) k ∧ Below w5.heap.size w5 wr) (fun _ i _ => (units s).length - (intOf i).toNat)
  case atStart => exact ⟨0, 0, rfl, by omega, rfl, (atU_zero s).symm, Below.refl _ _⟩
  case round =>
    obtain ⟨k, p, rfl, hk, rfl, hp, hbw⟩ := hrel
    by_cases hlt : k < (units s).length
    · obtain ⟨i, hi, hu⟩ := unit_at s k hlt
      have hAk := atU_lt s k hlt
      rw [hu] at hAk
      obtain rfl : i = p := by rw [hp, hAk]
      have hnx := next_units s k hlt
      rw [hu] at hnx
      have hC1 := hA1.below hg1' hbw
      have hC2 := hA2.below hg2' hbw
      have u := ucs_at (units s) k hlt
      rw [hu] at u
      have p1 := hC1 _ _ u.1
      have p2 := hC1 _ _ u.2.1
      have p3 := hC1 _ _ u.2.2
      have v := (ucs_at (units (ff s)) k (by rw [units_f]; exact hlt)).2.2
      rw [unit_f s k hlt, hu] at v
      have q3' := hC2 _ _ v
      have q3 : ∀ o, (wr.alloc o).cell? ⟨g2, k * 3 + 2, none⟩ = some (.int .i64 (sm (ua s i).1)) := fun o => (((Below.refl wr.heap.size wr).alloc (Nat.le_refl _) o).cell (p := ⟨g2, k * 3 + 2, none⟩) (by have := hbw.size; show g2 < wr.heap.size; omega)).trans q3'
      clear q3'
      have hf := ua_facts s i hi
      have hws := hbw.size
      have HN : Hid (i + (ua s i).2 = atU s (units s) (k + 1)) := hnx
      have e1 : decide (((ua s i).2 : Int) < 1) = false := decide_eq_false (by omega)
      have e2 : decide ((s.size : Int) < (i : Int) + ((ua s i).2 : Int)) = false := decide_eq_false (by omega)
      have hf1 := hf.1
      have hf2 := hf.2.1
      have HF : Hid _ := hf
      clear u v hp hAk hnx hC1 hC2 hu hf
      by_cases hb : (ua s i).1 = -1
      · have hneg : (ua s i).1 < 0 := by omega
        have hsm : sm (ua s i).1 < 0 := by unfold sm; rw [if_pos hb]; omega
        have hone : (((ua s i).2 : Int) != 1) = false := by rw [HF.out.2.2.2.2.2.1 hb]; rfl
        clear hb
        go_wp2
        go_quiet ((fail))
        go_wp2
        go_roundw
        case rel => exact ⟨k + 1, i + (ua s i).2, by go_num, by omega, by go_num, HN.out, below_drewN (hbw.alloc hws _) _⟩
        case measure => simp [intOf]; omega
      · have hpos : ¬ (ua s i).1 < 0 := by have := HF.out.2.2.2.1; omega
        have hsm : ¬ sm (ua s i).1 < 0 := by
          unfold sm
          rw [if_neg hb]
          have := FoldP.small_bd (ua s i).1 (by omega) HF.out.2.2.2.2.1
          omega
        have e3 : decide ((ua s i).1 < 0) = false := decide_eq_false hpos
        have e4 : decide (sm (ua s i).1 < 0) = false := decide_eq_false hsm
        have HB : Hid (¬ (ua s i).1 = -1) := hb
        clear hb
        go_wp2
        go_quiet ((fail))
        go_wp2_with (go_at_call 11; refine (enc_unit s i _ hi HB.out).mono ?_; rintro e w' ⟨rfl, rfl⟩)
        go_roundw
        case rel => exact ⟨k + 1, i + (ua s i).2, by go_num, by omega, by go_num, HN.out, below_drewN (hbw.alloc hws _) _⟩
        case measure => simp [intOf]; omega
    · rw [atU_end s k (by omega)] at hp
      subst hp
      clear hA1 hA2
      have hBr : Below w.heap.size w wr := hB.trans (hbw.mono hB.size)
      clear hB hbw
      obtain ⟨wa, rfl⟩ : ∃ wa : World, wa = wr := ⟨_, rfl⟩
      go_wp2_with fail
      refine (LF.prog_ne s _ hs hm).mono ?_
      rintro e w6 ⟨g3, cap3, rfl, hg3, ha3, hb6⟩
      go_wp2_with fail
      refine (pieces_ff s _ hs hm).mono ?_
      rintro e w7 ⟨g4, cap4, rfl, hg4, ha4, hb7⟩
      go_wp2_with fail
      have s6 := hb6.size
      have s7 := hb7.size
      have s0 := hBr.size
      have hC1 : LF.At3 w7 g3 (pieces s) := ha3.below hg3 hb7
      have hC2 : LF.At3 w7 g4 (pieces s) := ha4
      have hB : Below w.heap.size w w7 := (hBr.trans (hb6.mono s0)).trans (hb7.mono (by omega))
      clear ha3 ha4 hb6 hb7 hBr
      have hpl := LF.pieces_length s
      have hfn := fine_pieces s
      go_loopw [8, 15] (fun at_ i wr => ∃ k q d : Nat, i = .int .i64 k ∧ k ≤ (pieces s).length ∧ at_ = .int .i64 q ∧ q = lens ((pieces s).take k) ∧ wr = w7.drewN d) (fun _ i _ => (pieces s).length - (intOf i).toNat)
      case atStart => exact ⟨0, 0, 0, rfl, by omega, rfl, rfl, rfl⟩
      case round =>
        obtain ⟨k, q, d, rfl, hk, rfl, hq, rfl⟩ := hrel
        have hqs : q ≤ s.size := by rw [hq, ← hfn.2]; exact lens_le _ _
        by_cases hlt : k < (pieces s).length
        · have u := pcs_at (pieces s) k hlt
          have hfk := hfn.1.1 k hlt
          have hlk := lens_take (pieces s) k hlt
          rw [← hq] at hfk hlk
          rw [hfk.1] at u
          obtain ⟨K, eK⟩ : ∃ K, K = (pieces s)[k].1 := ⟨_, rfl⟩
          obtain ⟨L, eL⟩ : ∃ L, L = (pieces s)[k].2.2 := ⟨_, rfl⟩
          rw [← eK, ← eL] at u
          rw [← eL] at hlk hfk
          have p1 := hC1 _ _ u.1
          have p2 := hC1 _ _ u.2.1
          have p3 := hC1 _ _ u.2.2
          have q1 := hC2 _ _ u.1
          have HL : Hid (q + L = lens ((pieces s).take (k + 1))) := hlk.symm
          have hL1 := hfk.2
          have hLs : q + L ≤ s.size := by rw [← hlk, ← hfn.2]; exact lens_le _ _
          have e1 : decide ((L : Int) < 1) = false := decide_eq_false (by omega)
          cases k with
          | zero =>
            clear u hq hfk hlk eK eL hC1 hC2 hfn
            go_wp2
            go_quiet ((fail))
            go_wp2
            go_roundw
            case rel => exact ⟨0 + 1, q + L, d + nq, by go_num, by omega, by go_num, HL.out, by simp⟩
            case measure => simp [intOf]; omega
          | succ j =>
            have hlj : j < (pieces s).length := by omega
            have v := pcs_at (pieces s) j hlj
            obtain ⟨J, eJ⟩ : ∃ J, J = (pieces s)[j].1 := ⟨_, rfl⟩
            rw [← eJ] at v
            have p4 := hC1 _ _ v.1
            have hnt := hfn.1.2 j hlt
            rw [← eJ, ← eK] at hnt
            have hgt : (0 : Int) < (j : Int) + 1 := by omega
            clear u v hq hfk hlk eK eL eJ hC1 hC2 hfn
            by_cases hJ : K = J
            · have hJ2 : (K == J) = true := by simpa using hJ
              have h4 : decide (K < 4) = false := decide_eq_false (fun h => hnt ⟨hJ, h⟩)
              clear hJ hnt
              go_wp2
              go_quiet ((fail))
              go_wp2
              go_roundw
              case rel => exact ⟨j + 1 + 1, q + L, d + nq, by go_num, by omega, by go_num, HL.out, by simp⟩
              case measure => simp [intOf]; omega
            · have hJ2 : (K == J) = false := by simpa using hJ
              clear hJ hnt
              go_wp2
              go_quiet ((fail))
              go_wp2
              go_roundw
              case rel => exact ⟨j + 1 + 1, q + L, d + nq, by go_num, by omega, by go_num, HL.out, by simp⟩
              case measure => simp [intOf]; omega
        · rw [List.take_of_length_le (by omega), hfn.2] at hq
          subst hq
          clear hC1 hC2 hfn
          go_wp2
          go_ret
          exact ⟨rfl, below_drewN hB d⟩
end Go.Proofs.Ytglfaibihckhnaa.LW
