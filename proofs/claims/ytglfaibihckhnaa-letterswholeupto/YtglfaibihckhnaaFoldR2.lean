/- The document's Fold: the text with each letter's small one, strays as they are. Condition: the text has at most 1048576 bytes. -/
import Derived.Test.YtglfaibihckhnaaFoldR
namespace Go.Proofs.Ytglfaibihckhnaa.FoldR
open Go.RowKit Uni FoldP Begun LU

theorem enc_list (c : Int) (h : Enc.okB c = true) : (Enc.encS c).data.toList = Lib.encodeRune c := by
  have hb : 0 ≤ c ∧ c ≤ 1114111 ∧ ¬ (55296 ≤ c ∧ c ≤ 57343) := by unfold Enc.okB at h; simp only [decide_eq_true_eq] at h; exact h
  have e : Enc.encS c = Utf8.encode c := by unfold Enc.encS; rw [if_pos h]
  rw [e]
  unfold Lib.encodeRune
  by_cases h1 : c < 128
  · rw [Enc.enc1 c h hb.1 h1, Lib.encodeRuneZ_one hb.1 (by omega)]; rfl
  by_cases h2 : c < 2048
  · rw [Enc.enc2 c h (by omega) h2, Lib.encodeRuneZ_two (by omega) (by omega)]; rfl
  by_cases h3 : c < 65536
  · rw [Enc.enc3 c h (by omega) h3, Lib.encodeRuneZ_three (by omega)]; rfl
  · rw [Enc.enc4 c h (by omega), Lib.encodeRuneZ_four (by omega) (by omega)]; rfl
theorem enc_size (c : Int) : (Enc.encS c).size ≤ 4 := by
  by_cases h : Enc.okB c = true
  · have e := congrArg List.length (enc_list c h)
    have := Lib.runeCells_le c
    rw [Lib.runeCells_length, ← e] at this
    have e2 : (Enc.encS c).data.toList.length = (Enc.encS c).size := by rw [Array.length_toList]; rfl
    omega
  · unfold Enc.encS
    rw [if_neg h]
    exact Nat.zero_le _
theorem small_ok (c : Int) (h0 : 0 ≤ c) (h1 : c ≤ 1114111) (h2 : ¬ (55296 ≤ c ∧ c ≤ 57343)) : Enc.okB (small c) = true := by
  unfold Enc.okB
  rw [decide_eq_true_eq]
  unfold small
  split
  · omega
  · split
    · omega
    · split <;> omega
theorem app_list (l : List UInt8) (b : ByteArray) : (⟨l.toArray⟩ : ByteArray) ++ b = ⟨(l ++ b.data.toList).toArray⟩ := by
  apply ByteArray.ext
  rw [ByteArray.data_append]
  apply Array.ext'
  simp

set_option maxHeartbeats 4000000 in
set_option maxRecDepth 100000 in
theorem fold_ne (s : ByteArray) (w : World) (hs : s.size ≤ 1048576) (hn : 0 < (units s).length) :
    Calls Try.prog 16 #[.string s] w fun e w' => e = .returned (.string ⟨(fold s).toArray⟩) ∧ Below w.heap.size w w' := by
  have hul := units_length s
  go_enter Try.func16, Try.ntmps16
  go_wp2_with (go_at_call 9; refine (ref_ne s _ hs hn).mono ?_; rintro e w1 ⟨g, cap, rfl, hg, ha, hb1⟩)
  go_loopw [3, 5] (fun o i wr => ∃ k : Nat, i = .int .i64 k ∧ k ≤ (units s).length ∧ o = .string ⟨(foldK s k).toArray⟩ ∧ Below w1.heap.size w1 wr) (fun _ i _ => (units s).length - (intOf i).toNat)
  case atStart => exact ⟨0, rfl, by omega, rfl, Below.refl _ _⟩
  case round =>
    obtain ⟨k, rfl, hk, rfl, hbw⟩ := hrel
    by_cases hlt : k < (units s).length
    · obtain ⟨i, hi, hu⟩ := unit_at s k hlt
      have hA := ha.below hg hbw
      have u := ucs_at (units s) k hlt
      rw [hu] at u
      have p1 := hA _ _ u.1
      have p2 := hA _ _ u.2.1
      have p3 := hA _ _ u.2.2
      have hf := ua_facts s i hi
      have hfl := foldK_le s k
      have hsz := hbw.size
      have HS := foldK_succ s k hlt
      rw [hu] at HS
      have HSS : Hid (foldK s (k + 1) = foldK s k ++ foldU s (i, (ua s i).2, (ua s i).1)) := HS
      have hf1 := hf.1
      have hf2 := hf.2.1
      have HF : Hid _ := hf
      have HU : Hid _ := hu
      clear u hA hf HS hu
      by_cases hb : (ua s i).1 = -1
      · have hneg : decide ((0 : Int) ≤ (ua s i).1) = false := decide_eq_false (by omega)
        have HB : Hid ((ua s i).1 = -1) := hb
        clear hb
        go_wp2
        go_quiet ((fail))
        go_wp2
        go_roundw
        case rel =>
          refine ⟨k + 1, by go_num, by omega, ?_, below_drewN (hbw.alloc hsz _) _⟩
          rw [HSS.out, app_list]
          have e1 : (ua s i).2 = 1 := HF.out.2.2.2.2.2.1 HB.out
          have e2 : (s.extract i (i + (ua s i).2)).data.toList = foldU s (i, (ua s i).2, (ua s i).1) := by
            rw [extract_get s i _ hf2, e1]
            unfold foldU
            rw [if_pos HB.out]
            simp [List.range_succ]
          rw [e2]
        case measure => simp [intOf]; omega
      · have hpos : (0 : Int) ≤ (ua s i).1 := by have := HF.out.2.2.2.1; omega
        have hmax : (ua s i).1 ≤ 1114111 := HF.out.2.2.2.2.1
        have HB : Hid (¬ (ua s i).1 = -1) := hb
        clear hb
        by_cases hsm : small (ua s i).1 = (ua s i).1
        · have hne : (small (ua s i).1 != (ua s i).1) = false := by simpa using hsm
          have HM : Hid (small (ua s i).1 = (ua s i).1) := hsm
          clear hsm
          go_wp2
          go_quiet ((go_at_call 48; exact Calls.quiet_of_same (small_any _ _ hpos hmax)))
          go_wp2
          go_roundw
          case rel =>
            refine ⟨k + 1, by go_num, by omega, ?_, below_drewN (hbw.alloc hsz _) _⟩
            rw [HSS.out, app_list]
            have e2 : (s.extract i (i + (ua s i).2)).data.toList = foldU s (i, (ua s i).2, (ua s i).1) := by
              rw [bytes_of s i hi HB.out]
              unfold foldU
              rw [if_neg HB.out, HM.out]
            rw [e2]
          case measure => simp [intOf]; omega
        · have hne : (small (ua s i).1 != (ua s i).1) = true := by simpa using hsm
          clear hsm
          have hes := enc_size (small (ua s i).1)
          go_wp2
          go_quiet ((go_at_call 48; exact Calls.quiet_of_same (small_any _ _ hpos hmax)))
          go_wp2_with (first | (go_at_call 48; refine (small_any _ _ hpos hmax).mono ?_; rintro e w' ⟨rfl, rfl⟩) | (go_at_call 12; refine (Enc.ref_any _ _).mono ?_; rintro e w4 ⟨rfl, hb4⟩))
          go_roundw
          case rel =>
            refine ⟨k + 1, by go_num, by omega, ?_, (below_drewN (hbw.alloc hsz _) nq).trans (hb4.mono (by simp; omega))⟩
            rw [HSS.out, app_list]
            have e2 : (Enc.encS (small (ua s i).1)).data.toList = foldU s (i, (ua s i).2, (ua s i).1) := by
              rw [enc_list _ (small_ok _ hpos hmax (HF.out.2.2.2.2.2.2 hpos).2)]
              unfold foldU
              rw [if_neg HB.out]
            rw [e2]
          case measure => simp [intOf]; omega
    · go_wp2
      go_ret
      rw [foldK_all s k (by omega)]
      exact ⟨rfl, hb1.trans (hbw.mono hb1.size)⟩

theorem fold_e (s : ByteArray) (w : World) (hs : s.size ≤ 1048576) (hn : (units s).length = 0) :
    Calls Try.prog 16 #[.string s] w fun e w' => e = .returned (.string ⟨(fold s).toArray⟩) ∧ Below w.heap.size w w' := by
  have hf : fold s = [] := by rw [fold_units, List.eq_nil_of_length_eq_zero hn]; rfl
  rw [hf]
  go_enter Try.func16, Try.ntmps16
  go_wp2_with (go_at_call 9; refine (ref_e s _ hs hn).mono ?_; rintro e w1 ⟨a, cap, rfl, hb1⟩)
  refine wp_loop_rounds 1 ?_
  rw [rounds_succ]
  go_wp2
  go_ret
  exact ⟨rfl, hb1⟩

theorem fold_any (s : ByteArray) (w : World) (hs : s.size ≤ 1048576) :
    Calls Try.prog 16 #[.string s] w fun e w' => e = .returned (.string ⟨(fold s).toArray⟩) ∧ Below w.heap.size w w' := by
  by_cases h : (units s).length = 0
  · exact fold_e s w hs h
  · exact fold_ne s w hs (by omega)
end Go.Proofs.Ytglfaibihckhnaa.FoldR
