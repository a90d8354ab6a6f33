/- Encode, the program's and the document's: the same bytes for each number. No conditions. -/
import Derived.Test.YtglfaibihckhnaaLetAt2
namespace Go.Proofs.Ytglfaibihckhnaa.Enc
open Go.RowKit Uni

def okB (c : Int) : Bool := decide (0 ≤ c ∧ c ≤ 1114111 ∧ ¬ (55296 ≤ c ∧ c ≤ 57343))

theorem isLetter_int (c : Int) (w : World) : Calls Try.prog 39 #[.int .i64 c] w fun e w' => e = .returned (.bool (okB c)) ∧ w' = w := by
  by_cases h : 0 ≤ c
  · obtain ⟨n, rfl⟩ : ∃ n : Nat, c = n := ⟨c.toNat, by omega⟩
    have e : okB (n : Int) = LetAt.isLetB n := by
      unfold okB LetAt.isLetB
      exact decide_eq_decide.2 (Iff.trans (by omega) (isLet_iff n).symm)
    rw [e]
    exact LetAt.isLetter_any n w
  · have e : okB c = false := by unfold okB; simp; omega
    rw [e]
    go_enter Try.func39, Try.ntmps39
    go_wp2
    go_ret
    exact ⟨rfl, rfl⟩

theorem enc_no (c : Int) (w : World) (h : okB c = false) (hc0 : -9223372036854775808 ≤ c) (hc1 : c ≤ 9223372036854775807) :
    Calls Try.prog 11 #[.int .i64 c] w fun e w' => e = .returned (.tuple #[.string { data := #[] }, .int .i64 3]) ∧ w' = w := by
  by_cases h0 : c < 0
  · go_enter Try.func11, Try.ntmps11
    go_wp2
    go_ret2
    exact ⟨rfl, rfl⟩
  · by_cases h1 : 1114111 < c
    · go_enter Try.func11, Try.ntmps11
      go_wp2
      go_ret2
      exact ⟨rfl, rfl⟩
    · have hv : Lib.validRune c = false := by
        unfold okB at h; unfold Lib.validRune; simp at h ⊢; omega
      go_enter Try.func11, Try.ntmps11
      go_wp2_with (go_at_call 38; refine (Try.utf8_ValidRune _ _).mono ?_; rintro e w' ⟨rfl, rfl⟩)
      go_ret2
      exact ⟨rfl, rfl⟩

theorem enc_yes (c : Int) (w : World) (h : okB c = true) :
    Calls Try.prog 11 #[.int .i64 c] w fun e w' => e = .returned (.tuple #[.string (Utf8.encode c), .int .i64 0]) ∧ w' = w := by
  have hv : Lib.validRune c = true := by
    unfold okB at h; unfold Lib.validRune; simp at h ⊢; omega
  have h0 : 0 ≤ c ∧ c ≤ 1114111 := by unfold okB at h; simp at h; omega
  obtain ⟨h0, h1⟩ := h0
  clear h
  go_enter Try.func11, Try.ntmps11
  go_wp2_with (go_at_call 38; refine (Try.utf8_ValidRune _ _).mono ?_; rintro e w' ⟨rfl, rfl⟩)
  go_ret2
  exact ⟨rfl, rfl⟩

theorem ref_no (c : Int) (w : World) (h : okB c = false) :
    Calls Try.prog 12 #[.int .i64 c] w fun e w' => e = .returned (.tuple #[.string { data := #[] }, .int .i64 3]) ∧ w' = w := by
  go_enter Try.func12, Try.ntmps12
  go_wp2_with (go_at_call 39; refine (isLetter_int _ _).mono ?_; rintro e w' ⟨rfl, rfl⟩)
  go_ret2
  exact ⟨rfl, rfl⟩

theorem conv_new (w : World) (ns : List Int) :
    (convert 63 9 (.slice (some ⟨w.heap.size, 0, none⟩) ns.length ns.length)).run Try.prog (w.alloc (.cells (ns.map (Value.int .u8)).toArray 5)) =
      .ok (.string (ns.foldl (fun r n => r.push (UInt8.ofNat n.toNat)) ByteArray.empty)) (w.alloc (.cells (ns.map (Value.int .u8)).toArray 5)) := by
  rw [run_convert_bytes_string _ 63 9 5 _ _ _ Try.underlying63 Try.underlying5 Try.underlying9]
  refine run_bytesToString _ _ _ _ _ ?_
  have h := run_loadCells_list (P := Try.prog) (w.alloc (.cells (ns.map (Value.int .u8)).toArray 5)) ⟨w.heap.size, 0, none⟩ (ns.map (Value.int .u8)) (by
    intro j v hv
    have e : (⟨w.heap.size, 0, none⟩ : Addr).add j = ⟨w.heap.size, j, none⟩ := by unfold Addr.add; split <;> simp_all
    rw [e, cell_of_row _ _ _ _ _ _ (heap_alloc_new w _)]
    simpa using hv)
  simpa using h

/-- a byte's number -/
theorem conv1 (a : Int) (w : World) : (convert 63 9 (.slice (some ⟨w.heap.size, 0, none⟩) 1 1)).run Try.prog (w.alloc (.cells #[.int .u8 a] 5)) =
    .ok (.string ⟨#[UInt8.ofNat a.toNat]⟩) (w.alloc (.cells #[.int .u8 a] 5)) := conv_new w [a]
theorem conv2 (a b : Int) (w : World) : (convert 63 9 (.slice (some ⟨w.heap.size, 0, none⟩) 2 2)).run Try.prog (w.alloc (.cells #[.int .u8 a, .int .u8 b] 5)) =
    .ok (.string ⟨#[UInt8.ofNat a.toNat, UInt8.ofNat b.toNat]⟩) (w.alloc (.cells #[.int .u8 a, .int .u8 b] 5)) := conv_new w [a, b]
theorem conv3 (a b c : Int) (w : World) : (convert 63 9 (.slice (some ⟨w.heap.size, 0, none⟩) 3 3)).run Try.prog (w.alloc (.cells #[.int .u8 a, .int .u8 b, .int .u8 c] 5)) =
    .ok (.string ⟨#[UInt8.ofNat a.toNat, UInt8.ofNat b.toNat, UInt8.ofNat c.toNat]⟩) (w.alloc (.cells #[.int .u8 a, .int .u8 b, .int .u8 c] 5)) := conv_new w [a, b, c]
theorem conv4 (a b c d : Int) (w : World) : (convert 63 9 (.slice (some ⟨w.heap.size, 0, none⟩) 4 4)).run Try.prog (w.alloc (.cells #[.int .u8 a, .int .u8 b, .int .u8 c, .int .u8 d] 5)) =
    .ok (.string ⟨#[UInt8.ofNat a.toNat, UInt8.ofNat b.toNat, UInt8.ofNat c.toNat, UInt8.ofNat d.toNat]⟩) (w.alloc (.cells #[.int .u8 a, .int .u8 b, .int .u8 c, .int .u8 d] 5)) := conv_new w [a, b, c, d]

theorem okB_valid (c : Int) (h : okB c = true) : Utf8.valid c = true := by
  unfold okB at h
  rw [validRune_eq]
  unfold validRune
  simp at h ⊢
  omega

theorem enc1 (c : Int) (h : okB c = true) (h0 : 0 ≤ c) (h1 : c < 128) : Utf8.encode c = ⟨#[UInt8.ofNat c.toNat]⟩ := by
  unfold Utf8.encode
  simp only [okB_valid c h, if_true]
  rw [if_pos (by omega)]
theorem enc2 (c : Int) (h : okB c = true) (h0 : 128 ≤ c) (h1 : c < 2048) : Utf8.encode c = ⟨#[UInt8.ofNat (192 + c / 64).toNat, UInt8.ofNat (128 + c % 64).toNat]⟩ := by
  have e1 : (192 + c / 64).toNat = 192 + c.toNat / 64 := by omega
  have e2 : (128 + c % 64).toNat = 128 + c.toNat % 64 := by omega
  unfold Utf8.encode
  simp only [okB_valid c h, if_true]
  rw [if_neg (by omega), if_pos (by omega), e1, e2]
theorem enc3 (c : Int) (h : okB c = true) (h0 : 2048 ≤ c) (h1 : c < 65536) : Utf8.encode c = ⟨#[UInt8.ofNat (224 + c / 4096).toNat, UInt8.ofNat (128 + c / 64 % 64).toNat, UInt8.ofNat (128 + c % 64).toNat]⟩ := by
  have e1 : (224 + c / 4096).toNat = 224 + c.toNat / 4096 := by omega
  have e2 : (128 + c / 64 % 64).toNat = 128 + c.toNat / 64 % 64 := by omega
  have e3 : (128 + c % 64).toNat = 128 + c.toNat % 64 := by omega
  unfold Utf8.encode
  simp only [okB_valid c h, if_true]
  rw [if_neg (by omega), if_neg (by omega), if_pos (by omega), e1, e2, e3]
theorem enc4 (c : Int) (h : okB c = true) (h0 : 65536 ≤ c) : Utf8.encode c = ⟨#[UInt8.ofNat (240 + c / 262144).toNat, UInt8.ofNat (128 + c / 4096 % 64).toNat, UInt8.ofNat (128 + c / 64 % 64).toNat, UInt8.ofNat (128 + c % 64).toNat]⟩ := by
  have e1 : (240 + c / 262144).toNat = 240 + c.toNat / 262144 := by omega
  have e2 : (128 + c / 4096 % 64).toNat = 128 + c.toNat / 4096 % 64 := by omega
  have e3 : (128 + c / 64 % 64).toNat = 128 + c.toNat / 64 % 64 := by omega
  have e4 : (128 + c % 64).toNat = 128 + c.toNat % 64 := by omega
  unfold Utf8.encode
  simp only [okB_valid c h, if_true]
  rw [if_neg (by omega), if_neg (by omega), if_neg (by omega), e1, e2, e3, e4]

set_option maxRecDepth 100000 in
theorem ref_one (c : Int) (w : World) (h : okB c = true) (h0 : 0 ≤ c) (h1 : c < 128) :
    Calls Try.prog 12 #[.int .i64 c] w fun e w' => e = .returned (.tuple #[.string (Utf8.encode c), .int .i64 0]) ∧ Below w.heap.size w w' := by
  have hcv := conv1
  rw [enc1 c h h0 h1]
  go_enter Try.func12, Try.ntmps12
  go_wp2_with (go_at_call 39; refine (isLetter_int _ _).mono ?_; rintro e w' ⟨rfl, rfl⟩)
  go_ret2
  exact ⟨rfl, (Below.refl _ _).alloc (Nat.le_refl _) _⟩
set_option maxRecDepth 100000 in
theorem ref_two (c : Int) (w : World) (h : okB c = true) (h0 : 128 ≤ c) (h1 : c < 2048) :
    Calls Try.prog 12 #[.int .i64 c] w fun e w' => e = .returned (.tuple #[.string (Utf8.encode c), .int .i64 0]) ∧ Below w.heap.size w w' := by
  have hcv := conv2
  rw [enc2 c h h0 h1]
  go_enter Try.func12, Try.ntmps12
  go_wp2_with (go_at_call 39; refine (isLetter_int _ _).mono ?_; rintro e w' ⟨rfl, rfl⟩)
  go_ret2
  exact ⟨rfl, (Below.refl _ _).alloc (Nat.le_refl _) _⟩
set_option maxRecDepth 100000 in
theorem ref_three (c : Int) (w : World) (h : okB c = true) (h0 : 2048 ≤ c) (h1 : c < 65536) :
    Calls Try.prog 12 #[.int .i64 c] w fun e w' => e = .returned (.tuple #[.string (Utf8.encode c), .int .i64 0]) ∧ Below w.heap.size w w' := by
  have hcv := conv3
  rw [enc3 c h h0 h1]
  go_enter Try.func12, Try.ntmps12
  go_wp2_with (go_at_call 39; refine (isLetter_int _ _).mono ?_; rintro e w' ⟨rfl, rfl⟩)
  go_ret2
  exact ⟨rfl, (Below.refl _ _).alloc (Nat.le_refl _) _⟩
set_option maxRecDepth 100000 in
theorem ref_four (c : Int) (w : World) (h : okB c = true) (h0 : 65536 ≤ c) (h1 : c ≤ 1114111) :
    Calls Try.prog 12 #[.int .i64 c] w fun e w' => e = .returned (.tuple #[.string (Utf8.encode c), .int .i64 0]) ∧ Below w.heap.size w w' := by
  have hcv := conv4
  rw [enc4 c h h0]
  go_enter Try.func12, Try.ntmps12
  go_wp2_with (go_at_call 39; refine (isLetter_int _ _).mono ?_; rintro e w' ⟨rfl, rfl⟩)
  go_ret2
  exact ⟨rfl, (Below.refl _ _).alloc (Nat.le_refl _) _⟩

/-- what both answer -/
def encS (c : Int) : ByteArray := if okB c then Utf8.encode c else { data := #[] }
def encE (c : Int) : Int := if okB c then 0 else 3
theorem prog_any (c : Int) (w : World) (hc0 : -9223372036854775808 ≤ c) (hc1 : c ≤ 9223372036854775807) :
    Calls Try.prog 11 #[.int .i64 c] w fun e w' => e = .returned (.tuple #[.string (encS c), .int .i64 (encE c)]) ∧ w' = w := by
  unfold encS encE
  cases h : okB c with
  | true => exact enc_yes c w h
  | false => exact enc_no c w h hc0 hc1
theorem ref_any (c : Int) (w : World) :
    Calls Try.prog 12 #[.int .i64 c] w fun e w' => e = .returned (.tuple #[.string (encS c), .int .i64 (encE c)]) ∧ Below w.heap.size w w' := by
  unfold encS encE
  cases h : okB c with
  | true =>
    have hb : 0 ≤ c ∧ c ≤ 1114111 := by unfold okB at h; simp at h; omega
    simp only [if_true]
    by_cases h1 : c < 128
    · exact ref_one c w h hb.1 h1
    by_cases h2 : c < 2048
    · exact ref_two c w h (by omega) h2
    by_cases h3 : c < 65536
    · exact ref_three c w h (by omega) h3
    exact ref_four c w h (by omega) hb.2
  | false =>
    refine (ref_no c w h).mono ?_
    rintro e w' ⟨he, rfl⟩
    exact ⟨he, Below.refl _ _⟩
end Go.Proofs.Ytglfaibihckhnaa.Enc
