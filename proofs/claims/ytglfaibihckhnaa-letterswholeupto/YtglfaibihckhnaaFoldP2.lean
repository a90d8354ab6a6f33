/- The program's Fold: the text with each letter's small one, strays as they are. Condition: the text has at most 1048576 bytes. -/
import Derived.Test.YtglfaibihckhnaaFoldP
namespace Go.Proofs.Ytglfaibihckhnaa.FoldP
open Go.RowKit Uni

/-- what a unit becomes -/
def piece (s : ByteArray) (i : Nat) : List UInt8 := if (ua s i).1 = -1 then [s.get! i] else Lib.encodeRune (small (ua s i).1)
def foldFrom (s : ByteArray) : Nat → Nat → List UInt8
  | 0, _ => []
  | f + 1, i => if i < s.size then piece s i ++ foldFrom s f (i + (ua s i).2) else []
def fold (s : ByteArray) : List UInt8 := foldFrom s s.size 0
theorem foldFrom_end (s : ByteArray) (f i : Nat) (h : ¬ i < s.size) : foldFrom s f i = [] := by
  cases f <;> simp [foldFrom, h]
theorem foldFrom_step (s : ByteArray) (f i : Nat) (h : i < s.size) : foldFrom s (f + 1) i = piece s i ++ foldFrom s f (i + (ua s i).2) := by
  simp [foldFrom, h]
theorem small_bd (c : Int) (h0 : 0 ≤ c) (h1 : c ≤ 1114111) : 0 ≤ small c ∧ small c ≤ 1114191 := by
  unfold small
  split
  · omega
  · split
    · omega
    · split <;> omega
theorem piece_le (s : ByteArray) (i : Nat) : (piece s i).length ≤ 4 := by
  unfold piece
  split
  · simp
  · have := Lib.runeCells_le (small (ua s i).1)
    rw [Lib.runeCells_length] at this
    omega

theorem bt_byte (s : ByteArray) (i : Nat) (h : i < s.size) : ((s[i]'h).toNat : Int) = ((s.get! i).toNat : Int) := by
  rw [bt_eq]; rfl

theorem field2 (a b c : Int) (w : World) : (Instr.field 26 (.agg #[.int .i64 a, .int .i64 b, .int .i64 c]) 2).run Try.prog w = .ok (.int .i64 c) w := by kernel_rfl

set_option maxHeartbeats 4000000 in
set_option maxRecDepth 100000 in
theorem fold_any (s : ByteArray) (w : World) (hs : s.size ≤ 1048576) :
    Calls Try.prog 15 #[.string s] w fun e w' => e = .returned (.string ⟨(fold s).toArray⟩) ∧ Below w.heap.size w w' := by
  have hfd := field2
  go_enter Try.func15, Try.ntmps15
  go_wp2_with (go_at_call 43; refine (Try.Builder_Grow_fresh w.heap.size w.heap.size s.size _ (Nat.le_refl _) (heap_alloc_new w _) (by simp) (by omega)).mono ?_; rintro e w1 ⟨rfl, hI1, hb1⟩)
  have hsz1 : w.heap.size + 1 ≤ w1.heap.size := by have := hb1.size; simpa using this
  go_loopw [] (fun wr => ∃ (pos fuel : Nat) (acc : List UInt8), Lib.IsBuilderF 67 5 w.heap.size w.heap.size (Lib.byteCells acc) wr ∧ wr.heap[w1.heap.size]? = some (.stringIter s pos) ∧ Below w.heap.size w wr ∧ acc ++ foldFrom s fuel pos = fold s ∧ s.size ≤ pos + fuel ∧ acc.length ≤ 4 * pos ∧ pos ≤ s.size) (fun wr => s.size - wr.iterPos w1.heap.size)
  case atStart =>
    refine ⟨0, s.size, [], (Lib.IsBuilderF.of (Or.inr hI1)).alloc _, World.iter_heap w1 s 0, ?_, rfl, by omega, by simp, by omega⟩
    exact (((Below.refl _ w).alloc (Nat.le_refl _) _).trans hb1).alloc (by omega) _
  case round =>
    clear hI1 hb1
    obtain ⟨pos, fuel, acc, hI, hit, hbw, hacc, hfu, hal, hps⟩ := hrel
    have hszr : w1.heap.size < wr.heap.size := (Array.getElem?_eq_some_iff.1 hit).1
    by_cases hp : pos < s.size
    · have hnx : ∀ ty, (Instr.next (.pointer (some ⟨w1.heap.size, 0, none⟩)) true ty).run Try.prog wr = _ := fun ty => Lib.run_next_any_at wr w1.heap.size s pos ty hit hp
      obtain ⟨f, rfl⟩ : ∃ f, fuel = f + 1 := ⟨fuel - 1, by omega⟩
      have hf := ua_facts s pos hp
      have hd2 := decode_two s pos hp
      have hdl := decode_le s pos
      have hI2 := fun o => (hI.iterAt hit (pos + (Utf8.decode s pos).2)).alloc o
      have hit2 := Lib.iterAt_heap wr w1.heap.size s pos (pos + (Utf8.decode s pos).2) hit
      have hbw2 := Lib.below_iterAt hbw (k := w1.heap.size) (by omega) s (pos + (Utf8.decode s pos).2)
      have hzz : (wr.iterAt w1.heap.size s (pos + (Utf8.decode s pos).2)).heap.size = wr.heap.size := Lib.iterAt_size _ _ _ _
      have hit3 : ∀ o, ((wr.iterAt w1.heap.size s (pos + (Utf8.decode s pos).2)).alloc o).heap[w1.heap.size]? = some (.stringIter s (pos + (Utf8.decode s pos).2)) := fun o => (Below.heap_alloc _ o _ (by omega)).trans hit2
      have HD : Hid ((Utf8.decode s pos).2 = (ua s pos).2) := hd2
      clear hd2
      by_cases hb : (ua s pos).1 = -1
      · have hbb : ((ua s pos).1 == -1) = true := by simpa using hb
        have HB : Hid ((ua s pos).1 = -1) := hb
        clear hb
        have hw1 : (ua s pos).2 = 1 := hf.2.2.2.2.2.1 HB.out
        have HW : Hid ((ua s pos).2 = 1) := hw1
        clear hw1 hf
        go_wp2_with (first | (go_at_call 36; refine (UnitAt.unitAt_alloc s pos _ hp).mono ?_; rintro e w' ⟨rfl, o, rfl⟩) | (go_at_call 44; refine (Try.Builder_WriteByte_k w.heap.size w.heap.size _ _ _ (hI2 _) (by rw [Lib.byteCells_length]; omega) (by simp; omega)).mono ?_; rintro e W1 ⟨rfl, h1, b1, k1⟩))
        go_roundw
        case rel =>
          have hpc : piece s pos = [s.get! pos] := by unfold piece; rw [if_pos HB.out]
          refine ⟨pos + (Utf8.decode s pos).2, f, acc ++ piece s pos, ?_, k1.iter (hit3 _) (by omega), (hbw2.alloc (by omega) _).trans b1, ?_, ?_, ?_, ?_⟩
          · rw [hpc, Lib.byteCells_append]
            rw [bt_byte s pos hp] at h1
            exact Or.inr h1
          · rw [← hacc, foldFrom_step s f pos hp, HD.out]
            simp
          · rw [HD.out, HW.out]; omega
          · rw [hpc, HD.out, HW.out]; simp; omega
          · rw [HD.out, HW.out]; omega
        case measure =>
          rw [iterPos_of (k1.iter (hit3 _) (by omega)), iterPos_of hit, HD.out, HW.out]
          omega
      · have hbb : ((ua s pos).1 == -1) = false := by simpa using hb
        have hd1 := decode_one s pos hp
        rw [if_neg hb] at hd1
        have hd0 : (0 : Int) ≤ ((Utf8.decode s pos).1 : Int) := by omega
        have hd3 : ((Utf8.decode s pos).1 : Int) ≤ 1114111 := by rw [hd1]; exact hf.2.2.2.2.1
        have HB : Hid (((Utf8.decode s pos).1 : Int) = (ua s pos).1) := hd1
        have HN : Hid (¬ (ua s pos).1 = -1) := hb
        have hsb := small_bd _ hd0 hd3
        obtain ⟨hsb0, hsb1⟩ := hsb
        have hf1 := hf.1
        have hf2 := hf.2.1
        clear hb hd1 hf hdl
        go_wp2_with (first | (go_at_call 36; refine (UnitAt.unitAt_alloc s pos _ hp).mono ?_; rintro e w' ⟨rfl, o, rfl⟩) | (go_at_call 46; refine (small_any _ _ hd0 hd3).mono ?_; rintro e w' ⟨rfl, rfl⟩) | (go_at_call 45; refine (Try.Builder_WriteRune_k w.heap.size w.heap.size _ _ (by omega) (by omega) _ (hI2 _) (by rw [Lib.byteCells_length]; omega) (by simp; omega)).mono ?_; rintro e W1 ⟨rfl, h1, b1, k1⟩))
        go_roundw
        case rel =>
          have hpc : piece s pos = Lib.encodeRune (small ((Utf8.decode s pos).1 : Int)) := by unfold piece; rw [if_neg HN.out, HB.out]
          have hpl := piece_le s pos
          refine ⟨pos + (Utf8.decode s pos).2, f, acc ++ piece s pos, ?_, k1.iter (hit3 _) (by omega), (hbw2.alloc (by omega) _).trans b1, ?_, ?_, ?_, ?_⟩
          · rw [hpc, Lib.byteCells_append, Lib.byteCells_encodeRune]
            exact Or.inr h1
          · rw [← hacc, foldFrom_step s f pos hp, HD.out]
            simp
          · rw [HD.out]; omega
          · rw [HD.out, List.length_append]; omega
          · rw [HD.out]; omega
        case measure =>
          rw [iterPos_of (k1.iter (hit3 _) (by omega)), iterPos_of hit, HD.out]
          omega
    · have hnx : ∀ ty, (Instr.next (.pointer (some ⟨w1.heap.size, 0, none⟩)) true ty).run Try.prog wr = _ := fun ty => Lib.run_next_end_at wr w1.heap.size s pos ty hit hp
      go_wp2_with (go_at_call 47; refine (Try.Builder_String_any_k w.heap.size w.heap.size acc _ hI (by omega)).mono ?_; rintro e W1 ⟨rfl, _, b1, _⟩)
      go_ret
      rw [foldFrom_end s fuel pos hp, List.append_nil] at hacc
      subst hacc
      exact ⟨rfl, hbw.trans b1⟩
end Go.Proofs.Ytglfaibihckhnaa.FoldP
