/- What must be in any case of sound changes: soundBegun returns true. No conditions. -/
import Derived.Test.YtjjpgnahmliblabAq
import Derived.Test.YtjjpgnahmliblabSm
namespace Go.Proofs.Ytjjpgnahmliblab.Sb
open Go.RowKit Go.Shelf Sd Md Sc Aq Sm

theorem lit {w : World} (size n e : Nat) (cs : Array Value) (hm : n ≤ 140737488355328) (hs : cs.size = n * size) : Row (w.alloc (.cells cs e)) (.slice (some ⟨w.heap.size, 0, none⟩) n n) size n cs.toList :=
  row_of_own (World.ownsRow_lit (base := w.heap.size) w cs n (Nat.le_refl _) (by unfold maxLen; omega) hs) hm

def c0 : Ch := ⟨2, [1], [2], [⟨[2], true⟩], []⟩
theorem c0_check : check c0 = 0 := by decide +kernel
theorem c0_apply : applyN c0 [1, 1, 2, 1] = 0 := by decide +kernel
theorem c0_applied : applied c0 [1, 1, 2, 1] = [2, 2, 2, 2] := by decide +kernel

def W1 (w : World) : World := w.alloc (.cells #[.int .i64 1] 3)
def W2 (w : World) : World := (W1 w).alloc (.cells #[.int .i64 2] 3)
def W3 (w : World) : World := (W2 w).alloc (.cells #[.int .i64 2] 3)
def W4 (w : World) : World := (W3 w).alloc (.cells #[.slice (some ⟨w.heap.size + 2, 0, none⟩) 1 1, .bool true] 40)
def W5 (w : World) : World := (W4 w).alloc (.cells #[.int .i64 1, .int .i64 1, .int .i64 2, .int .i64 1] 3)
theorem s1 (w : World) : (W1 w).heap.size = w.heap.size + 1 := by simp [W1]
theorem s2 (w : World) : (W2 w).heap.size = w.heap.size + 2 := by simp [W2, s1]
theorem s3 (w : World) : (W3 w).heap.size = w.heap.size + 3 := by simp [W3, s2]
theorem s4 (w : World) : (W4 w).heap.size = w.heap.size + 4 := by simp [W4, s3]
theorem s5 (w : World) : (W5 w).heap.size = w.heap.size + 5 := by simp [W5, s4]
theorem up {W : World} (o : Obj) : Below W.heap.size W (W.alloc o) := (Below.refl _ _).alloc (Nat.le_refl _) _

def x0 (w : World) : VC := ⟨c0, .slice (some ⟨w.heap.size, 0, none⟩) 1 1, .slice (some ⟨w.heap.size + 1, 0, none⟩) 1 1, .slice (some ⟨w.heap.size + 3, 0, none⟩) 1 1, .slice none 0 0, [(.slice (some ⟨w.heap.size + 2, 0, none⟩) 1 1, ⟨[2], true⟩)], []⟩
theorem i1 (w : World) : IsI (W1 w) (.slice (some ⟨w.heap.size, 0, none⟩) 1 1) [1] := lit 1 1 3 #[.int .i64 1] (by omega) rfl
theorem i2 (w : World) : IsI (W2 w) (.slice (some ⟨w.heap.size + 1, 0, none⟩) 1 1) [2] := by
  have := lit (w := W1 w) 1 1 3 #[.int .i64 2] (by omega) rfl
  rw [s1] at this
  exact this
theorem i3 (w : World) : IsI (W3 w) (.slice (some ⟨w.heap.size + 2, 0, none⟩) 1 1) [2] := by
  have := lit (w := W2 w) 1 1 3 #[.int .i64 2] (by omega) rfl
  rw [s2] at this
  exact this
theorem i4 (w : World) : IsS (W4 w) (.slice (some ⟨w.heap.size + 3, 0, none⟩) 1 1) [(.slice (some ⟨w.heap.size + 2, 0, none⟩) 1 1, ⟨[2], true⟩)] := by
  have := lit (w := W3 w) 2 1 40 #[.slice (some ⟨w.heap.size + 2, 0, none⟩) 1 1, .bool true] (by omega) rfl
  rw [s3] at this
  refine ⟨this, fun p hp => ?_⟩
  simp only [List.mem_singleton] at hp
  subst hp
  exact (i3 w).below (Nat.le_refl _) (up _)
theorem i5 (w : World) : IsI (W5 w) (.slice (some ⟨w.heap.size + 4, 0, none⟩) 4 4) [1, 1, 2, 1] := by
  have := lit (w := W4 w) 1 4 3 #[.int .i64 1, .int .i64 1, .int .i64 2, .int .i64 1] (by omega) rfl
  rw [s4] at this
  exact this
theorem isC0 (w : World) : IsC (W5 w) (x0 w) := by
  refine ⟨rfl, rfl, ?_, ?_, ?_, ⟨⟨rfl, none, 0, rfl, Nat.le_refl _, by simp [x0], fun _ => rfl, .inl rfl⟩, fun p hp => by cases hp⟩, (show (Lit.int .i64 2).wf = true by decide +kernel)⟩
  · exact (((((i1 w).below (Nat.le_refl _) (up _)).below (Nat.le_refl _) (up _)).below (Nat.le_refl _) (up _)).below (Nat.le_refl _) (up _))
  · exact ((((i2 w).below (Nat.le_refl _) (up _)).below (Nat.le_refl _) (up _)).below (Nat.le_refl _) (up _))
  · exact (i4 w).below (Nat.le_refl _) (up _)
theorem below5 (w : World) : Below w.heap.size w (W5 w) := by
  have b1 : Below w.heap.size w (W1 w) := up _
  have b2 := b1.trans ((up (W := W1 w) (.cells #[.int .i64 2] 3)).mono b1.size)
  have b3 := b2.trans ((up (W := W2 w) (.cells #[.int .i64 2] 3)).mono b2.size)
  have b4 := b3.trans ((up (W := W3 w) (.cells #[.slice (some ⟨w.heap.size + 2, 0, none⟩) 1 1, .bool true] 40)).mono b3.size)
  exact b4.trans ((up (W := W4 w) _).mono b4.size)

set_option maxHeartbeats 2000000 in
theorem begun_any (w : World) : Calls Try.prog 7 #[] w fun e w' => e = .returned (.bool true) ∧ Below w.heap.size w w' := by
  have con5 := apply_any (x0 w) (.slice (some ⟨w.heap.size + 4, 0, none⟩) 4 4) [1, 1, 2, 1] (W5 w) (isC0 w) (i5 w) (by simp [x0])
  have e1 : applyN (x0 w).c [1, 1, 2, 1] = 0 := c0_apply
  have e2 : applied (x0 w).c [1, 1, 2, 1] = [2, 2, 2, 2] := c0_applied
  rw [e1, e2] at con5
  have hb5 := below5 w
  simp only [VC.val, x0, c0, W5, W4, W3, W2, W1] at con5 hb5
  go_enter Try.func7, Try.ntmps7
  go_wp2_with (first
    | (go_at_call 5; refine con5.mono ?_; rintro e w1 ⟨v, rfl, hI, hb1⟩)
    | (go_at_call 10; refine (same_any _ _ [2, 2, 2, 2] _ (hI.below (Nat.le_refl _) (up _)) (lit (w := w1) 1 4 3 #[.int .i64 2, .int .i64 2, .int .i64 2, .int .i64 2] (by omega) rfl)).mono ?_; rintro e w2 ⟨rfl, q, rfl⟩))
  go_ret
  exact ⟨rfl, below_drewN' ((hb5.trans (hb1.mono hb5.size)).alloc (by have := hb1.size; have := hb5.size; omega) _) q⟩
end Go.Proofs.Ytjjpgnahmliblab.Sb
