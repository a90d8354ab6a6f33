/- The document's formBegun: it comes out true. No conditions. -/
import Derived.Test.YtkcbgapakpheiaaRd
namespace Go.Proofs.Ytkcbgapakpheiaa.Fb
open Go.RowKit Go.Shelf Sd Md Sc Aq Ls Lx Lz Fo Mk Rf Tk Tk1 Rd

theorem lit {w : World} (size n e b : Nat) (cs : Array Value) (hb : w.heap.size = b) (hm : n ≤ 140737488355328) (hs : cs.size = n * size) : Row (w.alloc (.cells cs e)) (.slice (some ⟨b, 0, none⟩) n n) size n cs.toList := by
  subst hb
  exact row_of_own (World.ownsRow_lit (base := w.heap.size) w cs n (Nat.le_refl _) (by unfold maxLen; omega) hs) hm

def y0 (b : Nat) : VX := ⟨1, .slice (some ⟨b + 1, 0, none⟩) 1 1, .slice (some ⟨b + 1 + 1 + 1, 0, none⟩) 1 1, .slice none 0 0, [(.slice (some ⟨b, 0, none⟩) 1 1, ⟨[1], 0⟩)], [((.slice none 0 0, .slice (some ⟨b + 1 + 1, 0, none⟩) 1 1), ⟨0, [], [1]⟩)], []⟩
theorem y0_lex (b : Nat) : (y0 b).lex = ⟨1, [⟨[1], 0⟩], [⟨0, [], [1]⟩], []⟩ := rfl
theorem y0_check (b : Nat) : checkX (y0 b).lex = 0 := by rw [y0_lex]; decide +kernel
theorem y0_readE (b : Nat) : readE (y0 b) [1, 1] = 0 := by unfold readE; rw [if_pos (y0_check b)]; rfl
theorem y0_readR (b : Nat) : readR (y0 b) [1, 1] = [(0, 0)] := by unfold readR; rw [if_pos (y0_readE b)]; rfl

theorem y0_is (w : World) : ∃ W, ((((((w.alloc (.cells #[.int .i64 1] 3)).alloc (.cells #[.slice (some ⟨w.heap.size, 0, none⟩) 1 1, .int .i64 0] 51)).alloc (.cells #[.int .i64 1] 3)).alloc (.cells #[.int .i64 0, .slice none 0 0, .slice (some ⟨w.heap.size + 1 + 1, 0, none⟩) 1 1] 53)).alloc
      (.cells #[.int .i64 1, .slice (some ⟨w.heap.size + 1, 0, none⟩) 1 1, .slice (some ⟨w.heap.size + 1 + 1 + 1, 0, none⟩) 1 1, .slice none 0 0] 26)).alloc (.cells #[.int .i64 1, .int .i64 1] 3)) = W ∧
    IsX W (y0 w.heap.size) ∧ IsI W (.slice (some ⟨w.heap.size + 1 + 1 + 1 + 1 + 1, 0, none⟩) 2 2) [1, 1] ∧ Below w.heap.size w W := by
  refine ⟨_, rfl, ?_⟩
  have i1 : IsI (w.alloc (.cells #[.int .i64 1] 3)) (.slice (some ⟨w.heap.size, 0, none⟩) 1 1) [1] := lit 1 1 3 _ #[.int .i64 1] rfl (by omega) rfl
  obtain ⟨W1, h1⟩ : ∃ W, w.alloc (.cells #[.int .i64 1] 3) = W := ⟨_, rfl⟩
  have z1 : W1.heap.size = w.heap.size + 1 := by rw [← h1]; simp
  have b1 : Below w.heap.size w W1 := by rw [← h1]; exact al _ _
  rw [h1] at i1 ⊢
  have r2 : Row (W1.alloc (.cells #[.slice (some ⟨w.heap.size, 0, none⟩) 1 1, .int .i64 0] 51)) (.slice (some ⟨w.heap.size + 1, 0, none⟩) 1 1) 2 1 [.slice (some ⟨w.heap.size, 0, none⟩) 1 1, .int .i64 0] := lit 2 1 51 _ #[_, _] z1 (by omega) rfl
  have i2 := i1.below (Nat.le_refl _) (al W1 (.cells #[.slice (some ⟨w.heap.size, 0, none⟩) 1 1, .int .i64 0] 51))
  have b2 := b1.trans ((al W1 (.cells #[.slice (some ⟨w.heap.size, 0, none⟩) 1 1, .int .i64 0] 51)).mono b1.size)
  obtain ⟨W2, h2⟩ : ∃ W, W1.alloc (.cells #[.slice (some ⟨w.heap.size, 0, none⟩) 1 1, .int .i64 0] 51) = W := ⟨_, rfl⟩
  have z2 : W2.heap.size = w.heap.size + 1 + 1 := by rw [← h2]; simp [z1]
  rw [h2] at r2 i2 b2 ⊢
  have j3 : IsI (W2.alloc (.cells #[.int .i64 1] 3)) (.slice (some ⟨w.heap.size + 1 + 1, 0, none⟩) 1 1) [1] := lit 1 1 3 _ #[.int .i64 1] z2 (by omega) rfl
  have r3 := r2.below (Nat.le_refl _) (al W2 (.cells #[.int .i64 1] 3))
  have i3 := i2.below (Nat.le_refl _) (al W2 (.cells #[.int .i64 1] 3))
  have b3 := b2.trans ((al W2 (.cells #[.int .i64 1] 3)).mono b2.size)
  obtain ⟨W3, h3⟩ : ∃ W, W2.alloc (.cells #[.int .i64 1] 3) = W := ⟨_, rfl⟩
  have z3 : W3.heap.size = w.heap.size + 1 + 1 + 1 := by rw [← h3]; simp [z2]
  rw [h3] at r3 i3 j3 b3 ⊢
  have c4 : Row (W3.alloc (.cells #[.int .i64 0, .slice none 0 0, .slice (some ⟨w.heap.size + 1 + 1, 0, none⟩) 1 1] 53)) (.slice (some ⟨w.heap.size + 1 + 1 + 1, 0, none⟩) 1 1) 3 1 [.int .i64 0, .slice none 0 0, .slice (some ⟨w.heap.size + 1 + 1, 0, none⟩) 1 1] := lit 3 1 53 _ #[_, _, _] z3 (by omega) rfl
  have hx : ∀ o, Below W3.heap.size W3 (W3.alloc o) := fun o => al _ o
  have r4 := r3.below (Nat.le_refl _) (hx (.cells #[.int .i64 0, .slice none 0 0, .slice (some ⟨w.heap.size + 1 + 1, 0, none⟩) 1 1] 53))
  have i4 := i3.below (Nat.le_refl _) (hx (.cells #[.int .i64 0, .slice none 0 0, .slice (some ⟨w.heap.size + 1 + 1, 0, none⟩) 1 1] 53))
  have j4 := j3.below (Nat.le_refl _) (hx (.cells #[.int .i64 0, .slice none 0 0, .slice (some ⟨w.heap.size + 1 + 1, 0, none⟩) 1 1] 53))
  have b4 := b3.trans ((hx (.cells #[.int .i64 0, .slice none 0 0, .slice (some ⟨w.heap.size + 1 + 1, 0, none⟩) 1 1] 53)).mono b3.size)
  obtain ⟨W4, h4⟩ : ∃ W, W3.alloc (.cells #[.int .i64 0, .slice none 0 0, .slice (some ⟨w.heap.size + 1 + 1, 0, none⟩) 1 1] 53) = W := ⟨_, rfl⟩
  have z4 : W4.heap.size = w.heap.size + 1 + 1 + 1 + 1 := by rw [← h4]; simp [z3]
  rw [h4] at r4 i4 j4 c4 b4 ⊢
  have X4 : IsX W4 (y0 w.heap.size) := ⟨⟨r4, fun p hp => by simp only [y0, List.mem_singleton] at hp; subst hp; exact i4⟩, ⟨c4, fun p hp => by simp only [y0, List.mem_singleton] at hp; subst hp; exact ⟨isI_nil _, j4⟩⟩, ⟨row_nil _ _, fun x hx => by cases hx⟩⟩
  clear r4 i4 j4 c4 r3 i3 j3 r2 i2 i1
  generalize hob : Obj.cells #[Value.int .i64 1, .slice (some ⟨w.heap.size + 1, 0, none⟩) 1 1, .slice (some ⟨w.heap.size + 1 + 1 + 1, 0, none⟩) 1 1, .slice none 0 0] 26 = ob
  have z5 : (W4.alloc ob).heap.size = w.heap.size + 1 + 1 + 1 + 1 + 1 := by simp [z4]
  exact ⟨(X4.below (al _ _)).below (al _ _), lit 1 2 3 _ #[.int .i64 1, .int .i64 1] z5 (by omega) rfl, (b4.trans ((al W4 ob).mono b4.size)).trans ((al _ _).mono (Nat.le_trans b4.size (al W4 ob).size))⟩

set_option maxHeartbeats 4000000 in
set_option maxRecDepth 100000 in
theorem begun_any (w : World) : Calls Try.prog 9 #[] w fun e w' => e = .returned (.bool true) ∧ Below w.heap.size w w' := by
  obtain ⟨W, hW, hX, hI, hB⟩ := y0_is w
  have k := read_any (y0 w.heap.size) _ [1, 1] W hX hI
  rw [y0_readE, y0_readR] at k
  simp only [y0, VX.val, List.length_singleton] at k
  clear hX hI
  go_enter Try.func9, Try.ntmps9
  go_wp2_with (go_at_call 14; refine k.mono ?_; rintro e w1 ⟨u, rfl, hr, hb1⟩; obtain ⟨_, a, cap, rfl, _, _, _, _⟩ := hr)
  go_ret
  exact ⟨rfl, hB.trans (hb1.mono hB.size)⟩
end Go.Proofs.Ytkcbgapakpheiaa.Fb
