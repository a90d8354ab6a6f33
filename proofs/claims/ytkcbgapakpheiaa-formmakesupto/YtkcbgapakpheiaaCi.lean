/- The library's Concat at three lists of numbers: a new list that holds them. Condition: together they have at most 1000 numbers. -/
import Derived.Test.YtkcbgapakpheiaaLs
import Derived.Test.YtkcbgapakpheiaaCh
namespace Go.Proofs.Ytkcbgapakpheiaa.Ci
open Go.RowKit Go.Shelf Sd Md Sc Ap Ch

theorem grow_any (n : Nat) (w : World) (h : n ≤ 1000) : Calls Try.prog 52 #[.slice none 0 0, .int .i64 n] w fun e w' => ∃ v, e = .returned v ∧ w'.ownsRow w.heap.size 3 1 v 0 [] ∧ Below w.heap.size w w' := by
  rcases Nat.eq_zero_or_pos n with rfl | h0
  · refine Calls.mono (Any8.slices_Grow_room Try.laysGrowI none 0 0 0 w (by omega) (by omega) (by omega) (by omega)) ?_
    rintro e w' ⟨rfl, rfl⟩
    exact ⟨_, rfl, World.ownsRow_nil _ _ _ _, Below.refl _ _⟩
  · obtain ⟨i0, hi, hz0, hz1, hz2⟩ := info_parts info3
    have := Any8.slices_Grow_grow Try.laysGrowI i0 _ hi hz0 (by omega) none 0 0 n [] w (by omega) (by omega) (by rw [hz2]; omega) (by omega) (by simp) (fun _ => rfl) (fun a h => by cases h)
    refine Calls.mono this ?_
    rintro e w' ⟨rfl, rfl⟩
    have hge := grownCap_ge w (0 + n) 0 3
    refine ⟨_, rfl, ?_, ?_⟩
    · refine World.ownsRow_made w.drew _ _ (Nat.le_refl _) (grownCap_le_maxLen w (0 + n) 0 3 (by unfold maxLen; omega)) ?_
      change _ = grownCap w (0 + n) 0 3 * 1
      simp only [Array.size_append, size_zeroCells]
      change 0 + (0 + n - 0) * 1 + (grownCap w (0 + n) 0 3 - (0 + n)) * 1 = grownCap w (0 + n) 0 3 * 1
      omega
    · exact (Below.refl _ _).drew.alloc (Nat.le_refl _) _

def part (a b c : List Int) (k : Nat) : List Int := if k = 0 then [] else if k = 1 then a else if k = 2 then a ++ b else a ++ b ++ c

set_option maxHeartbeats 4000000 in
set_option maxRecDepth 100000 in
theorem concat_any (B : Nat) (va vb vc : Value) (a b c : List Int) (w : World) (hB : B < w.heap.size) (h0 : w.cell? ⟨B, 0, none⟩ = some va) (h1 : w.cell? ⟨B, 1, none⟩ = some vb) (h2 : w.cell? ⟨B, 2, none⟩ = some vc)
    (ha : IsI w va a) (hb : IsI w vb b) (hc : IsI w vc c) (hs : a.length + b.length + c.length ≤ 1000) :
    Calls Try.prog 29 #[.slice (some ⟨B, 0, none⟩) 3 3] w fun e w' => ∃ v, e = .returned v ∧ IsI w' v (a ++ b ++ c) ∧ Below w.heap.size w w' := by
  obtain ⟨i0, hi, hz0, hz1, hz2⟩ := info_parts info3
  have HS : Hid (a.length + b.length + c.length ≤ 1000) := hs
  have HA : Hid (IsI w va a) := ha
  have HB : Hid (IsI w vb b) := hb
  have HC : Hid (IsI w vc c) := hc
  obtain ⟨al, cl, ev, _, _⟩ := ha.len
  subst ev
  obtain ⟨bl, dl, ev, _, _⟩ := hb.len
  subst ev
  obtain ⟨cl', el, ev, _, _⟩ := hc.len
  subst ev
  have n0 : ¬ ((a.length : Int) < 0) := by omega
  have n1 : ¬ ((a.length : Int) + (b.length : Int) < 0) := by omega
  have n2 : ¬ ((a.length : Int) + (b.length : Int) + (c.length : Int) < 0) := by omega
  clear hs ha hb hc
  go_enter Try.func29, Try.ntmps29
  go_wp2
  go_loopw [3, 11] (fun s i wr => ∃ k : Nat, i = .int .i64 k ∧ w = wr ∧ ((k = 0 ∧ s = .int .i64 0) ∨ (k = 1 ∧ s = .int .i64 a.length) ∨ (k = 2 ∧ s = .int .i64 ((a.length : Int) + b.length)) ∨ (k = 3 ∧ s = .int .i64 ((a.length : Int) + b.length + c.length)))) (fun _ i _ => 3 - (intOf i).toNat)
  case atStart => exact ⟨0, rfl, rfl, .inl ⟨rfl, rfl⟩⟩
  case round =>
    obtain ⟨k, rfl, rfl, ⟨rfl, rfl⟩ | ⟨rfl, rfl⟩ | ⟨rfl, rfl⟩ | ⟨rfl, rfl⟩⟩ := hrel
    · go_wp2
      go_roundw
      case rel => exact ⟨1, by go_num, by trivial, .inr (.inl ⟨rfl, by simp⟩)⟩
      case measure => simp [intOf]
    · go_wp2
      go_roundw
      case rel => exact ⟨2, by go_num, by trivial, .inr (.inr (.inl ⟨rfl, by simp⟩))⟩
      case measure => simp [intOf]
    · go_wp2
      go_roundw
      case rel => exact ⟨3, by go_num, by trivial, .inr (.inr (.inr ⟨rfl, by simp⟩))⟩
      case measure => simp [intOf]
    · have hg := fun W => grow_any (a.length + b.length + c.length) W HS.out
      rw [show ((a.length + b.length + c.length : Nat) : Int) = (a.length : Int) + (b.length : Int) + (c.length : Int) from by omega] at hg
      go_wp2_with (go_at_call 52; refine (hg _).mono ?_; rintro e w1 ⟨v1, rfl, hown1, hb1⟩)
      clear hg
      go_loopw [6, 27] (fun v i wr => ∃ k : Nat, i = .int .i64 k ∧ k ≤ 3 ∧ wr.ownsRow w.heap.size 3 1 v (part a b c k).length (ints (part a b c k)) ∧ Below w.heap.size w wr) (fun _ i _ => 3 - (intOf i).toNat)
      case atStart => exact ⟨0, rfl, by omega, hown1, hb1⟩
      case round =>
        obtain ⟨k, rfl, hk, hown, hbw⟩ := hrel
        have c0 : wr.cell? ⟨B, 0, none⟩ = some (.slice al a.length cl) := (hbw.cell (p := ⟨B, 0, none⟩) hB).trans h0
        have c1 : wr.cell? ⟨B, 1, none⟩ = some (.slice bl b.length dl) := (hbw.cell (p := ⟨B, 1, none⟩) hB).trans h1
        have c2 : wr.cell? ⟨B, 2, none⟩ = some (.slice cl' c.length el) := (hbw.cell (p := ⟨B, 2, none⟩) hB).trans h2
        have hA := HA.out.below (Nat.le_refl _) hbw
        have hBB := HB.out.below (Nat.le_refl _) hbw
        have hCC := HC.out.below (Nat.le_refl _) hbw
        have hsz := hbw.size
        have hs := HS.out
        have hk4 : k = 0 ∨ k = 1 ∨ k = 2 ∨ k = 3 := by omega
        rcases hk4 with rfl | rfl | rfl | rfl
        · have hown0 : wr.ownsRow w.heap.size 3 1 _ 0 [] := hown
          clear hown hk
          go_wp2_with (at_builtin; refine wpList_app _ rfl (.tmp 31) (.tmp 32) 27 rfl w.heap.size 3 i0 (.int .i64 0) 1 8 Try.underlying27 hi hz0 hz1 hz2 rfl (by decide) _ _ _ rfl hown0 _ _ _ rfl hA (ints_one a) (by unfold maxLen; omega) (by omega) hsz ?_; intro v' W2 hown2 hgrow2)
          go_roundw
          case rel =>
            refine ⟨1, by go_num, by omega, ?_, hbw.grown hgrow2 hsz (fun j hj => (hown0.lt j hj).1)⟩
            simpa [part] using hown2
          case measure => simp [intOf]
        · have hown0 : wr.ownsRow w.heap.size 3 1 _ a.length (ints a) := hown
          clear hown hk
          go_wp2_with (at_builtin; refine wpList_app _ rfl (.tmp 31) (.tmp 32) 27 rfl w.heap.size 3 i0 (.int .i64 0) 1 8 Try.underlying27 hi hz0 hz1 hz2 rfl (by decide) _ _ _ rfl hown0 _ _ _ rfl hBB (ints_one b) (by unfold maxLen; omega) (by omega) hsz ?_; intro v' W2 hown2 hgrow2)
          go_roundw
          case rel =>
            refine ⟨2, by go_num, by omega, ?_, hbw.grown hgrow2 hsz (fun j hj => (hown0.lt j hj).1)⟩
            have e : part a b c 2 = a ++ b := rfl
            rw [e, ints_append, List.length_append]
            exact hown2
          case measure => simp [intOf]
        · have hown0 : wr.ownsRow w.heap.size 3 1 _ (a ++ b).length (ints (a ++ b)) := hown
          clear hown hk
          have hab : (a ++ b).length = a.length + b.length := List.length_append ..
          go_wp2_with (at_builtin; refine wpList_app _ rfl (.tmp 31) (.tmp 32) 27 rfl w.heap.size 3 i0 (.int .i64 0) 1 8 Try.underlying27 hi hz0 hz1 hz2 rfl (by decide) _ _ _ rfl hown0 _ _ _ rfl hCC (ints_one c) (by unfold maxLen; omega) (by omega) hsz ?_; intro v' W2 hown2 hgrow2)
          go_roundw
          case rel =>
            refine ⟨3, by go_num, by omega, ?_, hbw.grown hgrow2 hsz (fun j hj => (hown0.lt j hj).1)⟩
            have e : part a b c 3 = a ++ b ++ c := rfl
            rw [e, ints_append, List.length_append]
            exact hown2
          case measure => simp [intOf]
        · have hown0 : wr.ownsRow w.heap.size 3 1 _ (a ++ b ++ c).length (ints (a ++ b ++ c)) := hown
          clear hown hk
          go_wp2
          go_ret
          exact ⟨_, rfl, isI_of_own hown0 (by simp only [List.length_append]; omega), hbw⟩
end Go.Proofs.Ytkcbgapakpheiaa.Ci
