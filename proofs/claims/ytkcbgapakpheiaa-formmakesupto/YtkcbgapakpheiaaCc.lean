/- The library's Concat at two lists of spots: a new list that holds both. Condition: both together have at most 2097152 spots. -/
import Derived.Test.YtkcbgapakpheiaaSp
import Derived.Test.YtkcbgapakpheiaaAp
namespace Go.Proofs.Ytkcbgapakpheiaa.Cc
open Go.RowKit Go.Shelf Sd Md Sc Sp Ap

theorem info40 : (Try.prog.info? 71).map (fun i => (i.zero, i.size, i.bytes)) = some (some (.agg #[.slice none 0 0, .bool false]), 2, 32) := by kernel_rfl

theorem grow_any (n : Nat) (w : World) (h : n ≤ 2097152) : Calls Try.prog 56 #[.slice none 0 0, .int .i64 n] w fun e w' => ∃ v, e = .returned v ∧ w'.ownsRow w.heap.size 71 2 v 0 [] ∧ Below w.heap.size w w' := by
  rcases Nat.eq_zero_or_pos n with rfl | h0
  · refine Calls.mono (Any8.slices_Grow_room Try.laysGrow_f30 none 0 0 0 w (by omega) (by omega) (by omega) (by omega)) ?_
    rintro e w' ⟨rfl, rfl⟩
    exact ⟨_, rfl, World.ownsRow_nil _ _ _ _, Below.refl _ _⟩
  · obtain ⟨i0, hi, hz0, hz1, hz2⟩ := info_parts info40
    have := Any8.slices_Grow_grow Try.laysGrow_f30 i0 _ hi hz0 (by omega) none 0 0 n [] w (by omega) (by omega) (by rw [hz2]; omega) (by omega) (by simp) (fun _ => rfl) (fun a h => by cases h)
    refine Calls.mono this ?_
    rintro e w' ⟨rfl, rfl⟩
    have hge := grownCap_ge w (0 + n) 0 71
    refine ⟨_, rfl, ?_, ?_⟩
    · refine World.ownsRow_made w.drew _ _ (Nat.le_refl _) (grownCap_le_maxLen w (0 + n) 0 71 (by unfold maxLen; omega)) ?_
      change _ = grownCap w (0 + n) 0 71 * 2
      simp only [Array.size_append, size_zeroCells]
      change 0 + (0 + n - 0) * 2 + (grownCap w (0 + n) 0 71 - (0 + n)) * 2 = grownCap w (0 + n) 0 71 * 2
      omega
    · exact (Below.refl _ _).drew.alloc (Nat.le_refl _) _

theorem oneS {l : List VS} (h : ∀ p, p ∈ l → p.1.oneCell' = true) : ∀ u ∈ vscs l, u.oneCell' = true := by
  intro u hu
  simp only [vscs, List.mem_flatMap, vsc, List.mem_cons, List.not_mem_nil, or_false] at hu
  obtain ⟨p, hp, rfl | rfl⟩ := hu
  · exact h p hp
  · rfl
theorem each_one {w : World} {l : List VS} (h : Each w l) : ∀ p, p ∈ l → p.1.oneCell' = true := by
  intro p hp
  obtain ⟨a, cap, hv, _⟩ := (h p hp).len
  rw [hv]
  rfl

/-- what stands after so many of the two lists -/
def part (ls rs : List VS) (k : Nat) : List VS := if k = 0 then [] else if k = 1 then ls else ls ++ rs

set_option maxHeartbeats 2000000 in
set_option maxRecDepth 100000 in
theorem concat_any (B : Nat) (vl vr : Value) (ls rs : List VS) (w : World) (hB : B < w.heap.size) (h0 : w.cell? ⟨B, 0, none⟩ = some vl) (h1 : w.cell? ⟨B, 1, none⟩ = some vr)
    (hl : IsS w vl ls) (hr : IsS w vr rs) (hs : ls.length + rs.length ≤ 2097152) :
    Calls Try.prog 38 #[.slice (some ⟨B, 0, none⟩) 2 2] w fun e w' => ∃ v, e = .returned v ∧ IsS w' v (ls ++ rs) ∧ Below w.heap.size w w' := by
  obtain ⟨i0, hi, hz0, hz1, hz2⟩ := info_parts info40
  have HS : Hid (ls.length + rs.length ≤ 2097152) := hs
  have HL : Hid (IsS w vl ls) := hl
  have HR : Hid (IsS w vr rs) := hr
  obtain ⟨al, cl, ev, _, _⟩ := hl.len
  subst ev
  obtain ⟨ar, cr, ev, _, _⟩ := hr.len
  subst ev
  have a1 : wrap64 ((ls.length : Int) + (rs.length : Int)) = (ls.length : Int) + (rs.length : Int) := by unfold wrap64; omega
  have a0 : wrap64 (ls.length : Int) = (ls.length : Int) := by unfold wrap64; omega
  have n0 : ¬ ((ls.length : Int) < 0) := by omega
  have n1 : ¬ ((ls.length : Int) + (rs.length : Int) < 0) := by omega
  clear hs hl hr
  go_enter Try.func38, Try.ntmps38
  go_wp2
  go_loopw [3, 11] (fun s i wr => ∃ k : Nat, i = .int .i64 k ∧ w = wr ∧ ((k = 0 ∧ s = .int .i64 0) ∨ (k = 1 ∧ s = .int .i64 ls.length) ∨ (k = 2 ∧ s = .int .i64 ((ls.length : Int) + rs.length)))) (fun _ i _ => 2 - (intOf i).toNat)
  case atStart => exact ⟨0, rfl, rfl, .inl ⟨rfl, rfl⟩⟩
  case round =>
    obtain ⟨k, rfl, rfl, ⟨rfl, rfl⟩ | ⟨rfl, rfl⟩ | ⟨rfl, rfl⟩⟩ := hrel
    · go_wp2
      go_roundw
      case rel => exact ⟨1, by go_num, by trivial, .inr (.inl ⟨rfl, by simp⟩)⟩
      case measure => simp [intOf]
    · go_wp2
      go_roundw
      case rel => exact ⟨2, by go_num, by trivial, .inr (.inr ⟨rfl, by simp⟩)⟩
      case measure => simp [intOf]
    · have hg := fun W => grow_any (ls.length + rs.length) W HS.out
      rw [show ((ls.length + rs.length : Nat) : Int) = (ls.length : Int) + (rs.length : Int) from by omega] at hg
      go_wp2_with (go_at_call 56; refine (hg _).mono ?_; rintro e w1 ⟨v1, rfl, hown1, hb1⟩)
      clear hg
      go_loopw [6, 27] (fun v i wr => ∃ k : Nat, i = .int .i64 k ∧ k ≤ 2 ∧ wr.ownsRow w.heap.size 71 2 v (part ls rs k).length (vscs (part ls rs k)) ∧ Below w.heap.size w wr) (fun _ i _ => 2 - (intOf i).toNat)
      case atStart => exact ⟨0, rfl, by omega, hown1, hb1⟩
      case round =>
        obtain ⟨k, rfl, hk, hown, hbw⟩ := hrel
        have c0 : wr.cell? ⟨B, 0, none⟩ = some (.slice al ls.length cl) := (hbw.cell (p := ⟨B, 0, none⟩) hB).trans h0
        have c1 : wr.cell? ⟨B, 1, none⟩ = some (.slice ar rs.length cr) := (hbw.cell (p := ⟨B, 1, none⟩) hB).trans h1
        have hL := HL.out.below (Nat.le_refl _) hbw
        have hR := HR.out.below (Nat.le_refl _) hbw
        have hsz := hbw.size
        have hs := HS.out
        have hk3 : k = 0 ∨ k = 1 ∨ k = 2 := by omega
        rcases hk3 with rfl | rfl | rfl
        · have hown0 : wr.ownsRow w.heap.size 71 2 _ 0 [] := hown
          clear hown hk
          go_wp2_with (at_builtin; refine wpList_app _ rfl (.tmp 31) (.tmp 32) 56 rfl w.heap.size 71 i0 (.agg #[.slice none 0 0, .bool false]) 2 32 Try.underlying56 hi hz0 hz1 hz2 rfl (by decide) _ _ _ rfl hown0 _ _ _ rfl hL.1 (oneS (each_one hL.2)) (by unfold maxLen; omega) (by omega) hsz ?_; intro v' W2 hown2 hgrow2)
          go_roundw
          case rel =>
            refine ⟨1, by go_num, by omega, ?_, hbw.grown hgrow2 hsz (fun j hj => (hown0.lt j hj).1)⟩
            simpa [part] using hown2
          case measure => simp [intOf]
        · have hown0 : wr.ownsRow w.heap.size 71 2 _ ls.length (vscs ls) := hown
          clear hown hk
          go_wp2_with (at_builtin; refine wpList_app _ rfl (.tmp 31) (.tmp 32) 56 rfl w.heap.size 71 i0 (.agg #[.slice none 0 0, .bool false]) 2 32 Try.underlying56 hi hz0 hz1 hz2 rfl (by decide) _ _ _ rfl hown0 _ _ _ rfl hR.1 (oneS (each_one hR.2)) (by unfold maxLen; omega) (by omega) hsz ?_; intro v' W2 hown2 hgrow2)
          go_roundw
          case rel =>
            refine ⟨2, by go_num, by omega, ?_, hbw.grown hgrow2 hsz (fun j hj => (hown0.lt j hj).1)⟩
            have e : part ls rs 2 = ls ++ rs := rfl
            rw [e, vscs_append, List.length_append]
            exact hown2
          case measure => simp [intOf]
        · have hown0 : wr.ownsRow w.heap.size 71 2 _ (ls ++ rs).length (vscs (ls ++ rs)) := hown
          clear hown hk
          go_wp2
          go_ret
          refine ⟨_, rfl, ⟨row_of_own hown0 (by simp only [List.length_append]; omega), ?_⟩, hbw⟩
          intro p hp
          rcases List.mem_append.1 hp with hp | hp
          · exact hL.2 p hp
          · exact hR.2 p hp
end Go.Proofs.Ytkcbgapakpheiaa.Cc
