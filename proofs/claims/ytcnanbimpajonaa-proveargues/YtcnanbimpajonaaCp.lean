/- What comes of two claims; what comes of some. Conditions: the claims are of literals. -/
import Derived.Test.YtcnanbimpajonaaCo
namespace Go.Proofs.Ytcnanbimpajonaa.Cp
open Go.RowKit Cl Co

theorem three (w : World) (a b c : Obj) : (((w.alloc a).alloc b).alloc c).heap[w.heap.size]? = some a ∧ (((w.alloc a).alloc b).alloc c).heap[w.heap.size + 1]? = some b ∧ (((w.alloc a).alloc b).alloc c).heap[w.heap.size + 1 + 1]? = some c ∧ Below w.heap.size w (((w.alloc a).alloc b).alloc c) := by
  have s1 : (w.alloc a).heap.size = w.heap.size + 1 := by simp
  have s2 : ((w.alloc a).alloc b).heap.size = w.heap.size + 1 + 1 := by simp
  refine ⟨?_, ?_, ?_, ?_⟩
  · rw [heap_alloc_old _ _ (by omega), heap_alloc_old _ _ (by omega)]
    exact heap_alloc_new _ _
  · rw [heap_alloc_old _ _ (by omega), ← s1]
    exact heap_alloc_new _ _
  · rw [← s2]
    exact heap_alloc_new _ _
  · exact (((Below.refl _ w).alloc (Nat.le_refl _) a).alloc (by omega) b).alloc (by omega) c
set_option maxHeartbeats 4000000 in
set_option maxRecDepth 100000 in
theorem two3 (c0 p0 q0 : Bool) (c1 c2 p1 p2 q1 q2 : Int) (w : World) (_h2 : IntKind.i64.wrap (-p2) = -p2) : Calls Try.prog 52 #[.int .i64 3, .agg #[.bool c0, .int .i64 c1, .int .i64 c2], .agg #[.bool p0, .int .i64 p1, .int .i64 p2], .agg #[.bool q0, .int .i64 q1, .int .i64 q2]] w fun e w' => e = .returned (.bool (comes2 3 (c0, c1, c2) (p0, p1, p2) (q0, q1, q2))) ∧ Below w.heap.size w w' := by
  have t2 := three w (.cells #[.bool c0, .int .i64 c1, .int .i64 c2] 24) (.cells #[.bool p0, .int .i64 p1, .int .i64 p2] 24) (.cells #[.bool q0, .int .i64 q1, .int .i64 q2] 24)
  have HB : Hid (Below w.heap.size w (((w.alloc (.cells #[.bool c0, .int .i64 c1, .int .i64 c2] 24)).alloc (.cells #[.bool p0, .int .i64 p1, .int .i64 p2] 24)).alloc (.cells #[.bool q0, .int .i64 q1, .int .i64 q2] 24))) := t2.2.2.2
  have r1 := box_read t2.1
  have r2 := box_read t2.2.1
  have r3 := box_read t2.2.2.1
  clear t2
  have k34 := fun (p : After (((w.alloc (.cells #[.bool c0, .int .i64 c1, .int .i64 c2] 24)).alloc (.cells #[.bool p0, .int .i64 p1, .int .i64 p2] 24)).alloc (.cells #[.bool q0, .int .i64 q1, .int .i64 q2] 24))) a b => all_b a b p.W
  have k43 := fun (p : After (((w.alloc (.cells #[.bool c0, .int .i64 c1, .int .i64 c2] 24)).alloc (.cells #[.bool p0, .int .i64 p1, .int .i64 p2] 24)).alloc (.cells #[.bool q0, .int .i64 q1, .int .i64 q2] 24))) a b => some_b a b p.W
  haveI : Inhabited (After (((w.alloc (.cells #[.bool c0, .int .i64 c1, .int .i64 c2] 24)).alloc (.cells #[.bool p0, .int .i64 p1, .int .i64 p2] 24)).alloc (.cells #[.bool q0, .int .i64 q1, .int .i64 q2] 24))) := ⟨⟨_, Below.refl _ _⟩⟩
  have hq := eql24
  cases p0 <;> cases q0 <;> cases c0 <;> cases hg : (p2 == q1)
  all_goals
    unfold comes2
    dsimp only
    rw [hg]
    go_enter Try.func52, Try.ntmps52
    go_wp2_with fail
    refine wp_region_after (by kernel_rfl) (by kernel_rfl) ?_
    repeat (go_big_quiet_step (first | (go_at_call 30; refine after_of (k34 _ _ _)) | (go_at_call 47; refine after_of (k43 _ _ _))))
    refine wpQuiet_nil ?_
    intro W hw'
    obtain ⟨⟨W, hW⟩, rfl⟩ := hw'
    clear r1 r2 r3 k34 k43
    go_wp2
    go_ret
    exact ⟨rfl, HB.out.trans (hW.mono HB.out.size)⟩
set_option maxHeartbeats 4000000 in
set_option maxRecDepth 100000 in
theorem two9 (c0 p0 q0 : Bool) (c1 c2 p1 p2 q1 q2 : Int) (w : World) (_h2 : IntKind.i64.wrap (-p2) = -p2) : Calls Try.prog 52 #[.int .i64 9, .agg #[.bool c0, .int .i64 c1, .int .i64 c2], .agg #[.bool p0, .int .i64 p1, .int .i64 p2], .agg #[.bool q0, .int .i64 q1, .int .i64 q2]] w fun e w' => e = .returned (.bool (comes2 9 (c0, c1, c2) (p0, p1, p2) (q0, q1, q2))) ∧ Below w.heap.size w w' := by
  have t2 := three w (.cells #[.bool c0, .int .i64 c1, .int .i64 c2] 24) (.cells #[.bool p0, .int .i64 p1, .int .i64 p2] 24) (.cells #[.bool q0, .int .i64 q1, .int .i64 q2] 24)
  have HB : Hid (Below w.heap.size w (((w.alloc (.cells #[.bool c0, .int .i64 c1, .int .i64 c2] 24)).alloc (.cells #[.bool p0, .int .i64 p1, .int .i64 p2] 24)).alloc (.cells #[.bool q0, .int .i64 q1, .int .i64 q2] 24))) := t2.2.2.2
  have r1 := box_read t2.1
  have r2 := box_read t2.2.1
  have r3 := box_read t2.2.2.1
  clear t2
  have k34 := fun (p : After (((w.alloc (.cells #[.bool c0, .int .i64 c1, .int .i64 c2] 24)).alloc (.cells #[.bool p0, .int .i64 p1, .int .i64 p2] 24)).alloc (.cells #[.bool q0, .int .i64 q1, .int .i64 q2] 24))) a b => all_b a b p.W
  have k43 := fun (p : After (((w.alloc (.cells #[.bool c0, .int .i64 c1, .int .i64 c2] 24)).alloc (.cells #[.bool p0, .int .i64 p1, .int .i64 p2] 24)).alloc (.cells #[.bool q0, .int .i64 q1, .int .i64 q2] 24))) a b => some_b a b p.W
  haveI : Inhabited (After (((w.alloc (.cells #[.bool c0, .int .i64 c1, .int .i64 c2] 24)).alloc (.cells #[.bool p0, .int .i64 p1, .int .i64 p2] 24)).alloc (.cells #[.bool q0, .int .i64 q1, .int .i64 q2] 24))) := ⟨⟨_, Below.refl _ _⟩⟩
  have hq := eql24
  cases p0 <;> cases q0 <;> cases c0 <;> cases hg : (p2 == q1)
  all_goals
    unfold comes2
    dsimp only
    rw [hg]
    go_enter Try.func52, Try.ntmps52
    go_wp2_with fail
    refine wp_region_after (by kernel_rfl) (by kernel_rfl) ?_
    repeat (go_big_quiet_step (first | (go_at_call 30; refine after_of (k34 _ _ _)) | (go_at_call 47; refine after_of (k43 _ _ _))))
    refine wpQuiet_nil ?_
    intro W hw'
    obtain ⟨⟨W, hW⟩, rfl⟩ := hw'
    clear r1 r2 r3 k34 k43
    go_wp2
    go_ret
    exact ⟨rfl, HB.out.trans (hW.mono HB.out.size)⟩
set_option maxHeartbeats 4000000 in
set_option maxRecDepth 100000 in
theorem two10 (c0 p0 q0 : Bool) (c1 c2 p1 p2 q1 q2 : Int) (w : World) (h2 : IntKind.i64.wrap (-p2) = -p2) : Calls Try.prog 52 #[.int .i64 10, .agg #[.bool c0, .int .i64 c1, .int .i64 c2], .agg #[.bool p0, .int .i64 p1, .int .i64 p2], .agg #[.bool q0, .int .i64 q1, .int .i64 q2]] w fun e w' => e = .returned (.bool (comes2 10 (c0, c1, c2) (p0, p1, p2) (q0, q1, q2))) ∧ Below w.heap.size w w' := by
  have t2 := three w (.cells #[.bool c0, .int .i64 c1, .int .i64 c2] 24) (.cells #[.bool p0, .int .i64 p1, .int .i64 p2] 24) (.cells #[.bool q0, .int .i64 q1, .int .i64 q2] 24)
  have HB : Hid (Below w.heap.size w (((w.alloc (.cells #[.bool c0, .int .i64 c1, .int .i64 c2] 24)).alloc (.cells #[.bool p0, .int .i64 p1, .int .i64 p2] 24)).alloc (.cells #[.bool q0, .int .i64 q1, .int .i64 q2] 24))) := t2.2.2.2
  have r1 := box_read t2.1
  have r2 := box_read t2.2.1
  have r3 := box_read t2.2.2.1
  clear t2
  have k34 := fun (p : After (((w.alloc (.cells #[.bool c0, .int .i64 c1, .int .i64 c2] 24)).alloc (.cells #[.bool p0, .int .i64 p1, .int .i64 p2] 24)).alloc (.cells #[.bool q0, .int .i64 q1, .int .i64 q2] 24))) a b => all_b a b p.W
  have k43 := fun (p : After (((w.alloc (.cells #[.bool c0, .int .i64 c1, .int .i64 c2] 24)).alloc (.cells #[.bool p0, .int .i64 p1, .int .i64 p2] 24)).alloc (.cells #[.bool q0, .int .i64 q1, .int .i64 q2] 24))) a b => some_b a b p.W
  haveI : Inhabited (After (((w.alloc (.cells #[.bool c0, .int .i64 c1, .int .i64 c2] 24)).alloc (.cells #[.bool p0, .int .i64 p1, .int .i64 p2] 24)).alloc (.cells #[.bool q0, .int .i64 q1, .int .i64 q2] 24))) := ⟨⟨_, Below.refl _ _⟩⟩
  have hq := eql24
  cases p0 <;> cases q0 <;> cases c0
  all_goals
    unfold comes2
    go_enter Try.func52, Try.ntmps52
    go_wp2_with fail
    refine wp_region_after (by kernel_rfl) (by kernel_rfl) ?_
    repeat (go_big_quiet_step (first | (go_at_call 30; refine after_of (k34 _ _ _)) | (go_at_call 47; refine after_of (k43 _ _ _))))
    refine wpQuiet_nil ?_
    intro W hw'
    obtain ⟨⟨W, hW⟩, rfl⟩ := hw'
    clear r1 r2 r3 k34 k43
    go_wp2
    go_ret
    exact ⟨rfl, HB.out.trans (hW.mono HB.out.size)⟩
set_option maxHeartbeats 2000000 in
theorem two_any (r : Int) (c p q : C) (w : World) (h2 : IntKind.i64.wrap (-p.2.2) = -p.2.2) : Calls Try.prog 52 #[.int .i64 r, vc c, vc p, vc q] w fun e w' => e = .returned (.bool (comes2 r c p q)) ∧ Below w.heap.size w w' := by
  obtain ⟨c0, c1, c2⟩ := c
  obtain ⟨p0, p1, p2⟩ := p
  obtain ⟨q0, q1, q2⟩ := q
  unfold vc
  dsimp only at h2 ⊢
  by_cases e4 : r = 3
  · subst e4; exact two3 c0 p0 q0 c1 c2 p1 p2 q1 q2 w h2
  by_cases e5 : r = 9
  · subst e5; exact two9 c0 p0 q0 c1 c2 p1 p2 q1 q2 w h2
  by_cases e6 : r = 10
  · subst e6; exact two10 c0 p0 q0 c1 c2 p1 p2 q1 q2 w h2
  have e : comes2 r (c0, c1, c2) (p0, p1, p2) (q0, q1, q2) = false := by unfold comes2; rw [if_neg e4, if_neg e5, if_neg e6]
  rw [e]
  have g4 : (r == 3) = false := by simpa using e4
  have g5 : (r == 9) = false := by simpa using e5
  have g6 : (r == 10) = false := by simpa using e6
  go_enter Try.func52, Try.ntmps52
  go_wp2
  go_ret
  exact ⟨rfl, (three w _ _ _).2.2.2⟩
end Go.Proofs.Ytcnanbimpajonaa.Cp
