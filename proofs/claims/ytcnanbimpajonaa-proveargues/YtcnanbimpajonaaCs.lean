/- comes: what comes of some claims. Condition: they are of literals. -/
import Derived.Test.YtcnanbimpajonaaAg
namespace Go.Proofs.Ytcnanbimpajonaa.Cs
open Go.RowKit Cl Co Cp Mq Nu Ag

/-- its literals lie between -6 and 6 -/
def Sm (c : C) : Prop := (-6 ≤ c.2.1 ∧ c.2.1 ≤ 6) ∧ (-6 ≤ c.2.2 ∧ c.2.2 ≤ 6)
theorem sm_ok {c : C} (h : okC c = true) : Sm c := by
  obtain ⟨s, a, b⟩ := c
  unfold okC litB at h
  simp at h
  exact ⟨⟨h.1.2.1, h.1.2.2⟩, h.2.2.1, h.2.2.2⟩

set_option maxHeartbeats 1000000 in
set_option maxRecDepth 100000 in
theorem self_any (r : Int) (c0 : Bool) (c1 c2 : Int) (v : Value) (hv : ∃ a k, v = .slice a 0 k) (w : World) : Calls Try.prog 40 #[.int .i64 r, .agg #[.bool c0, .int .i64 c1, .int .i64 c2], v] w fun e w' => e = .returned (.bool (comesP r (c0, c1, c2) [])) ∧ Below w.heap.size w w' := by
  obtain ⟨a, k, rfl⟩ := hv
  have hb0 : Below w.heap.size w (w.alloc (.cells #[.bool c0, .int .i64 c1, .int .i64 c2] 24)) := (Below.refl _ w).alloc (Nat.le_refl _) _
  have HB : Hid _ := hb0
  clear hb0
  have r1 := box_read (heap_alloc_new w (.cells #[.bool c0, .int .i64 c1, .int .i64 c2] 24))
  have k34 := fun (p : After (w.alloc (.cells #[.bool c0, .int .i64 c1, .int .i64 c2] 24))) a b => all_b a b p.W
  haveI : Inhabited (After (w.alloc (.cells #[.bool c0, .int .i64 c1, .int .i64 c2] 24))) := ⟨⟨_, Below.refl _ _⟩⟩
  have hq := eql24
  unfold comesP
  have e2 : (c2 == c1) = (c1 == c2) := by rw [Bool.eq_iff_iff]; simp; exact eq_comm
  cases hr : (r == 2) <;> cases c0
  all_goals
    dsimp only
    go_enter Try.func40, Try.ntmps40
    go_wp2_with fail
    refine wp_region_after (by kernel_rfl) (by kernel_rfl) ?_
    repeat (go_big_quiet_step (first | (go_at_call 30; refine after_of (k34 _ _ _)) | fail))
    refine wpQuiet_nil ?_
    intro W hw'
    obtain ⟨⟨W, hW⟩, rfl⟩ := hw'
    clear r1 k34
    go_wp2
    go_ret
    first
      | exact ⟨rfl, HB.out.trans (hW.mono HB.out.size)⟩
      | exact ⟨by show Ending.returned (Value.bool (c2 == c1)) = _; rw [e2]; rfl, HB.out.trans (hW.mono HB.out.size)⟩

set_option maxHeartbeats 1000000 in
set_option maxRecDepth 100000 in
theorem of1_any (r : Int) (c0 : Bool) (c1 c2 : Int) (p0 : Bool) (p1 p2 : Int) (b off k : Nat) (w : World) (hb : b < w.heap.size) (q0 : w.cell? ⟨b, off, none⟩ = some (.bool p0)) (q1 : w.cell? ⟨b, off + 1, none⟩ = some (.int .i64 p1)) (q2 : w.cell? ⟨b, off + 2, none⟩ = some (.int .i64 p2)) (hs : Sm (p0, p1, p2)) :
    Calls Try.prog 40 #[.int .i64 r, .agg #[.bool c0, .int .i64 c1, .int .i64 c2], .slice (some ⟨b, off, none⟩) 1 k] w fun e w' => e = .returned (.bool (comesP r (c0, c1, c2) [(p0, p1, p2)])) ∧ Below w.heap.size w w' := by
  have hb0 : Below w.heap.size w (w.alloc (.cells #[.bool c0, .int .i64 c1, .int .i64 c2] 24)) := (Below.refl _ w).alloc (Nat.le_refl _) _
  have r1 := box_read (heap_alloc_new w (.cells #[.bool c0, .int .i64 c1, .int .i64 c2] 24))
  have r2 : ∀ p : After (w.alloc (.cells #[.bool c0, .int .i64 c1, .int .i64 c2] 24)), p.W.cell? ⟨b, off, none⟩ = some (.bool p0) ∧ p.W.cell? ⟨b, off + 1, none⟩ = some (.int .i64 p1) ∧ p.W.cell? ⟨b, off + 2, none⟩ = some (.int .i64 p2) := fun p => by
    have e : ∀ j, p.W.cell? ⟨b, off + j, none⟩ = w.cell? ⟨b, off + j, none⟩ := fun j => (p.h.cell (p := ⟨b, off + j, none⟩) (Nat.lt_of_lt_of_le hb hb0.size)).trans (hb0.cell (p := ⟨b, off + j, none⟩) hb)
    exact ⟨(e 0).trans q0, (e 1).trans q1, (e 2).trans q2⟩
  have k39 := fun (p : After (w.alloc (.cells #[.bool c0, .int .i64 c1, .int .i64 c2] 24))) => one_any r (c0, c1, c2) (p0, p1, p2) p.W (wrap_neg hs.1.1 hs.1.2) (wrap_neg hs.2.1 hs.2.2)
  haveI : Inhabited (After (w.alloc (.cells #[.bool c0, .int .i64 c1, .int .i64 c2] 24))) := ⟨⟨_, Below.refl _ _⟩⟩
  have HB : Hid _ := hb0
  clear hb0 q0 q1 q2 hs hb
  unfold comesP
  dsimp only
  unfold vc at k39
  dsimp only at k39
  go_enter Try.func40, Try.ntmps40
  go_wp2_with fail
  refine wp_region_after (by kernel_rfl) (by kernel_rfl) ?_
  repeat (go_big_quiet_step (first | (go_at_call 51; refine after_of (k39 _)) | fail))
  refine wpQuiet_nil ?_
  intro W hw'
  obtain ⟨⟨W, hW⟩, rfl⟩ := hw'
  clear r1 r2 k39
  go_wp2
  go_ret
  exact ⟨rfl, HB.out.trans (hW.mono HB.out.size)⟩

set_option maxHeartbeats 1000000 in
set_option maxRecDepth 100000 in
theorem of2_any (r : Int) (c0 : Bool) (c1 c2 : Int) (p0 : Bool) (p1 p2 : Int) (s0 : Bool) (s1 s2 : Int) (b off k : Nat) (w : World) (hb : b < w.heap.size) (q0 : w.cell? ⟨b, off, none⟩ = some (.bool p0)) (q1 : w.cell? ⟨b, off + 1, none⟩ = some (.int .i64 p1)) (q2 : w.cell? ⟨b, off + 2, none⟩ = some (.int .i64 p2)) (q3 : w.cell? ⟨b, off + 3, none⟩ = some (.bool s0)) (q4 : w.cell? ⟨b, off + 4, none⟩ = some (.int .i64 s1)) (q5 : w.cell? ⟨b, off + 5, none⟩ = some (.int .i64 s2)) (hs : Sm (p0, p1, p2)) :
    Calls Try.prog 40 #[.int .i64 r, .agg #[.bool c0, .int .i64 c1, .int .i64 c2], .slice (some ⟨b, off, none⟩) 2 k] w fun e w' => e = .returned (.bool (comesP r (c0, c1, c2) [(p0, p1, p2), (s0, s1, s2)])) ∧ Below w.heap.size w w' := by
  have hb0 : Below w.heap.size w (w.alloc (.cells #[.bool c0, .int .i64 c1, .int .i64 c2] 24)) := (Below.refl _ w).alloc (Nat.le_refl _) _
  have r1 := box_read (heap_alloc_new w (.cells #[.bool c0, .int .i64 c1, .int .i64 c2] 24))
  have e : ∀ (p : After (w.alloc (.cells #[.bool c0, .int .i64 c1, .int .i64 c2] 24))) j, p.W.cell? ⟨b, off + j, none⟩ = w.cell? ⟨b, off + j, none⟩ := fun p j => (p.h.cell (p := ⟨b, off + j, none⟩) (Nat.lt_of_lt_of_le hb hb0.size)).trans (hb0.cell (p := ⟨b, off + j, none⟩) hb)
  have r2 : ∀ p : After (w.alloc (.cells #[.bool c0, .int .i64 c1, .int .i64 c2] 24)), p.W.cell? ⟨b, off, none⟩ = some (.bool p0) ∧ p.W.cell? ⟨b, off + 1, none⟩ = some (.int .i64 p1) ∧ p.W.cell? ⟨b, off + 2, none⟩ = some (.int .i64 p2) := fun p => ⟨(e p 0).trans q0, (e p 1).trans q1, (e p 2).trans q2⟩
  have r3 : ∀ p : After (w.alloc (.cells #[.bool c0, .int .i64 c1, .int .i64 c2] 24)), p.W.cell? ⟨b, off + 3, none⟩ = some (.bool s0) ∧ p.W.cell? ⟨b, off + 3 + 1, none⟩ = some (.int .i64 s1) ∧ p.W.cell? ⟨b, off + 3 + 2, none⟩ = some (.int .i64 s2) := fun p => ⟨(e p 3).trans q3, (e p 4).trans q4, (e p 5).trans q5⟩
  have k40 := fun (p : After (w.alloc (.cells #[.bool c0, .int .i64 c1, .int .i64 c2] 24))) => two_any r (c0, c1, c2) (p0, p1, p2) (s0, s1, s2) p.W (wrap_neg hs.2.1 hs.2.2)
  haveI : Inhabited (After (w.alloc (.cells #[.bool c0, .int .i64 c1, .int .i64 c2] 24))) := ⟨⟨_, Below.refl _ _⟩⟩
  have HB : Hid _ := hb0
  clear hb0 q0 q1 q2 q3 q4 q5 hs hb e
  unfold comesP
  dsimp only
  unfold vc at k40
  dsimp only at k40
  go_enter Try.func40, Try.ntmps40
  go_wp2_with fail
  refine wp_region_after (by kernel_rfl) (by kernel_rfl) ?_
  repeat (go_big_quiet_step (first | (go_at_call 52; refine after_of (k40 _)) | fail))
  refine wpQuiet_nil ?_
  intro W hw'
  obtain ⟨⟨W, hW⟩, rfl⟩ := hw'
  clear r1 r2 r3 k40
  go_wp2
  go_ret
  exact ⟨rfl, HB.out.trans (hW.mono HB.out.size)⟩

/-- a list of claims, as it lies -/
def IsC (w : World) (v : Value) (l : List C) : Prop := Row w v 3 l.length (ccs l)
theorem comes_any (r : Int) (c : C) (v : Value) (of : List C) (w : World) (h : IsC w v of) (hl : of.length ≤ 2) (hs : ∀ p ∈ of, Sm p) : Calls Try.prog 40 #[.int .i64 r, vc c, v] w fun e w' => e = .returned (.bool (comesP r c of)) ∧ Below w.heap.size w w' := by
  obtain ⟨c0, c1, c2⟩ := c
  obtain ⟨_, a, k, rfl, _, h⟩ := h
  match of, hl, hs, h with
  | [], _, _, _ => exact self_any r c0 c1 c2 _ ⟨a, k, rfl⟩ w
  | [(p0, p1, p2)], _, hs, h =>
    obtain ⟨b, off, rfl, hb, hc⟩ := h.resolve_left (by simp)
    exact of1_any r c0 c1 c2 p0 p1 p2 b off k w hb (hc 0 _ rfl) (hc 1 _ rfl) (hc 2 _ rfl) (hs _ (by simp))
  | [(p0, p1, p2), (s0, s1, s2)], _, hs, h =>
    obtain ⟨b, off, rfl, hb, hc⟩ := h.resolve_left (by simp)
    exact of2_any r c0 c1 c2 p0 p1 p2 s0 s1 s2 b off k w hb (hc 0 _ rfl) (hc 1 _ rfl) (hc 2 _ rfl) (hc 3 _ rfl) (hc 4 _ rfl) (hc 5 _ rfl) (hs _ (by simp))
  | _ :: _ :: _ :: _, hl, _, _ => simp at hl
end Go.Proofs.Ytcnanbimpajonaa.Cs
