/- What comes of one claim. Conditions: the claims are of literals. -/
import Derived.Test.YtcnanbimpajonaaCl
import Derived.Deep.QuietTactic
namespace Go.Proofs.Ytcnanbimpajonaa.Co
open Go.RowKit Cl

/-- a world in which all that lay in w lies as it lay -/
structure After (w : World) where
  W : World
  h : Below w.heap.size w W
theorem wp_region_after {P : Program} {id : Nat} {Q : Exit → Act → World → Prop} {a : Act} {w : World} {l : List Oper} (hm : P.follows .mixedOrders = true) (hB : Region.lexB .any l.toArray = true)
    (h : wpQuiet P l.toArray (fun w' => ∃ p : After w, w' = p.W) (fun a' => ∀ w', (∃ p : After w, w' = p.W) → Q .normal a' w') l a) : (Code.region id l.toArray true).wp P Q a w :=
  wp_region_quiet (C := fun w' => ∃ p : After w, w' = p.W) hm hB ⟨⟨w.drew, (Below.refl _ _).drew⟩, rfl⟩ (by simpa using h)
theorem after_of {P : Program} {f : FuncId} {args : Array Value} {w : World} {p : After w} {v : Value}
    (h : Calls P f args p.W fun e w' => e = .returned v ∧ Below p.W.heap.size p.W w') : Calls P f args p.W fun e w'' => e = .returned v ∧ ∃ p' : After w, w'' = p'.W :=
  h.mono fun _ w' ⟨he, hb⟩ => ⟨he, ⟨w', p.h.trans (hb.mono p.h.size)⟩, rfl⟩
theorem all_b (a b : Int) (w : World) : Calls Try.prog 30 #[.int .i64 a, .int .i64 b] w fun e w' => e = .returned (.agg #[.bool false, .int .i64 a, .int .i64 b]) ∧ Below w.heap.size w w' :=
  (all_any a b w).mono fun _ _ ⟨h, h'⟩ => ⟨h, by rw [h']; exact (Below.refl _ _).alloc (Nat.le_refl _) _⟩
theorem some_b (a b : Int) (w : World) : Calls Try.prog 47 #[.int .i64 a, .int .i64 b] w fun e w' => e = .returned (.agg #[.bool true, .int .i64 a, .int .i64 b]) ∧ Below w.heap.size w w' :=
  (some_any a b w).mono fun _ _ ⟨h, h'⟩ => ⟨h, by rw [h']; exact (Below.refl _ _).alloc (Nat.le_refl _) _⟩
/-- a box of a claim, read behind -/
theorem box_read {W : World} {b : Nat} {x0 x1 x2 : Value} (hb : W.heap[b]? = some (.cells #[x0, x1, x2] 24 (0, 0))) (p : After W) : p.W.cell? ⟨b, 0, none⟩ = some x0 ∧ p.W.cell? ⟨b, 1, none⟩ = some x1 ∧ p.W.cell? ⟨b, 2, none⟩ = some x2 := by
  have e := (p.h.block b (Array.getElem?_eq_some_iff.1 hb).1).trans hb
  exact ⟨cell_of_row _ _ 0 _ 24 (0, 0) e, cell_of_row _ _ 1 _ 24 (0, 0) e, cell_of_row _ _ 2 _ 24 (0, 0) e⟩
theorem two (w : World) (a b : Obj) : ((w.alloc a).alloc b).heap[w.heap.size]? = some a ∧ ((w.alloc a).alloc b).heap[w.heap.size + 1]? = some b ∧ Below w.heap.size w ((w.alloc a).alloc b) := by
  have s1 : (w.alloc a).heap.size = w.heap.size + 1 := by simp
  refine ⟨?_, ?_, ?_⟩
  · rw [heap_alloc_old _ _ (by omega)]
    exact heap_alloc_new _ _
  · rw [← s1]
    exact heap_alloc_new _ _
  · exact ((Below.refl _ w).alloc (Nat.le_refl _) a).alloc (by omega) b

theorem eql24 (a0 b0 : Bool) (a1 a2 b1 b2 : Int) (w : World) : (binOp .eql 24 (.agg #[.bool a0, .int .i64 a1, .int .i64 a2]) (.agg #[.bool b0, .int .i64 b1, .int .i64 b2])).run Try.prog w = .ok (.bool (a0 == b0 && a1 == b1 && a2 == b2)) w := by
  have u3 := Try.underlying3
  have u4 := Try.underlying4
  have hS : Try.prog.underlying 24 = some (.struct (Try.prog.fieldsOf 24)) := by kernel_rfl
  have hp : Try.prog.stoodInHeld 24 = false := by kernel_rfl
  rw [run_eql_struct, show (10000 : Nat) = 9999 + 1 from rfl, run_equalIn_agg w 9999 24 _ _ hS hp]
  simp only [Program.fieldsOf, Try.underlying24]
  go_simp
  by_cases h0 : a0 = b0 <;> by_cases h1 : a1 = b1 <;> by_cases h2 : a2 = b2 <;> simp [h0, h1, h2]

/-- what comes of one claim, by a rule -/
def comes1 (r : Int) (c p : C) : Bool :=
  if r = 4 then !p.1 && !c.1 && c.2.1 == -p.2.2 && c.2.2 == -p.2.1
  else if r = 5 then !p.1 && p.2.2 == -p.2.1 && !c.1 && c.2.1 == p.2.1
  else if r = 6 then !p.1 && p.2.1 == -p.2.2 && !c.1 && c.2.2 == p.2.2
  else if r = 7 then p.1 && c.1 && c.2.1 == p.2.2 && c.2.2 == p.2.1
  else if r = 8 then p.1 && c.1 && c.2.1 == p.2.1 && c.2.2 == p.2.1
  else false
/-- what comes of two claims, by a rule -/
def comes2 (r : Int) (c p q : C) : Bool :=
  if r = 3 then !p.1 && p.2.2 == q.2.1 && !q.1 && !c.1 && c.2.1 == p.2.1 && c.2.2 == q.2.2
  else if r = 9 then p.1 && p.2.2 == q.2.1 && !q.1 && c.1 && c.2.1 == p.2.1 && c.2.2 == q.2.2
  else if r = 10 then !p.1 && q.1 && q.2.1 == p.2.1 && q.2.2 == -p.2.2
  else false
theorem wrap_neg {n : Int} (h1 : -6 ≤ n) (h2 : n ≤ 6) : IntKind.i64.wrap (-n) = -n := by
  rw [IntKind.wrap_i64]
  omega

set_option maxHeartbeats 2000000 in
set_option maxRecDepth 100000 in
theorem one4 (c0 p0 : Bool) (c1 c2 p1 p2 : Int) (w : World) (h1 : IntKind.i64.wrap (-p1) = -p1) (h2 : IntKind.i64.wrap (-p2) = -p2) : Calls Try.prog 51 #[.int .i64 4, .agg #[.bool c0, .int .i64 c1, .int .i64 c2], .agg #[.bool p0, .int .i64 p1, .int .i64 p2]] w fun e w' => e = .returned (.bool (comes1 4 (c0, c1, c2) (p0, p1, p2))) ∧ Below w.heap.size w w' := by
  have t2 := two w (.cells #[.bool c0, .int .i64 c1, .int .i64 c2] 24) (.cells #[.bool p0, .int .i64 p1, .int .i64 p2] 24)
  have HB : Hid (Below w.heap.size w ((w.alloc (.cells #[.bool c0, .int .i64 c1, .int .i64 c2] 24)).alloc (.cells #[.bool p0, .int .i64 p1, .int .i64 p2] 24))) := t2.2.2
  have r1 := box_read t2.1
  have r2 := box_read t2.2.1
  clear t2
  have k34 := fun (p : After ((w.alloc (.cells #[.bool c0, .int .i64 c1, .int .i64 c2] 24)).alloc (.cells #[.bool p0, .int .i64 p1, .int .i64 p2] 24))) a b => all_b a b p.W
  have k43 := fun (p : After ((w.alloc (.cells #[.bool c0, .int .i64 c1, .int .i64 c2] 24)).alloc (.cells #[.bool p0, .int .i64 p1, .int .i64 p2] 24))) a b => some_b a b p.W
  haveI : Inhabited (After ((w.alloc (.cells #[.bool c0, .int .i64 c1, .int .i64 c2] 24)).alloc (.cells #[.bool p0, .int .i64 p1, .int .i64 p2] 24))) := ⟨⟨_, Below.refl _ _⟩⟩
  have hq := eql24
  cases p0 <;> cases c0
  all_goals
    unfold comes1
    go_enter Try.func51, Try.ntmps51
    go_wp2_with fail
    refine wp_region_after (by kernel_rfl) (by kernel_rfl) ?_
    repeat (go_big_quiet_step (first | (go_at_call 30; refine after_of (k34 _ _ _)) | (go_at_call 47; refine after_of (k43 _ _ _))))
    refine wpQuiet_nil ?_
    intro W hw'
    obtain ⟨⟨W, hW⟩, rfl⟩ := hw'
    clear r1 r2 k34 k43
    go_wp2
    go_ret
    exact ⟨rfl, HB.out.trans (hW.mono HB.out.size)⟩
set_option maxHeartbeats 2000000 in
set_option maxRecDepth 100000 in
theorem one5 (c0 p0 : Bool) (c1 c2 p1 p2 : Int) (w : World) (h1 : IntKind.i64.wrap (-p1) = -p1) (_h2 : IntKind.i64.wrap (-p2) = -p2) : Calls Try.prog 51 #[.int .i64 5, .agg #[.bool c0, .int .i64 c1, .int .i64 c2], .agg #[.bool p0, .int .i64 p1, .int .i64 p2]] w fun e w' => e = .returned (.bool (comes1 5 (c0, c1, c2) (p0, p1, p2))) ∧ Below w.heap.size w w' := by
  have t2 := two w (.cells #[.bool c0, .int .i64 c1, .int .i64 c2] 24) (.cells #[.bool p0, .int .i64 p1, .int .i64 p2] 24)
  have HB : Hid (Below w.heap.size w ((w.alloc (.cells #[.bool c0, .int .i64 c1, .int .i64 c2] 24)).alloc (.cells #[.bool p0, .int .i64 p1, .int .i64 p2] 24))) := t2.2.2
  have r1 := box_read t2.1
  have r2 := box_read t2.2.1
  clear t2
  have k34 := fun (p : After ((w.alloc (.cells #[.bool c0, .int .i64 c1, .int .i64 c2] 24)).alloc (.cells #[.bool p0, .int .i64 p1, .int .i64 p2] 24))) a b => all_b a b p.W
  have k43 := fun (p : After ((w.alloc (.cells #[.bool c0, .int .i64 c1, .int .i64 c2] 24)).alloc (.cells #[.bool p0, .int .i64 p1, .int .i64 p2] 24))) a b => some_b a b p.W
  haveI : Inhabited (After ((w.alloc (.cells #[.bool c0, .int .i64 c1, .int .i64 c2] 24)).alloc (.cells #[.bool p0, .int .i64 p1, .int .i64 p2] 24))) := ⟨⟨_, Below.refl _ _⟩⟩
  have hq := eql24
  cases p0 <;> cases c0 <;> cases hg : (p2 == -p1)
  all_goals
    unfold comes1
    dsimp only
    rw [hg]
    go_enter Try.func51, Try.ntmps51
    go_wp2_with fail
    refine wp_region_after (by kernel_rfl) (by kernel_rfl) ?_
    repeat (go_big_quiet_step (first | (go_at_call 30; refine after_of (k34 _ _ _)) | (go_at_call 47; refine after_of (k43 _ _ _))))
    refine wpQuiet_nil ?_
    intro W hw'
    obtain ⟨⟨W, hW⟩, rfl⟩ := hw'
    clear r1 r2 k34 k43
    go_wp2
    go_ret
    exact ⟨rfl, HB.out.trans (hW.mono HB.out.size)⟩
set_option maxHeartbeats 2000000 in
set_option maxRecDepth 100000 in
theorem one6 (c0 p0 : Bool) (c1 c2 p1 p2 : Int) (w : World) (_h1 : IntKind.i64.wrap (-p1) = -p1) (h2 : IntKind.i64.wrap (-p2) = -p2) : Calls Try.prog 51 #[.int .i64 6, .agg #[.bool c0, .int .i64 c1, .int .i64 c2], .agg #[.bool p0, .int .i64 p1, .int .i64 p2]] w fun e w' => e = .returned (.bool (comes1 6 (c0, c1, c2) (p0, p1, p2))) ∧ Below w.heap.size w w' := by
  have t2 := two w (.cells #[.bool c0, .int .i64 c1, .int .i64 c2] 24) (.cells #[.bool p0, .int .i64 p1, .int .i64 p2] 24)
  have HB : Hid (Below w.heap.size w ((w.alloc (.cells #[.bool c0, .int .i64 c1, .int .i64 c2] 24)).alloc (.cells #[.bool p0, .int .i64 p1, .int .i64 p2] 24))) := t2.2.2
  have r1 := box_read t2.1
  have r2 := box_read t2.2.1
  clear t2
  have k34 := fun (p : After ((w.alloc (.cells #[.bool c0, .int .i64 c1, .int .i64 c2] 24)).alloc (.cells #[.bool p0, .int .i64 p1, .int .i64 p2] 24))) a b => all_b a b p.W
  have k43 := fun (p : After ((w.alloc (.cells #[.bool c0, .int .i64 c1, .int .i64 c2] 24)).alloc (.cells #[.bool p0, .int .i64 p1, .int .i64 p2] 24))) a b => some_b a b p.W
  haveI : Inhabited (After ((w.alloc (.cells #[.bool c0, .int .i64 c1, .int .i64 c2] 24)).alloc (.cells #[.bool p0, .int .i64 p1, .int .i64 p2] 24))) := ⟨⟨_, Below.refl _ _⟩⟩
  have hq := eql24
  cases p0 <;> cases c0 <;> cases hg : (p1 == -p2)
  all_goals
    unfold comes1
    dsimp only
    rw [hg]
    go_enter Try.func51, Try.ntmps51
    go_wp2_with fail
    refine wp_region_after (by kernel_rfl) (by kernel_rfl) ?_
    repeat (go_big_quiet_step (first | (go_at_call 30; refine after_of (k34 _ _ _)) | (go_at_call 47; refine after_of (k43 _ _ _))))
    refine wpQuiet_nil ?_
    intro W hw'
    obtain ⟨⟨W, hW⟩, rfl⟩ := hw'
    clear r1 r2 k34 k43
    go_wp2
    go_ret
    exact ⟨rfl, HB.out.trans (hW.mono HB.out.size)⟩
set_option maxHeartbeats 2000000 in
set_option maxRecDepth 100000 in
theorem one7 (c0 p0 : Bool) (c1 c2 p1 p2 : Int) (w : World) (_h1 : IntKind.i64.wrap (-p1) = -p1) (_h2 : IntKind.i64.wrap (-p2) = -p2) : Calls Try.prog 51 #[.int .i64 7, .agg #[.bool c0, .int .i64 c1, .int .i64 c2], .agg #[.bool p0, .int .i64 p1, .int .i64 p2]] w fun e w' => e = .returned (.bool (comes1 7 (c0, c1, c2) (p0, p1, p2))) ∧ Below w.heap.size w w' := by
  have t2 := two w (.cells #[.bool c0, .int .i64 c1, .int .i64 c2] 24) (.cells #[.bool p0, .int .i64 p1, .int .i64 p2] 24)
  have HB : Hid (Below w.heap.size w ((w.alloc (.cells #[.bool c0, .int .i64 c1, .int .i64 c2] 24)).alloc (.cells #[.bool p0, .int .i64 p1, .int .i64 p2] 24))) := t2.2.2
  have r1 := box_read t2.1
  have r2 := box_read t2.2.1
  clear t2
  have k34 := fun (p : After ((w.alloc (.cells #[.bool c0, .int .i64 c1, .int .i64 c2] 24)).alloc (.cells #[.bool p0, .int .i64 p1, .int .i64 p2] 24))) a b => all_b a b p.W
  have k43 := fun (p : After ((w.alloc (.cells #[.bool c0, .int .i64 c1, .int .i64 c2] 24)).alloc (.cells #[.bool p0, .int .i64 p1, .int .i64 p2] 24))) a b => some_b a b p.W
  haveI : Inhabited (After ((w.alloc (.cells #[.bool c0, .int .i64 c1, .int .i64 c2] 24)).alloc (.cells #[.bool p0, .int .i64 p1, .int .i64 p2] 24))) := ⟨⟨_, Below.refl _ _⟩⟩
  have hq := eql24
  cases p0 <;> cases c0
  all_goals
    unfold comes1
    go_enter Try.func51, Try.ntmps51
    go_wp2_with fail
    refine wp_region_after (by kernel_rfl) (by kernel_rfl) ?_
    repeat (go_big_quiet_step (first | (go_at_call 30; refine after_of (k34 _ _ _)) | (go_at_call 47; refine after_of (k43 _ _ _))))
    refine wpQuiet_nil ?_
    intro W hw'
    obtain ⟨⟨W, hW⟩, rfl⟩ := hw'
    clear r1 r2 k34 k43
    go_wp2
    go_ret
    exact ⟨rfl, HB.out.trans (hW.mono HB.out.size)⟩
set_option maxHeartbeats 2000000 in
set_option maxRecDepth 100000 in
theorem one8 (c0 p0 : Bool) (c1 c2 p1 p2 : Int) (w : World) (_h1 : IntKind.i64.wrap (-p1) = -p1) (_h2 : IntKind.i64.wrap (-p2) = -p2) : Calls Try.prog 51 #[.int .i64 8, .agg #[.bool c0, .int .i64 c1, .int .i64 c2], .agg #[.bool p0, .int .i64 p1, .int .i64 p2]] w fun e w' => e = .returned (.bool (comes1 8 (c0, c1, c2) (p0, p1, p2))) ∧ Below w.heap.size w w' := by
  have t2 := two w (.cells #[.bool c0, .int .i64 c1, .int .i64 c2] 24) (.cells #[.bool p0, .int .i64 p1, .int .i64 p2] 24)
  have HB : Hid (Below w.heap.size w ((w.alloc (.cells #[.bool c0, .int .i64 c1, .int .i64 c2] 24)).alloc (.cells #[.bool p0, .int .i64 p1, .int .i64 p2] 24))) := t2.2.2
  have r1 := box_read t2.1
  have r2 := box_read t2.2.1
  clear t2
  have k34 := fun (p : After ((w.alloc (.cells #[.bool c0, .int .i64 c1, .int .i64 c2] 24)).alloc (.cells #[.bool p0, .int .i64 p1, .int .i64 p2] 24))) a b => all_b a b p.W
  have k43 := fun (p : After ((w.alloc (.cells #[.bool c0, .int .i64 c1, .int .i64 c2] 24)).alloc (.cells #[.bool p0, .int .i64 p1, .int .i64 p2] 24))) a b => some_b a b p.W
  haveI : Inhabited (After ((w.alloc (.cells #[.bool c0, .int .i64 c1, .int .i64 c2] 24)).alloc (.cells #[.bool p0, .int .i64 p1, .int .i64 p2] 24))) := ⟨⟨_, Below.refl _ _⟩⟩
  have hq := eql24
  cases p0 <;> cases c0
  all_goals
    unfold comes1
    go_enter Try.func51, Try.ntmps51
    go_wp2_with fail
    refine wp_region_after (by kernel_rfl) (by kernel_rfl) ?_
    repeat (go_big_quiet_step (first | (go_at_call 30; refine after_of (k34 _ _ _)) | (go_at_call 47; refine after_of (k43 _ _ _))))
    refine wpQuiet_nil ?_
    intro W hw'
    obtain ⟨⟨W, hW⟩, rfl⟩ := hw'
    clear r1 r2 k34 k43
    go_wp2
    go_ret
    exact ⟨rfl, HB.out.trans (hW.mono HB.out.size)⟩
set_option maxHeartbeats 2000000 in
theorem one_any (r : Int) (c p : C) (w : World) (h1 : IntKind.i64.wrap (-p.2.1) = -p.2.1) (h2 : IntKind.i64.wrap (-p.2.2) = -p.2.2) : Calls Try.prog 51 #[.int .i64 r, vc c, vc p] w fun e w' => e = .returned (.bool (comes1 r c p)) ∧ Below w.heap.size w w' := by
  obtain ⟨c0, c1, c2⟩ := c
  obtain ⟨p0, p1, p2⟩ := p
  unfold vc
  dsimp only at h1 h2 ⊢
  by_cases e4 : r = 4
  · subst e4; exact one4 c0 p0 c1 c2 p1 p2 w h1 h2
  by_cases e5 : r = 5
  · subst e5; exact one5 c0 p0 c1 c2 p1 p2 w h1 h2
  by_cases e6 : r = 6
  · subst e6; exact one6 c0 p0 c1 c2 p1 p2 w h1 h2
  by_cases e7 : r = 7
  · subst e7; exact one7 c0 p0 c1 c2 p1 p2 w h1 h2
  by_cases e8 : r = 8
  · subst e8; exact one8 c0 p0 c1 c2 p1 p2 w h1 h2
  have e : comes1 r (c0, c1, c2) (p0, p1, p2) = false := by unfold comes1; rw [if_neg e4, if_neg e5, if_neg e6, if_neg e7, if_neg e8]
  rw [e]
  have g4 : (r == 4) = false := by simpa using e4
  have g5 : (r == 5) = false := by simpa using e5
  have g6 : (r == 6) = false := by simpa using e6
  have g7 : (r == 7) = false := by simpa using e7
  have g8 : (r == 8) = false := by simpa using e8
  go_enter Try.func51, Try.ntmps51
  go_wp2
  go_ret
  exact ⟨rfl, (two w _ _).2.2⟩
end Go.Proofs.Ytcnanbimpajonaa.Co
