/- MachineMakes: where both machines are few, the texts have at most 8 symbols together and are right, the law returns true. Condition: what newField makes is as it is said (Nx). -/
import Derived.Test.YtegfhbjdfcoajaaGeM
import Derived.Test.YtegfhbjdfcoajaaMb
import Derived.Test.YtegfhbjdfcoajaaMl
import Derived.Test.YtegfhbjdfcoajaaSm
import Derived.Deep.QuietTactic
import Derived.BigQuiet
import Derived.Deep.Cut
namespace Go.Proofs.Ytegfhbjdfcoajaa.Lm
open Go.RowKit Mv Wk Sy Rz Bw Mc CR Pd Pr Gd Cq

theorem boxes {w W : World} {a b c d e f : Value} (h : Below ((w.alloc (.cells #[a, b, c] 25)).alloc (.cells #[d, e, f] 25)).heap.size ((w.alloc (.cells #[a, b, c] 25)).alloc (.cells #[d, e, f] 25)) W) :
    Below w.heap.size w W ∧ (W.cell? ⟨w.heap.size, 0, none⟩ = some a ∧ W.cell? ⟨w.heap.size, 1, none⟩ = some b ∧ W.cell? ⟨w.heap.size, 2, none⟩ = some c) ∧ W.cell? ⟨w.heap.size + 1, 0, none⟩ = some d ∧ W.cell? ⟨w.heap.size + 1, 1, none⟩ = some e ∧ W.cell? ⟨w.heap.size + 1, 2, none⟩ = some f := by
  have h1 : Below (w.alloc (.cells #[a, b, c] 25)).heap.size (w.alloc (.cells #[a, b, c] 25)) W := ((Below.refl _ _).alloc (Nat.le_refl _) _).trans (h.mono (by simp))
  exact ⟨((Below.refl _ w).alloc (Nat.le_refl _) _).trans (h1.mono (by simp)), Mc.box3 h1, Mc.box3' h⟩
/-- a machine is laid into its box -/
theorem laid4 {w1 : World} {g : Nat} {a b c x y z : Value} (h : w1.heap[g]? = some (.cells #[a, b, c] 25 (0, 0))) : (((w1.setCell ⟨g, 0, none⟩ x).setCell ⟨g, 1, none⟩ y).setCell ⟨g, 2, none⟩ z).heap[g]? = some (.cells #[x, y, z] 25 (0, 0)) ∧ Ko w1 (((w1.setCell ⟨g, 0, none⟩ x).setCell ⟨g, 1, none⟩ y).setCell ⟨g, 2, none⟩ z) g ∧ ∀ n w, n ≤ g → Below n w w1 → Below n w (((w1.setCell ⟨g, 0, none⟩ x).setCell ⟨g, 1, none⟩ y).setCell ⟨g, 2, none⟩ z) := by
  have e1 := heap_setCell_same w1 g 0 _ 25 x h
  have e2 := heap_setCell_same _ g 1 _ 25 y e1
  have e3 := heap_setCell_same _ g 2 _ 25 z e2
  refine ⟨e3, ⟨by simp, fun b hb _ => ?_⟩, fun n w hg hb => ((hb.setCell (p := ⟨g, 0, none⟩) hg x).setCell (p := ⟨g, 1, none⟩) hg y).setCell (p := ⟨g, 2, none⟩) hg z⟩
  rw [heap_setCell_other _ _ _ _ hb, heap_setCell_other _ _ _ _ hb, heap_setCell_other _ _ _ _ hb]
theorem min_if2 (x s : Nat) : (if s < x then (s : Int) else (x : Int)) = ((min x s : Nat) : Int) := by
  split <;> omega
theorem both_zero {x y : Int} (h : both x y = 0) : x = 0 ∧ y = 0 := by
  unfold both at h
  split at h
  · exact ⟨by assumption, h⟩
  · exact absurd h (by assumption)

set_option maxHeartbeats 8000000 in
set_option maxRecDepth 100000 in
theorem main (hfield : FieldOk) (a b : M) (inn out : List Int) (va vb : Value) (ai ao : Option Addr) (ci co : Nat) (w : World) (ha : IsM w va a) (hb : IsM w vb b) (hI : IsJ w ai ci inn) (hO : IsJ w ao co out) (fa : fewB a = true) (fb : fewB b = true) (hl : inn.length + out.length ≤ 8) (hj : jn inn out = 0) :
    Calls Try.prog 3 #[va, vb, .slice ai inn.length ci, .slice ao out.length co] w fun e w' => e = .returned (.bool true) ∧ Below w.heap.size w w' := by
  obtain ⟨x0, hx0⟩ := checkP_ex a
  obtain ⟨y0, hy0⟩ := checkP_ex b
  obtain ⟨z, hz⟩ : ∃ z, both x0 y0 = z := ⟨_, rfl⟩
  have C4 : Hid (∀ W, Calls Try.prog 4 #[] W fun e W' => e = .returned (.bool true) ∧ Below W.heap.size W W') := fun W => Mb.begun_any hfield W
  have C5a : Hid (∀ W, Below w.heap.size w W → Calls Try.prog 5 #[va] W fun e W' => e = .returned (.bool true) ∧ Below W.heap.size W W') := fun W hW => by have := few_any a va W (ha.below hW); rwa [fa] at this
  have C5b : Hid (∀ W, Below w.heap.size w W → Calls Try.prog 5 #[vb] W fun e W' => e = .returned (.bool true) ∧ Below W.heap.size W W') := fun W hW => by have := few_any b vb W (hb.below hW); rwa [fb] at this
  have C6 : Hid (∀ W, Below w.heap.size w W → Calls Try.prog 6 #[.slice ai inn.length ci, .slice ao out.length co] W fun e W' => e = .returned (.int .i64 0) ∧ Below W.heap.size W W') := fun W hW => by have := joined_any inn out _ _ W (hI.1.below hW) (hO.1.below hW); rwa [hj] at this
  have C7a : Hid (∀ W, Below w.heap.size w W → Calls Try.prog 7 #[va] W fun e W' => e = .returned (.int .i64 x0) ∧ Below W.heap.size W W') := fun W hW => (CkR.check_any a va W (ha.below hW)).mono (fun e W' ⟨⟨x, h1, h2⟩, h3⟩ => ⟨by rw [h1, checkP_one h2 hx0], h3⟩)
  have C7b : Hid (∀ W, Below w.heap.size w W → Calls Try.prog 7 #[vb] W fun e W' => e = .returned (.int .i64 y0) ∧ Below W.heap.size W W') := fun W hW => (CkR.check_any b vb W (hb.below hW)).mono (fun e W' ⟨⟨x, h1, h2⟩, h3⟩ => ⟨by rw [h1, checkP_one h2 hy0], h3⟩)
  have C8a : Hid (∀ W, Below w.heap.size w W → Calls Try.prog 8 #[va] W fun e W' => Tells e ∧ Below W.heap.size W W') := fun W hW => light_any a va W (ha.below hW)
  have C8b : Hid (∀ W, Below w.heap.size w W → Calls Try.prog 8 #[vb] W fun e W' => Tells e ∧ Below W.heap.size W W') := fun W hW => light_any b vb W (hb.below hW)
  have C15 : Hid (∀ W, Below w.heap.size w W → Calls Try.prog 15 #[.slice ai inn.length ci, .slice ao out.length co] W fun e W' => e = .returned (.bool (decide (inn = out))) ∧ Below W.heap.size W W') := fun W hW => Sm.same_any inn out _ _ W (hI.1.below hW) (hO.1.below hW) (by omega)
  have PB : Hid (z ≠ 0 → ∀ want, Makes 11 #[va, vb] (.slice ai inn.length ci) (.slice ao out.length co) w z want ∧ Makes 13 #[va, vb] (.slice ai inn.length ci) (.slice ao out.length co) w z want) := fun h want => by subst hz; exact Ge.pair_bad ha hb hx0 hy0 h _ _ want
  have PO : Hid (z = 0 → ∃ c1 c2 c3 : Nat, (∀ W, Below w.heap.size w W → Calls Try.prog 9 #[va, .slice ai inn.length ci, .slice ao out.length co, .bool true] W fun e w' => e = .returned (.int .i64 (c1 : Int)) ∧ Below W.heap.size W w') ∧
      (∀ W, Below w.heap.size w W → Calls Try.prog 9 #[vb, .slice ai inn.length ci, .slice ao out.length co, .bool true] W fun e w' => e = .returned (.int .i64 (c2 : Int)) ∧ Below W.heap.size W w') ∧
      (∀ W, Below w.heap.size w W → Calls Try.prog 10 #[va, vb, .slice ai inn.length ci, .slice ao out.length co] W fun e w' => e = .returned (.int .i64 (c3 : Int)) ∧ Below W.heap.size W w') ∧
      Makes 11 #[va, vb] (.slice ai inn.length ci) (.slice ao out.length co) w 0 ((min c1 c2 : Nat) : Int) ∧ Makes 13 #[va, vb] (.slice ai inn.length ci) (.slice ao out.length co) w 0 (c3 : Int)) := fun h => by
    obtain ⟨h1, h2⟩ := both_zero (hz.trans h)
    exact Ge.pair_ok ha hb (h1 ▸ hx0) (h2 ▸ hy0) fa fb (by omega) (by omega) hI hO
  have OB : Hid (x0 ≠ 0 → ∀ want, Makes 16 #[va] (.slice ai inn.length ci) (.slice ao out.length co) w x0 want ∧ Makes 17 #[va] (.slice ai inn.length ci) (.slice ao out.length co) w x0 want ∧ Makes 18 #[va] (.slice ai inn.length ci) (.slice ao out.length co) w x0 want) := fun h want => Ge.one_bad ha hx0 h _ _ want
  have OO : Hid (x0 = 0 → ∃ c4 c5 c6 : Nat, (∀ W, Below w.heap.size w W → Calls Try.prog 14 #[va, .slice ai inn.length ci, .slice ao out.length co] W fun e w' => e = .returned (.int .i64 (c4 : Int)) ∧ Below W.heap.size W w') ∧
      (∀ W, Below w.heap.size w W → Calls Try.prog 9 #[va, .slice ao out.length co, .slice ai inn.length ci, .bool true] W fun e w' => e = .returned (.int .i64 (c5 : Int)) ∧ Below W.heap.size W w') ∧
      (∀ W, Below w.heap.size w W → Calls Try.prog 9 #[va, .slice ai inn.length ci, .slice none 0 0, .bool false] W fun e w' => e = .returned (.int .i64 (c6 : Int)) ∧ Below W.heap.size W w') ∧
      Makes 16 #[va] (.slice ai inn.length ci) (.slice ao out.length co) w 0 (c4 : Int) ∧ Makes 17 #[va] (.slice ai inn.length ci) (.slice ao out.length co) w 0 (c5 : Int) ∧
      (inn = out → Makes 18 #[va] (.slice ai inn.length ci) (.slice ao out.length co) w 0 (c6 : Int)) ∧ (inn ≠ out → Makes 18 #[va] (.slice ai inn.length ci) (.slice ao out.length co) w 0 1152921504606846976)) := fun h => Ge.one_ok ha (h ▸ hx0) fa hl hI hO
  have HZ : Hid (both x0 y0 = z) := hz
  have hli : inn.length ≤ 8 := by omega
  have hlo : out.length ≤ 8 := by omega
  clear hx0 hy0 hz hI hO fa fb hj hfield
  obtain ⟨a1, a2, rfl, ⟨_, aa, ca, rfl, _, _⟩, ⟨_, af, cf, rfl, _, _⟩⟩ := ha
  obtain ⟨b1, b2, rfl, ⟨_, ba, cb, rfl, _, _⟩, ⟨_, bf, cg, rfl, _, _⟩⟩ := hb
  obtain ⟨st, arcs, fins⟩ := a
  obtain ⟨st2, arcs2, fins2⟩ := b
  dsimp only at *
  have hl1 : ¬ (8 : Int) < (inn.length : Int) + (out.length : Int) := by omega
  go_enter Try.func3, Try.ntmps3
  go_wp2_with (first
    | (go_at_call 4; (with_reducible refine (C4.out _).mono ?_); rintro e w3 ⟨rfl, hb3⟩; have q3 := boxes hb3; obtain ⟨hw3, ⟨q30, q31, q32⟩, q33, q34, q35⟩ := q3)
    | (go_at_call 5; (with_reducible refine (C5a.out w3 hw3).mono ?_); rintro e w4 ⟨rfl, hb4⟩; have hb4' := hb3.trans (hb4.mono hb3.size); have q4 := boxes hb4'; obtain ⟨hw4, ⟨q40, q41, q42⟩, q43, q44, q45⟩ := q4)
    | (go_at_call 5; (with_reducible refine (C5b.out w4 hw4).mono ?_); rintro e w5 ⟨rfl, hb5⟩; have hb5' := hb4'.trans (hb5.mono hb4'.size); have q5 := boxes hb5'; obtain ⟨hw5, ⟨q50, q51, q52⟩, q53, q54, q55⟩ := q5)
    | (go_at_call 6; (with_reducible refine (C6.out w5 hw5).mono ?_); rintro e w6 ⟨rfl, hb6⟩; have hb6' := hb5'.trans (hb6.mono hb5'.size); clear q30 q31 q32 q33 q34 q35 q40 q41 q42 q43 q44 q45 q50 q51 q52 q53 q54 q55))
  obtain ⟨w2, hw2⟩ : ∃ w2, (w.alloc (.cells #[.int .i64 st, .slice aa arcs.length ca, .slice af fins.length cf] 25)).alloc (.cells #[.int .i64 st2, .slice ba arcs2.length cb, .slice bf fins2.length cg] 25) = w2 := ⟨_, rfl⟩
  have QB : Hid (∀ W, Below w2.heap.size w2 W → Below w.heap.size w W ∧ (W.cell? ⟨w.heap.size, 0, none⟩ = some (.int .i64 st) ∧ W.cell? ⟨w.heap.size, 1, none⟩ = some (.slice aa arcs.length ca) ∧ W.cell? ⟨w.heap.size, 2, none⟩ = some (.slice af fins.length cf)) ∧ W.cell? ⟨w.heap.size + 1, 0, none⟩ = some (.int .i64 st2) ∧ W.cell? ⟨w.heap.size + 1, 1, none⟩ = some (.slice ba arcs2.length cb) ∧ W.cell? ⟨w.heap.size + 1, 2, none⟩ = some (.slice bf fins2.length cg)) := fun W h => by
    rw [← hw2] at h
    exact boxes h
  rw [hw2] at hb6'
  clear hw2 hb3 hb4 hb4' hb5 hb5' hb6 hw3 hw4 hw5
  have r := fun p : After w6 => QB.out p.W (hb6'.trans (p.h.mono hb6'.size))
  have r0 := fun p : After w6 => (r p).2.1.1
  have r1 := fun p : After w6 => (r p).2.1.2.1
  have r2 := fun p : After w6 => (r p).2.1.2.2
  have r3 := fun p : After w6 => (r p).2.2.1
  have r4 := fun p : After w6 => (r p).2.2.2.1
  have r5 := fun p : After w6 => (r p).2.2.2.2
  have k7a := fun p : After w6 => C7a.out p.W (r p).1
  have k7b := fun p : After w6 => C7b.out p.W (r p).1
  clear r
  haveI : Inhabited (After w6) := ⟨⟨_, Below.refl _ _⟩⟩
  refine wp_region_after (by kernel_rfl) (by kernel_rfl) ?_
  repeat (go_big_quiet_step (first | (go_at_call 7; (with_reducible refine after_of (k7a _))) | (go_at_call 7; (with_reducible refine after_of (k7b _)))))
  refine wpQuiet_nil ?_
  intro W hw'
  obtain ⟨⟨w7, h7⟩, rfl⟩ := hw'
  have h7' := hb6'.trans (h7.mono hb6'.size)
  clear r0 r1 r2 r3 r4 r5 k7a k7b h7 hb6'
  go_upto_if 50 with fail
  go_cut [11] from 50 (fun s wx => s = .int .i64 z ∧ Below w2.heap.size w2 wx)
  case first =>
    by_cases hx : x0 = 0
    · have bx : (x0 == 0) = true := by simp [hx]
      have ez : y0 = z := by rw [← HZ.out]; unfold both; rw [if_pos hx]
      have EZ : Hid (y0 = z) := ez
      clear ez hx
      go_wp2
      go_meet
      exact ⟨by rw [EZ.out], h7'⟩
    · have bx : (x0 == 0) = false := by simp [hx]
      have ez : x0 = z := by rw [← HZ.out]; unfold both; rw [if_neg hx]
      have EZ : Hid (x0 = z) := ez
      clear ez hx
      go_wp2
      go_meet
      exact ⟨by rw [EZ.out], h7'⟩
  case rest =>
    clear h7'
    obtain ⟨rfl, h8⟩ := hcut
    go_upto_region 9 with fail
    go_cut [12] from 52 (fun s wx => (∃ sm : Bool, s = .bool sm) ∧ Below w2.heap.size w2 wx)
    case first =>
      have q8 := QB.out _ h8
      obtain ⟨hw8, ⟨q80, q81, q82⟩, _⟩ := q8
      go_wp2_with (first
        | (go_at_call 8; (with_reducible refine (C8a.out _ hw8).mono ?_); rintro e w9 ⟨⟨b, rfl⟩, hb9⟩; have h9 := h8.trans (hb9.mono h8.size); have q9 := QB.out _ h9; obtain ⟨hw9, _, q93, q94, q95⟩ := q9)
        | (go_at_call 8; (with_reducible refine (C8b.out w9 hw9).mono ?_); rintro e w10 ⟨⟨b', rfl⟩, hb10⟩; have h10 := h9.trans (hb10.mono h9.size)))
      · go_meet
        exact ⟨⟨_, rfl⟩, by first | exact h9 | exact h10⟩
      · go_meet
        exact ⟨⟨_, rfl⟩, by first | exact h10 | exact h9⟩
    case rest =>
      clear h8
      obtain ⟨⟨sm, rfl⟩, h9⟩ := hcut
      go_upto_if 59 with fail
      go_cut [13, 14] from 59 (fun s t wx => (∃ ev cv : Int, s = .int .i64 ev ∧ t = .int .i64 cv ∧ Makes 11 #[(.agg #[.int .i64 st, .slice aa arcs.length ca, .slice af fins.length cf]), (.agg #[.int .i64 st2, .slice ba arcs2.length cb, .slice bf fins2.length cg])] (.slice ai inn.length ci) (.slice ao out.length co) w z ev ∧ Makes 13 #[(.agg #[.int .i64 st, .slice aa arcs.length ca, .slice af fins.length cf]), (.agg #[.int .i64 st2, .slice ba arcs2.length cb, .slice bf fins2.length cg])] (.slice ai inn.length ci) (.slice ao out.length co) w z cv) ∧ Below w2.heap.size w2 wx)
      case first =>
        by_cases hz : z = 0
        · obtain ⟨c1, c2, c3, k1, k2, k3, m1, m2⟩ := PO.out hz
          have bz : (z == 0) = true := by simp [hz]
          have HZ0 : Hid (z = 0) := hz
          have M1 : Hid (Makes 11 #[(.agg #[.int .i64 st, .slice aa arcs.length ca, .slice af fins.length cf]), (.agg #[.int .i64 st2, .slice ba arcs2.length cb, .slice bf fins2.length cg])] (.slice ai inn.length ci) (.slice ao out.length co) w 0 ((min c1 c2 : Nat) : Int) ∧ Makes 13 #[(.agg #[.int .i64 st, .slice aa arcs.length ca, .slice af fins.length cf]), (.agg #[.int .i64 st2, .slice ba arcs2.length cb, .slice bf fins2.length cg])] (.slice ai inn.length ci) (.slice ao out.length co) w 0 (c3 : Int)) := ⟨m1, m2⟩
          clear hz m1 m2
          obtain ⟨w9, hw9⟩ : ∃ w9, wc = w9 := ⟨_, rfl⟩
          rw [hw9] at h9 ⊢
          clear hw9
          go_wp2_with fail
          have r := fun p : After w9 => QB.out p.W (h9.trans (p.h.mono h9.size))
          have r0 := fun p : After w9 => (r p).2.1.1
          have r1 := fun p : After w9 => (r p).2.1.2.1
          have r2 := fun p : After w9 => (r p).2.1.2.2
          have r3 := fun p : After w9 => (r p).2.2.1
          have r4 := fun p : After w9 => (r p).2.2.2.1
          have r5 := fun p : After w9 => (r p).2.2.2.2
          haveI : Inhabited (After w9) := ⟨⟨_, Below.refl _ _⟩⟩
          have j1 := fun p : After w9 => k1 p.W (r p).1
          have j2 := fun p : After w9 => k2 p.W (r p).1
          have j3 := fun p : After w9 => k3 p.W (r p).1
          clear r k1 k2 k3
          refine wp_region_after (by kernel_rfl) (by kernel_rfl) ?_
          repeat (go_big_quiet_step (first | (go_at_call 9; (with_reducible refine after_of (j1 _))) | (go_at_call 9; (with_reducible refine after_of (j2 _))) | (go_at_call 10; (with_reducible refine after_of (j3 _)))))
          refine wpQuiet_nil ?_
          intro W hw'
          obtain ⟨⟨w10, h10⟩, rfl⟩ := hw'
          have h10' := h9.trans (h10.mono h9.size)
          clear r0 r1 r2 r3 r4 r5 j1 j2 j3
          go_wp2
          all_goals
            go_meet
            have HZ1 := HZ0.out
            subst HZ1
            refine ⟨⟨_, _, rfl, rfl, ?_, M1.out.2⟩, h10'⟩
            have m := M1.out.1
            first
              | (rw [show min c1 c2 = c2 by omega] at m; exact m)
              | (rw [show min c1 c2 = c1 by omega] at m; exact m)
        · have bz : (z == 0) = false := by simp [hz]
          have m := PB.out hz 1152921504606846976
          have M1 : Hid (Makes 11 #[(.agg #[.int .i64 st, .slice aa arcs.length ca, .slice af fins.length cf]), (.agg #[.int .i64 st2, .slice ba arcs2.length cb, .slice bf fins2.length cg])] (.slice ai inn.length ci) (.slice ao out.length co) w z 1152921504606846976 ∧ Makes 13 #[(.agg #[.int .i64 st, .slice aa arcs.length ca, .slice af fins.length cf]), (.agg #[.int .i64 st2, .slice ba arcs2.length cb, .slice bf fins2.length cg])] (.slice ai inn.length ci) (.slice ao out.length co) w z 1152921504606846976) := m
          clear hz m
          go_wp2
          go_meet
          exact ⟨⟨_, _, rfl, rfl, M1.out.1, M1.out.2⟩, h9⟩
      case rest =>
        clear h9
        obtain ⟨⟨ev, cv, rfl, rfl, m11, m13⟩, h10⟩ := hcut
        obtain ⟨w10, hw10⟩ : ∃ w10, wc = w10 := ⟨_, rfl⟩
        rw [hw10] at h10 ⊢
        clear hw10 PB PO HZ C4 C5a C5b C6 C7a C7b C8b
        have q := QB.out _ h10
        obtain ⟨hwP, ⟨q0, q1, q2⟩, q3, q4, q5⟩ := q
        go_wp2_with (first
          | (go_at_call 11; (with_reducible refine (m11.go _ hwP).mono ?_); rintro e w11 ⟨n, a1, n1, k1, a2, n2, k2, g, rfl, hg, hb11⟩; have h11 := h10.trans (hb11.mono h10.size); have hw11 := hwP.trans (hb11.mono hwP.size); have hbX := fun o => (Below.refl _ w11).alloc (Nat.le_refl _) o; clear q0 q1 q2 q3 q4 q5)
          | (go_at_call 12; (with_reducible refine (hg.go _ w11.heap.size (ko_below (hbX _)) (bx_new _) (hw11.trans ((hbX _).mono hw11.size)) sm).mono ?_); rintro e w12 ⟨rfl, hb12⟩; have hz12 : w11.heap.size < (w11.alloc (.cells #[.int .i64 n, .slice a1 n1 k1, .slice a2 n2 k2] 25)).heap.size := (by simp); have g12 := (hb12.block _ hz12).trans (heap_alloc_new w11 (.cells #[.int .i64 n, .slice a1 n1 k1, .slice a2 n2 k2] 25)); have h12 : Below w2.heap.size w2 w12 := (h11.trans ((hbX _).mono h11.size)).trans (hb12.mono (Nat.le_trans h11.size (Nat.le_of_lt hz12))); have q := QB.out _ h12; obtain ⟨hw12, ⟨q0, q1, q2⟩, q3, q4, q5⟩ := q; have lX : w11.heap.size < w12.heap.size := Nat.lt_of_lt_of_le hz12 hb12.size; have leX := h11.size; have leW := hw11.size; clear hb12 hbX hg hb11 hz12))
        obtain ⟨X, hX⟩ : ∃ X, w11.heap.size = X := ⟨_, rfl⟩
        rw [hX] at g12 lX leX leW ⊢
        have lX12 := lX
        clear hX h11 hw11 h10 hwP
        go_upto_if 105 with (first
          | (go_at_call 13; (with_reducible refine (m13.go _ hw12).mono ?_); rintro e w13 ⟨n13, a113, n113, k113, a213, n213, k213, gg13, rfl, hg13, hb13⟩; have h13 := h12.trans (hb13.mono h12.size); have hw13 := hw12.trans (hb13.mono hw12.size); have lX13 : X < w13.heap.size := Nat.lt_of_lt_of_le lX12 hb13.size; have g13 := (hb13.block X lX12).trans g12; have p0 := cell_of_row _ _ 0 _ _ _ g13; have p1 := cell_of_row _ _ 1 _ _ _ g13; have p2 := cell_of_row _ _ 2 _ _ _ g13; have f0 := frozen_of_row _ _ 0 _ _ g13; have f1 := frozen_of_row _ _ 1 _ _ g13; have f2 := frozen_of_row _ _ 2 _ _ g13; have L := laid4 (x := .int .i64 n13) (y := .slice a113 n113 k113) (z := .slice a213 n213 k213) g13; clear q0 q1 q2 q3 q4 q5)
          | (go_at_call 12; (with_reducible refine (hg13.go _ X L.2.1 (bx_laid g13) (L.2.2 _ _ leW hw13) sm).mono ?_); rintro e w14 ⟨rfl, hb14⟩; have g14 := (hb14.block X (Nat.lt_of_lt_of_le lX13 L.2.1.1)).trans L.1; have h14 : Below w2.heap.size w2 w14 := (L.2.2 _ _ leX h13).trans (hb14.mono (L.2.2 _ _ leX h13).size); have lX14 : X < w14.heap.size := Nat.lt_of_lt_of_le (Nat.lt_of_lt_of_le lX13 L.2.1.1) hb14.size; have q := QB.out _ h14; obtain ⟨hw14, ⟨q0, q1, q2⟩, q3, q4, q5⟩ := q; clear L g13 p0 p1 p2 f0 f1 f2 hb14 hg13 hb13))
        clear q0 q1 q2 q3 q4 q5
        go_cut [17, 18, 19] from 105 (fun s t u wx => (∃ rv tv sv : Int, s = .int .i64 rv ∧ t = .int .i64 tv ∧ u = .int .i64 sv ∧ Makes 16 #[(.agg #[.int .i64 st, .slice aa arcs.length ca, .slice af fins.length cf])] (.slice ai inn.length ci) (.slice ao out.length co) w x0 rv ∧ Makes 17 #[(.agg #[.int .i64 st, .slice aa arcs.length ca, .slice af fins.length cf])] (.slice ai inn.length ci) (.slice ao out.length co) w x0 tv ∧ Makes 18 #[(.agg #[.int .i64 st, .slice aa arcs.length ca, .slice af fins.length cf])] (.slice ai inn.length ci) (.slice ao out.length co) w x0 sv) ∧ Below w2.heap.size w2 wx ∧ X < wx.heap.size ∧ ∃ (n : Int) (a1 : Option Addr) (n1 k1 : Nat) (a2 : Option Addr) (n2 k2 : Nat), wx.heap[X]? = some (.cells #[.int .i64 n, .slice a1 n1 k1, .slice a2 n2 k2] 25 (0, 0)))
        case first =>
          by_cases hx : x0 = 0
          · obtain ⟨c4, c5, c6, k4, k5, k6, m4, m5, m6, m7⟩ := OO.out hx
            have bx : (x0 == 0) = true := by simp [hx]
            have HX0 : Hid (x0 = 0) := hx
            have K6 : Hid _ := k6
            have M1 : Hid (Makes 16 #[(.agg #[.int .i64 st, .slice aa arcs.length ca, .slice af fins.length cf])] (.slice ai inn.length ci) (.slice ao out.length co) w 0 (c4 : Int) ∧ Makes 17 #[(.agg #[.int .i64 st, .slice aa arcs.length ca, .slice af fins.length cf])] (.slice ai inn.length ci) (.slice ao out.length co) w 0 (c5 : Int) ∧ (inn = out → Makes 18 #[(.agg #[.int .i64 st, .slice aa arcs.length ca, .slice af fins.length cf])] (.slice ai inn.length ci) (.slice ao out.length co) w 0 (c6 : Int)) ∧ (inn ≠ out → Makes 18 #[(.agg #[.int .i64 st, .slice aa arcs.length ca, .slice af fins.length cf])] (.slice ai inn.length ci) (.slice ao out.length co) w 0 1152921504606846976)) := ⟨m4, m5, m6, m7⟩
            clear hx m4 m5 m6 m7 k6 OB
            go_wp2_with fail
            have r := fun p : After w14 => QB.out p.W (h14.trans (p.h.mono h14.size))
            have r0 := fun p : After w14 => (r p).2.1.1
            have r1 := fun p : After w14 => (r p).2.1.2.1
            have r2 := fun p : After w14 => (r p).2.1.2.2
            have r3 := fun p : After w14 => (r p).2.2.1
            have r4 := fun p : After w14 => (r p).2.2.2.1
            have r5 := fun p : After w14 => (r p).2.2.2.2
            haveI : Inhabited (After w14) := ⟨⟨_, Below.refl _ _⟩⟩
            have j1 := fun p : After w14 => k4 p.W (r p).1
            have j2 := fun p : After w14 => k5 p.W (r p).1
            clear r k4 k5
            refine wp_region_after (by kernel_rfl) (by kernel_rfl) ?_
            repeat (go_big_quiet_step (first | (go_at_call 14; (with_reducible refine after_of (j1 _))) | (go_at_call 9; (with_reducible refine after_of (j2 _)))))
            refine wpQuiet_nil ?_
            intro W hw'
            obtain ⟨⟨w15, hb15⟩, rfl⟩ := hw'
            have h15 := h14.trans (hb15.mono h14.size)
            have g15 := (hb15.block X lX14).trans g14
            have lX15 := Nat.lt_of_lt_of_le lX14 hb15.size
            have q := QB.out _ h15
            obtain ⟨hw15, ⟨q0, q1, q2⟩, q3, q4, q5⟩ := q
            clear r0 r1 r2 r3 r4 r5 j1 j2 hb15
            by_cases hs : inn = out
            · have ds : decide (inn = out) = true := decide_eq_true hs
              have M6 : Hid (Makes 18 #[(.agg #[.int .i64 st, .slice aa arcs.length ca, .slice af fins.length cf])] (.slice ai inn.length ci) (.slice ao out.length co) w 0 (c6 : Int)) := M1.out.2.2.1 hs
              have D15 := C15.out
              rw [ds] at D15
              clear hs ds
              go_wp2_with (first
                | (go_at_call 15; (with_reducible refine (D15 _ hw15).mono ?_); rintro e w16 ⟨rfl, hb16⟩; have h16 := h15.trans (hb16.mono h15.size); have g16 := (hb16.block X lX15).trans g15; have lX16 : X < w16.heap.size := Nat.lt_of_lt_of_le lX15 hb16.size; clear q0 q1 q2 q3 q4 q5; have q := QB.out _ h16; obtain ⟨hw16, ⟨q0, q1, q2⟩, q3, q4, q5⟩ := q)
                | (go_at_call 9; (with_reducible refine (K6.out _ hw16).mono ?_); rintro e w17 ⟨rfl, hb17⟩; have h17 := h16.trans (hb17.mono h16.size); have g17 := (hb17.block X lX16).trans g16; have lX17 : X < w17.heap.size := Nat.lt_of_lt_of_le lX16 hb17.size))
              go_meet
              have HX1 := HX0.out
              subst HX1
              exact ⟨⟨_, _, _, rfl, rfl, rfl, M1.out.1, M1.out.2.1, M6.out⟩, h17, lX17, _, _, _, _, _, _, _, g17⟩
            · have ds : decide (inn = out) = false := decide_eq_false hs
              have M6 : Hid (Makes 18 #[(.agg #[.int .i64 st, .slice aa arcs.length ca, .slice af fins.length cf])] (.slice ai inn.length ci) (.slice ao out.length co) w 0 1152921504606846976) := M1.out.2.2.2 hs
              have D15 := C15.out
              rw [ds] at D15
              clear hs ds
              go_wp2_with (go_at_call 15; (with_reducible refine (D15 _ hw15).mono ?_); rintro e w16 ⟨rfl, hb16⟩; have h16 := h15.trans (hb16.mono h15.size); have g16 := (hb16.block X lX15).trans g15; have lX16 : X < w16.heap.size := Nat.lt_of_lt_of_le lX15 hb16.size)
              go_meet
              have HX1 := HX0.out
              subst HX1
              exact ⟨⟨_, _, _, rfl, rfl, rfl, M1.out.1, M1.out.2.1, M6.out⟩, h16, lX16, _, _, _, _, _, _, _, g16⟩
          · have bx : (x0 == 0) = false := by simp [hx]
            have m := OB.out hx 1152921504606846976
            have M1 : Hid (Makes 16 #[(.agg #[.int .i64 st, .slice aa arcs.length ca, .slice af fins.length cf])] (.slice ai inn.length ci) (.slice ao out.length co) w x0 1152921504606846976 ∧ Makes 17 #[(.agg #[.int .i64 st, .slice aa arcs.length ca, .slice af fins.length cf])] (.slice ai inn.length ci) (.slice ao out.length co) w x0 1152921504606846976 ∧ Makes 18 #[(.agg #[.int .i64 st, .slice aa arcs.length ca, .slice af fins.length cf])] (.slice ai inn.length ci) (.slice ao out.length co) w x0 1152921504606846976) := m
            clear hx m
            go_wp2
            go_meet
            exact ⟨⟨_, _, _, rfl, rfl, rfl, M1.out.1, M1.out.2.1, M1.out.2.2⟩, h14, lX14, _, _, _, _, _, _, _, g14⟩
        case rest =>
          clear g14 h14 lX14 hw14 OO OB C15 g12 h12 hw12 h13 hw13 lX13
          obtain ⟨⟨rv, tv, sv, rfl, rfl, rfl, m16, m17, m18⟩, h20, lX20, n, a1, n1, k1, a2, n2, k2, g20⟩ := hcut
          obtain ⟨w20, hw20'⟩ : ∃ w20, wc = w20 := ⟨_, rfl⟩
          rw [hw20'] at h20 lX20 g20 ⊢
          clear hw20'
          have q := QB.out _ h20
          obtain ⟨hw20, ⟨q0, q1, q2⟩, q3, q4, q5⟩ := q
          go_wp2_with (go_at_call 8; (with_reducible refine (C8a.out _ hw20).mono ?_); rintro e w21 ⟨⟨sm2, rfl⟩, hb21⟩; have h21 := h20.trans (hb21.mono h20.size); have g21 := (hb21.block X lX20).trans g20; have lX21 : X < w21.heap.size := Nat.lt_of_lt_of_le lX20 hb21.size; clear q0 q1 q2 q3 q4 q5; have q := QB.out _ h21; obtain ⟨hw21, ⟨q0, q1, q2⟩, q3, q4, q5⟩ := q)
          go_wp2_with (first
            | (go_at_call 16; (with_reducible refine (m16.go _ hw21).mono ?_); rintro e w22 ⟨n22, a122, n122, k122, a222, n222, k222, gg22, rfl, hg22, hb22⟩; have h22 := h21.trans (hb22.mono h21.size); have hw22 := hw21.trans (hb22.mono hw21.size); have lX22 : X < w22.heap.size := Nat.lt_of_lt_of_le lX21 hb22.size; have g22 := (hb22.block X lX21).trans g21; have p0 := cell_of_row _ _ 0 _ _ _ g22; have p1 := cell_of_row _ _ 1 _ _ _ g22; have p2 := cell_of_row _ _ 2 _ _ _ g22; have f0 := frozen_of_row _ _ 0 _ _ g22; have f1 := frozen_of_row _ _ 1 _ _ g22; have f2 := frozen_of_row _ _ 2 _ _ g22; have L := laid4 (x := .int .i64 n22) (y := .slice a122 n122 k122) (z := .slice a222 n222 k222) g22; clear q0 q1 q2 q3 q4 q5)
            | (go_at_call 12; (with_reducible refine (hg22.go _ X L.2.1 (bx_laid g22) (L.2.2 _ _ leW hw22) sm2).mono ?_); rintro e w23 ⟨rfl, hb23⟩; have g23 := (hb23.block X (Nat.lt_of_lt_of_le lX22 L.2.1.1)).trans L.1; have h23 : Below w2.heap.size w2 w23 := (L.2.2 _ _ leX h22).trans (hb23.mono (L.2.2 _ _ leX h22).size); have lX23 : X < w23.heap.size := Nat.lt_of_lt_of_le (Nat.lt_of_lt_of_le lX22 L.2.1.1) hb23.size; have q := QB.out _ h23; obtain ⟨hw23, ⟨q0, q1, q2⟩, q3, q4, q5⟩ := q; clear L g22 p0 p1 p2 f0 f1 f2 hb23 hg22 hb22))
          go_wp2_with (first
            | (go_at_call 17; (with_reducible refine (m17.go _ hw23).mono ?_); rintro e w24 ⟨n24, a124, n124, k124, a224, n224, k224, gg24, rfl, hg24, hb24⟩; have h24 := h23.trans (hb24.mono h23.size); have hw24 := hw23.trans (hb24.mono hw23.size); have lX24 : X < w24.heap.size := Nat.lt_of_lt_of_le lX23 hb24.size; have g24 := (hb24.block X lX23).trans g23; have p0 := cell_of_row _ _ 0 _ _ _ g24; have p1 := cell_of_row _ _ 1 _ _ _ g24; have p2 := cell_of_row _ _ 2 _ _ _ g24; have f0 := frozen_of_row _ _ 0 _ _ g24; have f1 := frozen_of_row _ _ 1 _ _ g24; have f2 := frozen_of_row _ _ 2 _ _ g24; have L := laid4 (x := .int .i64 n24) (y := .slice a124 n124 k124) (z := .slice a224 n224 k224) g24; clear q0 q1 q2 q3 q4 q5)
            | (go_at_call 12; (with_reducible refine (hg24.go _ X L.2.1 (bx_laid g24) (L.2.2 _ _ leW hw24) sm2).mono ?_); rintro e w25 ⟨rfl, hb25⟩; have g25 := (hb25.block X (Nat.lt_of_lt_of_le lX24 L.2.1.1)).trans L.1; have h25 : Below w2.heap.size w2 w25 := (L.2.2 _ _ leX h24).trans (hb25.mono (L.2.2 _ _ leX h24).size); have lX25 : X < w25.heap.size := Nat.lt_of_lt_of_le (Nat.lt_of_lt_of_le lX24 L.2.1.1) hb25.size; have q := QB.out _ h25; obtain ⟨hw25, ⟨q0, q1, q2⟩, q3, q4, q5⟩ := q; clear L g24 p0 p1 p2 f0 f1 f2 hb25 hg24 hb24))
          go_wp2_with (first
            | (go_at_call 18; (with_reducible refine (m18.go _ hw25).mono ?_); rintro e w26 ⟨n26, a126, n126, k126, a226, n226, k226, gg26, rfl, hg26, hb26⟩; have h26 := h25.trans (hb26.mono h25.size); have hw26 := hw25.trans (hb26.mono hw25.size); have lX26 : X < w26.heap.size := Nat.lt_of_lt_of_le lX25 hb26.size; have g26 := (hb26.block X lX25).trans g25; have p0 := cell_of_row _ _ 0 _ _ _ g26; have p1 := cell_of_row _ _ 1 _ _ _ g26; have p2 := cell_of_row _ _ 2 _ _ _ g26; have f0 := frozen_of_row _ _ 0 _ _ g26; have f1 := frozen_of_row _ _ 1 _ _ g26; have f2 := frozen_of_row _ _ 2 _ _ g26; have L := laid4 (x := .int .i64 n26) (y := .slice a126 n126 k126) (z := .slice a226 n226 k226) g26; clear q0 q1 q2 q3 q4 q5)
            | (go_at_call 12; (with_reducible refine (hg26.go _ X L.2.1 (bx_laid g26) (L.2.2 _ _ leW hw26) sm2).mono ?_); rintro e w27 ⟨rfl, hb27⟩; have g27 := (hb27.block X (Nat.lt_of_lt_of_le lX26 L.2.1.1)).trans L.1; have h27 : Below w2.heap.size w2 w27 := (L.2.2 _ _ leX h26).trans (hb27.mono (L.2.2 _ _ leX h26).size); have lX27 : X < w27.heap.size := Nat.lt_of_lt_of_le (Nat.lt_of_lt_of_le lX26 L.2.1.1) hb27.size; have q := QB.out _ h27; obtain ⟨hw27, ⟨q0, q1, q2⟩, q3, q4, q5⟩ := q; clear L g26 p0 p1 p2 f0 f1 f2 hb27 hg26 hb26))
          go_ret
          exact ⟨rfl, hw27⟩
end Go.Proofs.Ytegfhbjdfcoajaa.Lm
/- MachineMakes: at any two machines and any two texts the law returns true. Conditions: what newField makes is as it is said (Nx); each text is no longer than its capacity. -/
namespace Go.Proofs.Ytegfhbjdfcoajaa.Ln
open Go.RowKit Mv Wk Sy Rz Bw Mc CR Pd Pr Gd Cq Lm

set_option maxHeartbeats 4000000 in
set_option maxRecDepth 100000 in
theorem walk (hfield : FieldOk) (a b : M) (inn out : List Int) (va vb : Value) (ai ao : Option Addr) (ci co : Nat) (w : World) (ha : IsM w va a) (hb : IsM w vb b) (hI : IsJ w ai ci inn) (hO : IsJ w ao co out) :
    Calls Try.prog 3 #[va, vb, .slice ai inn.length ci, .slice ao out.length co] w fun e w' => e = .returned (.bool true) ∧ Below w.heap.size w w' := by
  by_cases hall : fewB a = true ∧ fewB b = true ∧ inn.length + out.length ≤ 8 ∧ jn inn out = 0
  · exact main hfield a b inn out va vb ai ao ci co w ha hb hI hO hall.1 hall.2.1 hall.2.2.1 hall.2.2.2
  have C4 : Hid (∀ W, Calls Try.prog 4 #[] W fun e W' => e = .returned (.bool true) ∧ Below W.heap.size W W') := fun W => Mb.begun_any hfield W
  have C5a := fun W (hW : Below w.heap.size w W) => few_any a va W (ha.below hW)
  have C5b := fun W (hW : Below w.heap.size w W) => few_any b vb W (hb.below hW)
  have C6 := fun W (hW : Below w.heap.size w W) => joined_any inn out _ _ W (hI.1.below hW) (hO.1.below hW)
  obtain ⟨j, hj⟩ : ∃ j, jn inn out = j := ⟨_, rfl⟩
  obtain ⟨xa, hxa⟩ : ∃ x, fewB a = x := ⟨_, rfl⟩
  obtain ⟨xb, hxb⟩ : ∃ x, fewB b = x := ⟨_, rfl⟩
  rw [hj] at C6 hall
  rw [hxa] at C5a hall
  rw [hxb] at C5b hall
  have hni : inn.length ≤ 140737488355328 := by obtain ⟨⟨_, _, _, _, h, _⟩, _⟩ := hI; exact h
  have hno : out.length ≤ 140737488355328 := by obtain ⟨⟨_, _, _, _, h, _⟩, _⟩ := hO; exact h
  clear hI hO hj hxa hxb hfield
  obtain ⟨a1, a2, rfl, ⟨_, aa, ca, rfl, _, _⟩, ⟨_, af, cf, rfl, _, _⟩⟩ := ha
  obtain ⟨b1, b2, rfl, ⟨_, ba, cb, rfl, _, _⟩, ⟨_, bf, cg, rfl, _, _⟩⟩ := hb
  obtain ⟨st, arcs, fins⟩ := a
  obtain ⟨st2, arcs2, fins2⟩ := b
  dsimp only at *
  cases xa with
  | false =>
    clear hall hni hno
    go_enter Try.func3, Try.ntmps3
    go_wp2_with (first
      | (go_at_call 4; (with_reducible refine (C4.out _).mono ?_); rintro e w3 ⟨rfl, hb3⟩; have q3 := boxes hb3; obtain ⟨hw3, ⟨q30, q31, q32⟩, q33, q34, q35⟩ := q3)
      | (go_at_call 5; (with_reducible refine (C5a w3 hw3).mono ?_); rintro e w4 ⟨rfl, hb4⟩; have hb4' := hb3.trans (hb4.mono hb3.size); have q4 := boxes hb4'; obtain ⟨hw4, ⟨q40, q41, q42⟩, q43, q44, q45⟩ := q4))
    repeat (go_quiet (fail); go_wp2)
    go_ret
    exact ⟨rfl, by first | exact hw4 | exact below_drewN hw4 _⟩
  | true =>
    cases xb with
    | false =>
      clear hall hni hno
      go_enter Try.func3, Try.ntmps3
      go_wp2_with (first
        | (go_at_call 4; (with_reducible refine (C4.out _).mono ?_); rintro e w3 ⟨rfl, hb3⟩; have q3 := boxes hb3; obtain ⟨hw3, ⟨q30, q31, q32⟩, q33, q34, q35⟩ := q3)
        | (go_at_call 5; (with_reducible refine (C5a w3 hw3).mono ?_); rintro e w4 ⟨rfl, hb4⟩; have hb4' := hb3.trans (hb4.mono hb3.size); have q4 := boxes hb4'; obtain ⟨hw4, ⟨q40, q41, q42⟩, q43, q44, q45⟩ := q4)
        | (go_at_call 5; (with_reducible refine (C5b w4 hw4).mono ?_); rintro e w5 ⟨rfl, hb5⟩; have hb5' := hb4'.trans (hb5.mono hb4'.size); have q5 := boxes hb5'; obtain ⟨hw5, ⟨q50, q51, q52⟩, q53, q54, q55⟩ := q5))
      repeat (go_quiet (fail); go_wp2)
      go_ret
      exact ⟨rfl, by first | exact hw5 | exact below_drewN hw5 _⟩
    | true =>
      by_cases hl : inn.length + out.length ≤ 8
      · have hj : (j != 0) = true := by
          have : j ≠ 0 := fun h => hall ⟨rfl, rfl, hl, h⟩
          simpa using this
        have hl1 : ¬ (8 : Int) < (inn.length : Int) + (out.length : Int) := by omega
        have hli : inn.length ≤ 8 := by omega
        have hlo : out.length ≤ 8 := by omega
        clear hall hni hno
        go_enter Try.func3, Try.ntmps3
        go_wp2_with (first
          | (go_at_call 4; (with_reducible refine (C4.out _).mono ?_); rintro e w3 ⟨rfl, hb3⟩; have q3 := boxes hb3; obtain ⟨hw3, ⟨q30, q31, q32⟩, q33, q34, q35⟩ := q3)
          | (go_at_call 5; (with_reducible refine (C5a w3 hw3).mono ?_); rintro e w4 ⟨rfl, hb4⟩; have hb4' := hb3.trans (hb4.mono hb3.size); have q4 := boxes hb4'; obtain ⟨hw4, ⟨q40, q41, q42⟩, q43, q44, q45⟩ := q4)
          | (go_at_call 5; (with_reducible refine (C5b w4 hw4).mono ?_); rintro e w5 ⟨rfl, hb5⟩; have hb5' := hb4'.trans (hb5.mono hb4'.size); have q5 := boxes hb5'; obtain ⟨hw5, ⟨q50, q51, q52⟩, q53, q54, q55⟩ := q5)
          | (go_at_call 6; (with_reducible refine (C6 w5 hw5).mono ?_); rintro e w6 ⟨rfl, hb6⟩; have hb6' := hb5'.trans (hb6.mono hb5'.size); have q6 := boxes hb6'; obtain ⟨hw6, _⟩ := q6))
        repeat (go_quiet (fail); go_wp2)
        go_ret
        exact ⟨rfl, by first | exact hw6 | exact below_drewN hw6 _⟩
      · have hl1 : (8 : Int) < (inn.length : Int) + (out.length : Int) := by omega
        clear hall
        go_enter Try.func3, Try.ntmps3
        go_wp2_with (first
          | (go_at_call 4; (with_reducible refine (C4.out _).mono ?_); rintro e w3 ⟨rfl, hb3⟩; have q3 := boxes hb3; obtain ⟨hw3, ⟨q30, q31, q32⟩, q33, q34, q35⟩ := q3)
          | (go_at_call 5; (with_reducible refine (C5a w3 hw3).mono ?_); rintro e w4 ⟨rfl, hb4⟩; have hb4' := hb3.trans (hb4.mono hb3.size); have q4 := boxes hb4'; obtain ⟨hw4, ⟨q40, q41, q42⟩, q43, q44, q45⟩ := q4)
          | (go_at_call 5; (with_reducible refine (C5b w4 hw4).mono ?_); rintro e w5 ⟨rfl, hb5⟩; have hb5' := hb4'.trans (hb5.mono hb4'.size); have q5 := boxes hb5'; obtain ⟨hw5, ⟨q50, q51, q52⟩, q53, q54, q55⟩ := q5))
        repeat (go_quiet (fail); go_wp2)
        go_ret
        exact ⟨rfl, by first | exact hw5 | exact below_drewN hw5 _⟩
end Go.Proofs.Ytegfhbjdfcoajaa.Ln
