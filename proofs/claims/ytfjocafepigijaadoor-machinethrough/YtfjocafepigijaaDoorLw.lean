/- MachineThrough: at any two machines and any two texts the law returns true. Condition: the library's table lies as its text lays it. -/
import Derived.Test.YtfjocafepigijaaDoorLu
import Derived.Test.YtfjocafepigijaaDoorMbM
import Derived.Test.YtfjocafepigijaaDoorNx
import Derived.Deep.QuietTactic
import Derived.BigQuiet
import Derived.Deep.Cut
namespace Go.Proofs.YtfjocafepigijaaDoor.Lw
open Go.RowKit Mv Wk Sy Rz Mc Cu

structure After (w : World) where
 W : World
 h : Below w.heap.size w W
theorem wp_region_after {P : Program} {id : Nat} {Q : Exit → Act → World → Prop} {a : Act} {w : World} {l : List Oper} (hm : P.follows .mixedOrders = true) (hB : Region.lexB .any l.toArray = true)
  (h : wpQuiet P l.toArray (fun w' => ∃ p : After w, w' = p.W) (fun a' => ∀ w', (∃ p : After w, w' = p.W) → Q .normal a' w') l a) : (Code.region id l.toArray true).wp P Q a w :=
 wp_region_quiet (C := fun w' => ∃ p : After w, w' = p.W) hm hB ⟨⟨w.drew, (Below.refl _ _).drew⟩, rfl⟩ (by simpa using h)
theorem after_of {P : Program} {f : FuncId} {args : Array Value} {w : World} {p : After w} {v : Value}
  (h : Calls P f args p.W fun e w' => e = .returned v ∧ Below p.W.heap.size p.W w') : Calls P f args p.W fun e w'' => e = .returned v ∧ ∃ p' : After w, w'' = p'.W :=
 h.mono fun _ w' ⟨he, hb⟩ => ⟨he, ⟨w', p.h.trans (hb.mono p.h.size)⟩, rfl⟩
theorem boxes {w W : World} {a b c d e f : Value} (h : Below ((w.alloc (.cells #[a, b, c] 25)).alloc (.cells #[d, e, f] 25)).heap.size ((w.alloc (.cells #[a, b, c] 25)).alloc (.cells #[d, e, f] 25)) W) :
  Below w.heap.size w W ∧ (W.cell? ⟨w.heap.size, 0, none⟩ = some a ∧ W.cell? ⟨w.heap.size, 1, none⟩ = some b ∧ W.cell? ⟨w.heap.size, 2, none⟩ = some c) ∧ W.cell? ⟨w.heap.size + 1, 0, none⟩ = some d ∧ W.cell? ⟨w.heap.size + 1, 1, none⟩ = some e ∧ W.cell? ⟨w.heap.size + 1, 2, none⟩ = some f := by
 have h1 : Below (w.alloc (.cells #[a, b, c] 25)).heap.size (w.alloc (.cells #[a, b, c] 25)) W := ((Below.refl _ _).alloc (Nat.le_refl _) _).trans (h.mono (by simp))
 exact ⟨((Below.refl _ w).alloc (Nat.le_refl _) _).trans (h1.mono (by simp)), Mc.box3 h1, Mc.box3' h⟩
theorem both_zero {x y : Int} (h : both x y = 0) : x = 0 ∧ y = 0 := by
 unfold both at h
 split at h
 ·exact ⟨by assumption, h⟩
 ·exact absurd h (by assumption)

set_option maxHeartbeats 8000000 in
set_option maxRecDepth 100000 in
theorem main (a b : M) (inn out : List Int) (va vb : Value) (ai ao : Option Addr) (ci co : Nat) (w : World) (ha : IsM w va a) (hb : IsM w vb b) (hI : IsI w (.slice ai inn.length ci) inn) (hO : IsI w (.slice ao out.length co) out) (fa : fewB a = true) (fb : fewB b = true) (hl : inn.length + out.length ≤ 8) (hj : jn inn out = 0) (hT : TabAt 0 Lib.deBruijn64tab w) (hw0 : 0 < w.heap.size) :
  Calls Tryd.prog 4 #[va, vb, .slice ai inn.length ci, .slice ao out.length co] w fun e w' => e = .returned (.bool true) ∧ Below w.heap.size w w' := by
 obtain ⟨x0, hx0⟩ := checkP_ex a
 obtain ⟨y0, hy0⟩ := checkP_ex b
 obtain ⟨z, hz⟩ : ∃ z, both x0 y0 = z := ⟨_, rfl⟩
 have C7 : Hid (∀ W, Calls Tryd.prog 7 #[] W fun e W' => e = .returned (.bool true) ∧ Below W.heap.size W W') := fun W => Mb.begun_any Nx.field_any W
 have C8a : Hid (∀ W, Below w.heap.size w W → Calls Tryd.prog 8 #[va] W fun e W' => e = .returned (.bool true) ∧ Below W.heap.size W W') := fun W hW => by have := few_any a va W (ha.below hW); rwa [fa] at this
 have C8b : Hid (∀ W, Below w.heap.size w W → Calls Tryd.prog 8 #[vb] W fun e W' => e = .returned (.bool true) ∧ Below W.heap.size W W') := fun W hW => by have := few_any b vb W (hb.below hW); rwa [fb] at this
 have C15 : Hid (∀ W, Below w.heap.size w W → Calls Tryd.prog 15 #[.slice ai inn.length ci, .slice ao out.length co] W fun e W' => e = .returned (.int .i64 0) ∧ Below W.heap.size W W') := fun W hW => by have := joined_any inn out _ _ W (hI.below hW) (hO.below hW); rwa [hj] at this
 have C10a : Hid (∀ W, Below w.heap.size w W → Calls Tryd.prog 10 #[va] W fun e W' => e = .returned (.int .i64 x0) ∧ Below W.heap.size W W') := fun W hW => (CkR.check_any a va W (ha.below hW)).mono (fun e W' ⟨⟨x, h1, h2⟩, h3⟩ => ⟨by rw [h1, checkP_one h2 hx0], h3⟩)
 have C10b : Hid (∀ W, Below w.heap.size w W → Calls Tryd.prog 10 #[vb] W fun e W' => e = .returned (.int .i64 y0) ∧ Below W.heap.size W W') := fun W hW => (CkR.check_any b vb W (hb.below hW)).mono (fun e W' ⟨⟨x, h1, h2⟩, h3⟩ => ⟨by rw [h1, checkP_one h2 hy0], h3⟩)
 have C19a : Hid (∀ W, Below w.heap.size w W → Calls Tryd.prog 19 #[va] W fun e W' => e = .returned (.bool (lightP a)) ∧ Below W.heap.size W W') := fun W hW => light_any a va W (ha.below hW)
 have C19b : Hid (∀ W, Below w.heap.size w W → Calls Tryd.prog 19 #[vb] W fun e W' => e = .returned (.bool (lightP b)) ∧ Below W.heap.size W W') := fun W hW => light_any b vb W (hb.below hW)
 have PB : Hid (z ≠ 0 → ∀ want, Mk a b va vb (.slice ai inn.length ci) (.slice ao out.length co) w z want) := fun h want => by subst hz; exact mk_bad ha hb hx0 hy0 h _ _ want
 have PO : Hid (z = 0 → ∀ W, Below w.heap.size w W → Calls Tryd.prog 16 #[va, vb, .slice ai inn.length ci, .slice ao out.length co] W fun e w' => ∃ c : Nat, e = .returned (.int .i64 (c : Int)) ∧ Mk a b va vb (.slice ai inn.length ci) (.slice ao out.length co) w 0 (c : Int) ∧ Below W.heap.size W w') := fun h W hW => by
  obtain ⟨h1, h2⟩ := both_zero (hz.trans h)
  subst h1
  subst h2
  obtain ⟨SA, eA, _⟩ := few_facts hx0 fa
  obtain ⟨SB, eB, _⟩ := few_facts hy0 fb
  exact (pr_cost eA eB (ha.below hW) (hb.below hW) hx0 hy0 fa fb (hI.below hW) (hO.below hW) (by omega) (by omega)).mono fun e w' ⟨c, h1, h2, h3⟩ => ⟨c, h1, mk_ok eA eB ha hb hx0 hy0 fa fb hI hO (by omega) (by omega) h2 hT hw0, h3⟩
 have HZ : Hid (both x0 y0 = z) := hz
 have hli : inn.length ≤ 8 := by omega
 have hlo : out.length ≤ 8 := by omega
 clear hx0 hy0 hz hI hO fa fb hj hT hw0
 obtain ⟨a1, a2, rfl, ⟨_, aa, ca, rfl, _, _⟩, ⟨_, af, cf, rfl, _, _⟩⟩ := ha
 obtain ⟨b1, b2, rfl, ⟨_, ba, cb, rfl, _, _⟩, ⟨_, bf, cg, rfl, _, _⟩⟩ := hb
 obtain ⟨st, arcs, fins⟩ := a
 obtain ⟨st2, arcs2, fins2⟩ := b
 dsimp only at *
 have hl1 : ¬ (8 : Int) < (inn.length : Int) + (out.length : Int) := by omega
 go_enter Tryd.func4, Tryd.ntmps4
 go_upto_region 5 with (first
  | (go_at_call 7; (with_reducible refine (C7.out _).mono ?_); rintro e w3 ⟨rfl, hb3⟩; have q3 := boxes hb3; obtain ⟨hw3, ⟨q30, q31, q32⟩, q33, q34, q35⟩ := q3)
  | (go_at_call 8; (with_reducible refine (C8a.out w3 hw3).mono ?_); rintro e w4 ⟨rfl, hb4⟩; have hb4' := hb3.trans (hb4.mono hb3.size); have q4 := boxes hb4'; obtain ⟨hw4, ⟨q40, q41, q42⟩, q43, q44, q45⟩ := q4)
  | (go_at_call 8; (with_reducible refine (C8b.out w4 hw4).mono ?_); rintro e w5 ⟨rfl, hb5⟩; have hb5' := hb4'.trans (hb5.mono hb4'.size); have q5 := boxes hb5'; obtain ⟨hw5, ⟨q50, q51, q52⟩, q53, q54, q55⟩ := q5)
  | (go_at_call 15; (with_reducible refine (C15.out w5 hw5).mono ?_); rintro e w6 ⟨rfl, hb6⟩; have hb6' := hb5'.trans (hb6.mono hb5'.size); clear q30 q31 q32 q33 q34 q35 q40 q41 q42 q43 q44 q45 q50 q51 q52 q53 q54 q55))
 obtain ⟨w2, hw2⟩ : ∃ w2, (w.alloc (.cells #[.int .i64 st, .slice aa arcs.length ca, .slice af fins.length cf] 25)).alloc (.cells #[.int .i64 st2, .slice ba arcs2.length cb, .slice bf fins2.length cg] 25) = w2 := ⟨_, rfl⟩
 have QB : Hid (∀ W, Below w2.heap.size w2 W → Below w.heap.size w W ∧ (W.cell? ⟨w.heap.size, 0, none⟩ = some (.int .i64 st) ∧ W.cell? ⟨w.heap.size, 1, none⟩ = some (.slice aa arcs.length ca) ∧ W.cell? ⟨w.heap.size, 2, none⟩ = some (.slice af fins.length cf)) ∧ W.cell? ⟨w.heap.size + 1, 0, none⟩ = some (.int .i64 st2) ∧ W.cell? ⟨w.heap.size + 1, 1, none⟩ = some (.slice ba arcs2.length cb) ∧ W.cell? ⟨w.heap.size + 1, 2, none⟩ = some (.slice bf fins2.length cg)) := fun W h => by
  rw [← hw2] at h
  exact boxes h
 rw [hw2] at hb6'
 clear hw2 hb3 hb4 hb4' hb5 hb5' hb6 hw3 hw4 hw5 hl1
 have q6 := QB.out _ hb6'
 obtain ⟨hw6, ⟨q60, q61, q62⟩, q63, q64, q65⟩ := q6
 go_upto_if 40 with (go_at_call 10; (with_reducible refine (C10a.out w6 hw6).mono ?_); rintro e w7 ⟨rfl, hb7⟩; have h7 := hb6'.trans (hb7.mono hb6'.size); clear hb7 q60 q61 q62 q63 q64 q65)
 clear hb6' hw6
 go_cut [9] from 40 (fun s wx => s = .int .i64 z ∧ Below w2.heap.size w2 wx)
 case first =>
  have q7 := QB.out _ h7
  obtain ⟨hw7, _, q73, q74, q75⟩ := q7
  by_cases hx : x0 = 0
  ·have bx : (x0 == 0) = true := by simp [hx]
   have ez : y0 = z := by rw [← HZ.out]; unfold both; rw [if_pos hx]
   have EZ : Hid (y0 = z) := ez
   clear ez hx
   go_wp2_with (go_at_call 10; (with_reducible refine (C10b.out w7 hw7).mono ?_); rintro e w8 ⟨rfl, hb8⟩; have h8 := h7.trans (hb8.mono h7.size))
   go_meet
   exact ⟨by rw [EZ.out], h8⟩
  ·have bx : (x0 == 0) = false := by simp [hx]
   have ez : x0 = z := by rw [← HZ.out]; unfold both; rw [if_neg hx]
   have EZ : Hid (x0 = z) := ez
   clear ez hx
   go_wp2
   go_meet
   exact ⟨by rw [EZ.out], h7⟩
 case rest =>
  clear h7
  obtain ⟨rfl, h8⟩ := hcut
  go_upto_if 44 with fail
  go_cut [10] from 44 (fun s wx => (∃ want : Int, s = .int .i64 want ∧ Mk ⟨st, arcs, fins⟩ ⟨st2, arcs2, fins2⟩ (.agg #[.int .i64 st, .slice aa arcs.length ca, .slice af fins.length cf]) (.agg #[.int .i64 st2, .slice ba arcs2.length cb, .slice bf fins2.length cg]) (.slice ai inn.length ci) (.slice ao out.length co) w z want) ∧ Below w2.heap.size w2 wx)
  case first =>
   have q8 := QB.out _ h8
   obtain ⟨hw8, ⟨q80, q81, q82⟩, q83, q84, q85⟩ := q8
   by_cases hz : z = 0
   ·have bz : (z == 0) = true := by simp [hz]
    have K16 := PO.out hz _ hw8
    have HZ0 : Hid (z = 0) := hz
    clear hz
    go_wp2_with (go_at_call 16; (with_reducible refine K16.mono ?_); clear K16; rintro e w9 ⟨c, rfl, hm, hb9⟩; have h9 := h8.trans (hb9.mono h8.size); have HM : Hid (Mk ⟨st, arcs, fins⟩ ⟨st2, arcs2, fins2⟩ (.agg #[.int .i64 st, .slice aa arcs.length ca, .slice af fins.length cf]) (.agg #[.int .i64 st2, .slice ba arcs2.length cb, .slice bf fins2.length cg]) (.slice ai inn.length ci) (.slice ao out.length co) w 0 (c : Int)) := hm; clear hm)
    go_meet
    exact ⟨⟨_, rfl, by rw [HZ0.out]; exact HM.out⟩, h9⟩
   ·have bz : (z == 0) = false := by simp [hz]
    have HM : Hid (Mk ⟨st, arcs, fins⟩ ⟨st2, arcs2, fins2⟩ (.agg #[.int .i64 st, .slice aa arcs.length ca, .slice af fins.length cf]) (.agg #[.int .i64 st2, .slice ba arcs2.length cb, .slice bf fins2.length cg]) (.slice ai inn.length ci) (.slice ao out.length co) w z 1152921504606846976) := PB.out hz _
    clear hz
    go_wp2
    go_meet
    exact ⟨⟨_, rfl, HM.out⟩, h8⟩
  case rest =>
   clear h8
   obtain ⟨⟨want, rfl, hm⟩, h10⟩ := hcut
   obtain ⟨w10, hw10⟩ : ∃ w10, wc = w10 := ⟨_, rfl⟩
   rw [hw10] at h10 ⊢
   clear hw10 PB PO HZ C7 C8a C8b C15 C10a C10b
   have q := QB.out _ h10
   obtain ⟨hwP, ⟨q0, q1, q2⟩, q3, q4, q5⟩ := q
   have K17 := hm _ hwP
   have H10 : Hid (Below w2.heap.size w2 w10) := h10
   clear hm hwP h10
   go_upto_region 12 with (go_at_call 17; (with_reducible refine K17.mono ?_); clear K17; rintro e w11 ⟨n, a1, n1, k1, a2, n2, k2, g, rfl, hg, hb11⟩; have H11 : Hid (Below w2.heap.size w2 w11) := H10.out.trans (hb11.mono H10.out.size); have HG0 : Hid _ := hg; clear hg hb11)
   clear q0 q1 q2 q3 q4 q5 H10
   have HB12 : Hid (Below w2.heap.size w2 (w11.alloc (.cells #[.int .i64 n, .slice a1 n1 k1, .slice a2 n2 k2] 25))) := H11.out.trans (((Below.refl _ w11).alloc (Nat.le_refl _) _).mono H11.out.size)
   have HG : Hid (∀ W2, Below (w11.alloc (.cells #[.int .i64 n, .slice a1 n1 k1, .slice a2 n2 k2] 25)).heap.size (w11.alloc (.cells #[.int .i64 n, .slice a1 n1 k1, .slice a2 n2 k2] 25)) W2 → ∀ sm : Bool, (sm = true → lightP ⟨st, arcs, fins⟩ = true ∧ lightP ⟨st2, arcs2, fins2⟩ = true) → Calls Tryd.prog 18 #[.agg #[.int .i64 n, .slice a1 n1 k1, .slice a2 n2 k2], .int .i64 g, .int .i64 z, .bool sm, (.slice ai inn.length ci), (.slice ao out.length co), .int .i64 want] W2 fun r w' => r = .returned (.bool true) ∧ Below W2.heap.size W2 w') := fun W2 h2 => HG0.out W2 (((Below.refl _ w11).alloc (Nat.le_refl _) _).trans (h2.mono (by simp)))
   have HX : Hid ((w11.alloc (.cells #[.int .i64 n, .slice a1 n1 k1, .slice a2 n2 k2] 25)).heap[w11.heap.size]? = some (.cells #[.int .i64 n, .slice a1 n1 k1, .slice a2 n2 k2] 25 (0, 0))) := heap_alloc_new _ _
   generalize hV : w11.alloc (.cells #[.int .i64 n, .slice a1 n1 k1, .slice a2 n2 k2] 25) = w12 at *
   clear hV HG0 H11
   have r := fun p : After w12 => QB.out p.W (HB12.out.trans (p.h.mono HB12.out.size))
   have r0 := fun p : After w12 => (r p).2.1.1
   have r1 := fun p : After w12 => (r p).2.1.2.1
   have r2 := fun p : After w12 => (r p).2.1.2.2
   have r3 := fun p : After w12 => (r p).2.2.1
   have r4 := fun p : After w12 => (r p).2.2.2.1
   have r5 := fun p : After w12 => (r p).2.2.2.2
   have gx := fun p : After w12 => (p.h.block _ (Am.lt_at HX.out)).trans HX.out
   have g0 := fun p : After w12 => cell_of_row _ _ 0 _ _ _ (gx p)
   have g1 := fun p : After w12 => cell_of_row _ _ 1 _ _ _ (gx p)
   have g2 := fun p : After w12 => cell_of_row _ _ 2 _ _ _ (gx p)
   clear gx HX
   haveI : Inhabited (After w12) := ⟨⟨_, Below.refl _ _⟩⟩
   obtain ⟨la, hla⟩ : ∃ x, lightP ⟨st, arcs, fins⟩ = x := ⟨_, rfl⟩
   obtain ⟨lb, hlb⟩ : ∃ x, lightP ⟨st2, arcs2, fins2⟩ = x := ⟨_, rfl⟩
   rw [hla] at C19a HG
   rw [hlb] at C19b HG
   clear hla hlb
   cases la with
   | false =>
    have k19a := fun p : After w12 => C19a.out p.W (r p).1
    have k19b := fun p : After w12 => C19b.out p.W (r p).1
    have k18 := fun p : After w12 => HG.out p.W p.h false (by intro h; cases h)
    clear r
    refine wp_region_after (by kernel_rfl) (by kernel_rfl) ?_
    repeat (go_big_quiet_step (first | (go_at_call 19; (with_reducible refine after_of (k19a _))) | (go_at_call 19; (with_reducible refine after_of (k19b _))) | (go_at_call 18; (with_reducible refine after_of (k18 _)))))
    refine wpQuiet_nil ?_
    intro W hw'
    obtain ⟨⟨w13, h13⟩, rfl⟩ := hw'
    have hwE := (QB.out _ (HB12.out.trans (h13.mono HB12.out.size))).1
    clear r0 r1 r2 r3 r4 r5 g0 g1 g2 k19a k19b k18
    go_wp2
    go_ret
    exact ⟨rfl, hwE⟩
   | true =>
    cases lb with
    | false =>
     have k19a := fun p : After w12 => C19a.out p.W (r p).1
     have k19b := fun p : After w12 => C19b.out p.W (r p).1
     have k18 := fun p : After w12 => HG.out p.W p.h false (by intro h; cases h)
     clear r
     refine wp_region_after (by kernel_rfl) (by kernel_rfl) ?_
     repeat (go_big_quiet_step (first | (go_at_call 19; (with_reducible refine after_of (k19a _))) | (go_at_call 19; (with_reducible refine after_of (k19b _))) | (go_at_call 18; (with_reducible refine after_of (k18 _)))))
     refine wpQuiet_nil ?_
     intro W hw'
     obtain ⟨⟨w13, h13⟩, rfl⟩ := hw'
     have hwE := (QB.out _ (HB12.out.trans (h13.mono HB12.out.size))).1
     clear r0 r1 r2 r3 r4 r5 g0 g1 g2 k19a k19b k18
     go_wp2
     go_ret
     exact ⟨rfl, hwE⟩
    | true =>
     have k19a := fun p : After w12 => C19a.out p.W (r p).1
     have k19b := fun p : After w12 => C19b.out p.W (r p).1
     have k18 := fun p : After w12 => HG.out p.W p.h true (by exact fun _ => ⟨rfl, rfl⟩)
     clear r
     refine wp_region_after (by kernel_rfl) (by kernel_rfl) ?_
     repeat (go_big_quiet_step (first | (go_at_call 19; (with_reducible refine after_of (k19a _))) | (go_at_call 19; (with_reducible refine after_of (k19b _))) | (go_at_call 18; (with_reducible refine after_of (k18 _)))))
     refine wpQuiet_nil ?_
     intro W hw'
     obtain ⟨⟨w13, h13⟩, rfl⟩ := hw'
     have hwE := (QB.out _ (HB12.out.trans (h13.mono HB12.out.size))).1
     clear r0 r1 r2 r3 r4 r5 g0 g1 g2 k19a k19b k18
     go_wp2
     go_ret
     exact ⟨rfl, hwE⟩
set_option maxHeartbeats 4000000 in
set_option maxRecDepth 100000 in
theorem walk (a b : M) (inn out : List Int) (va vb : Value) (ai ao : Option Addr) (ci co : Nat) (w : World) (ha : IsM w va a) (hb : IsM w vb b) (hI : IsI w (.slice ai inn.length ci) inn) (hO : IsI w (.slice ao out.length co) out) (hT : TabAt 0 Lib.deBruijn64tab w) (hw0 : 0 < w.heap.size) :
  Calls Tryd.prog 4 #[va, vb, .slice ai inn.length ci, .slice ao out.length co] w fun e w' => e = .returned (.bool true) ∧ Below w.heap.size w w' := by
 by_cases hall : fewB a = true ∧ fewB b = true ∧ inn.length + out.length ≤ 8 ∧ jn inn out = 0
 ·exact main a b inn out va vb ai ao ci co w ha hb hI hO hall.1 hall.2.1 hall.2.2.1 hall.2.2.2 hT hw0
 have C4 : Hid (∀ W, Calls Tryd.prog 7 #[] W fun e W' => e = .returned (.bool true) ∧ Below W.heap.size W W') := fun W => Mb.begun_any Nx.field_any W
 have C5a := fun W (hW : Below w.heap.size w W) => few_any a va W (ha.below hW)
 have C5b := fun W (hW : Below w.heap.size w W) => few_any b vb W (hb.below hW)
 have C6 := fun W (hW : Below w.heap.size w W) => joined_any inn out _ _ W (hI.below hW) (hO.below hW)
 obtain ⟨j, hj⟩ : ∃ j, jn inn out = j := ⟨_, rfl⟩
 obtain ⟨xa, hxa⟩ : ∃ x, fewB a = x := ⟨_, rfl⟩
 obtain ⟨xb, hxb⟩ : ∃ x, fewB b = x := ⟨_, rfl⟩
 rw [hj] at C6 hall
 rw [hxa] at C5a hall
 rw [hxb] at C5b hall
 have hni : inn.length ≤ 140737488355328 := by obtain ⟨_, _, _, _, h, _⟩ := hI; exact h
 have hno : out.length ≤ 140737488355328 := by obtain ⟨_, _, _, _, h, _⟩ := hO; exact h
 clear hI hO hj hxa hxb hT hw0
 obtain ⟨a1, a2, rfl, ⟨_, aa, ca, rfl, _, _⟩, ⟨_, af, cf, rfl, _, _⟩⟩ := ha
 obtain ⟨b1, b2, rfl, ⟨_, ba, cb, rfl, _, _⟩, ⟨_, bf, cg, rfl, _, _⟩⟩ := hb
 obtain ⟨st, arcs, fins⟩ := a
 obtain ⟨st2, arcs2, fins2⟩ := b
 dsimp only at *
 cases xa with
 | false =>
  clear hall hni hno
  go_enter Tryd.func4, Tryd.ntmps4
  go_wp2_with (first
   | (go_at_call 7; (with_reducible refine (C4.out _).mono ?_); rintro e w3 ⟨rfl, hb3⟩; have q3 := boxes hb3; obtain ⟨hw3, ⟨q30, q31, q32⟩, q33, q34, q35⟩ := q3)
   | (go_at_call 8; (with_reducible refine (C5a w3 hw3).mono ?_); rintro e w4 ⟨rfl, hb4⟩; have hb4' := hb3.trans (hb4.mono hb3.size); have q4 := boxes hb4'; obtain ⟨hw4, ⟨q40, q41, q42⟩, q43, q44, q45⟩ := q4))
  repeat (go_quiet (fail); go_wp2)
  go_ret
  exact ⟨rfl, by first | exact hw4 | exact below_drewN hw4 _⟩
 | true =>
  cases xb with
  | false =>
   clear hall hni hno
   go_enter Tryd.func4, Tryd.ntmps4
   go_wp2_with (first
    | (go_at_call 7; (with_reducible refine (C4.out _).mono ?_); rintro e w3 ⟨rfl, hb3⟩; have q3 := boxes hb3; obtain ⟨hw3, ⟨q30, q31, q32⟩, q33, q34, q35⟩ := q3)
    | (go_at_call 8; (with_reducible refine (C5a w3 hw3).mono ?_); rintro e w4 ⟨rfl, hb4⟩; have hb4' := hb3.trans (hb4.mono hb3.size); have q4 := boxes hb4'; obtain ⟨hw4, ⟨q40, q41, q42⟩, q43, q44, q45⟩ := q4)
    | (go_at_call 8; (with_reducible refine (C5b w4 hw4).mono ?_); rintro e w5 ⟨rfl, hb5⟩; have hb5' := hb4'.trans (hb5.mono hb4'.size); have q5 := boxes hb5'; obtain ⟨hw5, ⟨q50, q51, q52⟩, q53, q54, q55⟩ := q5))
   repeat (go_quiet (fail); go_wp2)
   go_ret
   exact ⟨rfl, by first | exact hw5 | exact below_drewN hw5 _⟩
  | true =>
   by_cases hl : inn.length + out.length ≤ 8
   ·have hj : (j != 0) = true := by
     have : j ≠ 0 := fun h => hall ⟨rfl, rfl, hl, h⟩
     simpa using this
    have hl1 : ¬ (8 : Int) < (inn.length : Int) + (out.length : Int) := by omega
    have hli : inn.length ≤ 8 := by omega
    have hlo : out.length ≤ 8 := by omega
    clear hall hni hno
    go_enter Tryd.func4, Tryd.ntmps4
    go_wp2_with (first
     | (go_at_call 7; (with_reducible refine (C4.out _).mono ?_); rintro e w3 ⟨rfl, hb3⟩; have q3 := boxes hb3; obtain ⟨hw3, ⟨q30, q31, q32⟩, q33, q34, q35⟩ := q3)
     | (go_at_call 8; (with_reducible refine (C5a w3 hw3).mono ?_); rintro e w4 ⟨rfl, hb4⟩; have hb4' := hb3.trans (hb4.mono hb3.size); have q4 := boxes hb4'; obtain ⟨hw4, ⟨q40, q41, q42⟩, q43, q44, q45⟩ := q4)
     | (go_at_call 8; (with_reducible refine (C5b w4 hw4).mono ?_); rintro e w5 ⟨rfl, hb5⟩; have hb5' := hb4'.trans (hb5.mono hb4'.size); have q5 := boxes hb5'; obtain ⟨hw5, ⟨q50, q51, q52⟩, q53, q54, q55⟩ := q5)
     | (go_at_call 15; (with_reducible refine (C6 w5 hw5).mono ?_); rintro e w6 ⟨rfl, hb6⟩; have hb6' := hb5'.trans (hb6.mono hb5'.size); have q6 := boxes hb6'; obtain ⟨hw6, _⟩ := q6))
    repeat (go_quiet (fail); go_wp2)
    go_ret
    exact ⟨rfl, by first | exact hw6 | exact below_drewN hw6 _⟩
   ·have hl1 : (8 : Int) < (inn.length : Int) + (out.length : Int) := by omega
    clear hall
    go_enter Tryd.func4, Tryd.ntmps4
    go_wp2_with (first
     | (go_at_call 7; (with_reducible refine (C4.out _).mono ?_); rintro e w3 ⟨rfl, hb3⟩; have q3 := boxes hb3; obtain ⟨hw3, ⟨q30, q31, q32⟩, q33, q34, q35⟩ := q3)
     | (go_at_call 8; (with_reducible refine (C5a w3 hw3).mono ?_); rintro e w4 ⟨rfl, hb4⟩; have hb4' := hb3.trans (hb4.mono hb3.size); have q4 := boxes hb4'; obtain ⟨hw4, ⟨q40, q41, q42⟩, q43, q44, q45⟩ := q4)
     | (go_at_call 8; (with_reducible refine (C5b w4 hw4).mono ?_); rintro e w5 ⟨rfl, hb5⟩; have hb5' := hb4'.trans (hb5.mono hb4'.size); have q5 := boxes hb5'; obtain ⟨hw5, ⟨q50, q51, q52⟩, q53, q54, q55⟩ := q5))
    repeat (go_quiet (fail); go_wp2)
    go_ret
    exact ⟨rfl, by first | exact hw5 | exact below_drewN hw5 _⟩
end Go.Proofs.YtfjocafepigijaaDoor.Lw
