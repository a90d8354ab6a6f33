/- What the law MachineThrough knows of Through, of the cost of a walk through both machines, and of right. Conditions: as each says. -/
import Derived.Test.YtfjocafepigijaaDoorLt
import Derived.Test.YtfjocafepigijaaDoorTn
import Derived.Test.YtfjocafepigijaaDoorMlM
namespace Go.Proofs.YtfjocafepigijaaDoor.Cu
open Go.RowKit Mv Wd Mp Ra Am Tc Mc Wk Sy Rz Th
open CR (nc)

set_option maxHeartbeats 4000000 in
set_option maxRecDepth 100000 in
/-- Through of what is refused -/
theorem thr_bad (a b : M) (va vb : Value) (x y : Int) (w : World) (ha : IsM w va a) (hb : IsM w vb b) (hx : checkP a x) (hy : checkP b y) (hne : Mc.both x y ≠ 0) :
  Calls Tryd.prog 17 #[va, vb] w fun e w' => e = .returned (.tuple #[.agg #[.int .i64 0, .slice none 0 0, .slice none 0 0], .int .i64 (Mc.both x y)]) ∧ Below w.heap.size w w' := by
 have K0 := fun W (hW : Below w.heap.size w W) => Mc.both_any a b va vb x y W (ha.below hW) (hb.below hW) hx hy
 obtain ⟨z, hz⟩ : ∃ z, Mc.both x y = z := ⟨_, rfl⟩
 rw [hz] at K0 hne ⊢
 have e0 : (z != 0) = true := by simpa using hne
 clear hx hy hne hz
 obtain ⟨a1, a2, rfl, ⟨_, aa, ca, rfl, _, _⟩, ⟨_, af, cf, rfl, _, _⟩⟩ := ha
 obtain ⟨b1, b2, rfl, ⟨_, ba, cb, rfl, _, _⟩, ⟨_, bf, cg, rfl, _, _⟩⟩ := hb
 obtain ⟨st, arcs, fins⟩ := a
 obtain ⟨st2, arcs2, fins2⟩ := b
 dsimp only at *
 have hs1 : (w.alloc (.cells #[.int .i64 st, .slice aa arcs.length ca, .slice af fins.length cf] 25)).heap.size = w.heap.size + 1 := by simp
 have hs2 : ((w.alloc (.cells #[.int .i64 st, .slice aa arcs.length ca, .slice af fins.length cf] 25)).alloc (.cells #[.int .i64 st2, .slice ba arcs2.length cb, .slice bf fins2.length cg] 25)).heap.size = w.heap.size + 2 := by simp
 have hb1 : Below w.heap.size w (w.alloc (.cells #[.int .i64 st, .slice aa arcs.length ca, .slice af fins.length cf] 25)) := (Below.refl _ w).alloc (Nat.le_refl _) _
 have hb2 := hb1.alloc (by rw [hs1]; omega) (.cells #[.int .i64 st2, .slice ba arcs2.length cb, .slice bf fins2.length cg] 25)
 have hBV := hb2.alloc (by rw [hs2]; omega) (.cells #[.int .i64 0, .slice none 0 0, .slice none 0 0] 25)
 have x2 := (heap_alloc_old ((w.alloc (.cells #[.int .i64 st, .slice aa arcs.length ca, .slice af fins.length cf] 25)).alloc (.cells #[.int .i64 st2, .slice ba arcs2.length cb, .slice bf fins2.length cg] 25)) (.cells #[.int .i64 0, .slice none 0 0, .slice none 0 0] 25) (by rw [hs2]; omega)).trans ((heap_alloc_old (w.alloc (.cells #[.int .i64 st, .slice aa arcs.length ca, .slice af fins.length cf] 25)) (.cells #[.int .i64 st2, .slice ba arcs2.length cb, .slice bf fins2.length cg] 25) (by rw [hs1]; omega)).trans (heap_alloc_new w (.cells #[.int .i64 st, .slice aa arcs.length ca, .slice af fins.length cf] 25)))
 have x3' := heap_alloc_new (w.alloc (.cells #[.int .i64 st, .slice aa arcs.length ca, .slice af fins.length cf] 25)) (.cells #[.int .i64 st2, .slice ba arcs2.length cb, .slice bf fins2.length cg] 25)
 rw [hs1] at x3'
 have x3 := (heap_alloc_old ((w.alloc (.cells #[.int .i64 st, .slice aa arcs.length ca, .slice af fins.length cf] 25)).alloc (.cells #[.int .i64 st2, .slice ba arcs2.length cb, .slice bf fins2.length cg] 25)) (.cells #[.int .i64 0, .slice none 0 0, .slice none 0 0] 25) (by rw [hs2]; omega)).trans x3'
 have x4 := heap_alloc_new ((w.alloc (.cells #[.int .i64 st, .slice aa arcs.length ca, .slice af fins.length cf] 25)).alloc (.cells #[.int .i64 st2, .slice ba arcs2.length cb, .slice bf fins2.length cg] 25)) (.cells #[.int .i64 0, .slice none 0 0, .slice none 0 0] 25)
 rw [hs2] at x4
 have KB := K0 _ hBV
 clear K0
 go_enter Tryd.func17, Tryd.ntmps17
 go_upto_region 1 with fail
 clear hs1 hs2 hb1 hb2 x3'
 generalize hV : ((w.alloc (.cells #[.int .i64 st, .slice aa arcs.length ca, .slice af fins.length cf] 25)).alloc (.cells #[.int .i64 st2, .slice ba arcs2.length cb, .slice bf fins2.length cg] 25)).alloc (.cells #[.int .i64 0, .slice none 0 0, .slice none 0 0] 25) = V0 at *
 clear hV
 have a0 := cell_of_row _ _ 0 _ _ _ x2
 have a1 := cell_of_row _ _ 1 _ _ _ x2
 have a2 := cell_of_row _ _ 2 _ _ _ x2
 have b0 := cell_of_row _ _ 0 _ _ _ x3
 have b1 := cell_of_row _ _ 1 _ _ _ x3
 have b2 := cell_of_row _ _ 2 _ _ _ x3
 have HX0 : Hid (V0.heap[w.heap.size + 2]? = some (.cells #[.int .i64 0, .slice none 0 0, .slice none 0 0] 25 (0, 0))) := x4
 have HB0 : Hid (Below w.heap.size w V0) := hBV
 clear x2 x3 x4 hBV
 go_wp2_with (go_at_call 37; (with_reducible refine KB.mono ?_); clear KB; rintro e1 VV ⟨rfl, hb1⟩; have HB1 : Hid (Below V0.heap.size V0 VV) := hb1; have hz11 := (hb1.block _ (lt_at HX0.out)).trans HX0.out; have z0 := cell_of_row _ _ 0 _ _ _ hz11; have z1 := cell_of_row _ _ 1 _ _ _ hz11; have z2 := cell_of_row _ _ 2 _ _ _ hz11; have f0 := frozen_of_row _ _ 0 _ _ hz11; have f1 := frozen_of_row _ _ 1 _ _ hz11; have f2 := frozen_of_row _ _ 2 _ _ hz11; have HZ11 : Hid (VV.heap[w.heap.size + 2]? = some (.cells #[.int .i64 0, .slice none 0 0, .slice none 0 0] 25 (0, 0))) := hz11; clear hz11 hb1)
 have hl := laid3 HZ11.out (.int .i64 0) (.slice none 0 0) (.slice none 0 0)
 have hbe : Below w.heap.size w VV := HB0.out.trans (HB1.out.mono HB0.out.size)
 have hbs := below3 hbe (P := w.heap.size + 2) (by omega) (.int .i64 0) (.slice none 0 0) (.slice none 0 0)
 exact bodyPost_ret (results_row_tmp rfl _ _ (w.heap.size + 2) 25 _ (0, 0) _ rfl hl Tryd.underlying25 rfl Mc.row25) rfl ⟨rfl, hbs⟩
/-- what a machine that is right and few is -/
theorem few_facts {a : M} (hx : checkP a 0) (fa : fewB a = true) : ∃ S : Nat, a.st = (S : Int) ∧ 0 < S ∧ S ≤ 40 ∧ Rgt S a.arcs ∧ a.arcs.length ≤ 120 ∧ (∀ x (h : x < a.fins.length), finB (S : Int) a.fins[x] = true) ∧ Fgt S a.fins ∧ Onc a.fins ∧ a.fins.length ≤ 40 := by
 obtain ⟨s1, s2, s3, s4⟩ := size_all hx
 obtain ⟨_, harc, hfin⟩ := checkP_ok hx
 have ho : onceK a a.fins.length := by
  rcases hx with ⟨_, e⟩ | ⟨_, _, e⟩ | ⟨_, _, _, e⟩ | ⟨_, _, _, _, e⟩ | ⟨_, _, _, h, _⟩
  ·omega
  ·omega
  ·omega
  ·omega
  ·exact h
 unfold fewB at fa
 simp only [decide_eq_true_eq] at fa
 refine ⟨a.st.toNat, by omega, by omega, by omega, fun x h => ?_, by omega, fun x h => ?_, fun f h => ?_, onc_of ho, by omega⟩
 ·obtain ⟨k, hk, rfl⟩ := List.getElem_of_mem h
  have := harc k hk
  rwa [show a.st = ((a.st.toNat : Nat) : Int) by omega] at this
 ·have := hfin x h
  rwa [show a.st = ((a.st.toNat : Nat) : Int) by omega] at this
 ·obtain ⟨k, hk, rfl⟩ := List.getElem_of_mem h
  have := hfin k hk
  rwa [show a.st = ((a.st.toNat : Nat) : Int) by omega] at this
/-- Through makes what right calls right -/
def Mk (a b : M) (va vb vi vo : Value) (w : World) (z want : Int) : Prop := ∀ W, Below w.heap.size w W → Calls Tryd.prog 17 #[va, vb] W fun e W' => ∃ (n : Int) (a1 : Option Addr) (n1 k1 : Nat) (a2 : Option Addr) (n2 k2 : Nat) (g : Int), e = .returned (.tuple #[.agg #[.int .i64 n, .slice a1 n1 k1, .slice a2 n2 k2], .int .i64 g]) ∧ (∀ W2, Below W'.heap.size W' W2 → ∀ sm : Bool, (sm = true → lightP a = true ∧ lightP b = true) → Calls Tryd.prog 18 #[.agg #[.int .i64 n, .slice a1 n1 k1, .slice a2 n2 k2], .int .i64 g, .int .i64 z, .bool sm, vi, vo, .int .i64 want] W2 fun r w' => r = .returned (.bool true) ∧ Below W2.heap.size W2 w') ∧ Below W.heap.size W W'
theorem mk_bad {a b : M} {va vb : Value} {x y : Int} {w : World} (ha : IsM w va a) (hb : IsM w vb b) (hx : checkP a x) (hy : checkP b y) (hne : Mc.both x y ≠ 0) (vi vo : Value) (want : Int) : Mk a b va vb vi vo w (Mc.both x y) want := fun W hW =>
 (thr_bad a b va vb x y W (ha.below hW) (hb.below hW) hx hy hne).mono fun _ _ ⟨he, hb⟩ => ⟨0, none, 0, 0, none, 0, 0, _, he, fun W2 _ sm _ => right_bad _ hne sm vi vo want W2, hb⟩
theorem mk_ok {a b : M} {va vb vi vo : Value} {inn out : List Int} {w : World} {SA SB c : Nat} (eA : a.st = (SA : Int)) (eB : b.st = (SB : Int)) (ha : IsM w va a) (hb : IsM w vb b) (hx : checkP a 0) (hy : checkP b 0) (fa : fewB a = true) (fb : fewB b = true) (hI : IsI w vi inn) (hO : IsI w vo out) (hi : inn.length ≤ 61) (ho : out.length ≤ 61) (hcost : IsCost (prM a b SA SB) inn out true c) (hT : TabAt 0 Lib.deBruijn64tab w) (hw0 : 0 < w.heap.size) : Mk a b va vb vi vo w 0 (c : Int) := fun W hW => by
 obtain ⟨S1, p1, p2, p3, p4, p5, p6, p7, p8, p9⟩ := few_facts hx fa
 obtain ⟨S2, q1, q2, q3, q4, q5, q6, q7, q8, q9⟩ := few_facts hy fb
 obtain rfl : S1 = SA := by omega
 obtain rfl : S2 = SB := by omega
 have ha' := ha.below hW
 have hb' := hb.below hW
 have hI' := hI.below hW
 have hO' := hO.below hW
 have hT' := Tz.tab_below hT hw0 hW
 have hw0' : 0 < W.heap.size := Nat.lt_of_lt_of_le hw0 hW.size
 obtain ⟨st, arcs, fins⟩ := a
 obtain ⟨st2, arcs2, fins2⟩ := b
 dsimp only at *
 subst eA
 subst eB
 obtain ⟨a1, a2, rfl, r1, r2⟩ := ha'
 obtain ⟨b1, b2, rfl, r3, r4⟩ := hb'
 have r1' := r1
 have r2' := r2
 have r3' := r3
 have r4' := r4
 obtain ⟨_, aa, ca, rfl, _, _⟩ := r1'
 obtain ⟨_, af, cf, rfl, _, _⟩ := r2'
 obtain ⟨_, ba, cb, rfl, _, _⟩ := r3'
 obtain ⟨_, bf, cg, rfl, _, _⟩ := r4'
 refine (thr_ok S1 S2 arcs arcs2 fins fins2 aa ba af bf ca cb cf cg W hx hy p2 q2 p3 q3 r1 r3 p4 q4 p5 q5 r2 r4 p6 q6 ⟨p7, q7, p8, q8⟩ p9 q9 hT' hw0').mono ?_
 rintro e w' ⟨⟨U, X, hU, h⟩, hb9⟩
 rcases h with ⟨hc, v, he, hM⟩ | ⟨hc, hn, he⟩
 ·have hM0 := hM
  obtain ⟨va, vf, hv, ⟨_, a1, k1, h1, _⟩, ⟨_, a2, k2, h2, _⟩⟩ := hM
  subst h1
  subst h2
  subst hv
  exact ⟨_, _, _, _, _, _, _, _, he, fun W2 hW2 sm _ => right_ok _ inn out c _ vi vo sm W2 (hM0.below hW2) (hI'.below (hb9.trans (hW2.mono hb9.size))) (hO'.below (hb9.trans (hW2.mono hb9.size))) hc hi ho (th_cost hU hcost), hb9⟩
 ·refine ⟨0, none, 0, 0, none, 0, 0, 3, he, fun W2 _ sm hsm => ?_, hb9⟩
  cases sm with
  | true => exact absurd (hsm rfl) hn
  | false => exact right_far 3 (.inr rfl) vi vo _ W2
/-- the cost of a walk through both -/
theorem pr_cost {a b : M} {va vb : Value} {inn out : List Int} {ai ao : Option Addr} {ci co : Nat} {w : World} {SA SB : Nat} (eA : a.st = (SA : Int)) (eB : b.st = (SB : Int)) (ha : IsM w va a) (hb : IsM w vb b) (hx : checkP a 0) (hy : checkP b 0) (fa : fewB a = true) (fb : fewB b = true) (hI : IsI w (.slice ai inn.length ci) inn) (hO : IsI w (.slice ao out.length co) out) (hi : inn.length ≤ 8) (ho : out.length ≤ 8) :
  Calls Tryd.prog 16 #[va, vb, .slice ai inn.length ci, .slice ao out.length co] w fun e w' => ∃ v : Nat, e = .returned (.int .i64 (v : Int)) ∧ IsCost (prM a b SA SB) inn out true v ∧ Below w.heap.size w w' := by
 obtain ⟨S1, p1, p2, p3, p4, p5, p6, p7, p8, p9⟩ := few_facts hx fa
 obtain ⟨S2, q1, q2, q3, q4, q5, q6, q7, q8, q9⟩ := few_facts hy fb
 obtain rfl : S1 = SA := by omega
 obtain rfl : S2 = SB := by omega
 obtain ⟨st, arcs, fins⟩ := a
 obtain ⟨st2, arcs2, fins2⟩ := b
 dsimp only at *
 subst eA
 subst eB
 obtain ⟨a1, a2, rfl, ⟨_, aa, ca, rfl, _, hA⟩, ⟨_, af, cf, rfl, _, hF⟩⟩ := ha
 obtain ⟨b1, b2, rfl, ⟨_, ba, cb, rfl, _, hB⟩, ⟨_, bf, cg, rfl, _, hG⟩⟩ := hb
 obtain ⟨_, _, _, eI, _, hI⟩ := hI
 obtain ⟨_, _, _, eO, _, hO⟩ := hO
 cases eI
 cases eO
 refine thcost_any S1 S2 ⟨(S1 : Int), arcs, fins⟩ ⟨(S2 : Int), arcs2, fins2⟩ inn out aa ba af bf ai ao ca cb cf cg ci co w p2 q2 ⟨p3, q3, hi, ho, p5, q5, rfl, fun y h => ?_, fun y h => ?_, hI, hO⟩ hA hB ⟨p9, q9, fun y h => ?_, fun y h => ?_⟩ hF hG
 ·obtain ⟨f, t, i, o, u, e, h1, h2, h3, h4, h5⟩ := arc_nat (p4 _ (List.getElem_mem h))
  exact ⟨f, t, u, i, o, e, h1, h2, h5, by omega, by omega⟩
 ·obtain ⟨f, t, i, o, u, e, h1, h2, h3, h4, h5⟩ := arc_nat (q4 _ (List.getElem_mem h))
  exact ⟨f, t, u, i, o, e, h1, h2, h5, by omega, by omega⟩
 ·obtain ⟨s, x, e, h1, h2⟩ := fin_nat (p6 y h)
  exact ⟨s, x, e, h1, h2⟩
 ·obtain ⟨s, x, e, h1, h2⟩ := fin_nat (q6 y h)
  exact ⟨s, x, e, h1, h2⟩
end Go.Proofs.YtfjocafepigijaaDoor.Cu
