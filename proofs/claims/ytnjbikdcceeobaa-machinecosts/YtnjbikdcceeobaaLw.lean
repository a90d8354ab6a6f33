/- MachineCosts: at every machine and two texts as they lie in memory the law returns true. Condition: what newField makes is as it is said (Nx). -/
import Derived.Test.YtnjbikdcceeobaaMb
import Derived.Test.YtnjbikdcceeobaaDq
import Derived.Deep.QuietTactic
import Derived.BigQuiet
namespace Go.Proofs.Ytnjbikdcceeobaa.Lw
open Go.RowKit Mv Wk Sy Rz Cq

/-- a world in which all that lay in w lies as it lay -/
structure After (w : World) where
  W : World
  h : Below w.heap.size w W
theorem wp_region_after {P : Program} {id : Nat} {Q : Exit → Act → World → Prop} {a : Act} {w : World} {l : List Oper} (hm : P.follows .mixedOrders = true) (hB : Region.lexB .any l.toArray = true)
    (h : wpQuiet P l.toArray (fun w' => ∃ p : After w, w' = p.W) (fun a' => ∀ w', (∃ p : After w, w' = p.W) → Q .normal a' w') l a) : (Code.region id l.toArray true).wp P Q a w :=
  wp_region_quiet (C := fun w' => ∃ p : After w, w' = p.W) hm hB ⟨⟨w.drew, (Below.refl _ _).drew⟩, rfl⟩ (by simpa using h)
theorem after_of {P : Program} {f : FuncId} {args : Array Value} {w : World} {p : After w} {v : Value}
    (h : Calls P f args p.W fun e w' => e = .returned v ∧ Below p.W.heap.size p.W w') : Calls P f args p.W fun e w'' => e = .returned v ∧ ∃ p' : After w, w'' = p'.W :=
  h.mono fun _ w' ⟨he, hb⟩ => ⟨he, ⟨w', p.h.trans (hb.mono p.h.size)⟩, rfl⟩

set_option maxHeartbeats 4000000 in
set_option maxRecDepth 100000 in
theorem walk (hfield : FieldOk) (m : M) (inn out : List Int) (v vi vo : Value) (w : World) (hM : IsM w v m) (hI : IsI w vi inn) (hO : IsI w vo out) :
    Calls Try.prog 3 #[v, vi, vo] w fun e w' => e = .returned (.bool true) ∧ Below w.heap.size w w' := by
  have HF : Hid FieldOk := hfield
  have HI : Hid (∀ W, Below w.heap.size w W → IsI W vi inn) := fun W hW => hI.below hW
  have HO : Hid (∀ W, Below w.heap.size w W → IsI W vo out) := fun W hW => hO.below hW
  have HM : Hid (∀ W, Below w.heap.size w W → IsM W v m) := fun W hW => hM.below hW
  obtain ⟨x0, hx0⟩ := checkP_ex m
  have HX0 : Hid (checkP m x0) := hx0
  have con5 : ∀ W, Below w.heap.size w W → Calls Try.prog 5 #[v] W fun e W' => e = .returned (.int .i64 x0) ∧ Below W.heap.size W W' := fun W hW => (CkP.check_any m v W (HM.out W hW)).mono (fun e W' ⟨⟨x, h1, h2⟩, h3⟩ => ⟨by rw [h1, checkP_one h2 HX0.out], h3⟩)
  have con6 : ∀ W, Below w.heap.size w W → Calls Try.prog 6 #[v] W fun e W' => e = .returned (.int .i64 x0) ∧ Below W.heap.size W W' := fun W hW => (CkR.check_any m v W (HM.out W hW)).mono (fun e W' ⟨⟨x, h1, h2⟩, h3⟩ => ⟨by rw [h1, checkP_one h2 HX0.out], h3⟩)
  have con7 : ∀ W, Below w.heap.size w W → Calls Try.prog 7 #[v] W fun e W' => e = .returned (.bool (fewB m)) ∧ Below W.heap.size W W' := fun W hW => few_any m v W (HM.out W hW)
  have con8 : fewB m = true → inn.length ≤ 61 → out.length ≤ 61 → ∀ W, Below w.heap.size w W → Calls Try.prog 8 #[v, vi, vo] W fun e W' => ∃ c ok er, e = .returned (.tuple #[.int .i64 c, .bool ok, .int .i64 er]) ∧ Res m inn out c ok er ∧ Below W.heap.size W W' := fun a b c W hW => cost_any HF.out m inn out v vi vo W (HM.out W hW) (HI.out W hW) (HO.out W hW) a b c
  have con9 : fewB m = true → inn.length ≤ 61 → out.length ≤ 61 → ∀ W, Below w.heap.size w W → Calls Try.prog 9 #[v, vi, vo] W fun e W' => ∃ c ok er, e = .returned (.tuple #[.int .i64 c, .bool ok, .int .i64 er]) ∧ Res m inn out c ok er ∧ Below W.heap.size W W' := fun a b c W hW => Dq.doc_any m inn out v vi vo W (HM.out W hW) (HI.out W hW) (HO.out W hW) a b c
  obtain ⟨st, arcs, fins⟩ := m
  obtain ⟨va, vf, rfl, ⟨_, aa, ca, rfl, _, _⟩, ⟨_, af, cf, rfl, _, _⟩⟩ := hM
  obtain ⟨_, ai, ci, rfl, hni, _⟩ := hI
  obtain ⟨_, ao, co, rfl, hno, _⟩ := hO
  dsimp only at con5 con6 con7 con8 con9 ⊢
  have hb0 : ∀ o, Below w.heap.size w (w.alloc o) := fun o => (Below.refl _ w).alloc (Nat.le_refl _) o
  have B2 := hb0 (.cells #[.int .i64 st, .slice aa arcs.length ca, .slice af fins.length cf] 25)
  have r0 : ∀ p : After (w.alloc (.cells #[.int .i64 st, .slice aa arcs.length ca, .slice af fins.length cf] 25)), p.W.cell? ⟨w.heap.size, 0, none⟩ = some (.int .i64 st) := fun p => (box3 p.h).1
  have r1 : ∀ p : After (w.alloc (.cells #[.int .i64 st, .slice aa arcs.length ca, .slice af fins.length cf] 25)), p.W.cell? ⟨w.heap.size, 1, none⟩ = some (.slice aa arcs.length ca) := fun p => (box3 p.h).2.1
  have r2 : ∀ p : After (w.alloc (.cells #[.int .i64 st, .slice aa arcs.length ca, .slice af fins.length cf] 25)), p.W.cell? ⟨w.heap.size, 2, none⟩ = some (.slice af fins.length cf) := fun p => (box3 p.h).2.2
  have k4 := fun p : After (w.alloc (.cells #[.int .i64 st, .slice aa arcs.length ca, .slice af fins.length cf] 25)) => Mb.begun_any HF.out p.W
  have k5 := fun p : After (w.alloc (.cells #[.int .i64 st, .slice aa arcs.length ca, .slice af fins.length cf] 25)) => con5 p.W (B2.trans (p.h.mono B2.size))
  have k6 := fun p : After (w.alloc (.cells #[.int .i64 st, .slice aa arcs.length ca, .slice af fins.length cf] 25)) => con6 p.W (B2.trans (p.h.mono B2.size))
  have dc : (x0 == x0) = true := by simp
  have dn : (x0 != x0) = false := by simp
  have C7 : Hid _ := con7
  have C8 : Hid _ := con8
  have C9 : Hid _ := con9
  haveI : Inhabited (After (w.alloc (.cells #[.int .i64 st, .slice aa arcs.length ca, .slice af fins.length cf] 25))) := ⟨⟨_, Below.refl _ _⟩⟩
  clear con5 con6 con7 con8 con9 hfield hx0
  go_enter Try.func3, Try.ntmps3
  go_wp2_with fail
  refine wp_region_after (by kernel_rfl) (by kernel_rfl) ?_
  repeat (go_big_quiet_step (first | (go_at_call 4; refine after_of (k4 _)) | (go_at_call 5; refine after_of (k5 _)) | (go_at_call 6; refine after_of (k6 _))))
  refine wpQuiet_nil ?_
  intro W hw'
  obtain ⟨⟨W, hW⟩, rfl⟩ := hw'
  have hw1 : Below w.heap.size w W := B2.trans (hW.mono B2.size)
  have bx := box3 hW
  obtain ⟨bx0, bx1, bx2⟩ := bx
  have HW : Hid _ := hW
  clear r0 r1 r2 k4 k5 k6 hW
  cases hfw : fewB ⟨st, arcs, fins⟩ with
  | false =>
    have con7 := C7.out
    rw [hfw] at con7
    clear hni hno
    go_wp2_with (go_at_call 7; refine (con7 _ hw1).mono ?_; rintro e w3 ⟨rfl, hb3⟩; have hw3 : Below w.heap.size w w3 := hw1.trans (hb3.mono hw1.size))
    repeat (go_quiet (fail); go_wp2)
    go_ret
    exact ⟨rfl, by first | exact hw3 | exact below_drewN hw3 _⟩
  | true =>
    have con7 := C7.out
    rw [hfw] at con7
    by_cases h1 : 61 < inn.length
    · have e1 : (61 : Int) < (inn.length : Int) := by omega
      go_wp2_with (go_at_call 7; refine (con7 _ hw1).mono ?_; rintro e w3 ⟨rfl, hb3⟩; have hw3 : Below w.heap.size w w3 := hw1.trans (hb3.mono hw1.size))
      repeat (go_quiet (fail); go_wp2)
      go_ret
      exact ⟨rfl, by first | exact hw3 | exact below_drewN hw3 _⟩
    · have e1 : ¬ (61 : Int) < (inn.length : Int) := by omega
      by_cases h2 : 61 < out.length
      · have e2 : (61 : Int) < (out.length : Int) := by omega
        go_wp2_with (go_at_call 7; refine (con7 _ hw1).mono ?_; rintro e w3 ⟨rfl, hb3⟩; have hw3 : Below w.heap.size w w3 := hw1.trans (hb3.mono hw1.size))
        repeat (go_quiet (fail); go_wp2)
        go_ret
        exact ⟨rfl, by first | exact hw3 | exact below_drewN hw3 _⟩
      · have e2 : ¬ (61 : Int) < (out.length : Int) := by omega
        have con8 := C8.out hfw (by omega) (by omega)
        have con9 := C9.out hfw (by omega) (by omega)
        go_wp2_with (first | (go_at_call 7; refine (con7 _ hw1).mono ?_; rintro e w3 ⟨rfl, hb3⟩; have hw3 : Below w.heap.size w w3 := hw1.trans (hb3.mono hw1.size); have hx3 := HW.out.trans (hb3.mono HW.out.size); have by0 := box3 hx3; obtain ⟨by0, by1, by2⟩ := by0) | (go_at_call 8; refine (con8 _ hw3).mono ?_; rintro e w4 ⟨c, ok, er, rfl, hr, hb4⟩; have HR : Hid _ := hr; clear hr; have hw4 : Below w.heap.size w w4 := hw3.trans (hb4.mono hw3.size); have hx4 := hx3.trans (hb4.mono hx3.size); have bz0 := box3 hx4; obtain ⟨bz0, bz1, bz2⟩ := bz0) | (go_at_call 9; refine (con9 _ hw4).mono ?_; rintro e w5 ⟨c', ok', er', rfl, hr', hb5⟩; obtain ⟨rfl, rfl, rfl⟩ := hr'.one HR.out; have hw5 : Below w.heap.size w w5 := hw4.trans (hb5.mono hw4.size)))
        repeat (go_quiet (fail); go_wp2)
        go_ret
        exact ⟨rfl, by first | exact hw5 | exact below_drewN hw5 _⟩
end Go.Proofs.Ytnjbikdcceeobaa.Lw
