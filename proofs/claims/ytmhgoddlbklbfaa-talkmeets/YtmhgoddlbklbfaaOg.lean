/- TalkMeets returns true at any number and any steps: whatever is lost, doubled or late, no entry becomes earlier, what a slot has somebody said, and both come to the same and are silent. No conditions beyond the form's own reach. -/
import Derived.Test.YtmhgoddlbklbfaaRows
import Derived.Test.YtmhgoddlbklbfaaOp
import Derived.Test.YtmhgoddlbklbfaaMw
namespace Go.Proofs.Ytmhgoddlbklbfaa.talkMeetsFull
open Go.ChangeShapes Go.WideShapes Go.ChangeAt Go.RowKit
open Lb Opw

theorem own : ownKnob Try.prog.godebug = none := by kernel_rfl
theorem one_cell {W : World} {base : Nat} {v : Value} {t e : TypeId} (ht : Try.prog.underlying t = some (.slice e)) (h : Value.okWide Try.prog W .any base t v) : v.cells.toList = [v] := by
  obtain ⟨a, l, c, hv⟩ := okWide_slice ht h
  rw [hv]
  rfl
theorem open_int {W : World} {base : Nat} {v : Value} (hv : Value.okWide Try.prog W .any base 3 v) : ∃ n, v = .int .i64 n := okWide_int Try.underlying3 hv

set_option maxRecDepth 100000 in
theorem contract (H : Type) (enc : TypeId × Value → H) (W : World) (base : Nat) (args : Array Value) (ds gs : List (DataW H)) (before : List MemPlace)
    (hval : ∀ (j : Nat) t v, Try.f4.params[j]? = some t → args[j]? = some v → Value.okWide Try.prog W .any base t v)
    (hW : DataW.Whole enc Try.prog Try.f4.params.toList Rows.talkMeetsSpec.vars false W args.toList ds gs before) (hk : (DataW.weightsEach Try.prog (Try.f4.params.toList ++ Rows.talkMeetsSpec.plain.varTypes Try.prog) (ds ++ gs)).all (· ≤ reachBytes) = true) :
    Calls Try.prog 4 args W fun e W' => ∃ v, e = .returned v ∧ Rows.talkMeetsSpec.post enc Try.prog Try.f4 false true false false W args v W' := by
  have hW' := hW
  obtain ⟨p, q, hA0, hV, rfl, hfz, hnd⟩ := hW
  have hA : DataW.TrodAll enc Try.prog W 0 (fun _ => true) true Try.f4.params.toList args.toList ds p := hA0
  have hlt := DataW.TrodAll.lt hA
  rw [Try.params4] at hA hval hk
  obtain ⟨v0, vs0, d0, ds0, p0, q0, hargs, rfl, rfl, h0, r0⟩ := trodAll_cons hA
  obtain ⟨v1, vs1, d1, ds1, p1, q1, rfl, rfl, rfl, h1, r1⟩ := trodAll_cons r0
  obtain ⟨rfl, rfl, rfl⟩ := trodAll_nil r1
  obtain rfl : args = #[v0, v1] := by cases args; simp_all
  obtain ⟨rfl, rfl⟩ := trodVars_none hV
  simp only [List.append_nil] at hW' hk hlt
  have hall : ∀ n ∈ DataW.weightsEach Try.prog ([3, 22] ++ Rows.talkMeetsSpec.plain.varTypes Try.prog) [d0, d1], n ≤ reachBytes := fun n hn => of_decide_eq_true (List.all_eq_true.1 hk n hn)
  have b1 : ∀ n ∈ d1.weights Try.prog 22, n ≤ reachBytes := fun n hn => hall n (DataW.weights_mem_each (j := 1) rfl rfl n hn)
  obtain ⟨n, rfl⟩ := open_int (hval 0 3 v0 rfl rfl)
  have hn : i64B n := by
    obtain ⟨fuel0, hf0⟩ := h0
    have hf0' : DataW.trod enc Try.prog W 0 (fun _ => true) true fuel0 3 [.int .i64 n] = some (d0, p0) := hf0
    obtain ⟨m, e0, _, w0⟩ := DataW.trod_int Try.underlying3 hf0'
    simp only [List.cons.injEq, Value.int.injEq, true_and, and_true] at e0
    subst e0
    exact i64_wf w0
  obtain ⟨fuel1, hf1⟩ := h1
  have hc1 : v1.cells.toList = [v1] := one_cell Try.underlying22 (hval 1 22 v1 rfl rfl)
  rw [hc1] at hf1
  obtain ⟨os, ao, co, hv1, hO, hS⟩ := open_ops (x := (d1, p1)) hf1 b1
  have hwalk := Ms.meets n hn ao co os W hO hS
  rw [← hv1] at hwalk
  refine hwalk.mono fun e W' ⟨he, bel⟩ => ?_
  subst he
  have a0 := bel.trod (by kernel_rfl) (by kernel_rfl) (of_decide_eq_true (by kernel_rfl)) h0 (fun y hy => hlt y (List.mem_append_left _ hy))
  have a1 := bel.trod (by kernel_rfl) (by kernel_rfl) (of_decide_eq_true (by kernel_rfl)) (⟨fuel1, by rw [hc1]; exact hf1⟩ : DataW.Trod enc Try.prog W 0 (fun _ => true) true 22 v1 d1 p1) (fun y hy => hlt y (List.mem_append_right _ hy))
  exact ⟨_, rfl, _, _, _, [], _, [], hW', trodAll_mk1 (shut_bool Try.underlying4 _), (trodAll_cons_mk a0 (trodAll_cons_mk a1 trodAll_mk0)), rfl, bel.frame _, fun h => by cases h⟩

set_option maxRecDepth 100000 in
theorem lifted (os : Os) (started : os.Started) (H : Type) (enc : TypeId × Value → H) :
    ReturnsInHanded {} Try.checked os 4 .any (Rows.talkMeetsSpec.pre6 enc Try.prog Try.f4 Rows.talkMeetsRow.domain false) (Rows.talkMeetsSpec.post enc Try.prog Try.f4 false true false false) := by
  refine returnsInHanded_of_change_sized (C := Try.checked) own started (by kernel_rfl) Try.func4
    (ChangeSpec.witness6 (enc := enc) (C := Try.checked) false ⟨#[], #[.int .i64 0, .slice none 0 0], []⟩ 8 (by kernel_rfl) (by kernel_rfl) (by kernel_rfl) (by kernel_rfl)) ?_
  intro W base args ds gs before hval hW _ hk _
  exact contract H enc W base args ds gs before hval hW hk

theorem proved : Rows.TalkMeetsSaid :=
  OpenClaim.holds_of_wide 4 Try.f4 rfl rfl rfl rfl rfl rfl rfl ⟨rfl, rfl, rfl, rfl, rfl⟩ rfl rfl rfl rfl rfl (by kernel_rfl) Try.func4 (by kernel_rfl)
    (of_decide_eq_true (by kernel_rfl)) (by unfold Func.isWrapper; first | (rw [if_pos (by decide +kernel)]; kernel_rfl) | (rw [if_neg (by decide +kernel)]; exact ⟨rfl, rfl⟩))
    (fun os started H enc _ => lifted os started H enc)
end Go.Proofs.Ytmhgoddlbklbfaa.talkMeetsFull
namespace Go.Proofs.Ytmhgoddlbklbfaa
theorem talkMeets_full : Rows.TalkMeetsSaid := talkMeetsFull.proved
#print axioms talkMeets_full
end Go.Proofs.Ytmhgoddlbklbfaa
