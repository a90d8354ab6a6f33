/- TalkPlays returns true at any two, any number of slots and any steps: the program's talkers answer what the document's do. No conditions beyond the form's own reach. -/
import Derived.Test.YtmhgoddlbklbfaaRows
import Derived.Test.YtmhgoddlbklbfaaOp
namespace Go.Proofs.Ytmhgoddlbklbfaa.talkPlaysFull
open Go.ChangeShapes Go.WideShapes Go.ChangeAt Go.RowKit
open Lb Opw

theorem own : ownKnob Try.prog.godebug = none := by kernel_rfl
theorem one_cell {W : World} {base : Nat} {v : Value} {t e : TypeId} (ht : Try.prog.underlying t = some (.slice e)) (h : Value.okWide Try.prog W .any base t v) : v.cells.toList = [v] := by
  obtain ⟨a, l, c, hv⟩ := okWide_slice ht h
  rw [hv]
  rfl
theorem open_int {W : World} {base : Nat} {v : Value} (hv : Value.okWide Try.prog W .any base 3 v) : ∃ n, v = .int .i64 n := okWide_int Try.underlying3 hv

set_option maxRecDepth 100000 in
theorem contract (H : Type) (enc : TypeId × Value → H) (W : World) (base : Nat) (args : Array Value) (ds gs : List (DataW H)) (before : List MemPlace)
    (hval : ∀ (j : Nat) t v, Try.f3.params[j]? = some t → args[j]? = some v → Value.okWide Try.prog W .any base t v)
    (hW : DataW.Whole enc Try.prog Try.f3.params.toList Rows.talkPlaysSpec.vars false W args.toList ds gs before) (hk : (DataW.weightsEach Try.prog (Try.f3.params.toList ++ Rows.talkPlaysSpec.plain.varTypes Try.prog) (ds ++ gs)).all (· ≤ reachBytes) = true) :
    Calls Try.prog 3 args W fun e W' => ∃ v, e = .returned v ∧ Rows.talkPlaysSpec.post enc Try.prog Try.f3 false true false false W args v W' := by
  have hW' := hW
  obtain ⟨p, q, hA0, hV, rfl, hfz, hnd⟩ := hW
  have hA : DataW.TrodAll enc Try.prog W 0 (fun _ => true) true Try.f3.params.toList args.toList ds p := hA0
  have hlt := DataW.TrodAll.lt hA
  rw [Try.params3] at hA hval hk
  obtain ⟨v0, vs0, d0, ds0, p0, q0, hargs, rfl, rfl, h0, r0⟩ := trodAll_cons hA
  obtain ⟨v1, vs1, d1, ds1, p1, q1, rfl, rfl, rfl, h1, r1⟩ := trodAll_cons r0
  obtain ⟨v2, vs2, d2, ds2, p2, q2, rfl, rfl, rfl, h2, r2⟩ := trodAll_cons r1
  obtain ⟨v3, vs3, d3, ds3, p3, q3, rfl, rfl, rfl, h3, r3⟩ := trodAll_cons r2
  obtain ⟨rfl, rfl, rfl⟩ := trodAll_nil r3
  obtain rfl : args = #[v0, v1, v2, v3] := by cases args; simp_all
  obtain ⟨rfl, rfl⟩ := trodVars_none hV
  simp only [List.append_nil] at hW' hk hlt
  have hall : ∀ n ∈ DataW.weightsEach Try.prog ([3, 3, 3, 22] ++ Rows.talkPlaysSpec.plain.varTypes Try.prog) [d0, d1, d2, d3], n ≤ reachBytes := fun n hn => of_decide_eq_true (List.all_eq_true.1 hk n hn)
  have b3 : ∀ n ∈ d3.weights Try.prog 22, n ≤ reachBytes := fun n hn => hall n (DataW.weights_mem_each (j := 3) rfl rfl n hn)
  obtain ⟨oA, rfl⟩ := open_int (hval 0 3 v0 rfl rfl)
  obtain ⟨oB, rfl⟩ := open_int (hval 1 3 v1 rfl rfl)
  obtain ⟨n, rfl⟩ := open_int (hval 2 3 v2 rfl rfl)
  obtain ⟨fuel3, hf3⟩ := h3
  have hc3 : v3.cells.toList = [v3] := one_cell Try.underlying22 (hval 3 22 v3 rfl rfl)
  rw [hc3] at hf3
  obtain ⟨os, ao, co, hv3, hO⟩ := open_ops (x := (d3, p3)) hf3 b3
  have hwalk := plays oA oB n ao co os W hO
  rw [← hv3] at hwalk
  refine hwalk.mono fun e W' ⟨he, bel⟩ => ?_
  subst he
  have a0 := bel.trod (by kernel_rfl) (by kernel_rfl) (of_decide_eq_true (by kernel_rfl)) h0 (fun y hy => hlt y (List.mem_append_left _ hy))
  have a1 := bel.trod (by kernel_rfl) (by kernel_rfl) (of_decide_eq_true (by kernel_rfl)) h1 (fun y hy => hlt y (List.mem_append_right _ (List.mem_append_left _ hy)))
  have a2 := bel.trod (by kernel_rfl) (by kernel_rfl) (of_decide_eq_true (by kernel_rfl)) h2 (fun y hy => hlt y (List.mem_append_right _ (List.mem_append_right _ (List.mem_append_left _ hy))))
  have a3 := bel.trod (by kernel_rfl) (by kernel_rfl) (of_decide_eq_true (by kernel_rfl)) (⟨fuel3, by rw [hc3]; exact hf3⟩ : DataW.Trod enc Try.prog W 0 (fun _ => true) true 22 v3 d3 p3) (fun y hy => hlt y (List.mem_append_right _ (List.mem_append_right _ (List.mem_append_right _ hy))))
  exact ⟨_, rfl, _, _, _, [], _, [], hW', trodAll_mk1 (shut_bool Try.underlying4 _), (trodAll_cons_mk a0 (trodAll_cons_mk a1 (trodAll_cons_mk a2 (trodAll_cons_mk a3 trodAll_mk0)))), rfl, bel.frame _, fun h => by cases h⟩

set_option maxRecDepth 100000 in
theorem lifted (os : Os) (started : os.Started) (H : Type) (enc : TypeId × Value → H) :
    ReturnsInHanded {} Try.checked os 3 .any (Rows.talkPlaysSpec.pre6 enc Try.prog Try.f3 Rows.talkPlaysRow.domain false) (Rows.talkPlaysSpec.post enc Try.prog Try.f3 false true false false) := by
  refine returnsInHanded_of_change_sized (C := Try.checked) own started (by kernel_rfl) Try.func3
    (ChangeSpec.witness6 (enc := enc) (C := Try.checked) false ⟨#[], #[.int .i64 0, .int .i64 0, .int .i64 0, .slice none 0 0], []⟩ 8 (by kernel_rfl) (by kernel_rfl) (by kernel_rfl) (by kernel_rfl)) ?_
  intro W base args ds gs before hval hW _ hk _
  exact contract H enc W base args ds gs before hval hW hk

theorem proved : Rows.TalkPlaysSaid :=
  OpenClaim.holds_of_wide 3 Try.f3 rfl rfl rfl rfl rfl rfl rfl ⟨rfl, rfl, rfl, rfl, rfl⟩ rfl rfl rfl rfl rfl (by kernel_rfl) Try.func3 (by kernel_rfl)
    (of_decide_eq_true (by kernel_rfl)) (by unfold Func.isWrapper; first | (rw [if_pos (by decide +kernel)]; kernel_rfl) | (rw [if_neg (by decide +kernel)]; exact ⟨rfl, rfl⟩))
    (fun os started H enc _ => lifted os started H enc)
end Go.Proofs.Ytmhgoddlbklbfaa.talkPlaysFull
namespace Go.Proofs.Ytmhgoddlbklbfaa
theorem talkPlays_full : Rows.TalkPlaysSaid := talkPlaysFull.proved
#print axioms talkPlays_full
end Go.Proofs.Ytmhgoddlbklbfaa
