/- SpeechParts returns true at every part and every text: Check, Print and Read answer as the document says. No conditions beyond the form's own reach. -/
import Derived.Test.YtbmgkgoghgdbhaaRows
import Derived.Test.YtbmgkgoghgdbhaaWa
import Derived.Test.YtbmgkgoghgdbhaaKh
namespace Go.Proofs.Ytbmgkgoghgdbhaa.speechPartsFull
open Go.ChangeShapes Go.WideShapes Go.ChangeAt Go.RowKit
open Te Opw
open Go.ChangeMaps (open_string shut_string)

theorem own : ownKnob Try.prog.godebug = none := by kernel_rfl
set_option maxRecDepth 100000 in
theorem contract (H : Type) (enc : TypeId × Value → H) (W : World) (base : Nat) (args : Array Value) (ds gs : List (DataW H)) (before : List MemPlace)
    (hval : ∀ (j : Nat) t v, Try.f3.params[j]? = some t → args[j]? = some v → Value.okWide Try.prog W .any base t v)
    (hW : DataW.Whole enc Try.prog Try.f3.params.toList Rows.speechPartsSpec.vars false W args.toList ds gs before) (hk : (DataW.weightsEach Try.prog (Try.f3.params.toList ++ Rows.speechPartsSpec.plain.varTypes Try.prog) (ds ++ gs)).all (· ≤ reachBytes) = true) :
    Calls Try.prog 3 args W fun e W' => ∃ v, e = .returned v ∧ Rows.speechPartsSpec.post enc Try.prog Try.f3 false true false false W args v W' := by
  have hW' := hW
  obtain ⟨p, q, hA0, hV, rfl, hfz, hnd⟩ := hW
  have hA : DataW.TrodAll enc Try.prog W 0 (fun _ => true) true Try.f3.params.toList args.toList ds p := hA0
  have hlt := DataW.TrodAll.lt hA
  rw [Try.params3] at hA hval hk
  obtain ⟨v0, vs0, d0, ds0, p0, q0, hargs, rfl, rfl, h0, r0⟩ := trodAll_cons hA
  obtain ⟨v1, vs1, d1, ds1, p1, q1, rfl, rfl, rfl, h1, r1⟩ := trodAll_cons r0
  obtain ⟨rfl, rfl, rfl⟩ := trodAll_nil r1
  obtain rfl : args = #[v0, v1] := by cases args; simp_all
  obtain ⟨rfl, rfl⟩ := trodVars_none hV
  simp only [List.append_nil] at hW' hk hlt
  have hall : ∀ n ∈ DataW.weightsEach Try.prog ([24, 9] ++ Rows.speechPartsSpec.plain.varTypes Try.prog) [d0, d1], n ≤ reachBytes := fun n hn => of_decide_eq_true (List.all_eq_true.1 hk n hn)
  have b0 : ∀ n ∈ d0.weights Try.prog 24, n ≤ reachBytes := fun n hn => hall n (DataW.weights_mem_each (j := 0) rfl rfl n hn)
  have b1 : ∀ n ∈ d1.weights Try.prog 9, n ≤ reachBytes := fun n hn => hall n (DataW.weights_mem_each (j := 1) rfl rfl n hn)
  obtain ⟨t, a, c, d, hvt, hT⟩ := open_part (hval 0 24 v0 rfl rfl) h0 b0
  obtain ⟨s, rfl, rfl, rfl, hmax⟩ := open_string Try.underlying9 (hval 1 9 v1 rfl rfl) h1
  have hs : s.size ≤ 140737488355328 := by
    have h1 := b1 s.size (by simp [DataW.weights])
    have := reachBytes_lt
    omega
  have hwalk := parts_law t a c s W hT hs
  rw [← hvt] at hwalk
  refine hwalk.mono fun e W' ⟨he, bel⟩ => ?_
  subst he
  have a0 := bel.trod (by kernel_rfl) (by kernel_rfl) (of_decide_eq_true (by kernel_rfl)) h0 (fun y hy => hlt y (List.mem_append_left _ hy))
  exact ⟨_, rfl, _, _, _, [], _, [], hW', trodAll_mk1 (shut_bool Try.underlying4 _), (trodAll_cons_mk a0 (trodAll_cons_mk (shut_string Try.underlying9 hmax) trodAll_mk0)), rfl, bel.frame _, fun h => by cases h⟩

set_option maxRecDepth 100000 in
theorem lifted (os : Os) (started : os.Started) (H : Type) (enc : TypeId × Value → H) :
    ReturnsInHanded {} Try.checked os 3 .any (Rows.speechPartsSpec.pre6 enc Try.prog Try.f3 Rows.speechPartsRow.domain false) (Rows.speechPartsSpec.post enc Try.prog Try.f3 false true false false) := by
  refine returnsInHanded_of_change_sized (C := Try.checked) own started (by kernel_rfl) Try.func3
    (ChangeSpec.witness6 (enc := enc) (C := Try.checked) false ⟨#[], #[.agg #[.int .i64 0, .int .i64 0, .slice none 0 0], .string .empty], []⟩ 8 (by kernel_rfl) (by kernel_rfl) (by kernel_rfl) (by kernel_rfl)) ?_
  intro W base args ds gs before hval hW _ hk _
  exact contract H enc W base args ds gs before hval hW hk

theorem proved : Rows.SpeechPartsSaid :=
  OpenClaim.holds_of_wide 3 Try.f3 rfl rfl rfl rfl rfl rfl rfl ⟨rfl, rfl, rfl, rfl, rfl⟩ rfl rfl rfl rfl rfl (by kernel_rfl) Try.func3 (by kernel_rfl)
    (of_decide_eq_true (by kernel_rfl)) (by unfold Func.isWrapper; first | (rw [if_pos (by decide +kernel)]; kernel_rfl) | (rw [if_neg (by decide +kernel)]; exact ⟨rfl, rfl⟩))
    (fun os started H enc _ => lifted os started H enc)
end Go.Proofs.Ytbmgkgoghgdbhaa.speechPartsFull
namespace Go.Proofs.Ytbmgkgoghgdbhaa
theorem speechParts_full : Rows.SpeechPartsSaid := speechPartsFull.proved
#print axioms speechParts_full
end Go.Proofs.Ytbmgkgoghgdbhaa
