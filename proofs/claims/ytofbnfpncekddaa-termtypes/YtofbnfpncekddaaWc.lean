/- TermTypes returns true at every term and all types of constants: the program's Check, CheckType and TypeOf answer what the document's do. No conditions beyond the form's own reach. -/
import Derived.Test.YtofbnfpncekddaaRows
import Derived.Test.YtofbnfpncekddaaWa
import Derived.Test.YtofbnfpncekddaaWb
namespace Go.Proofs.Ytofbnfpncekddaa.termTypesFull
open Go.ChangeShapes Go.WideShapes Go.ChangeAt Go.RowKit
open Te Opw

theorem own : ownKnob Try.prog.godebug = none := by kernel_rfl
theorem one_cell {W : World} {base : Nat} {v : Value} (h : Value.okWide Try.prog W .any base 22 v) : v.cells.toList = [v] := by
  obtain ⟨a, l, c, hv⟩ := okWide_slice Try.underlying22 h
  rw [hv]
  rfl

set_option maxRecDepth 100000 in
theorem contract (H : Type) (enc : TypeId × Value → H) (W : World) (base : Nat) (args : Array Value) (ds gs : List (DataW H)) (before : List MemPlace)
    (hval : ∀ (j : Nat) t v, Try.f3.params[j]? = some t → args[j]? = some v → Value.okWide Try.prog W .any base t v)
    (hW : DataW.Whole enc Try.prog Try.f3.params.toList Rows.termTypesSpec.vars false W args.toList ds gs before) (hk : (DataW.weightsEach Try.prog (Try.f3.params.toList ++ Rows.termTypesSpec.plain.varTypes Try.prog) (ds ++ gs)).all (· ≤ reachBytes) = true) :
    Calls Try.prog 3 args W fun e W' => ∃ v, e = .returned v ∧ Rows.termTypesSpec.post enc Try.prog Try.f3 false true false false W args v W' := by
  have hW' := hW
  obtain ⟨p, q, hA0, hV, rfl, hfz, hnd⟩ := hW
  have hA : DataW.TrodAll enc Try.prog W 0 (fun _ => true) true Try.f3.params.toList args.toList ds p := hA0
  have hlt := DataW.TrodAll.lt hA
  rw [Try.params3] at hA hval hk
  obtain ⟨v0, vs0, d0, ds0, p0, q0, hargs, rfl, rfl, h0, r0⟩ := trodAll_cons hA
  obtain ⟨v1, vs1, d1, ds1, p1, q1, rfl, rfl, rfl, h1, r1⟩ := trodAll_cons r0
  obtain ⟨rfl, rfl, rfl⟩ := trodAll_nil r1
  obtain rfl : args = #[v0, v1] := by cases args; simp_all
  obtain ⟨rfl, rfl⟩ := trodVars_none hV
  simp only [List.append_nil] at hW' hk hlt
  have hall : ∀ n ∈ DataW.weightsEach Try.prog ([27, 22] ++ Rows.termTypesSpec.plain.varTypes Try.prog) [d0, d1], n ≤ reachBytes := fun n hn => of_decide_eq_true (List.all_eq_true.1 hk n hn)
  have b0 : ∀ n ∈ d0.weights Try.prog 27, n ≤ reachBytes := fun n hn => hall n (DataW.weights_mem_each (j := 0) rfl rfl n hn)
  have b1 : ∀ n ∈ d1.weights Try.prog 22, n ≤ reachBytes := fun n hn => hall n (DataW.weights_mem_each (j := 1) rfl rfl n hn)
  obtain ⟨y, hvy, hM⟩ := open_term (hval 0 27 v0 rfl rfl) h0 b0
  obtain ⟨fuel1, hf1⟩ := h1
  have hc1 : v1.cells.toList = [v1] := one_cell (hval 1 22 v1 rfl rfl)
  rw [hc1] at hf1
  obtain ⟨l, a, c, d, hvl, hL⟩ := open_tys (x := (d1, p1)) hf1 b1
  have hwalk := law_any y.d d y.t y.b y.e y.a y.c l a c W hM hL
  rw [← hvy, ← hvl] at hwalk
  refine hwalk.mono fun e W' ⟨he, bel⟩ => ?_
  subst he
  have a0 := bel.trod (by kernel_rfl) (by kernel_rfl) (of_decide_eq_true (by kernel_rfl)) h0 (fun y hy => hlt y (List.mem_append_left _ hy))
  have a1 := bel.trod (by kernel_rfl) (by kernel_rfl) (of_decide_eq_true (by kernel_rfl)) (⟨fuel1, by rw [hc1]; exact hf1⟩ : DataW.Trod enc Try.prog W 0 (fun _ => true) true 22 v1 d1 p1) (fun y hy => hlt y (List.mem_append_right _ hy))
  exact ⟨_, rfl, _, _, _, [], _, [], hW', trodAll_mk1 (shut_bool Try.underlying4 _), (trodAll_cons_mk a0 (trodAll_cons_mk a1 trodAll_mk0)), rfl, bel.frame _, fun h => by cases h⟩

set_option maxRecDepth 100000 in
theorem lifted (os : Os) (started : os.Started) (H : Type) (enc : TypeId × Value → H) :
    ReturnsInHanded {} Try.checked os 3 .any (Rows.termTypesSpec.pre6 enc Try.prog Try.f3 Rows.termTypesRow.domain false) (Rows.termTypesSpec.post enc Try.prog Try.f3 false true false false) := by
  refine returnsInHanded_of_change_sized (C := Try.checked) own started (by kernel_rfl) Try.func3
    (ChangeSpec.witness6 (enc := enc) (C := Try.checked) false ⟨#[], #[.agg #[.int .i64 0, .int .i64 0, .int .i64 0, .int .i64 0, .slice none 0 0, .slice none 0 0], .slice none 0 0], []⟩ 8 (by kernel_rfl) (by kernel_rfl) (by kernel_rfl) (by kernel_rfl)) ?_
  intro W base args ds gs before hval hW _ hk _
  exact contract H enc W base args ds gs before hval hW hk

theorem proved : Rows.TermTypesSaid :=
  OpenClaim.holds_of_wide 3 Try.f3 rfl rfl rfl rfl rfl rfl rfl ⟨rfl, rfl, rfl, rfl, rfl⟩ rfl rfl rfl rfl rfl (by kernel_rfl) Try.func3 (by kernel_rfl)
    (of_decide_eq_true (by kernel_rfl)) (by unfold Func.isWrapper; first | (rw [if_pos (by decide +kernel)]; kernel_rfl) | (rw [if_neg (by decide +kernel)]; exact ⟨rfl, rfl⟩))
    (fun os started H enc _ => lifted os started H enc)
end Go.Proofs.Ytofbnfpncekddaa.termTypesFull
namespace Go.Proofs.Ytofbnfpncekddaa
theorem termTypes_full : Rows.TermTypesSaid := termTypesFull.proved
#print axioms termTypes_full
end Go.Proofs.Ytofbnfpncekddaa
