/- ProveComplete returns true at all premises, claims, worlds and further premises: what Argue argues for is right and holds wherever the premises do; what it does not argue for has a world against it, which Against tells; one premise more takes nothing away. No conditions beyond the form's own reach. -/
import Derived.Test.YtcnanbimpajonaaRows
import Derived.Test.YtcnanbimpajonaaLe
import Derived.Test.YtcnanbimpajonaaOw
namespace Go.Proofs.Ytcnanbimpajonaa.proveCompleteFull
open Go.ChangeShapes Go.WideShapes Go.ChangeAt Go.RowKit
open Cl Cs Cf Opw Pq

theorem walk (ps : List C) (c : C) (xs : List Int) (mo : C) (vp vw : Value) (w : World) (hp : IsC w vp ps) (hw : IsI w vw xs) :
    Calls Try.prog 4 #[vp, vc c, vw, vc mo] w fun e w' => e = .returned (.bool true) ∧ Below w.heap.size w w' := by
  by_cases h : Au.checkAllP ps c = 0
  · cases ha : againstB ps c with
    | true => exact Ld.walk_no ps c xs mo vp vw w hp hw h ha
    | false => exact Le.walk_yes ps c xs mo vp vw w hp hw h ha
  · exact Lc.walk_bad ps c xs mo vp vw w hp hw h

theorem own : ownKnob Try.prog.godebug = none := by kernel_rfl
theorem one_cell22 {W : World} {base : Nat} {v : Value} (h : Value.okWide Try.prog W .any base 22 v) : v.cells.toList = [v] := by
  obtain ⟨a, l, c, hv⟩ := okWide_slice Try.underlying22 h
  rw [hv]
  rfl
theorem one_cell29 {W : World} {base : Nat} {v : Value} (h : Value.okWide Try.prog W .any base 29 v) : v.cells.toList = [v] := by
  obtain ⟨a, l, c, hv⟩ := okWide_slice Try.underlying29 h
  rw [hv]
  rfl

set_option maxRecDepth 100000 in
theorem contract (H : Type) (enc : TypeId × Value → H) (W : World) (base : Nat) (args : Array Value) (ds gs : List (DataW H)) (before : List MemPlace)
    (hval : ∀ (j : Nat) t v, Try.f4.params[j]? = some t → args[j]? = some v → Value.okWide Try.prog W .any base t v)
    (hW : DataW.Whole enc Try.prog Try.f4.params.toList Rows.proveCompleteSpec.vars false W args.toList ds gs before) (hk : (DataW.weightsEach Try.prog (Try.f4.params.toList ++ Rows.proveCompleteSpec.plain.varTypes Try.prog) (ds ++ gs)).all (· ≤ reachBytes) = true) :
    Calls Try.prog 4 args W fun e W' => ∃ v, e = .returned v ∧ Rows.proveCompleteSpec.post enc Try.prog Try.f4 false true false false W args v W' := by
  have hW' := hW
  obtain ⟨p, q, hA0, hV, rfl, hfz, hnd⟩ := hW
  have hA : DataW.TrodAll enc Try.prog W 0 (fun _ => true) true Try.f4.params.toList args.toList ds p := hA0
  have hlt := DataW.TrodAll.lt hA
  rw [Try.params4] at hA hval hk
  obtain ⟨v0, vs0, d0, ds0, p0, q0, hargs, rfl, rfl, h0, r0⟩ := trodAll_cons hA
  obtain ⟨v1, vs1, d1, ds1, p1, q1, rfl, rfl, rfl, h1, r1⟩ := trodAll_cons r0
  obtain ⟨v2, vs2, d2, ds2, p2, q2, rfl, rfl, rfl, h2, r2⟩ := trodAll_cons r1
  obtain ⟨v3, vs3, d3, ds3, p3, q3, rfl, rfl, rfl, h3, r3⟩ := trodAll_cons r2
  obtain ⟨rfl, rfl, rfl⟩ := trodAll_nil r3
  obtain rfl : args = #[v0, v1, v2, v3] := by cases args; simp_all
  obtain ⟨rfl, rfl⟩ := trodVars_none hV
  simp only [List.append_nil] at hW' hk hlt
  have hall : ∀ n ∈ DataW.weightsEach Try.prog ([22, 24, 29, 24] ++ Rows.proveCompleteSpec.plain.varTypes Try.prog) [d0, d1, d2, d3], n ≤ reachBytes := fun n hn => of_decide_eq_true (List.all_eq_true.1 hk n hn)
  have b0 : ∀ n ∈ d0.weights Try.prog 22, n ≤ reachBytes := fun n hn => hall n (DataW.weights_mem_each (j := 0) rfl rfl n hn)
  have b2 : ∀ n ∈ d2.weights Try.prog 29, n ≤ reachBytes := fun n hn => hall n (DataW.weights_mem_each (j := 2) rfl rfl n hn)
  obtain ⟨c, hc⟩ := open_claim (hval 1 24 v1 rfl rfl) h1
  subst hc
  obtain ⟨mo, hm⟩ := open_claim (hval 3 24 v3 rfl rfl) h3
  subst hm
  obtain ⟨fuel0, hf0⟩ := h0
  have hc0 : v0.cells.toList = [v0] := one_cell22 (hval 0 22 v0 rfl rfl)
  rw [hc0] at hf0
  obtain ⟨ps, hP⟩ := open_claims (x := (d0, p0)) hf0 b0
  obtain ⟨fuel2, hf2⟩ := h2
  have hc2 : v2.cells.toList = [v2] := one_cell29 (hval 2 29 v2 rfl rfl)
  rw [hc2] at hf2
  obtain ⟨xs, hI⟩ := open_isI (x := (d2, p2)) hf2 b2
  refine (walk ps c xs mo v0 v2 W hP hI).mono fun e W' ⟨he, bel⟩ => ?_
  subst he
  have a0 := bel.trod (by kernel_rfl) (by kernel_rfl) (of_decide_eq_true (by kernel_rfl)) (⟨fuel0, by rw [hc0]; exact hf0⟩ : DataW.Trod enc Try.prog W 0 (fun _ => true) true 22 v0 d0 p0) (fun y hy => hlt y (by simp [hy]))
  have a1 := bel.trod (by kernel_rfl) (by kernel_rfl) (of_decide_eq_true (by kernel_rfl)) h1 (fun y hy => hlt y (by simp [hy]))
  have a2 := bel.trod (by kernel_rfl) (by kernel_rfl) (of_decide_eq_true (by kernel_rfl)) (⟨fuel2, by rw [hc2]; exact hf2⟩ : DataW.Trod enc Try.prog W 0 (fun _ => true) true 29 v2 d2 p2) (fun y hy => hlt y (by simp [hy]))
  have a3 := bel.trod (by kernel_rfl) (by kernel_rfl) (of_decide_eq_true (by kernel_rfl)) h3 (fun y hy => hlt y (by simp [hy]))
  exact ⟨_, rfl, _, _, _, [], _, [], hW', trodAll_mk1 (shut_bool Try.underlying4 _), (trodAll_cons_mk a0 (trodAll_cons_mk a1 (trodAll_cons_mk a2 (trodAll_cons_mk a3 trodAll_mk0)))), rfl, bel.frame _, fun h => by cases h⟩

set_option maxRecDepth 100000 in
theorem lifted (os : Os) (started : os.Started) (H : Type) (enc : TypeId × Value → H) :
    ReturnsInHanded {} Try.checked os 4 .any (Rows.proveCompleteSpec.pre6 enc Try.prog Try.f4 Rows.proveCompleteRow.domain false) (Rows.proveCompleteSpec.post enc Try.prog Try.f4 false true false false) := by
  refine returnsInHanded_of_change_sized (C := Try.checked) own started (by kernel_rfl) Try.func4
    (ChangeSpec.witness6 (enc := enc) (C := Try.checked) false ⟨#[], #[.slice none 0 0, .agg #[.bool false, .int .i64 0, .int .i64 0], .slice none 0 0, .agg #[.bool false, .int .i64 0, .int .i64 0]], []⟩ 8 (by kernel_rfl) (by kernel_rfl) (by kernel_rfl) (by kernel_rfl)) ?_
  intro W base args ds gs before hval hW _ hk _
  exact contract H enc W base args ds gs before hval hW hk

theorem proved : Rows.ProveCompleteSaid :=
  OpenClaim.holds_of_wide 4 Try.f4 rfl rfl rfl rfl rfl rfl rfl ⟨rfl, rfl, rfl, rfl, rfl⟩ rfl rfl rfl rfl rfl (by kernel_rfl) Try.func4 (by kernel_rfl)
    (of_decide_eq_true (by kernel_rfl)) (by unfold Func.isWrapper; first | (rw [if_pos (by decide +kernel)]; kernel_rfl) | (rw [if_neg (by decide +kernel)]; exact ⟨rfl, rfl⟩))
    (fun os started H enc _ => lifted os started H enc)
end Go.Proofs.Ytcnanbimpajonaa.proveCompleteFull
namespace Go.Proofs.Ytcnanbimpajonaa
theorem proveComplete_full : Rows.ProveCompleteSaid := proveCompleteFull.proved
#print axioms proveComplete_full
end Go.Proofs.Ytcnanbimpajonaa
