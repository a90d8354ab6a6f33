/- ProveSound returns true at all premises and lines: the program's Sound answers what the document's does. Condition: what comes in is of bulk at most 1048576. -/
import Derived.Test.YtkemchblnciiaaaRows
import Derived.Test.YtkemchblnciiaaaLs
import Derived.Test.YtkemchblnciiaaaOu
namespace Go.Proofs.Ytkemchblnciiaaa.proveSound
open Go.ChangeShapes Go.WideShapes Go.ChangeAt Go.RowKit
open Cl Cs Ri Opu

theorem own : ownKnob Try.prog.godebug = none := by kernel_rfl

theorem small {H : Type} {d0 d1 : DataW H} (hk : Rows.uptoSmall H [d0, d1] = true) : Rows.uptoBulk d0 ≤ 1048576 ∧ Rows.uptoBulk d1 ≤ 1048576 := by
  have h : Rows.uptoBulkAll [d0, d1] ≤ 1048576 := of_decide_eq_true hk
  simp only [Rows.uptoBulkAll] at h
  omega
theorem one_cell {W : World} {base : Nat} {v : Value} {t e : TypeId} (ht : Try.prog.underlying t = some (.slice e)) (h : Value.okWide Try.prog W .any base t v) : v.cells.toList = [v] := by
  obtain ⟨a, l, c, hv⟩ := okWide_slice ht h
  rw [hv]
  rfl

set_option maxRecDepth 100000 in
theorem contract (H : Type) (enc : TypeId × Value → H) (W : World) (base : Nat) (args : Array Value) (ds gs : List (DataW H)) (before : List MemPlace)
    (hval : ∀ (j : Nat) t v, Try.f4.params[j]? = some t → args[j]? = some v → Value.okWide Try.prog W .any base t v)
    (hW : DataW.Whole enc Try.prog Try.f4.params.toList Rows.proveSoundSpec.vars false W args.toList ds gs before) (hk : Rows.uptoSmall H (ds ++ gs) = true) :
    Calls Try.prog 4 args W fun e W' => ∃ v, e = .returned v ∧ Rows.proveSoundSpec.post enc Try.prog Try.f4 false true false false W args v W' := by
  have hW' := hW
  obtain ⟨p, q, hA0, hV, rfl, hfz, hnd⟩ := hW
  have hA : DataW.TrodAll enc Try.prog W 0 (fun _ => true) true Try.f4.params.toList args.toList ds p := hA0
  have hlt := DataW.TrodAll.lt hA
  rw [Try.params4] at hA hval
  obtain ⟨v0, vs0, d0, ds0, p0, q0, hargs, rfl, rfl, h0, r0⟩ := trodAll_cons hA
  obtain ⟨v1, vs1, d1, ds1, p1, q1, rfl, rfl, rfl, h1, r1⟩ := trodAll_cons r0
  obtain ⟨rfl, rfl, rfl⟩ := trodAll_nil r1
  obtain rfl : args = #[v0, v1] := by cases args; simp_all
  obtain ⟨rfl, rfl⟩ := trodVars_none hV
  simp only [List.append_nil] at hW' hk hlt
  obtain ⟨b0, b1⟩ := small hk
  obtain ⟨fuel0, hf0⟩ := h0
  have hc0 : v0.cells.toList = [v0] := one_cell Try.underlying32 (hval 0 32 v0 rfl rfl)
  rw [hc0] at hf0
  obtain ⟨ps, hP⟩ := open_claims (x := (d0, p0)) hf0 b0
  obtain ⟨fuel1, hf1⟩ := h1
  have hc1 : v1.cells.toList = [v1] := one_cell Try.underlying33 (hval 1 33 v1 rfl rfl)
  rw [hc1] at hf1
  obtain ⟨Z, al, kl, hv1, hL, hcap, hfl, hn⟩ := open_lines (x := (d1, p1)) hf1 b1
  have con := Ls.walk ps Z v0 al kl W hP (hv1 ▸ hL) hcap hfl hn
  rw [← hv1] at con
  refine con.mono fun e W' ⟨he, bel⟩ => ?_
  subst he
  have a0 := bel.trod (by kernel_rfl) (by kernel_rfl) (of_decide_eq_true (by kernel_rfl)) (⟨fuel0, by rw [hc0]; exact hf0⟩ : DataW.Trod enc Try.prog W 0 (fun _ => true) true 32 v0 d0 p0) (fun y hy => hlt y (List.mem_append_left _ hy))
  have a1 := bel.trod (by kernel_rfl) (by kernel_rfl) (of_decide_eq_true (by kernel_rfl)) (⟨fuel1, by rw [hc1]; exact hf1⟩ : DataW.Trod enc Try.prog W 0 (fun _ => true) true 33 v1 d1 p1) (fun y hy => hlt y (List.mem_append_right _ hy))
  exact ⟨_, rfl, _, _, _, [], _, [], hW', trodAll_mk1 (shut_bool Try.underlying4 _), (trodAll_cons_mk a0 (trodAll_cons_mk a1 trodAll_mk0)), rfl, bel.frame _, fun h => by cases h⟩

set_option maxRecDepth 100000 in
theorem lifted (os : Os) (started : os.Started) (H : Type) (enc : TypeId × Value → H) (F : Stop.Interp) :
    ReturnsInHanded {} Try.checked os 4 .any ((Rows.OpenSpec.upto Rows.proveSoundSpec).pre6 enc Try.prog Try.f4 Rows.proveSoundUptoRow.domain false) (((Rows.OpenSpec.upto Rows.proveSoundSpec).at F).post enc Try.prog Try.f4 false true false false) := by
  refine returnsInHanded_of_cond (C := Try.checked) (s := Rows.OpenSpec.upto Rows.proveSoundSpec) (k := Rows.uptoSmall) rfl own started (by kernel_rfl) Try.func4
    (OpenSpec.witness (enc := enc) (C := Try.checked) (s := Rows.OpenSpec.upto Rows.proveSoundSpec) (k := Rows.uptoSmall) rfl false ⟨#[], #[.slice none 0 0, .slice none 0 0], []⟩ 8 (by kernel_rfl) (by kernel_rfl) (by kernel_rfl)
      (x := ([.nil, .nil], [], [])) (by kernel_rfl) rfl (by kernel_rfl)) ?_
  intro W base args ds gs before hval hW _ hk _
  exact contract H enc W base args ds gs before hval hW hk

theorem proved : Rows.ProveSoundUptoSaid :=
  OpenClaim.holds_of_cond 4 Try.f4 rfl rfl rfl rfl rfl rfl rfl ⟨rfl, rfl, rfl, rfl, rfl⟩ rfl rfl rfl rfl rfl (by kernel_rfl) Try.func4 (by kernel_rfl)
    (of_decide_eq_true (by kernel_rfl)) (by unfold Func.isWrapper; first | (rw [if_pos (by decide +kernel)]; kernel_rfl) | (rw [if_neg (by decide +kernel)]; exact ⟨rfl, rfl⟩))
    (fun os started H enc _ F => lifted os started H enc F)
end Go.Proofs.Ytkemchblnciiaaa.proveSound
namespace Go.Proofs.Ytkemchblnciiaaa
theorem proveSound_holds : Rows.ProveSoundUptoSaid := proveSound.proved
#print axioms proveSound_holds
end Go.Proofs.Ytkemchblnciiaaa
