/- SpellFars returns true at any two texts and any list of edits: Far, Way and Do are the document's. Condition: what comes in is of bulk at most 1048576. -/
import Derived.Test.YtiiheaopamjijaaRows
import Derived.Test.YtiiheaopamjijaaSf
import Derived.Test.YtiiheaopamjijaaOe
import Derived.ShutString
namespace Go.Proofs.Ytiiheaopamjijaa.spellFars
open Go.ChangeShapes Go.WideShapes Go.ChangeAt Go.RowKit
open Go.ChangeMaps (open_string shut_string)
open Rw Rv Oe

theorem own : ownKnob Try.prog.godebug = none := by kernel_rfl

theorem small {H : Type} {a b : ByteArray} {d2 : DataW H} (hk : Rows.uptoSmall H [.lit (.string a.data.toList), .lit (.string b.data.toList), d2] = true) : a.size ≤ 1048576 ∧ b.size ≤ 1048576 ∧ Rows.uptoBulk d2 ≤ 1048576 := by
  have h : Rows.uptoBulkAll [DataW.lit (H := H) (.string a.data.toList), .lit (.string b.data.toList), d2] ≤ 1048576 := of_decide_eq_true hk
  simp only [Rows.uptoBulkAll, Rows.uptoBulk] at h
  have e : a.data.toList.length = a.size := by rw [Array.length_toList]; rfl
  have e' : b.data.toList.length = b.size := by rw [Array.length_toList]; rfl
  omega

set_option maxRecDepth 100000 in
theorem contract (H : Type) (enc : TypeId × Value → H) (W : World) (base : Nat) (args : Array Value) (ds gs : List (DataW H)) (before : List MemPlace)
    (hval : ∀ (j : Nat) t v, Try.f3.params[j]? = some t → args[j]? = some v → Value.okWide Try.prog W .any base t v)
    (hW : DataW.Whole enc Try.prog Try.f3.params.toList Rows.spellFarsSpec.vars false W args.toList ds gs before) (hk : Rows.uptoSmall H (ds ++ gs) = true) :
    Calls Try.prog 3 args W fun e W' => ∃ v, e = .returned v ∧ Rows.spellFarsSpec.post enc Try.prog Try.f3 false true false false W args v W' := by
  have hW' := hW
  obtain ⟨p, q, hA0, hV, rfl, hfz, hnd⟩ := hW
  have hA : DataW.TrodAll enc Try.prog W 0 (fun _ => true) true Try.f3.params.toList args.toList ds p := hA0
  have hlt := DataW.TrodAll.lt hA
  rw [Try.params3] at hA hval
  obtain ⟨v0, vs0, d0, ds0, p0, q0, hargs, rfl, rfl, h0, r0⟩ := trodAll_cons hA
  obtain ⟨v1, vs1, d1, ds1, p1, q1, rfl, rfl, rfl, h1, r1⟩ := trodAll_cons r0
  obtain ⟨v2, vs2, d2, ds2, p2, q2, rfl, rfl, rfl, h2, r2⟩ := trodAll_cons r1
  obtain ⟨rfl, rfl, rfl⟩ := trodAll_nil r2
  obtain rfl : args = #[v0, v1, v2] := by cases args; simp_all
  obtain ⟨rfl, rfl⟩ := trodVars_none hV
  simp only [List.append_nil] at hW' hk hlt
  obtain ⟨a, rfl, rfl, rfl, hma⟩ := open_string Try.underlying9 (hval 0 9 v0 rfl rfl) h0
  obtain ⟨b, rfl, rfl, rfl, hmb⟩ := open_string Try.underlying9 (hval 1 9 v1 rfl rfl) h1
  obtain ⟨ka, kb, kd⟩ := small hk
  obtain ⟨fuel, h2f⟩ := id h2
  have hcl : v2.cells.toList = [v2] := by
    obtain ⟨sa, sl, sc, hv⟩ := okWide_slice Try.underlying22 (hval 2 22 v2 rfl rfl)
    subst hv
    rfl
  rw [hcl] at h2f
  obtain ⟨L, hL, hR, hs⟩ := open_edits h2f kd
  refine (Sf.walk a b v2 L W ka kb hR hs hL).mono fun e W' ⟨he, bel⟩ => ?_
  subst he
  have a2 := bel.trod (by kernel_rfl) (by kernel_rfl) (of_decide_eq_true (by kernel_rfl)) h2 (fun y hy => hlt y (List.mem_append_right _ (List.mem_append_right _ hy)))
  exact ⟨_, rfl, _, _, _, [], _, [], hW', trodAll_mk1 (shut_bool Try.underlying4 _), (trodAll_cons_mk (shut_string Try.underlying9 hma) (trodAll_cons_mk (shut_string Try.underlying9 hmb) (trodAll_cons_mk a2 trodAll_mk0))), rfl, bel.frame _, fun h => by cases h⟩

set_option maxRecDepth 100000 in
theorem lifted (os : Os) (started : os.Started) (H : Type) (enc : TypeId × Value → H) (F : Stop.Interp) :
    ReturnsInHanded {} Try.checked os 3 .any ((Rows.OpenSpec.upto Rows.spellFarsSpec).pre6 enc Try.prog Try.f3 Rows.spellFarsUptoRow.domain false) (((Rows.OpenSpec.upto Rows.spellFarsSpec).at F).post enc Try.prog Try.f3 false true false false) := by
  refine returnsInHanded_of_cond (C := Try.checked) (s := Rows.OpenSpec.upto Rows.spellFarsSpec) (k := Rows.uptoSmall) rfl own started (by kernel_rfl) Try.func3
    (OpenSpec.witness (enc := enc) (C := Try.checked) (s := Rows.OpenSpec.upto Rows.spellFarsSpec) (k := Rows.uptoSmall) rfl false ⟨#[], #[.string .empty, .string .empty, .slice none 0 0], []⟩ 8 (by kernel_rfl) (by kernel_rfl) (by kernel_rfl)
      (x := ([.lit (.string []), .lit (.string []), .nil], [], [])) (by kernel_rfl) rfl (by kernel_rfl)) ?_
  intro W base args ds gs before hval hW _ hk _
  exact contract H enc W base args ds gs before hval hW hk

theorem proved : Rows.SpellFarsUptoSaid :=
  OpenClaim.holds_of_cond 3 Try.f3 rfl rfl rfl rfl rfl rfl rfl ⟨rfl, rfl, rfl, rfl, rfl⟩ rfl rfl rfl rfl rfl (by kernel_rfl) Try.func3 (by kernel_rfl)
    (of_decide_eq_true (by kernel_rfl)) (by unfold Func.isWrapper; first | (rw [if_pos (by decide +kernel)]; kernel_rfl) | (rw [if_neg (by decide +kernel)]; exact ⟨rfl, rfl⟩))
    (fun os started H enc _ F => lifted os started H enc F)
end Go.Proofs.Ytiiheaopamjijaa.spellFars
namespace Go.Proofs.Ytiiheaopamjijaa
theorem spellFars_holds : Rows.SpellFarsUptoSaid := spellFars.proved
#print axioms spellFars_holds
end Go.Proofs.Ytiiheaopamjijaa
