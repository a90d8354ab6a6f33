/- SpeechLambek returns true at all parts: what the goal may want may as well stand there; what is proved through something is proved; what is proved has as many of each base part on either side. Condition: what comes in is of bulk at most 1048576. -/
import Derived.Test.YtbmgkgoghgdbhaaRows
import Derived.Test.YtbmgkgoghgdbhaaXf
import Derived.Test.YtbmgkgoghgdbhaaWd
namespace Go.Proofs.Ytbmgkgoghgdbhaa.speechLambekUpto
open Go.ChangeShapes Go.WideShapes Go.ChangeAt Go.RowKit
open Te Opw

theorem own : ownKnob Try.prog.godebug = none := by kernel_rfl
theorem small {H : Type} {d0 d1 d2 d3 d4 : DataW H} (hk : Rows.uptoSmall H [d0, d1, d2, d3, d4] = true) : Rows.uptoBulk d0 ≤ 1048576 ∧ Rows.uptoBulk d1 ≤ 1048576 ∧ Rows.uptoBulk d2 ≤ 1048576 ∧ Rows.uptoBulk d3 ≤ 1048576 ∧ Rows.uptoBulk d4 ≤ 1048576 := by
  have h : Rows.uptoBulkAll [d0, d1, d2, d3, d4] ≤ 1048576 := of_decide_eq_true hk
  simp only [Rows.uptoBulkAll] at h
  omega

set_option maxRecDepth 100000 in
theorem contract (H : Type) (enc : TypeId × Value → H) (W : World) (base : Nat) (args : Array Value) (ds gs : List (DataW H)) (before : List MemPlace)
    (hval : ∀ (j : Nat) t v, Try.f8.params[j]? = some t → args[j]? = some v → Value.okWide Try.prog W .any base t v)
    (hW : DataW.Whole enc Try.prog Try.f8.params.toList Rows.speechLambekSpec.vars false W args.toList ds gs before) (hk : Rows.uptoSmall H (ds ++ gs) = true) :
    Calls Try.prog 8 args W fun e W' => ∃ v, e = .returned v ∧ Rows.speechLambekSpec.post enc Try.prog Try.f8 false true false false W args v W' := by
  have hW' := hW
  obtain ⟨p, q, hA0, hV, rfl, hfz, hnd⟩ := hW
  have hA : DataW.TrodAll enc Try.prog W 0 (fun _ => true) true Try.f8.params.toList args.toList ds p := hA0
  have hlt := DataW.TrodAll.lt hA
  rw [Try.params8] at hA hval
  obtain ⟨v0, vs0, d0, ds0, p0, q0, hargs, rfl, rfl, h0, r0⟩ := trodAll_cons hA
  obtain ⟨v1, vs1, d1, ds1, p1, q1, rfl, rfl, rfl, h1, r1⟩ := trodAll_cons r0
  obtain ⟨v2, vs2, d2, ds2, p2, q2, rfl, rfl, rfl, h2, r2⟩ := trodAll_cons r1
  obtain ⟨v3, vs3, d3, ds3, p3, q3, rfl, rfl, rfl, h3, r3⟩ := trodAll_cons r2
  obtain ⟨v4, vs4, d4, ds4, p4, q4, rfl, rfl, rfl, h4, r4⟩ := trodAll_cons r3
  obtain ⟨rfl, rfl, rfl⟩ := trodAll_nil r4
  obtain rfl : args = #[v0, v1, v2, v3, v4] := by cases args; simp_all
  obtain ⟨rfl, rfl⟩ := trodVars_none hV
  simp only [List.append_nil] at hW' hk hlt
  obtain ⟨b0, b1, b2, b3, b4⟩ := small hk
  obtain ⟨fuel0, hf0⟩ := h0
  have hc0 : v0.cells.toList = [v0] := one_cell (hval 0 22 v0 rfl rfl)
  rw [hc0] at hf0
  obtain ⟨G, aG, cG, dG, hvG, _, nG, hG⟩ := openu_tys (x := (d0, p0)) hf0 b0
  obtain ⟨fuel1, hf1⟩ := h1
  have hc1 : v1.cells.toList = [v1] := one_cell (hval 1 22 v1 rfl rfl)
  rw [hc1] at hf1
  obtain ⟨D, aD, cD, dD, hvD, rD, nD, hD⟩ := openu_tys (x := (d1, p1)) hf1 b1
  obtain ⟨fuel2, hf2⟩ := h2
  have hc2 : v2.cells.toList = [v2] := one_cell (hval 2 22 v2 rfl rfl)
  rw [hc2] at hf2
  obtain ⟨L, aL, cL, dL, hvL, _, nL, hL⟩ := openu_tys (x := (d2, p2)) hf2 b2
  obtain ⟨x, ax, cx, dx, hvx, hx⟩ := openu_part (hval 3 24 v3 rfl rfl) h3 b3
  obtain ⟨z, az, cz, dz, hvz, hz⟩ := openu_part (hval 4 24 v4 rfl rfl) h4 b4
  have hwalk := lambek_law (dd := dG + dD + dL + dx + dz) G aG cG D aD cD L aL cL x ax cx z az cz W (hG.more (by omega)) (by omega) (hD.more (by omega)) (by omega) rD (hL.more (by omega)) (by omega) (hx.more (by omega)) (hz.more (by omega))
  rw [← hvG, ← hvD, ← hvL, ← hvx, ← hvz] at hwalk
  refine hwalk.mono fun e W' ⟨he, bel⟩ => ?_
  subst he
  have a0 := bel.trod (by kernel_rfl) (by kernel_rfl) (of_decide_eq_true (by kernel_rfl)) (⟨fuel0, by rw [hc0]; exact hf0⟩ : DataW.Trod enc Try.prog W 0 (fun _ => true) true 22 v0 d0 p0) (fun y hy => hlt y (by simp [hy]))
  have a1 := bel.trod (by kernel_rfl) (by kernel_rfl) (of_decide_eq_true (by kernel_rfl)) (⟨fuel1, by rw [hc1]; exact hf1⟩ : DataW.Trod enc Try.prog W 0 (fun _ => true) true 22 v1 d1 p1) (fun y hy => hlt y (by simp [hy]))
  have a2 := bel.trod (by kernel_rfl) (by kernel_rfl) (of_decide_eq_true (by kernel_rfl)) (⟨fuel2, by rw [hc2]; exact hf2⟩ : DataW.Trod enc Try.prog W 0 (fun _ => true) true 22 v2 d2 p2) (fun y hy => hlt y (by simp [hy]))
  have a3 := bel.trod (by kernel_rfl) (by kernel_rfl) (of_decide_eq_true (by kernel_rfl)) h3 (fun y hy => hlt y (by simp [hy]))
  have a4 := bel.trod (by kernel_rfl) (by kernel_rfl) (of_decide_eq_true (by kernel_rfl)) h4 (fun y hy => hlt y (by simp [hy]))
  exact ⟨_, rfl, _, _, _, [], _, [], hW', trodAll_mk1 (shut_bool Try.underlying4 _), (trodAll_cons_mk a0 (trodAll_cons_mk a1 (trodAll_cons_mk a2 (trodAll_cons_mk a3 (trodAll_cons_mk a4 trodAll_mk0))))), rfl, bel.frame _, fun h => by cases h⟩

set_option maxRecDepth 100000 in
theorem lifted (os : Os) (started : os.Started) (H : Type) (enc : TypeId × Value → H) (F : Stop.Interp) :
    ReturnsInHanded {} Try.checked os 8 .any ((Rows.OpenSpec.upto Rows.speechLambekSpec).pre6 enc Try.prog Try.f8 Rows.speechLambekUptoRow.domain false) (((Rows.OpenSpec.upto Rows.speechLambekSpec).at F).post enc Try.prog Try.f8 false true false false) := by
  refine returnsInHanded_of_cond (C := Try.checked) (s := Rows.OpenSpec.upto Rows.speechLambekSpec) (k := Rows.uptoSmall) rfl own started (by kernel_rfl) Try.func8
    (OpenSpec.witness (enc := enc) (C := Try.checked) (s := Rows.OpenSpec.upto Rows.speechLambekSpec) (k := Rows.uptoSmall) rfl false ⟨#[], #[.slice none 0 0, .slice none 0 0, .slice none 0 0, .agg #[.int .i64 0, .int .i64 0, .slice none 0 0], .agg #[.int .i64 0, .int .i64 0, .slice none 0 0]], []⟩ 8 (by kernel_rfl) (by kernel_rfl) (by kernel_rfl)
      (x := ([.nil, .nil, .nil, .agg [.lit (.int .i64 0), .lit (.int .i64 0), .nil], .agg [.lit (.int .i64 0), .lit (.int .i64 0), .nil]], [], [])) (by kernel_rfl) rfl (by kernel_rfl)) ?_
  intro W base args ds gs before hval hW _ hk _
  exact contract H enc W base args ds gs before hval hW hk

theorem proved : Rows.SpeechLambekUptoSaid :=
  OpenClaim.holds_of_cond 8 Try.f8 rfl rfl rfl rfl rfl rfl rfl ⟨rfl, rfl, rfl, rfl, rfl⟩ rfl rfl rfl rfl rfl (by kernel_rfl) Try.func8 (by kernel_rfl)
    (of_decide_eq_true (by kernel_rfl)) (by unfold Func.isWrapper; first | (rw [if_pos (by decide +kernel)]; kernel_rfl) | (rw [if_neg (by decide +kernel)]; exact ⟨rfl, rfl⟩))
    (fun os started H enc _ F => lifted os started H enc F)
end Go.Proofs.Ytbmgkgoghgdbhaa.speechLambekUpto
namespace Go.Proofs.Ytbmgkgoghgdbhaa
theorem speechLambek_upto : Rows.SpeechLambekUptoSaid := speechLambekUpto.proved
#print axioms speechLambek_upto
end Go.Proofs.Ytbmgkgoghgdbhaa
