/- SpeechSays returns true at every list of words and every goal: the program's Says tells the first choice in order that the document's search finds, or none where there is none. No conditions beyond the form's own reach. -/
import Derived.Test.YtbmgkgoghgdbhaaRows
import Derived.Test.YtbmgkgoghgdbhaaWbM
import Derived.Test.YtbmgkgoghgdbhaaQo
namespace Go.Proofs.Ytbmgkgoghgdbhaa.Opw
open Go.ChangeShapes Go.WideShapes Go.ChangeAt Go.RowKit Go.Deep
open Te

abbrev Ew : Type := List Ty × Option Addr × Nat × Nat
set_option maxRecDepth 100000 in
theorem one_cell49 {W : World} {base : Nat} {v : Value} (h : Value.okWide Try.prog W .any base 49 v) : v.cells.toList = [v] := by
  obtain ⟨a, l, c, hv⟩ := okWide_slice Try.underlying49 h
  rw [hv]
  rfl
theorem bytes22 : 0 < Try.prog.bytesOf 22 := of_decide_eq_true (by kernel_rfl)
/-- a list of words that comes in -/
theorem openq_words {H : Type} {enc : TypeId × Value → H} {w : World} {spare : Nat → Bool} {held : Bool} {fuel : Nat} {v : Value} {x : DataW H × List MemPlace} (h : DataW.trod enc Try.prog w 0 spare held fuel 49 [v] = some x) (hb : ∀ n ∈ x.1.weights Try.prog 49, n ≤ reachBytes) : ∃ (ws : List (List Ty)) (a : Option Addr) (c d : Nat), v = .slice a ws.length c ∧ ws.length ≤ 140737488355328 ∧ WsAt w d ws a := by
  obtain ⟨l, a, c, hv, hroom, hn, hp, hc⟩ := open_rows (⟨[], none, 0, 0⟩ : Ew) (fun y => [.slice y.2.1 y.1.length y.2.2.1]) 1 (fun _ => rfl) (by omega) Try.underlying49 k22 (fun y => LsQ w y.2.2.2 y.1 y.2.1 y.2.2.1) _ (fun n cs x _ hx hl hb => by
    match cs, hl with
    | [u], _ =>
      obtain ⟨l, a, c, d, hv, hL⟩ := openq_tys hx hb
      exact ⟨⟨l, a, c, d⟩, by rw [hv], hL⟩) (Nat.le_refl _) h hb
  have hr := reachBytes_lt
  have hle := Nat.le_mul_of_pos_right l.length bytes22
  refine ⟨l.map (·.1), a, c, (l.map (·.2.2.2)).sum, by rw [List.length_map]; exact hv, by rw [List.length_map]; omega, ?_⟩
  have hll : (l.map (·.1)).length = l.length := List.length_map _
  rcases hc with h0 | ⟨g, off, ha, hg, hc⟩
  · exact .inl (by rw [hll]; exact h0)
  · refine .inr ⟨g, off, ha, hg, fun j hj => ?_⟩
    have hj' : j < l.length := by rw [hll] at hj; exact hj
    have e : (l.map (·.1))[j] = l[j].1 := List.getElem_map _
    rw [e]
    have h1 := hc j hj' 0 _ rfl
    rw [Nat.mul_one, Nat.add_zero] at h1
    have hm := List.getElem_mem hj'
    have h2 := hp _ hm
    refine ⟨l[j].2.1, l[j].2.2.1, h1, ?_⟩
    exact TyQ.upto h2 (Nat.succ_le_succ (le_sum (List.mem_map.2 ⟨_, hm, rfl⟩)))
end Go.Proofs.Ytbmgkgoghgdbhaa.Opw
namespace Go.Proofs.Ytbmgkgoghgdbhaa.speechSaysFull
open Go.ChangeShapes Go.WideShapes Go.ChangeAt Go.RowKit
open Te Opw

theorem own : ownKnob Try.prog.godebug = none := by kernel_rfl
theorem ws_upto {w : World} {d d' : Nat} {ws : List (List Ty)} {a : Option Addr} (h : WsAt w d ws a) (hd : d ≤ d') : WsAt w d' ws a := by
  rcases h with h | ⟨B, off, e, hB, h⟩
  · exact .inl h
  · refine .inr ⟨B, off, e, hB, fun i hi => ?_⟩
    obtain ⟨a', c', h1, h2⟩ := h i hi
    exact ⟨a', c', h1, TyQ.upto h2 (Nat.succ_le_succ hd)⟩
set_option maxRecDepth 100000 in
theorem contract (H : Type) (enc : TypeId × Value → H) (W : World) (base : Nat) (args : Array Value) (ds gs : List (DataW H)) (before : List MemPlace)
    (hval : ∀ (j : Nat) t v, Try.f7.params[j]? = some t → args[j]? = some v → Value.okWide Try.prog W .any base t v)
    (hW : DataW.Whole enc Try.prog Try.f7.params.toList Rows.speechSaysSpec.vars false W args.toList ds gs before) (hk : (DataW.weightsEach Try.prog (Try.f7.params.toList ++ Rows.speechSaysSpec.plain.varTypes Try.prog) (ds ++ gs)).all (· ≤ reachBytes) = true) :
    Calls Try.prog 7 args W fun e W' => ∃ v, e = .returned v ∧ Rows.speechSaysSpec.post enc Try.prog Try.f7 false true false false W args v W' := by
  have hW' := hW
  obtain ⟨p, q, hA0, hV, rfl, hfz, hnd⟩ := hW
  have hA : DataW.TrodAll enc Try.prog W 0 (fun _ => true) true Try.f7.params.toList args.toList ds p := hA0
  have hlt := DataW.TrodAll.lt hA
  rw [Try.params7] at hA hval hk
  obtain ⟨v0, vs0, d0, ds0, p0, q0, hargs, rfl, rfl, h0, r0⟩ := trodAll_cons hA
  obtain ⟨v1, vs1, d1, ds1, p1, q1, rfl, rfl, rfl, h1, r1⟩ := trodAll_cons r0
  obtain ⟨rfl, rfl, rfl⟩ := trodAll_nil r1
  obtain rfl : args = #[v0, v1] := by cases args; simp_all
  obtain ⟨rfl, rfl⟩ := trodVars_none hV
  simp only [List.append_nil] at hW' hk hlt
  have hall : ∀ n ∈ DataW.weightsEach Try.prog ([49, 24] ++ Rows.speechSaysSpec.plain.varTypes Try.prog) [d0, d1], n ≤ reachBytes := fun n hn => of_decide_eq_true (List.all_eq_true.1 hk n hn)
  have b0 : ∀ n ∈ d0.weights Try.prog 49, n ≤ reachBytes := fun n hn => hall n (DataW.weights_mem_each (j := 0) rfl rfl n hn)
  have b1 : ∀ n ∈ d1.weights Try.prog 24, n ≤ reachBytes := fun n hn => hall n (DataW.weights_mem_each (j := 1) rfl rfl n hn)
  obtain ⟨fuel0, hf0⟩ := h0
  have hc0 : v0.cells.toList = [v0] := one_cell49 (hval 0 49 v0 rfl rfl)
  rw [hc0] at hf0
  obtain ⟨ws, a, c, d, hvl, hlen, hL⟩ := openq_words (x := (d0, p0)) hf0 b0
  obtain ⟨g, ag, cg, dg, hvg, hG⟩ := openq_part (hval 1 24 v1 rfl rfl) h1 b1
  have hwalk := says_law (d := d + dg) ws a c g ag cg W hlen (ws_upto hL (by omega)) (TyQ.upto hG (by omega))
  rw [← hvl, ← hvg] at hwalk
  refine hwalk.mono fun e W' ⟨he, bel⟩ => ?_
  subst he
  have a0 := bel.trod (by kernel_rfl) (by kernel_rfl) (of_decide_eq_true (by kernel_rfl)) (⟨fuel0, by rw [hc0]; exact hf0⟩ : DataW.Trod enc Try.prog W 0 (fun _ => true) true 49 v0 d0 p0) (fun y hy => hlt y (List.mem_append_left _ hy))
  have a1 := bel.trod (by kernel_rfl) (by kernel_rfl) (of_decide_eq_true (by kernel_rfl)) h1 (fun y hy => hlt y (List.mem_append_right _ hy))
  exact ⟨_, rfl, _, _, _, [], _, [], hW', trodAll_mk1 (shut_bool Try.underlying4 _), (trodAll_cons_mk a0 (trodAll_cons_mk a1 trodAll_mk0)), rfl, bel.frame _, fun h => by cases h⟩

set_option maxRecDepth 100000 in
theorem lifted (os : Os) (started : os.Started) (H : Type) (enc : TypeId × Value → H) :
    ReturnsInHanded {} Try.checked os 7 .any (Rows.speechSaysSpec.pre6 enc Try.prog Try.f7 Rows.speechSaysRow.domain false) (Rows.speechSaysSpec.post enc Try.prog Try.f7 false true false false) := by
  refine returnsInHanded_of_change_sized (C := Try.checked) own started (by kernel_rfl) Try.func7
    (ChangeSpec.witness6 (enc := enc) (C := Try.checked) false ⟨#[], #[.slice none 0 0, .agg #[.int .i64 0, .int .i64 0, .slice none 0 0]], []⟩ 8 (by kernel_rfl) (by kernel_rfl) (by kernel_rfl) (by kernel_rfl)) ?_
  intro W base args ds gs before hval hW _ hk _
  exact contract H enc W base args ds gs before hval hW hk

theorem proved : Rows.SpeechSaysSaid :=
  OpenClaim.holds_of_wide 7 Try.f7 rfl rfl rfl rfl rfl rfl rfl ⟨rfl, rfl, rfl, rfl, rfl⟩ rfl rfl rfl rfl rfl (by kernel_rfl) Try.func7 (by kernel_rfl)
    (of_decide_eq_true (by kernel_rfl)) (by unfold Func.isWrapper; first | (rw [if_pos (by decide +kernel)]; kernel_rfl) | (rw [if_neg (by decide +kernel)]; exact ⟨rfl, rfl⟩))
    (fun os started H enc _ => lifted os started H enc)
end Go.Proofs.Ytbmgkgoghgdbhaa.speechSaysFull
namespace Go.Proofs.Ytbmgkgoghgdbhaa
theorem speechSays_full : Rows.SpeechSaysSaid := speechSaysFull.proved
#print axioms speechSays_full
end Go.Proofs.Ytbmgkgoghgdbhaa
