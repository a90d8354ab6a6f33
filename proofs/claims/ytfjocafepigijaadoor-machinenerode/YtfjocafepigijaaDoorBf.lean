/- MachineNerode returns true at every two machines and every two numbers: two plain machines read the same just if their Sures are the same, and so on. No conditions beyond the form's own reach; the listed table is tied to the program's text by the card. -/
import Derived.Test.YtfjocafepigijaaDoorRows
import Derived.Test.YtfjocafepigijaaDoorCards
import Derived.Test.YtfjocafepigijaaDoorTie
import Derived.Test.YtfjocafepigijaaDoorBeM
import Derived.Test.YtfjocafepigijaaDoorVi
import Derived.WalkKit
import Derived.ProofKit
import Derived.Handy
import Derived.Lay
import Derived.SevenTiedAt
namespace Go.Proofs.YtfjocafepigijaaDoor.Su
open Go.RowKit Mv Sy Ot

theorem i64_wf {n : Int} (h : (Lit.int .i64 n).wf = true) : -9223372036854775808 ≤ n ∧ n ≤ 9223372036854775807 := by
  have h' : (decide (IntKind.i64.min ≤ n) && decide (n ≤ IntKind.i64.max)) = true := h
  simp only [Bool.and_eq_true, decide_eq_true_eq] at h'
  exact ⟨h'.1, h'.2⟩
set_option maxHeartbeats 4000000 in
set_option maxRecDepth 100000 in
theorem nerode_walk (a b : M) (va vb : Value) (z1 z2 : Int) (w : World) (ha : IsM w va a) (hb : IsM w vb b) (hz1 : -9223372036854775808 ≤ z1 ∧ z1 ≤ 9223372036854775807) (hz2 : -9223372036854775808 ≤ z2 ∧ z2 ≤ 9223372036854775807) (hT : TabAt 0 Lib.deBruijn64tab w) (hw0 : 0 < w.heap.size) :
    Calls Tryd.prog 6 #[va, vb, .int .i64 z1, .int .i64 z2] w fun e w' => e = .returned (.bool true) ∧ Below w.heap.size w w' := by
  obtain ⟨fa, hfa⟩ : ∃ f, fewB a = f := ⟨_, rfl⟩
  obtain ⟨fb, hfb⟩ : ∃ f, fewB b = f := ⟨_, rfl⟩
  by_cases hab : fa = true ∧ fb = true
  · exact nerode_main a b va vb z1 z2 w ha hb (hfa.trans hab.1) (hfb.trans hab.2) hz1 hz2 hT hw0
  have C7 : Hid (∀ W, Calls Tryd.prog 7 #[] W fun e W' => e = .returned (.bool true) ∧ Below W.heap.size W W') := fun W => Mb.begun_any Nx.field_any W
  have C8a : Hid (∀ W, Below w.heap.size w W → Calls Tryd.prog 8 #[va] W fun e W' => e = .returned (.bool fa) ∧ Below W.heap.size W W') := fun W hW => by have h := few_any a va W (ha.below hW); rwa [hfa] at h
  have C8b : Hid (∀ W, Below w.heap.size w W → Calls Tryd.prog 8 #[vb] W fun e W' => e = .returned (.bool fb) ∧ Below W.heap.size W W') := fun W hW => by have h := few_any b vb W (hb.below hW); rwa [hfb] at h
  obtain ⟨a1, a2, rfl, ⟨_, aa, ca, rfl, _, _⟩, ⟨_, af, cf, rfl, _, _⟩⟩ := ha
  obtain ⟨b1, b2, rfl, ⟨_, ba, da, rfl, _, _⟩, ⟨_, bf', df', rfl, _, _⟩⟩ := hb
  obtain ⟨V, hV, hVB⟩ := box_two w #[.int .i64 a.st, .slice aa a.arcs.length ca, .slice af a.fins.length cf] #[.int .i64 b.st, .slice ba b.arcs.length da, .slice bf' b.fins.length df']
  have QB : Hid (∀ W, Below V.heap.size V W → Below w.heap.size w W) := fun W h => (hVB W h).1
  have QC : Hid (∀ W, Below V.heap.size V W → (W.cell? ⟨w.heap.size, 0, none⟩ = some (.int .i64 a.st) ∧ W.cell? ⟨w.heap.size, 1, none⟩ = some (.slice aa a.arcs.length ca) ∧ W.cell? ⟨w.heap.size, 2, none⟩ = some (.slice af a.fins.length cf)) ∧ W.cell? ⟨w.heap.size + 1, 0, none⟩ = some (.int .i64 b.st) ∧ W.cell? ⟨w.heap.size + 1, 1, none⟩ = some (.slice ba b.arcs.length da) ∧ W.cell? ⟨w.heap.size + 1, 2, none⟩ = some (.slice bf' b.fins.length df')) := fun W h => by
    obtain ⟨_, y1, y2⟩ := hVB W h
    exact ⟨⟨cell_of_row _ _ 0 _ _ _ y1, cell_of_row _ _ 1 _ _ _ y1, cell_of_row _ _ 2 _ _ _ y1⟩, cell_of_row _ _ 0 _ _ _ y2, cell_of_row _ _ 1 _ _ _ y2, cell_of_row _ _ 2 _ _ _ y2⟩
  clear hVB hfa hfb hT hw0 hz1 hz2
  cases fa with
  | false =>
    clear hab
    go_enter Tryd.func6, Tryd.ntmps6
    go_upto_region 1 with fail
    clear hV
    go_wp2_with (first
      | (go_at_call 7; (with_reducible refine (C7.out _).mono ?_); rintro e w1 ⟨rfl, hb1⟩; obtain ⟨⟨q10, q11, q12⟩, q13, q14, q15⟩ := QC.out _ hb1)
      | (go_at_call 8; (with_reducible refine (C8a.out _ (QB.out _ hb1)).mono ?_); rintro e w2 ⟨rfl, hb2'⟩; have hb2 := hb1.trans (hb2'.mono hb1.size); clear hb2'))
    go_ret
    exact ⟨rfl, QB.out _ hb2⟩
  | true =>
    cases fb with
    | true => exact absurd ⟨rfl, rfl⟩ hab
    | false =>
      clear hab
      go_enter Tryd.func6, Tryd.ntmps6
      go_upto_region 1 with fail
      clear hV
      go_wp2_with (first
        | (go_at_call 7; (with_reducible refine (C7.out _).mono ?_); rintro e w1 ⟨rfl, hb1⟩; obtain ⟨⟨q10, q11, q12⟩, q13, q14, q15⟩ := QC.out _ hb1)
        | (go_at_call 8; (with_reducible refine (C8a.out _ (QB.out _ hb1)).mono ?_); rintro e w2 ⟨rfl, hb2'⟩; have hb2 := hb1.trans (hb2'.mono hb1.size); obtain ⟨⟨q20, q21, q22⟩, q23, q24, q25⟩ := QC.out _ hb2; clear hb2')
        | (go_at_call 8; (with_reducible refine (C8b.out _ (QB.out _ hb2)).mono ?_); rintro e w3 ⟨rfl, hb3'⟩; have hb3 := hb2.trans (hb3'.mono hb2.size); clear hb3'))
      go_ret
      exact ⟨rfl, QB.out _ hb3⟩
end Go.Proofs.YtfjocafepigijaaDoor.Su
namespace Go.Proofs.YtfjocafepigijaaDoor.machineNerodeFull
open Go.ChangeShapes Go.WideShapes Go.ChangeAt Go.RowKit
open Mv Sy Opv

theorem own : ownKnob Tryd.prog.godebug = none := by kernel_rfl
abbrev laid1 : List (String × DataW Unit) := [("math/bits.deBruijn64tab", Rows.laid_math_bits_deBruijn64tab)]
theorem gTab : Tryd.prog.globalNamed "math/bits.deBruijn64tab" = some 0 := by kernel_rfl
theorem tab_at {cs : List Value} {H : Type} {enc : TypeId × Value → H} {W : World} {sp : Nat → Bool} {held : Bool} {fuel : Nat} {p : List MemPlace} {t e : TypeId} {tab : List Nat} {ds : List (DataW H)} (ht : Tryd.prog.underlying t = some (.array tab.length e)) (he : Tryd.prog.underlying e = some (.int .u8)) (hc : Tryd.prog.cellsOf e = 1) (hds : ds = tab.map (fun n => .lit (.int .u8 (n : Int))))
    (h : DataW.trod enc Tryd.prog W 0 sp held fuel t cs = some (.agg ds, p)) : ∀ j, j < tab.length → cs[j]? = some (.int .u8 (tab.getD j 0 : Nat)) := by
  obtain ⟨xs, m1, rfl, hx1, hlen, hn, hel⟩ := DataW.trod_array ht h
  intro j hj
  have h0 := hel j hj
  rw [hc, Nat.mul_one, List.getElem?_eq_getElem (by omega : j < xs.length)] at h0
  simp only [Prod.mk.injEq, DataW.agg.injEq] at hx1
  obtain ⟨k, e1, e2, _⟩ := DataW.trod_int he h0
  have hk : (xs.map (·.1))[j]? = some (.lit (.int .u8 ((tab.getD j 0 : Nat) : Int))) := by
    rw [← hx1.1, hds, List.getElem?_map, List.getElem?_eq_getElem hj]
    simp [List.getD_eq_getElem?_getD, List.getElem?_eq_getElem hj]
  rw [List.getElem?_map, List.getElem?_eq_getElem (by omega : j < xs.length), e2] at hk
  simp only [Option.map_some, Option.some.injEq, DataW.lit.injEq, Lit.int.injEq, true_and] at hk
  subst hk
  have h1 : ((cs.drop j).take 1)[0]? = some (.int .u8 (tab.getD j 0 : Nat)) := by rw [e1]; rfl
  rw [List.getElem?_take] at h1
  simpa using h1
theorem of_laid {W : World} (h : laidMetH Tryd.prog laid1 W) : TabAt 0 Lib.deBruijn64tab W ∧ 0 < W.heap.size := by
  rw [MakeChecks.laidMetH_plain _ _ _ (by kernel_rfl)] at h
  obtain ⟨ps, ⟨g0, t0, cs0, f0, p0, q0, hg0, ht0, hv0, hd0, _, _⟩, _, _⟩ := h
  obtain rfl := Option.some.inj (gTab.symm.trans hg0)
  obtain rfl := Option.some.inj ((show (Tryd.prog.globals[0]?).map (·.type) = some 185 by kernel_rfl).symm.trans ht0)
  have hT : TabAt 0 Lib.deBruijn64tab W := fun j hj => by
    have h1 := tab_at (tab := Lib.deBruijn64tab) (e := 5) (by kernel_rfl) (by kernel_rfl) (by kernel_rfl) rfl hd0 j hj
    have h2 := World.var?_cell hg0 hv0 j
    rw [h2]
    simpa using h1
  exact ⟨hT, Nat.lt_of_le_of_lt (Nat.zero_le _) (World.block_lt_of_cell? W ⟨0, 0, none⟩ (hT 0 (by decide)))⟩

set_option maxRecDepth 100000 in
theorem contract (H : Type) (enc : TypeId × Value → H) (W : World) (base : Nat) (args : Array Value) (ds gs : List (DataW H)) (before : List MemPlace)
    (hval : ∀ (j : Nat) t v, Tryd.f6.params[j]? = some t → args[j]? = some v → Value.okWide Tryd.prog W .any base t v)
    (hW : DataW.Whole enc Tryd.prog Tryd.f6.params.toList Rows.machineNerodeSpec.vars false W args.toList ds gs before) (hk : (DataW.weightsEach Tryd.prog (Tryd.f6.params.toList ++ Rows.machineNerodeSpec.plain.varTypes Tryd.prog) (ds ++ gs)).all (· ≤ reachBytes) = true) (hL : laidMetH Tryd.prog laid1 W) :
    Calls Tryd.prog 6 args W fun e W' => ∃ v, e = .returned v ∧ Rows.machineNerodeSpec.post enc Tryd.prog Tryd.f6 false true false false W args v W' := by
  obtain ⟨hT, hw0⟩ := of_laid hL
  have hW' := hW
  obtain ⟨p, q, hA0, hV, rfl, hfz, hnd⟩ := hW
  have hA : DataW.TrodAll enc Tryd.prog W 0 (fun _ => true) true Tryd.f6.params.toList args.toList ds p := hA0
  have hlt := DataW.TrodAll.lt hA
  rw [Tryd.params6] at hA hval hk
  obtain ⟨v0, vs0, d0, ds0, p0, q0, hargs, rfl, rfl, h0, r0⟩ := trodAll_cons hA
  obtain ⟨v1, vs1, d1, ds1, p1, q1, rfl, rfl, rfl, h1, r1⟩ := trodAll_cons r0
  obtain ⟨v2, vs2, d2, ds2, p2, q2, rfl, rfl, rfl, h2, r2⟩ := trodAll_cons r1
  obtain ⟨v3, vs3, d3, ds3, p3, q3, rfl, rfl, rfl, h3, r3⟩ := trodAll_cons r2
  obtain ⟨rfl, rfl, rfl⟩ := trodAll_nil r3
  obtain rfl : args = #[v0, v1, v2, v3] := by cases args; simp_all
  obtain ⟨rfl, rfl⟩ := trodVars_none hV
  simp only [List.append_nil] at hW' hk hlt
  have hall : ∀ n ∈ DataW.weightsEach Tryd.prog ([25, 25, 3, 3] ++ Rows.machineNerodeSpec.plain.varTypes Tryd.prog) [d0, d1, d2, d3], n ≤ reachBytes := fun n hn => of_decide_eq_true (List.all_eq_true.1 hk n hn)
  have b0 : ∀ n ∈ d0.weights Tryd.prog 25, n ≤ reachBytes := fun n hn => hall n (DataW.weights_mem_each (j := 0) rfl rfl n hn)
  have b1 : ∀ n ∈ d1.weights Tryd.prog 25, n ≤ reachBytes := fun n hn => hall n (DataW.weights_mem_each (j := 1) rfl rfl n hn)
  obtain ⟨ma, hM⟩ := open_machine (hval 0 25 v0 rfl rfl) h0 b0
  obtain ⟨mb, hM2⟩ := open_machine (hval 1 25 v1 rfl rfl) h1 b1
  obtain ⟨z1, hv2, _, _, w2⟩ := open_int Tryd.underlying3 (hval 2 3 v2 rfl rfl) h2
  obtain ⟨z2, hv3, _, _, w3⟩ := open_int Tryd.underlying3 (hval 3 3 v3 rfl rfl) h3
  have hwalk := Su.nerode_walk ma mb v0 v1 z1 z2 W hM hM2 (Su.i64_wf w2) (Su.i64_wf w3) hT hw0
  rw [← hv2, ← hv3] at hwalk
  refine hwalk.mono fun e W' ⟨he, bel⟩ => ?_
  subst he
  have a0 := bel.trod (by kernel_rfl) (by kernel_rfl) (of_decide_eq_true (by kernel_rfl)) h0 (fun y hy => hlt y (List.mem_append_left _ hy))
  have a1 := bel.trod (by kernel_rfl) (by kernel_rfl) (of_decide_eq_true (by kernel_rfl)) h1 (fun y hy => hlt y (List.mem_append_right _ (List.mem_append_left _ hy)))
  have a2 := bel.trod (by kernel_rfl) (by kernel_rfl) (of_decide_eq_true (by kernel_rfl)) h2 (fun y hy => hlt y (List.mem_append_right _ (List.mem_append_right _ (List.mem_append_left _ hy))))
  have a3 := bel.trod (by kernel_rfl) (by kernel_rfl) (of_decide_eq_true (by kernel_rfl)) h3 (fun y hy => hlt y (List.mem_append_right _ (List.mem_append_right _ (List.mem_append_right _ hy))))
  exact ⟨_, rfl, _, _, _, [], _, [], hW', trodAll_mk1 (shut_bool Tryd.underlying4 _), (trodAll_cons_mk a0 (trodAll_cons_mk a1 (trodAll_cons_mk a2 (trodAll_cons_mk a3 trodAll_mk0)))), rfl, bel.frame _, fun h => by cases h⟩

set_option maxRecDepth 100000 in
theorem lifted (os : Os) (started : os.Started) (H : Type) (enc : TypeId × Value → H) :
    ReturnsInHanded {} Tryd.checked os 6 .any (fun w args => (Rows.machineNerodeSpec.pre enc Tryd.prog Tryd.f6 [] false w args ∧ laidMetH Tryd.prog laid1 w) ∧ sizedMet enc Tryd.prog Tryd.f6 (OpenSpec.ofChange Rows.machineNerodeSpec) false w args)
      (Rows.machineNerodeSpec.post enc Tryd.prog Tryd.f6 false true false false) := by
  refine returnsInHanded_of_change_and (C := Tryd.checked) (X := fun w _ => laidMetH Tryd.prog laid1 w) (fun _ _ _ hh h => h.of_heap hh) own started (by kernel_rfl) Tryd.func6
    (ChangeSpec.witness_shaped (enc := enc) (C := Tryd.checked) (os := os) (X := fun w _ => laidMetH Tryd.prog laid1 w) false (World.laidAll Tryd.prog os laid1) #[.agg #[.int .i64 0, .slice none 0 0, .slice none 0 0], .agg #[.int .i64 0, .slice none 0 0, .slice none 0 0], .int .i64 0, .int .i64 0] 8 (World.laidAll_os _ _ _)
      (World.shaped_of_ZipB (by kernel_rfl) (by kernel_rfl)) (by kernel_rfl) (by kernel_rfl) (by kernel_rfl)
      (by rw [MakeChecks.laidMetH_plain _ _ _ (by kernel_rfl)]; exact laidMet_laidAll _ (by kernel_rfl) (by kernel_rfl))) ?_
  intro W base args ds gs before hval hW _ hk hL _
  exact contract H enc W base args ds gs before hval hW hk hL

theorem row : Rows.MachineNerodeSaid :=
  OpenClaim.holds_of_wide 6 Tryd.f6 rfl rfl rfl rfl rfl rfl rfl ⟨rfl, rfl, rfl, rfl, rfl⟩ rfl rfl rfl rfl rfl (by kernel_rfl) Tryd.func6 (by kernel_rfl)
    (of_decide_eq_true (by kernel_rfl)) (by unfold Func.isWrapper; first | (rw [if_pos (by decide +kernel)]; kernel_rfl) | (rw [if_neg (by decide +kernel)]; exact ⟨rfl, rfl⟩))
    (fun os started H enc _ => lifted os started H enc)
theorem proved : Rows.MachineNerodeCardSaid :=
  Claim7.holds_tied_plain_at .later [] [.data] true (true, "d6adbee08f14bd9ffcf5332214b92ecf956708dc1478702880f02da32724314a") false row (fun _ h => by cases h) (by kernel_rfl) (fun _ h => by cases h) machineNerode_row_tie rfl ⟨rfl, rfl⟩ (by kernel_rfl) rfl
    (fun f fn hf hfn => by
      obtain rfl : f = 6 := Option.some.inj ((show Tryd.prog.funcNamed "wordhoard/wordhoardlaw.MachineNerode" = some 6 by kernel_rfl).symm.trans hf) |>.symm
      obtain rfl : fn = Tryd.f6 := (Option.some.inj (Tryd.func6.symm.trans hfn)).symm
      exact ⟨by kernel_rfl, fun j t ht => by
        rw [Tryd.params6] at ht
        have hm : t ∈ [25, 25, 3, 3] := by simpa using Array.mem_of_getElem? ht
        have hall : ([25, 25, 3, 3].all fun u => !Tryd.prog.wantsStandIn u) = true := by kernel_rfl
        exact (show Tryd.prog.wantsStandIn t = false by simpa using List.all_eq_true.1 hall t hm)⟩)
    (by kernel_rfl)
end Go.Proofs.YtfjocafepigijaaDoor.machineNerodeFull
namespace Go.Proofs.YtfjocafepigijaaDoor
theorem machineNerode_full : Rows.MachineNerodeCardSaid := machineNerodeFull.proved
#print axioms machineNerode_full
end Go.Proofs.YtfjocafepigijaaDoor
