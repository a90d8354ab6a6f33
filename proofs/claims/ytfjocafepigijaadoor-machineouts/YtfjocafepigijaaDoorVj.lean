/- MachineOuts returns true at every machine, text and length: what Outs tells is what the machine writes, in order, and all of it. No conditions beyond the form's own reach; the listed table is tied to the program's text by the card. -/
import Derived.Test.YtfjocafepigijaaDoorRows
import Derived.Test.YtfjocafepigijaaDoorCards
import Derived.Test.YtfjocafepigijaaDoorTie
import Derived.Test.YtfjocafepigijaaDoorVhM
import Derived.Test.YtfjocafepigijaaDoorVi
import Derived.WalkKit
import Derived.ProofKit
import Derived.Handy
import Derived.Lay
import Derived.SevenTiedAt
namespace Go.Proofs.YtfjocafepigijaaDoor.Ot
open Go.RowKit Mv Sy

set_option maxHeartbeats 4000000 in
set_option maxRecDepth 100000 in
theorem outs_walk (m : M) (v : Value) (inn : List Int) (ai : Option Addr) (ci : Nat) (long : Int) (w : World) (hm : IsM w v m) (hI : IsI w (.slice ai inn.length ci) inn) (hT : TabAt 0 Lib.deBruijn64tab w) (hw0 : 0 < w.heap.size) :
    Calls Tryd.prog 3 #[v, .slice ai inn.length ci, .int .i64 long] w fun e w' => e = .returned (.bool true) ∧ Below w.heap.size w w' := by
  by_cases hf : fewB m = true
  · exact outs_main m v inn ai ci long w hm hI hf hT hw0
  have C7 : Hid (∀ W, Calls Tryd.prog 7 #[] W fun e W' => e = .returned (.bool true) ∧ Below W.heap.size W W') := fun W => Mb.begun_any Nx.field_any W
  have C8 : Hid (∀ W, Below w.heap.size w W → Calls Tryd.prog 8 #[v] W fun e W' => e = .returned (.bool false) ∧ Below W.heap.size W W') := fun W hW => by
    have h := few_any m v W (hm.below hW)
    rwa [show fewB m = false by cases h : fewB m <;> simp_all] at h
  obtain ⟨a1, a2, rfl, ⟨_, aa, ca, rfl, _, _⟩, ⟨_, af, cf, rfl, _, _⟩⟩ := hm
  clear hf hI hT hw0
  go_enter Tryd.func3, Tryd.ntmps3
  go_upto_region 1 with fail
  have QB : Hid (∀ W, Below (w.alloc (.cells #[.int .i64 m.st, .slice aa m.arcs.length ca, .slice af m.fins.length cf] 25)).heap.size (w.alloc (.cells #[.int .i64 m.st, .slice aa m.arcs.length ca, .slice af m.fins.length cf] 25)) W → Below w.heap.size w W ∧ W.cell? ⟨w.heap.size, 0, none⟩ = some (.int .i64 m.st) ∧ W.cell? ⟨w.heap.size, 1, none⟩ = some (.slice aa m.arcs.length ca) ∧ W.cell? ⟨w.heap.size, 2, none⟩ = some (.slice af m.fins.length cf)) := fun W h => ⟨((Below.refl _ w).alloc (Nat.le_refl _) _).trans (h.mono (by simp)), Mc.box3 h⟩
  go_wp2_with (first
    | (go_at_call 7; (with_reducible refine (C7.out _).mono ?_); rintro e w1 ⟨rfl, hb1⟩; have q1 := QB.out _ hb1; obtain ⟨hw1, q10, q11, q12⟩ := q1)
    | (go_at_call 8; (with_reducible refine (C8.out _ hw1).mono ?_); rintro e w2 ⟨rfl, hb2⟩; have hb2' := hb1.trans (hb2.mono hb1.size); have q2 := QB.out _ hb2'; obtain ⟨hw2, q20, q21, q22⟩ := q2))
  go_ret
  exact ⟨rfl, hw2⟩
end Go.Proofs.YtfjocafepigijaaDoor.Ot
namespace Go.Proofs.YtfjocafepigijaaDoor.machineOutsFull
open Go.ChangeShapes Go.WideShapes Go.ChangeAt Go.RowKit
open Mv Sy Opv Ot

theorem own : ownKnob Tryd.prog.godebug = none := by kernel_rfl
abbrev laid1 : List (String × DataW Unit) := [("math/bits.deBruijn64tab", Rows.laid_math_bits_deBruijn64tab)]
theorem gTab : Tryd.prog.globalNamed "math/bits.deBruijn64tab" = some 0 := by kernel_rfl
theorem tab_at {cs : List Value} {H : Type} {enc : TypeId × Value → H} {W : World} {sp : Nat → Bool} {held : Bool} {fuel : Nat} {p : List MemPlace} {t e : TypeId} {tab : List Nat} {ds : List (DataW H)} (ht : Tryd.prog.underlying t = some (.array tab.length e)) (he : Tryd.prog.underlying e = some (.int .u8)) (hc : Tryd.prog.cellsOf e = 1) (hds : ds = tab.map (fun n => .lit (.int .u8 (n : Int))))
    (h : DataW.trod enc Tryd.prog W 0 sp held fuel t cs = some (.agg ds, p)) : ∀ j, j < tab.length → cs[j]? = some (.int .u8 (tab.getD j 0 : Nat)) := by
  obtain ⟨xs, m1, rfl, hx1, hlen, hn, hel⟩ := DataW.trod_array ht h
  intro j hj
  have h0 := hel j hj
  rw [hc, Nat.mul_one, List.getElem?_eq_getElem (by omega : j < xs.length)] at h0
  simp only [Prod.mk.injEq, DataW.agg.injEq] at hx1
  obtain ⟨k, e1, e2, _⟩ := DataW.trod_int he h0
  have hk : (xs.map (·.1))[j]? = some (.lit (.int .u8 ((tab.getD j 0 : Nat) : Int))) := by
    rw [← hx1.1, hds, List.getElem?_map, List.getElem?_eq_getElem hj]
    simp [List.getD_eq_getElem?_getD, List.getElem?_eq_getElem hj]
  rw [List.getElem?_map, List.getElem?_eq_getElem (by omega : j < xs.length), e2] at hk
  simp only [Option.map_some, Option.some.injEq, DataW.lit.injEq, Lit.int.injEq, true_and] at hk
  subst hk
  have h1 : ((cs.drop j).take 1)[0]? = some (.int .u8 (tab.getD j 0 : Nat)) := by rw [e1]; rfl
  rw [List.getElem?_take] at h1
  simpa using h1
theorem of_laid {W : World} (h : laidMetH Tryd.prog laid1 W) : TabAt 0 Lib.deBruijn64tab W ∧ 0 < W.heap.size := by
  rw [MakeChecks.laidMetH_plain _ _ _ (by kernel_rfl)] at h
  obtain ⟨ps, ⟨g0, t0, cs0, f0, p0, q0, hg0, ht0, hv0, hd0, _, _⟩, _, _⟩ := h
  obtain rfl := Option.some.inj (gTab.symm.trans hg0)
  obtain rfl := Option.some.inj ((show (Tryd.prog.globals[0]?).map (·.type) = some 185 by kernel_rfl).symm.trans ht0)
  have hT : TabAt 0 Lib.deBruijn64tab W := fun j hj => by
    have h1 := tab_at (tab := Lib.deBruijn64tab) (e := 5) (by kernel_rfl) (by kernel_rfl) (by kernel_rfl) rfl hd0 j hj
    have h2 := World.var?_cell hg0 hv0 j
    rw [h2]
    simpa using h1
  exact ⟨hT, Nat.lt_of_le_of_lt (Nat.zero_le _) (World.block_lt_of_cell? W ⟨0, 0, none⟩ (hT 0 (by decide)))⟩

set_option maxRecDepth 100000 in
theorem one_cell {W : World} {base : Nat} {v : Value} (h : Value.okWide Tryd.prog W .any base 26 v) : v.cells.toList = [v] := by
  obtain ⟨a, l, c, hv⟩ := okWide_slice Tryd.underlying26 h
  rw [hv]
  rfl

set_option maxRecDepth 100000 in
theorem contract (H : Type) (enc : TypeId × Value → H) (W : World) (base : Nat) (args : Array Value) (ds gs : List (DataW H)) (before : List MemPlace)
    (hval : ∀ (j : Nat) t v, Tryd.f3.params[j]? = some t → args[j]? = some v → Value.okWide Tryd.prog W .any base t v)
    (hW : DataW.Whole enc Tryd.prog Tryd.f3.params.toList Rows.machineOutsSpec.vars false W args.toList ds gs before) (hk : (DataW.weightsEach Tryd.prog (Tryd.f3.params.toList ++ Rows.machineOutsSpec.plain.varTypes Tryd.prog) (ds ++ gs)).all (· ≤ reachBytes) = true) (hL : laidMetH Tryd.prog laid1 W) :
    Calls Tryd.prog 3 args W fun e W' => ∃ v, e = .returned v ∧ Rows.machineOutsSpec.post enc Tryd.prog Tryd.f3 false true false false W args v W' := by
  obtain ⟨hT, hw0⟩ := of_laid hL
  have hW' := hW
  obtain ⟨p, q, hA0, hV, rfl, hfz, hnd⟩ := hW
  have hA : DataW.TrodAll enc Tryd.prog W 0 (fun _ => true) true Tryd.f3.params.toList args.toList ds p := hA0
  have hlt := DataW.TrodAll.lt hA
  rw [Tryd.params3] at hA hval hk
  obtain ⟨v0, vs0, d0, ds0, p0, q0, hargs, rfl, rfl, h0, r0⟩ := trodAll_cons hA
  obtain ⟨v1, vs1, d1, ds1, p1, q1, rfl, rfl, rfl, h1, r1⟩ := trodAll_cons r0
  obtain ⟨v2, vs2, d2, ds2, p2, q2, rfl, rfl, rfl, h2, r2⟩ := trodAll_cons r1
  obtain ⟨rfl, rfl, rfl⟩ := trodAll_nil r2
  obtain rfl : args = #[v0, v1, v2] := by cases args; simp_all
  obtain ⟨rfl, rfl⟩ := trodVars_none hV
  simp only [List.append_nil] at hW' hk hlt
  have hall : ∀ n ∈ DataW.weightsEach Tryd.prog ([25, 26, 3] ++ Rows.machineOutsSpec.plain.varTypes Tryd.prog) [d0, d1, d2], n ≤ reachBytes := fun n hn => of_decide_eq_true (List.all_eq_true.1 hk n hn)
  have b0 : ∀ n ∈ d0.weights Tryd.prog 25, n ≤ reachBytes := fun n hn => hall n (DataW.weights_mem_each (j := 0) rfl rfl n hn)
  have b1 : ∀ n ∈ d1.weights Tryd.prog 26, n ≤ reachBytes := fun n hn => hall n (DataW.weights_mem_each (j := 1) rfl rfl n hn)
  obtain ⟨m, hM⟩ := open_machine (hval 0 25 v0 rfl rfl) h0 b0
  obtain ⟨fuel1, hf1⟩ := h1
  have hc1 : v1.cells.toList = [v1] := one_cell (hval 1 26 v1 rfl rfl)
  rw [hc1] at hf1
  obtain ⟨ai, ci, inn, hv1, hI⟩ := open_isJ (x := (d1, p1)) hf1 b1
  obtain ⟨long, hv2⟩ := okWide_int Tryd.underlying3 (hval 2 3 v2 rfl rfl)
  have hwalk := Ot.outs_walk m v0 inn ai ci long W hM hI.1 hT hw0
  rw [← hv1, ← hv2] at hwalk
  refine hwalk.mono fun e W' ⟨he, bel⟩ => ?_
  subst he
  have a0 := bel.trod (by kernel_rfl) (by kernel_rfl) (of_decide_eq_true (by kernel_rfl)) h0 (fun y hy => hlt y (List.mem_append_left _ hy))
  have a1 := bel.trod (by kernel_rfl) (by kernel_rfl) (of_decide_eq_true (by kernel_rfl)) (⟨fuel1, by rw [hc1]; exact hf1⟩ : DataW.Trod enc Tryd.prog W 0 (fun _ => true) true 26 v1 d1 p1) (fun y hy => hlt y (List.mem_append_right _ (List.mem_append_left _ hy)))
  have a2 := bel.trod (by kernel_rfl) (by kernel_rfl) (of_decide_eq_true (by kernel_rfl)) h2 (fun y hy => hlt y (List.mem_append_right _ (List.mem_append_right _ hy)))
  exact ⟨_, rfl, _, _, _, [], _, [], hW', trodAll_mk1 (shut_bool Tryd.underlying4 _), (trodAll_cons_mk a0 (trodAll_cons_mk a1 (trodAll_cons_mk a2 trodAll_mk0))), rfl, bel.frame _, fun h => by cases h⟩

set_option maxRecDepth 100000 in
theorem lifted (os : Os) (started : os.Started) (H : Type) (enc : TypeId × Value → H) :
    ReturnsInHanded {} Tryd.checked os 3 .any (fun w args => (Rows.machineOutsSpec.pre enc Tryd.prog Tryd.f3 [] false w args ∧ laidMetH Tryd.prog laid1 w) ∧ sizedMet enc Tryd.prog Tryd.f3 (OpenSpec.ofChange Rows.machineOutsSpec) false w args)
      (Rows.machineOutsSpec.post enc Tryd.prog Tryd.f3 false true false false) := by
  refine returnsInHanded_of_change_and (C := Tryd.checked) (X := fun w _ => laidMetH Tryd.prog laid1 w) (fun _ _ _ hh h => h.of_heap hh) own started (by kernel_rfl) Tryd.func3
    (ChangeSpec.witness_shaped (enc := enc) (C := Tryd.checked) (os := os) (X := fun w _ => laidMetH Tryd.prog laid1 w) false (World.laidAll Tryd.prog os laid1) #[.agg #[.int .i64 0, .slice none 0 0, .slice none 0 0], .slice none 0 0, .int .i64 0] 8 (World.laidAll_os _ _ _)
      (World.shaped_of_ZipB (by kernel_rfl) (by kernel_rfl)) (by kernel_rfl) (by kernel_rfl) (by kernel_rfl)
      (by rw [MakeChecks.laidMetH_plain _ _ _ (by kernel_rfl)]; exact laidMet_laidAll _ (by kernel_rfl) (by kernel_rfl))) ?_
  intro W base args ds gs before hval hW _ hk hL _
  exact contract H enc W base args ds gs before hval hW hk hL

theorem row : Rows.MachineOutsSaid :=
  OpenClaim.holds_of_wide 3 Tryd.f3 rfl rfl rfl rfl rfl rfl rfl ⟨rfl, rfl, rfl, rfl, rfl⟩ rfl rfl rfl rfl rfl (by kernel_rfl) Tryd.func3 (by kernel_rfl)
    (of_decide_eq_true (by kernel_rfl)) (by unfold Func.isWrapper; first | (rw [if_pos (by decide +kernel)]; kernel_rfl) | (rw [if_neg (by decide +kernel)]; exact ⟨rfl, rfl⟩))
    (fun os started H enc _ => lifted os started H enc)
theorem proved : Rows.MachineOutsCardSaid :=
  Claim7.holds_tied_plain_at .later [] [.data] true (true, "d6adbee08f14bd9ffcf5332214b92ecf956708dc1478702880f02da32724314a") false row (fun _ h => by cases h) (by kernel_rfl) (fun _ h => by cases h) machineOuts_row_tie rfl ⟨rfl, rfl⟩ (by kernel_rfl) rfl
    (fun f fn hf hfn => by
      obtain rfl : f = 3 := Option.some.inj ((show Tryd.prog.funcNamed "wordhoard/wordhoardlaw.MachineOuts" = some 3 by kernel_rfl).symm.trans hf) |>.symm
      obtain rfl : fn = Tryd.f3 := (Option.some.inj (Tryd.func3.symm.trans hfn)).symm
      exact ⟨by kernel_rfl, fun j t ht => by
        rw [Tryd.params3] at ht
        have hm : t ∈ [25, 26, 3] := by simpa using Array.mem_of_getElem? ht
        have hall : ([25, 26, 3].all fun u => !Tryd.prog.wantsStandIn u) = true := by kernel_rfl
        exact (show Tryd.prog.wantsStandIn t = false by simpa using List.all_eq_true.1 hall t hm)⟩)
    (by kernel_rfl)
end Go.Proofs.YtfjocafepigijaaDoor.machineOutsFull
namespace Go.Proofs.YtfjocafepigijaaDoor
theorem machineOuts_full : Rows.MachineOutsCardSaid := machineOutsFull.proved
#print axioms machineOuts_full
end Go.Proofs.YtfjocafepigijaaDoor
