/- The program's Cost answers what it must. Conditions: the machine is small, no text is longer than 61; what newField makes is as it is said (Nx). -/
import Derived.Test.YtfjocafepigijaaDoorRz
import Derived.Test.YtfjocafepigijaaDoorCo
import Derived.Test.YtfjocafepigijaaDoorCfM
namespace Go.Proofs.YtfjocafepigijaaDoor.Cq
open Go.RowKit Mv Wk Qp Sk Po Ps Wd Se Mp St Wg Nw Cm Cn Sy Rz Nm
open CR (nc)

/-- what newField makes -/
def FieldOk : Prop := ∀ (S : Nat) (A : List Arc) (va vf : Value) (w : World), Mv.Row w va 5 A.length (acs A) → (∀ a ∈ A, arcB (S : Int) a = true) → S ≤ 40 → 0 < S → A.length ≤ 120 → Calls Tryd.prog 55 #[.agg #[.int .i64 S, va, vf]] w fun e w' => ∃ F mb sb n V vs, e = .returned (.pointer (some ⟨F, 0, none⟩)) ∧ Nf w w' F mb sb S n A V vs
theorem cb_of {w wr : World} {F mb sb S n : Nat} {L : List Arc} {V : Key → Value} {vs : List Value} (h : Nf w wr F mb sb S n L V vs) : Cb wr wr F wr.heap.size mb sb S S n L (fun i o => if i = 0 ∧ o = 0 then nilS else V (i, o, 0)) nilS nilS nilS [] [] :=
  ⟨h.field, World.ownsRow_nil _ _ _ _, h.fld, Tb.nil _ _ _, Tb.nil _ _ _, fun k hk => by simp [nilS, Value.ownBlock] at hk, Kp.refl _ _⟩
theorem liesI_of {w wr : World} {F : Nat} {a : Option Addr} {l : List Int} (h : l.length = 0 ∨ ∃ b off, a = some ⟨b, off, none⟩ ∧ b < w.heap.size ∧ ∀ j u, (ints l)[j]? = some u → w.cell? ⟨b, off + j, none⟩ = some u) (hb : Below w.heap.size w wr) (hF : w.heap.size ≤ F) (hs : w.heap.size ≤ wr.heap.size) : LiesI wr F wr.heap.size a l := by
  rcases h with h | ⟨b, off, e, hbl, hc⟩
  · exact .inl h
  · refine .inr ⟨b, off, e, by omega, by omega, fun j u hu => (hb.cell hbl).trans (hc j _ ?_)⟩
    unfold ints
    rw [List.getElem?_map, hu]
    rfl
theorem row_of {w wr : World} {size n : Nat} {a : Option Addr} {cap : Nat} {xs : List Value} (hx : xs.length = n * size) (hn : n ≤ 140737488355328) (h : n = 0 ∨ ∃ b off, a = some ⟨b, off, none⟩ ∧ b < w.heap.size ∧ ∀ j u, xs[j]? = some u → w.cell? ⟨b, off + j, none⟩ = some u) (hb : Below w.heap.size w wr) : Mv.Row wr (.slice a n cap) size n xs :=
  (show Mv.Row w (.slice a n cap) size n xs from ⟨hx, a, cap, rfl, hn, h⟩).below hb
theorem kp_below {w w4 w5 : World} {F : Nat} (h : Kp (fun k => k = F ∨ w4.heap.size ≤ k) w4 w5) (hb : Below w.heap.size w w4) (hF : w.heap.size ≤ F) : Below w.heap.size w w5 :=
  ⟨h.os.trans hb.os, h.tape.trans hb.tape, h.output.trans hb.output, Nat.le_trans hb.size h.size, fun k hk => (h.block k (Nat.lt_of_lt_of_le hk hb.size) (fun hx => by have := hb.size; omega)).trans (hb.block k hk)⟩
theorem box3 {w wr : World} {a b c : Value} (h : Below (w.alloc (.cells #[a, b, c] 25)).heap.size (w.alloc (.cells #[a, b, c] 25)) wr) : wr.cell? ⟨w.heap.size, 0, none⟩ = some a ∧ wr.cell? ⟨w.heap.size, 1, none⟩ = some b ∧ wr.cell? ⟨w.heap.size, 2, none⟩ = some c := by
  have hl : w.heap.size < (w.alloc (.cells #[a, b, c] 25)).heap.size := by simp
  have hn := heap_alloc_new w (.cells #[a, b, c] 25)
  exact ⟨(h.cell (p := ⟨w.heap.size, 0, none⟩) hl).trans (cell_of_row _ _ 0 _ 25 (0, 0) hn), (h.cell (p := ⟨w.heap.size, 1, none⟩) hl).trans (cell_of_row _ _ 1 _ 25 (0, 0) hn), (h.cell (p := ⟨w.heap.size, 2, none⟩) hl).trans (cell_of_row _ _ 2 _ 25 (0, 0) hn)⟩

set_option maxHeartbeats 4000000 in
set_option maxRecDepth 100000 in
theorem cost_any (hfield : FieldOk) (m : M) (inn out : List Int) (v vi vo : Value) (w : World) (hM : IsM w v m) (hI : IsI w vi inn) (hO : IsI w vo out) (hfew : fewB m = true) (hil : inn.length ≤ 61) (hol : out.length ≤ 61) :
    Calls Tryd.prog 27 #[v, vi, vo] w fun e w' => ∃ c ok er, e = .returned (.tuple #[.int .i64 c, .bool ok, .int .i64 er]) ∧ Res m inn out c ok er ∧ Below w.heap.size w w' := by
  obtain ⟨st, arcs, fins⟩ := m
  have hchk := CkP.check_any ⟨st, arcs, fins⟩ v
  obtain ⟨va, vf, rfl, ⟨hxa, aa, ca, rfl, hna, hA⟩, ⟨hxf, af, cf, rfl, hnf, hF⟩⟩ := hM
  obtain ⟨hxi, ai, ci, rfl, hni, hIc⟩ := hI
  obtain ⟨hxo, ao, co, rfl, hno, hOc⟩ := hO
  obtain ⟨x0, hx0⟩ := checkP_ex ⟨st, arcs, fins⟩
  dsimp only at hxa hna hA hxf hnf hF
  have HX0 : Hid (checkP ⟨st, arcs, fins⟩ x0) := hx0
  have HMb : ∀ W, Below w.heap.size w W → IsM W (.agg #[.int .i64 st, .slice aa arcs.length ca, .slice af fins.length cf]) ⟨st, arcs, fins⟩ := fun W hW => IsM.below (m := ⟨st, arcs, fins⟩) (show IsM w (.agg #[.int .i64 st, .slice aa arcs.length ca, .slice af fins.length cf]) ⟨st, arcs, fins⟩ from ⟨.slice aa arcs.length ca, .slice af fins.length cf, rfl, ⟨hxa, aa, ca, rfl, hna, hA⟩, ⟨hxf, af, cf, rfl, hnf, hF⟩⟩) hW
  have HMB : Hid (∀ W, Below w.heap.size w W → IsM W (.agg #[.int .i64 st, .slice aa arcs.length ca, .slice af fins.length cf]) ⟨st, arcs, fins⟩) := HMb
  have HIc : Hid (inn.length = 0 ∨ ∃ b off, ai = some ⟨b, off, none⟩ ∧ b < w.heap.size ∧ ∀ j u, (ints inn)[j]? = some u → w.cell? ⟨b, off + j, none⟩ = some u) := hIc
  have HOc : Hid (out.length = 0 ∨ ∃ b off, ao = some ⟨b, off, none⟩ ∧ b < w.heap.size ∧ ∀ j u, (ints out)[j]? = some u → w.cell? ⟨b, off + j, none⟩ = some u) := hOc
  have HIb : ∀ W, Below w.heap.size w W → IsI W (.slice ai inn.length ci) inn := fun W hW => (show IsI w (.slice ai inn.length ci) inn from ⟨hxi, ai, ci, rfl, hni, hIc⟩).below hW
  have HOb : ∀ W, Below w.heap.size w W → IsI W (.slice ao out.length co) out := fun W hW => (show IsI w (.slice ao out.length co) out from ⟨hxo, ao, co, rfl, hno, hOc⟩).below hW
  have hb0 : ∀ o, Below w.heap.size w (w.alloc o) := fun o => (Below.refl _ w).alloc (Nat.le_refl _) o
  have h5 : ∀ W, Below w.heap.size w W → Calls Tryd.prog 30 #[.agg #[.int .i64 st, .slice aa arcs.length ca, .slice af fins.length cf]] W fun e W' => e = .returned (.int .i64 x0) ∧ Below W.heap.size W W' := fun W hW => (hchk W (HMB.out W hW)).mono (fun e W' ⟨⟨x, h1, h2⟩, h3⟩ => ⟨by rw [h1, checkP_one h2 HX0.out], h3⟩)
  have hAi := fun W hW => are_any inn (.slice ai inn.length ci) W (HIb W hW) hil
  have hAo := fun W hW => are_any out (.slice ao out.length co) W (HOb W hW) hol
  have HFd : Hid FieldOk := hfield
  clear hx0 hchk HMb hIc hOc hfield
  by_cases h0 : x0 = 0
  · subst h0
    obtain ⟨hsz, harc, hfin⟩ := checkP_ok HX0.out
    by_cases h1 : 60 < inn.length ∨ 60 < out.length
    · have HR : Hid (Res ⟨st, arcs, fins⟩ inn out 0 false 2) := .inr (.inl ⟨HX0.out, jn_long h1, by decide, rfl, rfl⟩)
      go_enter Tryd.func27, Tryd.ntmps27
      by_cases h2 : 60 < inn.length
      · have e2 : (60 : Int) < (inn.length : Int) := by omega
        clear hAi hAo
        go_wp2_with (go_at_call 30; refine (h5 _ (hb0 _)).mono ?_; rintro e w1 ⟨rfl, hb1⟩; have bx := box3 hb1; obtain ⟨bx0, bx1, bx2⟩ := bx; have hw1 : Below w.heap.size w w1 := (hb0 _).trans (hb1.mono (by simp)))
        repeat (go_quiet (fail); go_wp2)
        go_ret3
        exact ⟨_, _, _, rfl, HR.out, by first | exact hw1 | exact below_drewN hw1 _⟩
      · have e2 : ¬ (60 : Int) < (inn.length : Int) := by omega
        have e3 : (60 : Int) < (out.length : Int) := by omega
        clear hAi hAo
        go_wp2_with (go_at_call 30; refine (h5 _ (hb0 _)).mono ?_; rintro e w1 ⟨rfl, hb1⟩; have bx := box3 hb1; obtain ⟨bx0, bx1, bx2⟩ := bx; have hw1 : Below w.heap.size w w1 := (hb0 _).trans (hb1.mono (by simp)))
        repeat (go_quiet (fail); go_wp2)
        go_ret3
        exact ⟨_, _, _, rfl, HR.out, by first | exact hw1 | exact below_drewN hw1 _⟩
    · have h2 : ¬ 60 < inn.length := fun h => h1 (.inl h)
      have h3 : ¬ 60 < out.length := fun h => h1 (.inr h)
      have e2 : ¬ (60 : Int) < (inn.length : Int) := by omega
      have e3 : ¬ (60 : Int) < (out.length : Int) := by omega
      clear h1
      cases hai : allS inn with
      | false =>
        have HR : Hid (Res ⟨st, arcs, fins⟩ inn out 0 false 3) := .inr (.inl ⟨HX0.out, jn_bad h2 h3 (.inl hai), by decide, rfl, rfl⟩)
        rw [hai] at hAi
        clear hAo
        go_enter Tryd.func27, Tryd.ntmps27
        go_wp2_with (first | (go_at_call 30; refine (h5 _ (hb0 _)).mono ?_; rintro e w1 ⟨rfl, hb1⟩; have bx := box3 hb1; obtain ⟨bx0, bx1, bx2⟩ := bx; have hw1 : Below w.heap.size w w1 := (hb0 _).trans (hb1.mono (by simp))) | (go_at_call 32; with_reducible refine (hAi w1 hw1).mono ?_; rintro e w2 ⟨rfl, hb2⟩; have hb2' : Below (w.alloc (.cells #[.int .i64 st, .slice aa arcs.length ca, .slice af fins.length cf] 25)).heap.size (w.alloc (.cells #[.int .i64 st, .slice aa arcs.length ca, .slice af fins.length cf] 25)) w2 := hb1.trans (hb2.mono hb1.size); have bx := box3 hb2'; obtain ⟨by0, by1, by2⟩ := bx; have hw2 : Below w.heap.size w w2 := hw1.trans (hb2.mono hw1.size)))
        repeat (go_quiet (fail); go_wp2)
        go_ret3
        exact ⟨_, _, _, rfl, HR.out, by first | exact hw2 | exact below_drewN hw2 _⟩
      | true =>
        rw [hai] at hAi
        cases hao : allS out with
        | false =>
          have HR : Hid (Res ⟨st, arcs, fins⟩ inn out 0 false 3) := .inr (.inl ⟨HX0.out, jn_bad h2 h3 (.inr hao), by decide, rfl, rfl⟩)
          rw [hao] at hAo
          go_enter Tryd.func27, Tryd.ntmps27
          go_wp2_with (first | (go_at_call 30; refine (h5 _ (hb0 _)).mono ?_; rintro e w1 ⟨rfl, hb1⟩; have bx := box3 hb1; obtain ⟨bx0, bx1, bx2⟩ := bx; have hw1 : Below w.heap.size w w1 := (hb0 _).trans (hb1.mono (by simp))) | (go_at_call 32; with_reducible refine (hAi w1 hw1).mono ?_; rintro e w2 ⟨rfl, hb2⟩; have hb2' : Below (w.alloc (.cells #[.int .i64 st, .slice aa arcs.length ca, .slice af fins.length cf] 25)).heap.size (w.alloc (.cells #[.int .i64 st, .slice aa arcs.length ca, .slice af fins.length cf] 25)) w2 := hb1.trans (hb2.mono hb1.size); have bx := box3 hb2'; obtain ⟨by0, by1, by2⟩ := bx; have hw2 : Below w.heap.size w w2 := hw1.trans (hb2.mono hw1.size)) | (go_at_call 32; with_reducible refine (hAo w2 hw2).mono ?_; rintro e w3 ⟨rfl, hb3⟩; have hb3' : Below (w.alloc (.cells #[.int .i64 st, .slice aa arcs.length ca, .slice af fins.length cf] 25)).heap.size (w.alloc (.cells #[.int .i64 st, .slice aa arcs.length ca, .slice af fins.length cf] 25)) w3 := hb2'.trans (hb3.mono hb2'.size); have bx := box3 hb3'; obtain ⟨bz0, bz1, bz2⟩ := bx; have hw3 : Below w.heap.size w w3 := hw2.trans (hb3.mono hw2.size)))
          repeat (go_quiet (fail); go_wp2)
          go_ret3
          exact ⟨_, _, _, rfl, HR.out, by first | exact hw3 | exact below_drewN hw3 _⟩
        | true =>
          rw [hao] at hAo
          obtain ⟨f1, f2, f3⟩ := few_ok hfew
          have hst := size_ok hsz
          dsimp only at f1 f2 f3 hst harc hfin
          obtain ⟨S, rfl⟩ : ∃ S : Nat, st = (S : Int) := ⟨st.toNat, by omega⟩
          have hS : S ≤ 40 := by omega
          have hS0 : 0 < S := by omega
          have HRt : Hid (Right ⟨(S : Int), arcs, fins⟩ S) := ⟨rfl, hS0, harc⟩
          have HJ : Hid (jn inn out = 0) := jn_ok h2 h3 hai hao
          have HSi : Hid (∀ s ∈ inn, 1 ≤ s ∧ s ≤ 60) := allS_mem hai
          have HSo : Hid (∀ s ∈ out, 1 ≤ s ∧ s ≤ 60) := allS_mem hao
          have HFi : Hid (∀ k (h : k < fins.length), finB (S : Int) fins[k] = true) := hfin
          have HBd : Hid (Bd S (inn.length + out.length + 1) ≤ 1000000000000) := Nat.le_trans (Bd_le hS (by omega)) (by decide)
          have HF3 : Hid (fins.length ≤ 40) := f3
          clear hai hao hfew hsz harc hfin hst f1 f3
          go_enter Tryd.func27, Tryd.ntmps27
          go_wp2_with (first | (go_at_call 30; refine (h5 _ (hb0 _)).mono ?_; rintro e w1 ⟨rfl, hb1⟩; have bx := box3 hb1; obtain ⟨bx0, bx1, bx2⟩ := bx; have hw1 : Below w.heap.size w w1 := (hb0 _).trans (hb1.mono (by simp))) | (go_at_call 32; with_reducible refine (hAi w1 hw1).mono ?_; rintro e w2 ⟨rfl, hb2⟩; have hb2' : Below (w.alloc (.cells #[.int .i64 (S : Int), .slice aa arcs.length ca, .slice af fins.length cf] 25)).heap.size (w.alloc (.cells #[.int .i64 (S : Int), .slice aa arcs.length ca, .slice af fins.length cf] 25)) w2 := hb1.trans (hb2.mono hb1.size); have bx := box3 hb2'; obtain ⟨by0, by1, by2⟩ := bx; have hw2 : Below w.heap.size w w2 := hw1.trans (hb2.mono hw1.size)) | (go_at_call 32; with_reducible refine (hAo w2 hw2).mono ?_; rintro e w3 ⟨rfl, hb3⟩; have hb3' : Below (w.alloc (.cells #[.int .i64 (S : Int), .slice aa arcs.length ca, .slice af fins.length cf] 25)).heap.size (w.alloc (.cells #[.int .i64 (S : Int), .slice aa arcs.length ca, .slice af fins.length cf] 25)) w3 := hb2'.trans (hb3.mono hb2'.size); have bx := box3 hb3'; obtain ⟨bz0, bz1, bz2⟩ := bx; have hw3 : Below w.heap.size w w3 := hw2.trans (hb3.mono hw2.size)))
          repeat (go_quiet (fail); go_wp2)
          go_region_with (first | (go_at_call 55; refine (HFd.out S arcs (.slice aa arcs.length ca) (.slice af fins.length cf) _ (row_of hxa hna hA (by first | exact hw3 | exact hw3.drew | exact below_drewN hw3 _)) (right_all HRt.out) hS hS0 f2).mono ?_; rintro e w4 ⟨F, mb, sb, n, V, vs, rfl, hN⟩; have hN0 : w3.heap.size ≤ F := hN.lo.1; have hb4 : Below w3.heap.size w3 w4 := ⟨hN.below.os, hN.below.tape, hN.below.output, hN.below.size, hN.below.block⟩; have hb4' : Below (w.alloc (.cells #[.int .i64 (S : Int), .slice aa arcs.length ca, .slice af fins.length cf] 25)).heap.size (w.alloc (.cells #[.int .i64 (S : Int), .slice aa arcs.length ca, .slice af fins.length cf] 25)) w4 := hb3'.trans (hb4.mono hb3'.size); have bx := box3 hb4'; obtain ⟨bu0, bu1, bu2⟩ := bx; have hw4 : Below w.heap.size w w4 := hw3.trans (hb4.mono hw3.size); have HCb : Hid _ := cb_of hN; have HFs : Hid (w.heap.size ≤ F ∧ (w.alloc (.cells #[.int .i64 (S : Int), .slice aa arcs.length ca, .slice af fins.length cf] 25)).heap.size ≤ F ∧ F < w4.heap.size) := ⟨Nat.le_trans hw3.size hN0, Nat.le_trans hb3'.size hN0, hN.field.lt⟩; clear hN) | (go_at_call 56; refine (Co.costs_any F w4.heap.size mb sb S S n arcs _ fins inn out ai ao ci co nilS _ HCb.out HFs.out.2.2 HRt.out hS f2 (liesI_of HIc.out hw4 HFs.out.1 hw4.size) (liesI_of HOc.out hw4 HFs.out.1 hw4.size) (by omega) (by omega) HSi.out HSo.out).mono ?_; rintro e w5 ⟨C, cap, R, rfl, hC, hR, hk5⟩; have hw5 : Below w.heap.size w w5 := kp_below hk5 hw4 HFs.out.1; have hb5' : Below (w.alloc (.cells #[.int .i64 (S : Int), .slice aa arcs.length ca, .slice af fins.length cf] 25)).heap.size (w.alloc (.cells #[.int .i64 (S : Int), .slice aa arcs.length ca, .slice af fins.length cf] 25)) w5 := kp_below hk5 hb4' HFs.out.2.1; have bx := box3 hb5'; obtain ⟨bv0, bv1, bv2⟩ := bx; have HRr : Hid _ := hR; have HCo : Hid _ := hC; clear hR hC hk5) | (go_at_call 54; refine (end_any S C cap (.slice aa arcs.length ca) (.slice af fins.length cf) fins R _ (row_of hxf hnf hF hw5) HFi.out HF3.out _ HCo.out HRr.out.row.len (fine_small HRr.out hS (by omega)) HRr.out.row.top).mono ?_; rintro e w6 ⟨v, rfl, hl, hb6⟩; have hw6 : Below w.heap.size w w6 := hw5.trans (hb6.mono hw5.size); have HLf : Hid _ := isC_prog HFi.out HRr.out HBd.out hl; clear hl hb6))
          all_goals
            rcases HLf.out with ⟨hv, hi⟩ | ⟨hv, hi⟩
            · have HRs : Hid (Res ⟨(S : Int), arcs, fins⟩ inn out 0 false 0) := .inr (.inr ⟨HX0.out, HJ.out, rfl, .inl ⟨hi, rfl, rfl⟩⟩)
              have ev : (v : Int) = 9223372036854775807 := by rw [hv, far_int]
              have ev2 : ((v : Int) == 9223372036854775807) = true := by rw [ev]; rfl
              clear hi hv ev HLf
              go_wp2
              go_ret3
              exact ⟨_, _, _, rfl, HRs.out, hw6⟩
            · have HRs : Hid (Res ⟨(S : Int), arcs, fins⟩ inn out (v : Int) true 0) := .inr (.inr ⟨HX0.out, HJ.out, rfl, .inr ⟨v, hi, rfl, rfl⟩⟩)
              have ev2 := not_far2 hv
              have ev3 := not_far3 hv
              clear hi hv HLf
              go_wp2
              go_ret3
              exact ⟨_, _, _, rfl, HRs.out, hw6⟩
  · have HR : Hid (Res ⟨st, arcs, fins⟩ inn out 0 false x0) := .inl ⟨HX0.out, h0, rfl, rfl⟩
    have e0 : (x0 != 0) = true := by simpa using h0
    clear hAi hAo
    go_enter Tryd.func27, Tryd.ntmps27
    go_wp2_with (go_at_call 30; refine (h5 _ (hb0 _)).mono ?_; rintro e w1 ⟨rfl, hb1⟩; have bx := box3 hb1; obtain ⟨bx0, bx1, bx2⟩ := bx; have hw1 : Below w.heap.size w w1 := (hb0 _).trans (hb1.mono (by simp)))
    go_ret3
    exact ⟨_, _, _, rfl, HR.out, hw1⟩
end Go.Proofs.YtfjocafepigijaaDoor.Cq
/- machineBegun is true in whatever memory. Condition: what newField makes is as it is said (Nx). -/
namespace Go.Proofs.YtfjocafepigijaaDoor.Mb
open Go.RowKit Mv Wk Sy Rz Cq

def m1 : M := ⟨2, [(0, 1, 1, 2, 3)], [(1, 0)]⟩
theorem row25 : (Tryd.prog.info? 25).map (·.size) = some 3 := by kernel_rfl
theorem lit_row {w : World} {size n cap g : Nat} {cur : Array Value} {t : TypeId} (hg : w.heap[g]? = some (.cells cur t (0, 0))) (hl : cur.size = n * size) (hn : n ≤ 140737488355328) : Mv.Row w (.slice (some ⟨g, 0, none⟩) n cap) size n cur.toList :=
  ⟨by rw [Array.length_toList]; exact hl, _, cap, rfl, hn, .inr ⟨g, 0, rfl, (Array.getElem?_eq_some_iff.1 hg).1, fun j u hu => by rw [Nat.zero_add, cell_of_row w g j cur t (0, 0) hg]; rw [Array.getElem?_toList] at hu; exact hu⟩⟩
theorem three (w : World) (a b c : Obj) : (((w.alloc a).alloc b).alloc c).heap[w.heap.size]? = some a ∧ (((w.alloc a).alloc b).alloc c).heap[w.heap.size + 1]? = some b ∧ (((w.alloc a).alloc b).alloc c).heap[w.heap.size + 1 + 1]? = some c ∧ Below w.heap.size w (((w.alloc a).alloc b).alloc c) := by
  have s1 : (w.alloc a).heap.size = w.heap.size + 1 := by simp
  have s2 : ((w.alloc a).alloc b).heap.size = w.heap.size + 1 + 1 := by simp
  refine ⟨?_, ?_, ?_, ?_⟩
  · rw [heap_alloc_old _ _ (by omega), heap_alloc_old _ _ (by omega)]
    exact heap_alloc_new _ _
  · rw [heap_alloc_old _ _ (by omega), ← s1]
    exact heap_alloc_new _ _
  · rw [← s2]
    exact heap_alloc_new _ _
  · exact (((Below.refl _ w).alloc (Nat.le_refl _) a).alloc (by omega) b).alloc (by omega) c

set_option maxHeartbeats 1000000 in
set_option maxRecDepth 100000 in
theorem one_any (w : World) : Calls Tryd.prog 29 #[] w fun e w' => ∃ v, e = .returned v ∧ IsM w' v m1 ∧ Below w.heap.size w w' := by
  go_enter Tryd.func29, Tryd.ntmps29
  go_wp2
  obtain ⟨h1, h2, h3, hb⟩ := three w (.cells #[.int .i64 2, .slice (some ⟨w.heap.size + 1, 0, none⟩) 1 1, .slice (some ⟨w.heap.size + 1 + 1, 0, none⟩) 1 1] 25) (.cells #[.int .i64 0, .int .i64 1, .int .i64 1, .int .i64 2, .int .i64 3] 64) (.cells #[.int .i64 1, .int .i64 0] 66)
  exact bodyPost_ret (results_cell_row rfl _ _ w.heap.size 25 _ (0, 0) _ rfl h1 Tryd.underlying25 rfl row25) rfl ⟨_, rfl, ⟨_, _, rfl, lit_row (n := 1) (size := 5) h2 rfl (by decide), lit_row (n := 1) (size := 2) h3 rfl (by decide)⟩, hb⟩

theorem chk1 : checkP m1 0 := .inr (.inr (.inr (.inr ⟨by decide, fun k h => by
  have : k = 0 := by simp [m1] at h; exact h
  subst this; show arcB 2 (0, 1, 1, 2, 3) = true; decide, fun k h => by
  have : k = 0 := by simp [m1] at h; exact h
  subst this; show finB 2 (1, 0) = true; decide, fun i j hi hj hij _ => by
  simp [m1] at hi hj; omega, rfl⟩)))
theorem low1 : ∀ (t s i j c : Nat), ReachN m1 [1] [2] true t s i j c → (s = 0 ∧ c = 0) ∨ (s = 1 ∧ c = 3) := by
  intro t
  cases t with
  | zero => rintro s i j c ⟨h1, _, _, h2⟩; exact .inl ⟨h1, h2⟩
  | succ t =>
    intro s i j c h
    induction t generalizing s i j c with
    | zero =>
      obtain ⟨s0, i0, j0, c0, x, hx, ⟨r1, _, _, r2⟩, e1, e2, _, e3⟩ := h
      have : x = 0 := by simp [m1] at hx; exact hx
      subst this
      simp [m1] at e1 e2 e3
      exact .inr ⟨by omega, by omega⟩
    | succ t ih =>
      obtain ⟨s0, i0, j0, c0, x, hx, hr, e1, e2, _, e3⟩ := h
      have : x = 0 := by simp [m1] at hx; exact hx
      subst this
      simp [m1] at e1 e2 e3
      rcases ih s0 i0 j0 c0 hr with ⟨a, b⟩ | ⟨a, b⟩
      · exact .inr ⟨by omega, by omega⟩
      · omega
theorem res1 : Res m1 [1] [2] 3 true 0 := by
  refine .inr (.inr ⟨chk1, by decide, rfl, .inr ⟨3, ⟨⟨0, by decide, 1, 3, rfl, ⟨1, 0, 0, 0, 0, 0, by decide, ⟨rfl, rfl, rfl, rfl⟩, rfl, rfl, ⟨.inr ⟨by decide, rfl, rfl⟩, .inr ⟨by decide, rfl, rfl, rfl⟩⟩, by decide⟩, by decide⟩, ?_⟩, rfl, rfl⟩⟩)
  intro y hy f c e ⟨t, hr⟩
  have : y = 0 := by simp [m1] at hy; exact hy
  subst this
  simp [m1] at e
  rcases low1 t _ _ _ _ hr with ⟨a, b⟩ | ⟨a, b⟩
  · omega
  · subst b; show (3 : Int) ≤ 3 + 0; decide
theorem few1 : fewB m1 = true := by decide
theorem two (w : World) (a b : Obj) : ((w.alloc a).alloc b).heap[w.heap.size]? = some a ∧ ((w.alloc a).alloc b).heap[w.heap.size + 1]? = some b ∧ Below w.heap.size w ((w.alloc a).alloc b) := by
  have s1 : (w.alloc a).heap.size = w.heap.size + 1 := by simp
  refine ⟨?_, ?_, ?_⟩
  · rw [heap_alloc_old _ _ (by omega)]
    exact heap_alloc_new _ _
  · rw [← s1]
    exact heap_alloc_new _ _
  · exact ((Below.refl _ w).alloc (Nat.le_refl _) a).alloc (by omega) b

theorem cost1 (hf : FieldOk) (w0 w : World) (v : Value) (hM : IsM w0 v m1) (hb : Below w0.heap.size w0 w) (g h : Nat) (hg : w.heap[g]? = some (.cells #[.int .i64 1] 3 (0, 0))) (hh : w.heap[h]? = some (.cells #[.int .i64 2] 3 (0, 0))) :
    Calls Tryd.prog 27 #[v, .slice (some ⟨g, 0, none⟩) 1 1, .slice (some ⟨h, 0, none⟩) 1 1] w fun e w' => e = .returned (.tuple #[.int .i64 3, .bool true, .int .i64 0]) ∧ Below w.heap.size w w' := by
  refine (cost_any hf m1 [1] [2] v _ _ w (hM.below hb) (lit_row (n := 1) (size := 1) hg rfl (by decide)) (lit_row (n := 1) (size := 1) hh rfl (by decide)) few1 (by decide) (by decide)).mono ?_
  rintro e w' ⟨c, ok, er, rfl, hr, hb'⟩
  obtain ⟨rfl, rfl, rfl⟩ := hr.one res1
  exact ⟨rfl, hb'⟩

set_option maxHeartbeats 1000000 in
set_option maxRecDepth 100000 in
theorem begun_any (hf : FieldOk) (w : World) : Calls Tryd.prog 7 #[] w fun e w' => e = .returned (.bool true) ∧ Below w.heap.size w w' := by
  have HF : Hid FieldOk := hf
  clear hf
  go_enter Tryd.func7, Tryd.ntmps7
  go_wp2_with (first | (go_at_call 29; refine (one_any w).mono ?_; rintro e w1 ⟨v, rfl, hM, hb1⟩; have HM : Hid (IsM w1 v m1) := hM; clear hM) | (go_at_call 27; refine (cost1 HF.out w1 _ v HM.out (two w1 _ _).2.2 w1.heap.size (w1.heap.size + 1) (two w1 _ _).1 (two w1 _ _).2.1).mono ?_; rintro e w2 ⟨rfl, hb2⟩; have hw2 : Below w.heap.size w w2 := hb1.trans (((two w1 _ _).2.2.trans (hb2.mono (two w1 _ _).2.2.size)).mono hb1.size); clear hb2))
  repeat (go_quiet (fail); go_wp2)
  go_ret
  exact ⟨rfl, by first | exact hw2 | exact below_drewN hw2 _⟩
end Go.Proofs.YtfjocafepigijaaDoor.Mb
