/- The program's costs: the least cost of coming to each state by all of both texts. Conditions: the machine is right and small, the texts are of symbols. -/
import Derived.Test.YtfjocafepigijaaDoorCnM
import Derived.Deep.Cut
import Derived.Deep.CutRange
import Derived.Test.YtfjocafepigijaaDoorRzM
import Derived.Test.YtfjocafepigijaaDoorNxM
namespace Go.Proofs.YtfjocafepigijaaDoor.Co
open Go.RowKit Mv Wk Qp Sk Po Ps Wd Se Mp St Wg Nw Cm Cn
open CR (nc)

set_option maxHeartbeats 8000000 in
set_option maxRecDepth 100000 in
theorem costs_any (F K0 mb sb S capS n : Nat) (A : List Arc) (G : Int → Int → Value) (fins : List (Int × Int)) (inn out : List Int) (ai ao : Option Addr) (ci co : Nat) (vq : Value) (w : World)
    (hcb : Cb w w F K0 mb sb S capS n A G vq nilS nilS [] []) (hFK : F < K0) (hr : Right ⟨(S : Int), A, fins⟩ S) (hS : S ≤ 40) (hAl : A.length ≤ 120)
    (hI : LiesI w F K0 ai inn) (hO : LiesI w F K0 ao out) (hil : inn.length ≤ 60) (hol : out.length ≤ 60) (hsi : ∀ s ∈ inn, 1 ≤ s ∧ s ≤ 60) (hso : ∀ s ∈ out, 1 ≤ s ∧ s ≤ 60) :
    Calls Tryd.prog 56 #[.pointer (some ⟨F, 0, none⟩), .slice ai inn.length ci, .slice ao out.length co] w fun e w' => ∃ C cap R, e = .returned (.slice (some ⟨C, 0, none⟩) S cap) ∧ w'.ownsRow K0 3 1 (.slice (some ⟨C, 0, none⟩) S cap) S (nc R) ∧ Fine ⟨(S : Int), A, fins⟩ inn out S inn.length out.length R ∧ Kp (fun k => k = F ∨ K0 ≤ k) w w' := by
  obtain ⟨i26, hi26, hz0, hz1, hz2⟩ := info_parts info26
  have hS0 := hr.2.1
  have HR : Hid (Right ⟨(S : Int), A, fins⟩ S) := hr
  have HK0 : Hid (K0 ≤ w.heap.size) := hcb.fld.sils.size
  have HI : Hid (LiesI w F K0 ai inn) := hI
  have HO : Hid (LiesI w F K0 ao out) := hO
  have HSI : Hid (∀ s ∈ inn, 1 ≤ s ∧ s ≤ 60) := hsi
  have HSO : Hid (∀ s ∈ out, 1 ≤ s ∧ s ≤ 60) := hso
  have HA : Hid (∀ a ∈ A, arcB (S : Int) a = true) := right_all hr
  have HCB : Hid (Cb w w F K0 mb sb S capS n A G vq nilS nilS [] []) := hcb
  clear hr hI hO hsi hso hcb
  go_enter Tryd.func56, Tryd.ntmps56
  go_wp2
  go_loopw [8, 9] (fun ro i wr => ∃ (i1 : Nat) (vq vr : Value) (lr : List RowH), vr = ro ∧ i = .int .i64 i1 ∧ i1 ≤ inn.length + 1 ∧ Cb w wr F K0 mb sb S capS n A G vq nilS vr [] lr ∧ (i1 = 0 ∨ (lr.length = out.length + 1 ∧ FineL ⟨(S : Int), A, fins⟩ inn out S (i1 - 1) lr))) (fun _ i _ => inn.length + 1 - (intOf i).toNat)
  case atStart => exact ⟨0, vq, nilS, [], rfl, rfl, Nat.zero_le _, HCB.out, .inl rfl⟩
  case round =>
    clear HCB
    obtain ⟨i1, vq, va, la, rfl, rfl, hi1, hcb, hla⟩ := hrel
    by_cases hin : i1 ≤ inn.length
    · have HCB : Hid (Cb w wr F K0 mb sb S capS n A G vq va nilS la []) := hcb.turn
      have HLA : Hid (i1 = 0 ∨ (la.length = out.length + 1 ∧ FineL ⟨(S : Int), A, fins⟩ inn out S (i1 - 1) la)) := hla
      clear hcb hla
      go_wp2
      go_loopw [8, 10] (fun ro j wr => ∃ (j1 : Nat) (vq vr : Value) (lr : List RowH), vr = ro ∧ j = .int .i64 j1 ∧ j1 ≤ out.length + 1 ∧ Cb w wr F K0 mb sb S capS n A G vq va vr la lr ∧ lr.length = j1 ∧ FineL ⟨(S : Int), A, fins⟩ inn out S i1 lr) (fun _ j _ => out.length + 1 - (intOf j).toNat)
      case atStart => exact ⟨0, vq, nilS, [], rfl, rfl, Nat.zero_le _, HCB.out, rfl, fun _ _ h => by simp at h⟩
      case round =>
        clear HCB
        obtain ⟨j1, vq, vr, lr, rfl, rfl, hj1, hcb, hlr, hfl⟩ := hrel
        have HLR : Hid (lr.length = j1) := hlr
        have HFL : Hid (FineL ⟨(S : Int), A, fins⟩ inn out S i1 lr) := hfl
        have HCB : Hid (Cb w wr F K0 mb sb S capS n A G vq va vr la lr) := hcb
        clear hlr hfl
        by_cases hjn : j1 ≤ out.length
        · have q0 : wr.cell? ⟨F, 0, none⟩ = some (.int .i64 S) := hcb.field.cell 0
          have hlr60 : lr.length ≤ 60 := by have := HLR.out; omega
          clear hcb
          by_cases hi0 : i1 = 0
          · skip
            have HIe : Hid (i1 = 0) := hi0
            have bi : ((i1 : Int) == 0) = true := by rw [HIe.out]; rfl
            have gi : ¬ (0 : Int) < (i1 : Int) := by rw [HIe.out]; decide
            have ni : ¬ 0 < i1 := by rw [HIe.out]; decide
            clear hi0
            by_cases hj0 : j1 = 0
            · skip
              have HJe : Hid (j1 = 0) := hj0
              have bj : ((j1 : Int) == 0) = true := by rw [HJe.out]; rfl
              have gj : ¬ (0 : Int) < (j1 : Int) := by rw [HJe.out]; decide
              have nj : ¬ 0 < j1 := by rw [HJe.out]; decide
              clear hj0
              have HPA : Hid (Pre S (Pl ⟨(S : Int), A, fins⟩ inn out i1 j1) (Bd S (i1 + j1)) ((List.replicate S far).set 0 0) ∧ cv ((List.replicate S far).set 0 0) 0 = 0) := by have e1 := HIe.out; have e2 := HJe.out; subst e1; subst e2; exact pre_first hS0
              have HcA : Hid (Comp ⟨(S : Int), A, fins⟩ inn out i1 j1 ((List.replicate S far).set 0 0)) := by have e1 := HIe.out; have e2 := HJe.out; subst e1; subst e2; exact comp_of (fun _ _ h => by omega) (fun _ _ h => by omega) (fun _ _ _ _ h => by omega)
              go_wp2_with (first | (go_at_call 87; refine (nowhere_any S _ hS0 hS).mono ?_; rintro e w1 ⟨rfl, ho1, hb1⟩; have HC : Hid (Ch w w1 F K0 mb sb S capS n A G vq va vr la lr wr.heap.size (List.replicate S far)) := HCB.out.laid hb1 ho1; clear ho1 hb1; have c0 : w1.cell? ⟨wr.heap.size, 0, none⟩ = some (.int .i64 (cv (List.replicate S far) 0 : Nat)) := (by rw [HC.out.here.cellAt 0 (by omega)]; exact Se.nc_at (by simpa using hS0)); have f0 := HC.out.here.frozenAt 0) | (go_at_call 89; refine (settle_any F K0 sb S wr.heap.size S capS A (Pl ⟨(S : Int), A, fins⟩ inn out i1 j1) (Bd S (i1 + j1)) ((List.replicate S far).set 0 0) (.int .i64 S) (.map (some mb)) vq _ (HC.out.store 0 0).mem (HC.out.store 0 0).cb.fld.sils hFK (Pre.toRow HPA.out.1) hS (Nat.le_trans (Bd_le hS (by omega)) (by decide)) hAl HA.out (silent (m := ⟨(S : Int), A, fins⟩))).mono ?_; rintro e w5 ⟨rfl, R, v5, hset, hm5⟩; have HF : Hid (Fine ⟨(S : Int), A, fins⟩ inn out S i1 j1 R) := settled_of HR.out hS (by omega) hset (fun _ _ => HPA.out.2) HcA.out; have HJ : Hid (Ch w w5 F K0 mb sb S capS n A G v5 va vr la lr wr.heap.size R) := (HC.out.store 0 0).settled hm5; clear hset hm5) | (at_builtin; refine wpList_append_own_at _ rfl _ _ 29 rfl K0 26 i26 (.slice none 0 0) 1 24 Tryd.underlying29 hi26 hz0 hz1 hz2 rfl (by decide) _ _ _ rfl (HJ.out.cb.tr.own.alloc _) ⟨w5.heap.size, 0, none⟩ 1 1 [.slice (some ⟨wr.heap.size, 0, none⟩) S S] rfl rfl (cell_one_new _ _ _) (slice_one _ rfl) (by unfold maxLen; omega) (by omega) (Nat.le_trans HK0.out (Nat.le_trans HJ.out.cb.kept.size (by simp))) ?_; intro vr6 w6 ho6 hg6 _ hl6; have HN : Hid (Cb w w6 F K0 mb sb S capS n A G v5 va vr6 la (lr ++ [(wr.heap.size, S, R)])) := HJ.out.joined ho6 hg6 hl6; clear ho6 hg6 hl6))
              all_goals go_roundw
              all_goals first
                | exact ⟨j1 + 1, v5, vr6, lr ++ [(wr.heap.size, S, R)], rfl, by go_num, by omega, HN.out, by rw [List.length_append, HLR.out]; rfl, FineL.snoc (x := (wr.heap.size, S, R)) HFL.out HLR.out HF.out⟩
                | (simp [intOf]; omega)
            · skip
              obtain ⟨jj, ej⟩ : ∃ k, j1 = k + 1 := ⟨j1 - 1, by omega⟩
              have HJe : Hid (j1 = jj + 1) := ej
              have bj : ((j1 : Int) == 0) = false := by rw [ej]; simp; omega
              have gj : (0 : Int) < (j1 : Int) := by omega
              have nj : 0 < j1 := by omega
              have wj1 : wrap64 ((j1 : Int) - 1) = (jj : Int) := by unfold wrap64; omega
              have wj2 : IntKind.i64.wrap ((j1 : Int) - 1) = (jj : Int) := by rw [IntKind.wrap_i64]; omega
              have lj : jj < out.length := by omega
              clear ej hj0
              obtain ⟨so, hso⟩ : ∃ s, out[jj]? = some s := ⟨_, List.getElem?_eq_getElem (by omega)⟩
              have HSo : Hid (out[jj]? = some so) := hso
              have rso := HSO.out so (List.mem_of_getElem? hso)
              obtain ⟨bo, oo, rfl, _⟩ := HO.out.at HCB.out.kept HK0.out hso
              clear hso
              obtain ⟨x, hx⟩ : ∃ x, lr[jj]? = some x := ⟨_, List.getElem?_eq_getElem (by have := HLR.out; have := HJe.out; omega)⟩
              have HX : Hid (lr[jj]? = some x) := hx
              clear hx
              obtain ⟨gr, capr, rfl, _, _⟩ := own_some HCB.out.tr.own (by have := HLR.out; omega)
              have hjl : jj < lr.length := (List.getElem?_eq_some_iff.1 HX.out).1
              have HFx : Hid (Fine ⟨(S : Int), A, fins⟩ inn out S i1 jj x.2.2) := HFL.out _ _ HX.out
              go_wp2_with (go_at_call 87; refine (nowhere_any S _ hS0 hS).mono ?_; rintro e w1 ⟨rfl, ho1, hb1⟩; have HC : Hid (Ch w w1 F K0 mb sb S capS n A G vq va (.slice (some ⟨gr, 0, none⟩) lr.length capr) la lr wr.heap.size (List.replicate S far)) := HCB.out.laid hb1 ho1; clear ho1 hb1; have cR := HC.out.cb.tr.cell HX.out; obtain ⟨_, _, ebo, cO⟩ := HO.out.at HC.out.cb.kept HK0.out HSo.out; cases ebo)
              go_region_with (go_at_call 88; refine (step_any F K0 mb sb S n wr.heap.size S x.1 x.2.1 A G x.2.2 (List.replicate S far) 0 so (.slice (some ⟨sb, 0, none⟩) S capS) vq _ HC.out.drew.cb.field HC.out.drew.cb.fld HC.out.drew.here (HC.out.drew.cb.tr.rows x (List.mem_of_getElem? HX.out)) (fun e => HC.out.new x (List.mem_append_right _ (List.mem_of_getElem? HX.out)) e.symm) ((pre_none S (Pl ⟨(S : Int), A, fins⟩ inn out i1 j1) (Bd S (i1 + j1)))).len HFx.out.row.len hAl HA.out (by omega) (by omega) (by omega) (by omega) (by omega) (fine_small HFx.out hS (by have := HIe.out; have := HJe.out; omega)) HFx.out.row.top).mono ?_; rintro e w2 ⟨rfl, H1, hs1, ho2, hk2⟩; have HC1 : Hid (Ch w w2 F K0 mb sb S capS n A G vq va (.slice (some ⟨gr, 0, none⟩) lr.length capr) la lr wr.heap.size H1) := HC.out.drew.stepped ho2 hk2; have HP1 : Hid (Pre S (Pl ⟨(S : Int), A, fins⟩ inn out i1 j1) (Bd S (i1 + j1)) H1 ∧ (∀ s, cv H1 s ≤ cv (List.replicate S far) s) ∧ From ⟨(S : Int), A, fins⟩ inn out H1 0 so i1 jj) := step_of (m := ⟨(S : Int), A, fins⟩) HR.out hS (by have := HIe.out; have := HJe.out; omega) HFx.out (pre_none S (Pl ⟨(S : Int), A, fins⟩ inn out i1 j1) (Bd S (i1 + j1))) hs1 (by have := HIe.out; have := HJe.out; omega) (by rw [HJe.out]; exact mv2 HSo.out rso.1); clear hs1 ho2 hk2; skip)
              all_goals go_wp2_with (first | (go_at_call 89; refine (settle_any F K0 sb S wr.heap.size S capS A (Pl ⟨(S : Int), A, fins⟩ inn out i1 j1) (Bd S (i1 + j1)) H1 (.int .i64 S) (.map (some mb)) vq _ HC1.out.mem HC1.out.cb.fld.sils hFK (Pre.toRow HP1.out.1) hS (Nat.le_trans (Bd_le hS (by omega)) (by decide)) hAl HA.out (silent (m := ⟨(S : Int), A, fins⟩))).mono ?_; rintro e w5 ⟨rfl, R, v5, hset, hm5⟩; have HF : Hid (Fine ⟨(S : Int), A, fins⟩ inn out S i1 j1 R) := settled_of HR.out hS (by omega) hset (fun _ h => by have := HJe.out; omega) (by have e1 := HIe.out; have e2 := HJe.out; subst e1; subst e2; exact compB HSo.out HP1.out.2.2); have HJ : Hid (Ch w w5 F K0 mb sb S capS n A G v5 va (.slice (some ⟨gr, 0, none⟩) lr.length capr) la lr wr.heap.size R) := HC1.out.settled hm5; clear hset hm5) | (at_builtin; refine wpList_append_own_at _ rfl _ _ 29 rfl K0 26 i26 (.slice none 0 0) 1 24 Tryd.underlying29 hi26 hz0 hz1 hz2 rfl (by decide) _ _ _ rfl (HJ.out.cb.tr.own.alloc _) ⟨w5.heap.size, 0, none⟩ 1 1 [.slice (some ⟨wr.heap.size, 0, none⟩) S S] rfl rfl (cell_one_new _ _ _) (slice_one _ rfl) (by unfold maxLen; omega) (by omega) (Nat.le_trans HK0.out (Nat.le_trans HJ.out.cb.kept.size (by simp))) ?_; intro vr6 w6 ho6 hg6 _ hl6; have HN : Hid (Cb w w6 F K0 mb sb S capS n A G v5 va vr6 la (lr ++ [(wr.heap.size, S, R)])) := HJ.out.joined ho6 hg6 hl6; clear ho6 hg6 hl6))
              all_goals go_roundw
              all_goals first
                | exact ⟨j1 + 1, v5, vr6, lr ++ [(wr.heap.size, S, R)], rfl, by go_num, by omega, HN.out, by rw [List.length_append, HLR.out]; rfl, FineL.snoc (x := (wr.heap.size, S, R)) HFL.out HLR.out HF.out⟩
                | (simp [intOf]; omega)
          · skip
            obtain ⟨ii, ei⟩ : ∃ k, i1 = k + 1 := ⟨i1 - 1, by omega⟩
            have HIe : Hid (i1 = ii + 1) := ei
            have bi : ((i1 : Int) == 0) = false := by rw [ei]; simp; omega
            have gi : (0 : Int) < (i1 : Int) := by omega
            have ni : 0 < i1 := by omega
            have wi1 : wrap64 ((i1 : Int) - 1) = (ii : Int) := by unfold wrap64; omega
            have wi2 : IntKind.i64.wrap ((i1 : Int) - 1) = (ii : Int) := by rw [IntKind.wrap_i64]; omega
            have li : ii < inn.length := by omega
            clear ei hi0
            have HLA2 : Hid (la.length = out.length + 1 ∧ FineL ⟨(S : Int), A, fins⟩ inn out S ii la) := by have h1 := HLA.out.resolve_left (by omega); have e1 := HIe.out; subst e1; exact h1
            have hal : la.length = out.length + 1 := HLA2.out.1
            obtain ⟨si, hsi⟩ : ∃ s, inn[ii]? = some s := ⟨_, List.getElem?_eq_getElem (by omega)⟩
            have HSi : Hid (inn[ii]? = some si) := hsi
            have rsi := HSI.out si (List.mem_of_getElem? hsi)
            obtain ⟨bi, oi, rfl, _⟩ := HI.out.at HCB.out.kept HK0.out hsi
            clear hsi
            obtain ⟨ga, capa, rfl, _, _⟩ := own_some HCB.out.ta.own (by omega)
            obtain ⟨y, hy⟩ : ∃ x, la[j1]? = some x := ⟨_, List.getElem?_eq_getElem (by skip; omega)⟩
            have HY : Hid (la[j1]? = some y) := hy
            clear hy
            have hja : j1 < la.length := by omega
            have HFy : Hid (Fine ⟨(S : Int), A, fins⟩ inn out S ii j1 y.2.2) := HLA2.out.2 _ _ HY.out
            clear hal
            by_cases hj0 : j1 = 0
            · skip
              have HJe : Hid (j1 = 0) := hj0
              have bj : ((j1 : Int) == 0) = true := by rw [HJe.out]; rfl
              have gj : ¬ (0 : Int) < (j1 : Int) := by rw [HJe.out]; decide
              have nj : ¬ 0 < j1 := by rw [HJe.out]; decide
              clear hj0
              go_wp2_with (go_at_call 87; refine (nowhere_any S _ hS0 hS).mono ?_; rintro e w1 ⟨rfl, ho1, hb1⟩; have HC : Hid (Ch w w1 F K0 mb sb S capS n A G vq (.slice (some ⟨ga, 0, none⟩) la.length capa) vr la lr wr.heap.size (List.replicate S far)) := HCB.out.laid hb1 ho1; clear ho1 hb1; have cA := HC.out.cb.ta.cell HY.out; obtain ⟨_, _, ebi, cI⟩ := HI.out.at HC.out.cb.kept HK0.out HSi.out; cases ebi)
              go_region_with (go_at_call 88; refine (step_any F K0 mb sb S n wr.heap.size S y.1 y.2.1 A G y.2.2 (List.replicate S far) si 0 (.slice (some ⟨sb, 0, none⟩) S capS) vq _ HC.out.drew.cb.field HC.out.drew.cb.fld HC.out.drew.here (HC.out.drew.cb.ta.rows y (List.mem_of_getElem? HY.out)) (fun e => HC.out.new y (List.mem_append_left _ (List.mem_of_getElem? HY.out)) e.symm) ((pre_none S (Pl ⟨(S : Int), A, fins⟩ inn out i1 j1) (Bd S (i1 + j1)))).len HFy.out.row.len hAl HA.out (by omega) (by omega) (by omega) (by omega) (by omega) (fine_small HFy.out hS (by have := HIe.out; have := HJe.out; omega)) HFy.out.row.top).mono ?_; rintro e w2 ⟨rfl, H1, hs1, ho2, hk2⟩; have HC1 : Hid (Ch w w2 F K0 mb sb S capS n A G vq (.slice (some ⟨ga, 0, none⟩) la.length capa) vr la lr wr.heap.size H1) := HC.out.drew.stepped ho2 hk2; have HP1 : Hid (Pre S (Pl ⟨(S : Int), A, fins⟩ inn out i1 j1) (Bd S (i1 + j1)) H1 ∧ (∀ s, cv H1 s ≤ cv (List.replicate S far) s) ∧ From ⟨(S : Int), A, fins⟩ inn out H1 si 0 ii j1) := step_of (m := ⟨(S : Int), A, fins⟩) HR.out hS (by have := HIe.out; have := HJe.out; omega) HFy.out (pre_none S (Pl ⟨(S : Int), A, fins⟩ inn out i1 j1) (Bd S (i1 + j1))) hs1 (by have := HIe.out; have := HJe.out; omega) (by rw [HIe.out]; exact mv1 HSi.out rsi.1); clear hs1 ho2 hk2; skip)
              all_goals go_wp2_with (first | (go_at_call 89; refine (settle_any F K0 sb S wr.heap.size S capS A (Pl ⟨(S : Int), A, fins⟩ inn out i1 j1) (Bd S (i1 + j1)) H1 (.int .i64 S) (.map (some mb)) vq _ HC1.out.mem HC1.out.cb.fld.sils hFK (Pre.toRow HP1.out.1) hS (Nat.le_trans (Bd_le hS (by omega)) (by decide)) hAl HA.out (silent (m := ⟨(S : Int), A, fins⟩))).mono ?_; rintro e w5 ⟨rfl, R, v5, hset, hm5⟩; have HF : Hid (Fine ⟨(S : Int), A, fins⟩ inn out S i1 j1 R) := settled_of HR.out hS (by omega) hset (fun h => by have := HIe.out; omega) (by have e1 := HIe.out; have e2 := HJe.out; subst e1; subst e2; exact compC HSi.out HP1.out.2.2); have HJ : Hid (Ch w w5 F K0 mb sb S capS n A G v5 (.slice (some ⟨ga, 0, none⟩) la.length capa) vr la lr wr.heap.size R) := HC1.out.settled hm5; clear hset hm5) | (at_builtin; refine wpList_append_own_at _ rfl _ _ 29 rfl K0 26 i26 (.slice none 0 0) 1 24 Tryd.underlying29 hi26 hz0 hz1 hz2 rfl (by decide) _ _ _ rfl (HJ.out.cb.tr.own.alloc _) ⟨w5.heap.size, 0, none⟩ 1 1 [.slice (some ⟨wr.heap.size, 0, none⟩) S S] rfl rfl (cell_one_new _ _ _) (slice_one _ rfl) (by unfold maxLen; omega) (by omega) (Nat.le_trans HK0.out (Nat.le_trans HJ.out.cb.kept.size (by simp))) ?_; intro vr6 w6 ho6 hg6 _ hl6; have HN : Hid (Cb w w6 F K0 mb sb S capS n A G v5 (.slice (some ⟨ga, 0, none⟩) la.length capa) vr6 la (lr ++ [(wr.heap.size, S, R)])) := HJ.out.joined ho6 hg6 hl6; clear ho6 hg6 hl6))
              all_goals go_roundw
              all_goals first
                | exact ⟨j1 + 1, v5, vr6, lr ++ [(wr.heap.size, S, R)], rfl, by go_num, by omega, HN.out, by rw [List.length_append, HLR.out]; rfl, FineL.snoc (x := (wr.heap.size, S, R)) HFL.out HLR.out HF.out⟩
                | (simp [intOf]; omega)
            · skip
              obtain ⟨jj, ej⟩ : ∃ k, j1 = k + 1 := ⟨j1 - 1, by omega⟩
              have HJe : Hid (j1 = jj + 1) := ej
              have bj : ((j1 : Int) == 0) = false := by rw [ej]; simp; omega
              have gj : (0 : Int) < (j1 : Int) := by omega
              have nj : 0 < j1 := by omega
              have wj1 : wrap64 ((j1 : Int) - 1) = (jj : Int) := by unfold wrap64; omega
              have wj2 : IntKind.i64.wrap ((j1 : Int) - 1) = (jj : Int) := by rw [IntKind.wrap_i64]; omega
              have lj : jj < out.length := by omega
              clear ej hj0
              obtain ⟨so, hso⟩ : ∃ s, out[jj]? = some s := ⟨_, List.getElem?_eq_getElem (by omega)⟩
              have HSo : Hid (out[jj]? = some so) := hso
              have rso := HSO.out so (List.mem_of_getElem? hso)
              obtain ⟨bo, oo, rfl, _⟩ := HO.out.at HCB.out.kept HK0.out hso
              clear hso
              obtain ⟨x, hx⟩ : ∃ x, lr[jj]? = some x := ⟨_, List.getElem?_eq_getElem (by have := HLR.out; have := HJe.out; omega)⟩
              have HX : Hid (lr[jj]? = some x) := hx
              clear hx
              obtain ⟨gr, capr, rfl, _, _⟩ := own_some HCB.out.tr.own (by have := HLR.out; omega)
              have hjl : jj < lr.length := (List.getElem?_eq_some_iff.1 HX.out).1
              have HFx : Hid (Fine ⟨(S : Int), A, fins⟩ inn out S i1 jj x.2.2) := HFL.out _ _ HX.out
              obtain ⟨z, hz⟩ : ∃ x, la[jj]? = some x := ⟨_, List.getElem?_eq_getElem (by have := HLA2.out.1; omega)⟩
              have HZ : Hid (la[jj]? = some z) := hz
              clear hz
              have hja2 : jj < la.length := (List.getElem?_eq_some_iff.1 HZ.out).1
              have HFz : Hid (Fine ⟨(S : Int), A, fins⟩ inn out S ii jj z.2.2) := HLA2.out.2 _ _ HZ.out
              go_upto_region 13 with (go_at_call 87; refine (nowhere_any S _ hS0 hS).mono ?_; rintro e w1 ⟨rfl, ho1, hb1⟩; have HC : Hid (Ch w w1 F K0 mb sb S capS n A G vq (.slice (some ⟨ga, 0, none⟩) la.length capa) (.slice (some ⟨gr, 0, none⟩) lr.length capr) la lr wr.heap.size (List.replicate S far)) := HCB.out.laid hb1 ho1; clear ho1 hb1; have cA := HC.out.cb.ta.cell HY.out; obtain ⟨_, _, ebi, cI⟩ := HI.out.at HC.out.cb.kept HK0.out HSi.out; cases ebi)
              go_cut [19] from 19 to 100 (fun _ wx => ∃ H1, Ch w wx F K0 mb sb S capS n A G vq (.slice (some ⟨ga, 0, none⟩) la.length capa) (.slice (some ⟨gr, 0, none⟩) lr.length capr) la lr wr.heap.size H1 ∧ (Pre S (Pl ⟨(S : Int), A, fins⟩ inn out i1 j1) (Bd S (i1 + j1)) H1 ∧ (∀ s, cv H1 s ≤ cv (List.replicate S far) s) ∧ From ⟨(S : Int), A, fins⟩ inn out H1 si 0 ii j1))
              case first =>
                go_region_with (go_at_call 88; refine (step_any F K0 mb sb S n wr.heap.size S y.1 y.2.1 A G y.2.2 (List.replicate S far) si 0 (.slice (some ⟨sb, 0, none⟩) S capS) vq _ HC.out.drew.cb.field HC.out.drew.cb.fld HC.out.drew.here (HC.out.drew.cb.ta.rows y (List.mem_of_getElem? HY.out)) (fun e => HC.out.new y (List.mem_append_left _ (List.mem_of_getElem? HY.out)) e.symm) ((pre_none S (Pl ⟨(S : Int), A, fins⟩ inn out i1 j1) (Bd S (i1 + j1)))).len HFy.out.row.len hAl HA.out (by omega) (by omega) (by omega) (by omega) (by omega) (fine_small HFy.out hS (by have := HIe.out; have := HJe.out; omega)) HFy.out.row.top).mono ?_; rintro e w2 ⟨rfl, H1, hs1, ho2, hk2⟩; have HC1 : Hid (Ch w w2 F K0 mb sb S capS n A G vq (.slice (some ⟨ga, 0, none⟩) la.length capa) (.slice (some ⟨gr, 0, none⟩) lr.length capr) la lr wr.heap.size H1) := HC.out.drew.stepped ho2 hk2; have HP1 : Hid (Pre S (Pl ⟨(S : Int), A, fins⟩ inn out i1 j1) (Bd S (i1 + j1)) H1 ∧ (∀ s, cv H1 s ≤ cv (List.replicate S far) s) ∧ From ⟨(S : Int), A, fins⟩ inn out H1 si 0 ii j1) := step_of (m := ⟨(S : Int), A, fins⟩) HR.out hS (by have := HIe.out; have := HJe.out; omega) HFy.out (pre_none S (Pl ⟨(S : Int), A, fins⟩ inn out i1 j1) (Bd S (i1 + j1))) hs1 (by have := HIe.out; have := HJe.out; omega) (by rw [HIe.out]; exact mv1 HSi.out rsi.1); clear hs1 ho2 hk2; skip)
                all_goals (go_wp2_with fail; go_meet; exact ⟨H1, HC1.out, HP1.out⟩)
              case rest =>
              clear cA cI
              obtain ⟨H1, hc, hp⟩ := hcut
              obtain ⟨w2, ew2⟩ : ∃ x, x = wc := ⟨_, rfl⟩
              subst ew2
              have HC1 : Hid (Ch w w2 F K0 mb sb S capS n A G vq (.slice (some ⟨ga, 0, none⟩) la.length capa) (.slice (some ⟨gr, 0, none⟩) lr.length capr) la lr wr.heap.size H1) := hc
              have HP1 : Hid (Pre S (Pl ⟨(S : Int), A, fins⟩ inn out i1 j1) (Bd S (i1 + j1)) H1 ∧ (∀ s, cv H1 s ≤ cv (List.replicate S far) s) ∧ From ⟨(S : Int), A, fins⟩ inn out H1 si 0 ii j1) := hp
              clear hc hp
              have cR := HC1.out.cb.tr.cell HX.out
              obtain ⟨_, _, ebo, cO⟩ := HO.out.at HC1.out.cb.kept HK0.out HSo.out
              cases ebo
              go_upto_region 15 with (fail)
              go_cut [19] from 19 to 100 (fun _ wx => ∃ H2, Ch w wx F K0 mb sb S capS n A G vq (.slice (some ⟨ga, 0, none⟩) la.length capa) (.slice (some ⟨gr, 0, none⟩) lr.length capr) la lr wr.heap.size H2 ∧ (Pre S (Pl ⟨(S : Int), A, fins⟩ inn out i1 j1) (Bd S (i1 + j1)) H2 ∧ (∀ s, cv H2 s ≤ cv H1 s) ∧ From ⟨(S : Int), A, fins⟩ inn out H2 0 so i1 jj))
              case first =>
                go_region_with (go_at_call 88; refine (step_any F K0 mb sb S n wr.heap.size S x.1 x.2.1 A G x.2.2 H1 0 so (.slice (some ⟨sb, 0, none⟩) S capS) vq _ HC1.out.drew.cb.field HC1.out.drew.cb.fld HC1.out.drew.here (HC1.out.drew.cb.tr.rows x (List.mem_of_getElem? HX.out)) (fun e => HC1.out.new x (List.mem_append_right _ (List.mem_of_getElem? HX.out)) e.symm) (HP1.out.1).len HFx.out.row.len hAl HA.out (by omega) (by omega) (by omega) (by omega) (by omega) (fine_small HFx.out hS (by have := HIe.out; have := HJe.out; omega)) HFx.out.row.top).mono ?_; rintro e w3 ⟨rfl, H2, hs1, ho2, hk2⟩; have HC2 : Hid (Ch w w3 F K0 mb sb S capS n A G vq (.slice (some ⟨ga, 0, none⟩) la.length capa) (.slice (some ⟨gr, 0, none⟩) lr.length capr) la lr wr.heap.size H2) := HC1.out.drew.stepped ho2 hk2; have HP2 : Hid (Pre S (Pl ⟨(S : Int), A, fins⟩ inn out i1 j1) (Bd S (i1 + j1)) H2 ∧ (∀ s, cv H2 s ≤ cv H1 s) ∧ From ⟨(S : Int), A, fins⟩ inn out H2 0 so i1 jj) := step_of (m := ⟨(S : Int), A, fins⟩) HR.out hS (by have := HIe.out; have := HJe.out; omega) HFx.out HP1.out.1 hs1 (by have := HIe.out; have := HJe.out; omega) (by rw [HJe.out]; exact mv2 HSo.out rso.1); clear hs1 ho2 hk2; skip)
                all_goals (go_wp2_with fail; go_meet; exact ⟨H2, HC2.out, HP2.out⟩)
              case rest =>
              clear cR cO
              obtain ⟨H2, hc, hp⟩ := hcut
              obtain ⟨w3, ew3⟩ : ∃ x, x = wc := ⟨_, rfl⟩
              subst ew3
              have HC2 : Hid (Ch w w3 F K0 mb sb S capS n A G vq (.slice (some ⟨ga, 0, none⟩) la.length capa) (.slice (some ⟨gr, 0, none⟩) lr.length capr) la lr wr.heap.size H2) := hc
              have HP2 : Hid (Pre S (Pl ⟨(S : Int), A, fins⟩ inn out i1 j1) (Bd S (i1 + j1)) H2 ∧ (∀ s, cv H2 s ≤ cv H1 s) ∧ From ⟨(S : Int), A, fins⟩ inn out H2 0 so i1 jj) := hp
              clear hc hp
              have cA := HC2.out.cb.ta.cell HZ.out
              obtain ⟨_, _, ebi, cI⟩ := HI.out.at HC2.out.cb.kept HK0.out HSi.out
              cases ebi
              obtain ⟨_, _, ebo, cO⟩ := HO.out.at HC2.out.cb.kept HK0.out HSo.out
              cases ebo
              go_upto_region 17 with (fail)
              go_cut [19] from 19 to 100 (fun _ wx => ∃ H3, Ch w wx F K0 mb sb S capS n A G vq (.slice (some ⟨ga, 0, none⟩) la.length capa) (.slice (some ⟨gr, 0, none⟩) lr.length capr) la lr wr.heap.size H3 ∧ (Pre S (Pl ⟨(S : Int), A, fins⟩ inn out i1 j1) (Bd S (i1 + j1)) H3 ∧ (∀ s, cv H3 s ≤ cv H2 s) ∧ From ⟨(S : Int), A, fins⟩ inn out H3 si so ii jj))
              case first =>
                go_region_with (go_at_call 88; refine (step_any F K0 mb sb S n wr.heap.size S z.1 z.2.1 A G z.2.2 H2 si so (.slice (some ⟨sb, 0, none⟩) S capS) vq _ HC2.out.drew.cb.field HC2.out.drew.cb.fld HC2.out.drew.here (HC2.out.drew.cb.ta.rows z (List.mem_of_getElem? HZ.out)) (fun e => HC2.out.new z (List.mem_append_left _ (List.mem_of_getElem? HZ.out)) e.symm) (HP2.out.1).len HFz.out.row.len hAl HA.out (by omega) (by omega) (by omega) (by omega) (by omega) (fine_small HFz.out hS (by have := HIe.out; have := HJe.out; omega)) HFz.out.row.top).mono ?_; rintro e w4 ⟨rfl, H3, hs1, ho2, hk2⟩; have HC3 : Hid (Ch w w4 F K0 mb sb S capS n A G vq (.slice (some ⟨ga, 0, none⟩) la.length capa) (.slice (some ⟨gr, 0, none⟩) lr.length capr) la lr wr.heap.size H3) := HC2.out.drew.stepped ho2 hk2; have HP3 : Hid (Pre S (Pl ⟨(S : Int), A, fins⟩ inn out i1 j1) (Bd S (i1 + j1)) H3 ∧ (∀ s, cv H3 s ≤ cv H2 s) ∧ From ⟨(S : Int), A, fins⟩ inn out H3 si so ii jj) := step_of (m := ⟨(S : Int), A, fins⟩) HR.out hS (by have := HIe.out; have := HJe.out; omega) HFz.out HP2.out.1 hs1 (by have := HIe.out; have := HJe.out; omega) (by rw [HIe.out, HJe.out]; exact mv3 HSi.out rsi.1 HSo.out rso.1); clear hs1 ho2 hk2; skip)
                all_goals (go_wp2_with fail; go_meet; exact ⟨H3, HC3.out, HP3.out⟩)
              case rest =>
              clear cA cI cO
              obtain ⟨H3, hc, hp⟩ := hcut
              obtain ⟨w4, ew4⟩ : ∃ x, x = wc := ⟨_, rfl⟩
              subst ew4
              have HC3 : Hid (Ch w w4 F K0 mb sb S capS n A G vq (.slice (some ⟨ga, 0, none⟩) la.length capa) (.slice (some ⟨gr, 0, none⟩) lr.length capr) la lr wr.heap.size H3) := hc
              have HP3 : Hid (Pre S (Pl ⟨(S : Int), A, fins⟩ inn out i1 j1) (Bd S (i1 + j1)) H3 ∧ (∀ s, cv H3 s ≤ cv H2 s) ∧ From ⟨(S : Int), A, fins⟩ inn out H3 si so ii jj) := hp
              clear hc hp
              all_goals go_wp2_with (first | (go_at_call 89; refine (settle_any F K0 sb S wr.heap.size S capS A (Pl ⟨(S : Int), A, fins⟩ inn out i1 j1) (Bd S (i1 + j1)) H3 (.int .i64 S) (.map (some mb)) vq _ HC3.out.mem HC3.out.cb.fld.sils hFK (Pre.toRow HP3.out.1) hS (Nat.le_trans (Bd_le hS (by omega)) (by decide)) hAl HA.out (silent (m := ⟨(S : Int), A, fins⟩))).mono ?_; rintro e w5 ⟨rfl, R, v5, hset, hm5⟩; have HF : Hid (Fine ⟨(S : Int), A, fins⟩ inn out S i1 j1 R) := settled_of HR.out hS (by omega) hset (fun h => by have := HIe.out; omega) (by have e1 := HIe.out; have e2 := HJe.out; subst e1; subst e2; exact compD HSi.out HSo.out HP1.out.2.2 HP2.out.2.2 HP3.out.2.2 HP2.out.2.1 HP3.out.2.1); have HJ : Hid (Ch w w5 F K0 mb sb S capS n A G v5 (.slice (some ⟨ga, 0, none⟩) la.length capa) (.slice (some ⟨gr, 0, none⟩) lr.length capr) la lr wr.heap.size R) := HC3.out.settled hm5; clear hset hm5) | (at_builtin; refine wpList_append_own_at _ rfl _ _ 29 rfl K0 26 i26 (.slice none 0 0) 1 24 Tryd.underlying29 hi26 hz0 hz1 hz2 rfl (by decide) _ _ _ rfl (HJ.out.cb.tr.own.alloc _) ⟨w5.heap.size, 0, none⟩ 1 1 [.slice (some ⟨wr.heap.size, 0, none⟩) S S] rfl rfl (cell_one_new _ _ _) (slice_one _ rfl) (by unfold maxLen; omega) (by omega) (Nat.le_trans HK0.out (Nat.le_trans HJ.out.cb.kept.size (by simp))) ?_; intro vr6 w6 ho6 hg6 _ hl6; have HN : Hid (Cb w w6 F K0 mb sb S capS n A G v5 (.slice (some ⟨ga, 0, none⟩) la.length capa) vr6 la (lr ++ [(wr.heap.size, S, R)])) := HJ.out.joined ho6 hg6 hl6; clear ho6 hg6 hl6))
              all_goals go_roundw
              all_goals first
                | exact ⟨j1 + 1, v5, vr6, lr ++ [(wr.heap.size, S, R)], rfl, by go_num, by omega, HN.out, by rw [List.length_append, HLR.out]; rfl, FineL.snoc (x := (wr.heap.size, S, R)) HFL.out HLR.out HF.out⟩
                | (simp [intOf]; omega)
        · have ej : j1 = out.length + 1 := by omega
          have HLR2 : Hid (lr.length = out.length + 1) := by rw [HLR.out]; exact ej
          clear hcb ej
          go_wp2
          go_roundw
          case rel => exact ⟨i1 + 1, vq, vr, lr, rfl, by go_num, by omega, HCB.out.drop, .inr ⟨HLR2.out, HFL.out⟩⟩
          case measure => simp [intOf]; omega
    · have ei : i1 = inn.length + 1 := by omega
      obtain ⟨hl1, hf1⟩ := hla.resolve_left (by omega)
      obtain ⟨x, hx⟩ : ∃ x, la[out.length]? = some x := ⟨_, List.getElem?_eq_getElem (by omega)⟩
      obtain ⟨gr, capr, rfl, _, _⟩ := own_some hcb.tr.own (by omega)
      have cR := hcb.tr.cell hx
      have HX : Hid (la[out.length]? = some x ∧ la.length = out.length + 1) := ⟨hx, hl1⟩
      have HF : Hid (Fine ⟨(S : Int), A, fins⟩ inn out S inn.length out.length x.2.2) := by have := hf1 _ _ hx; rw [ei] at this; exact this
      have HC : Hid (Cb w wr F K0 mb sb S capS n A G vq nilS (.slice (some ⟨gr, 0, none⟩) la.length capr) [] la) := hcb
      have hll : out.length < la.length := by omega
      clear hx hl1 hf1 hcb ei hla
      go_wp2
      go_ret
      exact ⟨x.1, x.2.1, x.2.2, rfl, HC.out.tr.rows x (List.mem_of_getElem? HX.out.1), HF.out, HC.out.kept⟩
end Go.Proofs.YtfjocafepigijaaDoor.Co
/- The program's Cost answers what it must. Conditions: the machine is small, no text is longer than 61; what newField makes is as it is said (Nx). -/
namespace Go.Proofs.YtfjocafepigijaaDoor.Cq
open Go.RowKit Mv Wk Qp Sk Po Ps Wd Se Mp St Wg Nw Cm Cn Sy Rz Nm
open CR (nc)

/-- what newField makes -/
def FieldOk : Prop := ∀ (S : Nat) (A : List Arc) (va vf : Value) (w : World), Mv.Row w va 5 A.length (acs A) → (∀ a ∈ A, arcB (S : Int) a = true) → S ≤ 40 → 0 < S → A.length ≤ 120 → Calls Tryd.prog 55 #[.agg #[.int .i64 S, va, vf]] w fun e w' => ∃ F mb sb n V vs, e = .returned (.pointer (some ⟨F, 0, none⟩)) ∧ Nf w w' F mb sb S n A V vs
theorem cb_of {w wr : World} {F mb sb S n : Nat} {L : List Arc} {V : Key → Value} {vs : List Value} (h : Nf w wr F mb sb S n L V vs) : Cb wr wr F wr.heap.size mb sb S S n L (fun i o => if i = 0 ∧ o = 0 then nilS else V (i, o, 0)) nilS nilS nilS [] [] :=
  ⟨h.field, World.ownsRow_nil _ _ _ _, h.fld, Tb.nil _ _ _, Tb.nil _ _ _, fun k hk => by simp [nilS, Value.ownBlock] at hk, Kp.refl _ _⟩
theorem liesI_of {w wr : World} {F : Nat} {a : Option Addr} {l : List Int} (h : l.length = 0 ∨ ∃ b off, a = some ⟨b, off, none⟩ ∧ b < w.heap.size ∧ ∀ j u, (ints l)[j]? = some u → w.cell? ⟨b, off + j, none⟩ = some u) (hb : Below w.heap.size w wr) (hF : w.heap.size ≤ F) (hs : w.heap.size ≤ wr.heap.size) : LiesI wr F wr.heap.size a l := by
  rcases h with h | ⟨b, off, e, hbl, hc⟩
  · exact .inl h
  · refine .inr ⟨b, off, e, by omega, by omega, fun j u hu => (hb.cell hbl).trans (hc j _ ?_)⟩
    unfold ints
    rw [List.getElem?_map, hu]
    rfl
theorem row_of {w wr : World} {size n : Nat} {a : Option Addr} {cap : Nat} {xs : List Value} (hx : xs.length = n * size) (hn : n ≤ 140737488355328) (h : n = 0 ∨ ∃ b off, a = some ⟨b, off, none⟩ ∧ b < w.heap.size ∧ ∀ j u, xs[j]? = some u → w.cell? ⟨b, off + j, none⟩ = some u) (hb : Below w.heap.size w wr) : Mv.Row wr (.slice a n cap) size n xs :=
  (show Mv.Row w (.slice a n cap) size n xs from ⟨hx, a, cap, rfl, hn, h⟩).below hb
theorem kp_below {w w4 w5 : World} {F : Nat} (h : Kp (fun k => k = F ∨ w4.heap.size ≤ k) w4 w5) (hb : Below w.heap.size w w4) (hF : w.heap.size ≤ F) : Below w.heap.size w w5 :=
  ⟨h.os.trans hb.os, h.tape.trans hb.tape, h.output.trans hb.output, Nat.le_trans hb.size h.size, fun k hk => (h.block k (Nat.lt_of_lt_of_le hk hb.size) (fun hx => by have := hb.size; omega)).trans (hb.block k hk)⟩
theorem box3 {w wr : World} {a b c : Value} (h : Below (w.alloc (.cells #[a, b, c] 25)).heap.size (w.alloc (.cells #[a, b, c] 25)) wr) : wr.cell? ⟨w.heap.size, 0, none⟩ = some a ∧ wr.cell? ⟨w.heap.size, 1, none⟩ = some b ∧ wr.cell? ⟨w.heap.size, 2, none⟩ = some c := by
  have hl : w.heap.size < (w.alloc (.cells #[a, b, c] 25)).heap.size := by simp
  have hn := heap_alloc_new w (.cells #[a, b, c] 25)
  exact ⟨(h.cell (p := ⟨w.heap.size, 0, none⟩) hl).trans (cell_of_row _ _ 0 _ 25 (0, 0) hn), (h.cell (p := ⟨w.heap.size, 1, none⟩) hl).trans (cell_of_row _ _ 1 _ 25 (0, 0) hn), (h.cell (p := ⟨w.heap.size, 2, none⟩) hl).trans (cell_of_row _ _ 2 _ 25 (0, 0) hn)⟩

set_option maxHeartbeats 4000000 in
set_option maxRecDepth 100000 in
theorem cost_any (hfield : FieldOk) (m : M) (inn out : List Int) (v vi vo : Value) (w : World) (hM : IsM w v m) (hI : IsI w vi inn) (hO : IsI w vo out) (hfew : fewB m = true) (hil : inn.length ≤ 61) (hol : out.length ≤ 61) :
    Calls Tryd.prog 27 #[v, vi, vo] w fun e w' => ∃ c ok er, e = .returned (.tuple #[.int .i64 c, .bool ok, .int .i64 er]) ∧ Res m inn out c ok er ∧ Below w.heap.size w w' := by
  obtain ⟨st, arcs, fins⟩ := m
  have hchk := CkP.check_any ⟨st, arcs, fins⟩ v
  obtain ⟨va, vf, rfl, ⟨hxa, aa, ca, rfl, hna, hA⟩, ⟨hxf, af, cf, rfl, hnf, hF⟩⟩ := hM
  obtain ⟨hxi, ai, ci, rfl, hni, hIc⟩ := hI
  obtain ⟨hxo, ao, co, rfl, hno, hOc⟩ := hO
  obtain ⟨x0, hx0⟩ := checkP_ex ⟨st, arcs, fins⟩
  dsimp only at hxa hna hA hxf hnf hF
  have HX0 : Hid (checkP ⟨st, arcs, fins⟩ x0) := hx0
  have HMb : ∀ W, Below w.heap.size w W → IsM W (.agg #[.int .i64 st, .slice aa arcs.length ca, .slice af fins.length cf]) ⟨st, arcs, fins⟩ := fun W hW => IsM.below (m := ⟨st, arcs, fins⟩) (show IsM w (.agg #[.int .i64 st, .slice aa arcs.length ca, .slice af fins.length cf]) ⟨st, arcs, fins⟩ from ⟨.slice aa arcs.length ca, .slice af fins.length cf, rfl, ⟨hxa, aa, ca, rfl, hna, hA⟩, ⟨hxf, af, cf, rfl, hnf, hF⟩⟩) hW
  have HMB : Hid (∀ W, Below w.heap.size w W → IsM W (.agg #[.int .i64 st, .slice aa arcs.length ca, .slice af fins.length cf]) ⟨st, arcs, fins⟩) := HMb
  have HIc : Hid (inn.length = 0 ∨ ∃ b off, ai = some ⟨b, off, none⟩ ∧ b < w.heap.size ∧ ∀ j u, (ints inn)[j]? = some u → w.cell? ⟨b, off + j, none⟩ = some u) := hIc
  have HOc : Hid (out.length = 0 ∨ ∃ b off, ao = some ⟨b, off, none⟩ ∧ b < w.heap.size ∧ ∀ j u, (ints out)[j]? = some u → w.cell? ⟨b, off + j, none⟩ = some u) := hOc
  have HIb : ∀ W, Below w.heap.size w W → IsI W (.slice ai inn.length ci) inn := fun W hW => (show IsI w (.slice ai inn.length ci) inn from ⟨hxi, ai, ci, rfl, hni, hIc⟩).below hW
  have HOb : ∀ W, Below w.heap.size w W → IsI W (.slice ao out.length co) out := fun W hW => (show IsI w (.slice ao out.length co) out from ⟨hxo, ao, co, rfl, hno, hOc⟩).below hW
  have hb0 : ∀ o, Below w.heap.size w (w.alloc o) := fun o => (Below.refl _ w).alloc (Nat.le_refl _) o
  have h5 : ∀ W, Below w.heap.size w W → Calls Tryd.prog 30 #[.agg #[.int .i64 st, .slice aa arcs.length ca, .slice af fins.length cf]] W fun e W' => e = .returned (.int .i64 x0) ∧ Below W.heap.size W W' := fun W hW => (hchk W (HMB.out W hW)).mono (fun e W' ⟨⟨x, h1, h2⟩, h3⟩ => ⟨by rw [h1, checkP_one h2 HX0.out], h3⟩)
  have hAi := fun W hW => are_any inn (.slice ai inn.length ci) W (HIb W hW) hil
  have hAo := fun W hW => are_any out (.slice ao out.length co) W (HOb W hW) hol
  have HFd : Hid FieldOk := hfield
  clear hx0 hchk HMb hIc hOc hfield
  by_cases h0 : x0 = 0
  · subst h0
    obtain ⟨hsz, harc, hfin⟩ := checkP_ok HX0.out
    by_cases h1 : 60 < inn.length ∨ 60 < out.length
    · have HR : Hid (Res ⟨st, arcs, fins⟩ inn out 0 false 2) := .inr (.inl ⟨HX0.out, jn_long h1, by decide, rfl, rfl⟩)
      go_enter Tryd.func27, Tryd.ntmps27
      by_cases h2 : 60 < inn.length
      · have e2 : (60 : Int) < (inn.length : Int) := by omega
        clear hAi hAo
        go_wp2_with (go_at_call 30; refine (h5 _ (hb0 _)).mono ?_; rintro e w1 ⟨rfl, hb1⟩; have bx := box3 hb1; obtain ⟨bx0, bx1, bx2⟩ := bx; have hw1 : Below w.heap.size w w1 := (hb0 _).trans (hb1.mono (by simp)))
        repeat (go_quiet (fail); go_wp2)
        go_ret3
        exact ⟨_, _, _, rfl, HR.out, by first | exact hw1 | exact below_drewN hw1 _⟩
      · have e2 : ¬ (60 : Int) < (inn.length : Int) := by omega
        have e3 : (60 : Int) < (out.length : Int) := by omega
        clear hAi hAo
        go_wp2_with (go_at_call 30; refine (h5 _ (hb0 _)).mono ?_; rintro e w1 ⟨rfl, hb1⟩; have bx := box3 hb1; obtain ⟨bx0, bx1, bx2⟩ := bx; have hw1 : Below w.heap.size w w1 := (hb0 _).trans (hb1.mono (by simp)))
        repeat (go_quiet (fail); go_wp2)
        go_ret3
        exact ⟨_, _, _, rfl, HR.out, by first | exact hw1 | exact below_drewN hw1 _⟩
    · have h2 : ¬ 60 < inn.length := fun h => h1 (.inl h)
      have h3 : ¬ 60 < out.length := fun h => h1 (.inr h)
      have e2 : ¬ (60 : Int) < (inn.length : Int) := by omega
      have e3 : ¬ (60 : Int) < (out.length : Int) := by omega
      clear h1
      cases hai : allS inn with
      | false =>
        have HR : Hid (Res ⟨st, arcs, fins⟩ inn out 0 false 3) := .inr (.inl ⟨HX0.out, jn_bad h2 h3 (.inl hai), by decide, rfl, rfl⟩)
        rw [hai] at hAi
        clear hAo
        go_enter Tryd.func27, Tryd.ntmps27
        go_wp2_with (first | (go_at_call 30; refine (h5 _ (hb0 _)).mono ?_; rintro e w1 ⟨rfl, hb1⟩; have bx := box3 hb1; obtain ⟨bx0, bx1, bx2⟩ := bx; have hw1 : Below w.heap.size w w1 := (hb0 _).trans (hb1.mono (by simp))) | (go_at_call 32; with_reducible refine (hAi w1 hw1).mono ?_; rintro e w2 ⟨rfl, hb2⟩; have hb2' : Below (w.alloc (.cells #[.int .i64 st, .slice aa arcs.length ca, .slice af fins.length cf] 25)).heap.size (w.alloc (.cells #[.int .i64 st, .slice aa arcs.length ca, .slice af fins.length cf] 25)) w2 := hb1.trans (hb2.mono hb1.size); have bx := box3 hb2'; obtain ⟨by0, by1, by2⟩ := bx; have hw2 : Below w.heap.size w w2 := hw1.trans (hb2.mono hw1.size)))
        repeat (go_quiet (fail); go_wp2)
        go_ret3
        exact ⟨_, _, _, rfl, HR.out, by first | exact hw2 | exact below_drewN hw2 _⟩
      | true =>
        rw [hai] at hAi
        cases hao : allS out with
        | false =>
          have HR : Hid (Res ⟨st, arcs, fins⟩ inn out 0 false 3) := .inr (.inl ⟨HX0.out, jn_bad h2 h3 (.inr hao), by decide, rfl, rfl⟩)
          rw [hao] at hAo
          go_enter Tryd.func27, Tryd.ntmps27
          go_wp2_with (first | (go_at_call 30; refine (h5 _ (hb0 _)).mono ?_; rintro e w1 ⟨rfl, hb1⟩; have bx := box3 hb1; obtain ⟨bx0, bx1, bx2⟩ := bx; have hw1 : Below w.heap.size w w1 := (hb0 _).trans (hb1.mono (by simp))) | (go_at_call 32; with_reducible refine (hAi w1 hw1).mono ?_; rintro e w2 ⟨rfl, hb2⟩; have hb2' : Below (w.alloc (.cells #[.int .i64 st, .slice aa arcs.length ca, .slice af fins.length cf] 25)).heap.size (w.alloc (.cells #[.int .i64 st, .slice aa arcs.length ca, .slice af fins.length cf] 25)) w2 := hb1.trans (hb2.mono hb1.size); have bx := box3 hb2'; obtain ⟨by0, by1, by2⟩ := bx; have hw2 : Below w.heap.size w w2 := hw1.trans (hb2.mono hw1.size)) | (go_at_call 32; with_reducible refine (hAo w2 hw2).mono ?_; rintro e w3 ⟨rfl, hb3⟩; have hb3' : Below (w.alloc (.cells #[.int .i64 st, .slice aa arcs.length ca, .slice af fins.length cf] 25)).heap.size (w.alloc (.cells #[.int .i64 st, .slice aa arcs.length ca, .slice af fins.length cf] 25)) w3 := hb2'.trans (hb3.mono hb2'.size); have bx := box3 hb3'; obtain ⟨bz0, bz1, bz2⟩ := bx; have hw3 : Below w.heap.size w w3 := hw2.trans (hb3.mono hw2.size)))
          repeat (go_quiet (fail); go_wp2)
          go_ret3
          exact ⟨_, _, _, rfl, HR.out, by first | exact hw3 | exact below_drewN hw3 _⟩
        | true =>
          rw [hao] at hAo
          obtain ⟨f1, f2, f3⟩ := few_ok hfew
          have hst := size_ok hsz
          dsimp only at f1 f2 f3 hst harc hfin
          obtain ⟨S, rfl⟩ : ∃ S : Nat, st = (S : Int) := ⟨st.toNat, by omega⟩
          have hS : S ≤ 40 := by omega
          have hS0 : 0 < S := by omega
          have HRt : Hid (Right ⟨(S : Int), arcs, fins⟩ S) := ⟨rfl, hS0, harc⟩
          have HJ : Hid (jn inn out = 0) := jn_ok h2 h3 hai hao
          have HSi : Hid (∀ s ∈ inn, 1 ≤ s ∧ s ≤ 60) := allS_mem hai
          have HSo : Hid (∀ s ∈ out, 1 ≤ s ∧ s ≤ 60) := allS_mem hao
          have HFi : Hid (∀ k (h : k < fins.length), finB (S : Int) fins[k] = true) := hfin
          have HBd : Hid (Bd S (inn.length + out.length + 1) ≤ 1000000000000) := Nat.le_trans (Bd_le hS (by omega)) (by decide)
          have HF3 : Hid (fins.length ≤ 40) := f3
          clear hai hao hfew hsz harc hfin hst f1 f3
          go_enter Tryd.func27, Tryd.ntmps27
          go_wp2_with (first | (go_at_call 30; refine (h5 _ (hb0 _)).mono ?_; rintro e w1 ⟨rfl, hb1⟩; have bx := box3 hb1; obtain ⟨bx0, bx1, bx2⟩ := bx; have hw1 : Below w.heap.size w w1 := (hb0 _).trans (hb1.mono (by simp))) | (go_at_call 32; with_reducible refine (hAi w1 hw1).mono ?_; rintro e w2 ⟨rfl, hb2⟩; have hb2' : Below (w.alloc (.cells #[.int .i64 (S : Int), .slice aa arcs.length ca, .slice af fins.length cf] 25)).heap.size (w.alloc (.cells #[.int .i64 (S : Int), .slice aa arcs.length ca, .slice af fins.length cf] 25)) w2 := hb1.trans (hb2.mono hb1.size); have bx := box3 hb2'; obtain ⟨by0, by1, by2⟩ := bx; have hw2 : Below w.heap.size w w2 := hw1.trans (hb2.mono hw1.size)) | (go_at_call 32; with_reducible refine (hAo w2 hw2).mono ?_; rintro e w3 ⟨rfl, hb3⟩; have hb3' : Below (w.alloc (.cells #[.int .i64 (S : Int), .slice aa arcs.length ca, .slice af fins.length cf] 25)).heap.size (w.alloc (.cells #[.int .i64 (S : Int), .slice aa arcs.length ca, .slice af fins.length cf] 25)) w3 := hb2'.trans (hb3.mono hb2'.size); have bx := box3 hb3'; obtain ⟨bz0, bz1, bz2⟩ := bx; have hw3 : Below w.heap.size w w3 := hw2.trans (hb3.mono hw2.size)))
          repeat (go_quiet (fail); go_wp2)
          go_region_with (first | (go_at_call 55; refine (HFd.out S arcs (.slice aa arcs.length ca) (.slice af fins.length cf) _ (row_of hxa hna hA (by first | exact hw3 | exact hw3.drew | exact below_drewN hw3 _)) (right_all HRt.out) hS hS0 f2).mono ?_; rintro e w4 ⟨F, mb, sb, n, V, vs, rfl, hN⟩; have hN0 : w3.heap.size ≤ F := hN.lo.1; have hb4 : Below w3.heap.size w3 w4 := ⟨hN.below.os, hN.below.tape, hN.below.output, hN.below.size, hN.below.block⟩; have hb4' : Below (w.alloc (.cells #[.int .i64 (S : Int), .slice aa arcs.length ca, .slice af fins.length cf] 25)).heap.size (w.alloc (.cells #[.int .i64 (S : Int), .slice aa arcs.length ca, .slice af fins.length cf] 25)) w4 := hb3'.trans (hb4.mono hb3'.size); have bx := box3 hb4'; obtain ⟨bu0, bu1, bu2⟩ := bx; have hw4 : Below w.heap.size w w4 := hw3.trans (hb4.mono hw3.size); have HCb : Hid _ := cb_of hN; have HFs : Hid (w.heap.size ≤ F ∧ (w.alloc (.cells #[.int .i64 (S : Int), .slice aa arcs.length ca, .slice af fins.length cf] 25)).heap.size ≤ F ∧ F < w4.heap.size) := ⟨Nat.le_trans hw3.size hN0, Nat.le_trans hb3'.size hN0, hN.field.lt⟩; clear hN) | (go_at_call 56; refine (Co.costs_any F w4.heap.size mb sb S S n arcs _ fins inn out ai ao ci co nilS _ HCb.out HFs.out.2.2 HRt.out hS f2 (liesI_of HIc.out hw4 HFs.out.1 hw4.size) (liesI_of HOc.out hw4 HFs.out.1 hw4.size) (by omega) (by omega) HSi.out HSo.out).mono ?_; rintro e w5 ⟨C, cap, R, rfl, hC, hR, hk5⟩; have hw5 : Below w.heap.size w w5 := kp_below hk5 hw4 HFs.out.1; have hb5' : Below (w.alloc (.cells #[.int .i64 (S : Int), .slice aa arcs.length ca, .slice af fins.length cf] 25)).heap.size (w.alloc (.cells #[.int .i64 (S : Int), .slice aa arcs.length ca, .slice af fins.length cf] 25)) w5 := kp_below hk5 hb4' HFs.out.2.1; have bx := box3 hb5'; obtain ⟨bv0, bv1, bv2⟩ := bx; have HRr : Hid _ := hR; have HCo : Hid _ := hC; clear hR hC hk5) | (go_at_call 54; refine (end_any S C cap (.slice aa arcs.length ca) (.slice af fins.length cf) fins R _ (row_of hxf hnf hF hw5) HFi.out HF3.out _ HCo.out HRr.out.row.len (fine_small HRr.out hS (by omega)) HRr.out.row.top).mono ?_; rintro e w6 ⟨v, rfl, hl, hb6⟩; have hw6 : Below w.heap.size w w6 := hw5.trans (hb6.mono hw5.size); have HLf : Hid _ := isC_prog HFi.out HRr.out HBd.out hl; clear hl hb6))
          all_goals
            rcases HLf.out with ⟨hv, hi⟩ | ⟨hv, hi⟩
            · have HRs : Hid (Res ⟨(S : Int), arcs, fins⟩ inn out 0 false 0) := .inr (.inr ⟨HX0.out, HJ.out, rfl, .inl ⟨hi, rfl, rfl⟩⟩)
              have ev : (v : Int) = 9223372036854775807 := by rw [hv, far_int]
              have ev2 : ((v : Int) == 9223372036854775807) = true := by rw [ev]; rfl
              clear hi hv ev HLf
              go_wp2
              go_ret3
              exact ⟨_, _, _, rfl, HRs.out, hw6⟩
            · have HRs : Hid (Res ⟨(S : Int), arcs, fins⟩ inn out (v : Int) true 0) := .inr (.inr ⟨HX0.out, HJ.out, rfl, .inr ⟨v, hi, rfl, rfl⟩⟩)
              have ev2 := not_far2 hv
              have ev3 := not_far3 hv
              clear hi hv HLf
              go_wp2
              go_ret3
              exact ⟨_, _, _, rfl, HRs.out, hw6⟩
  · have HR : Hid (Res ⟨st, arcs, fins⟩ inn out 0 false x0) := .inl ⟨HX0.out, h0, rfl, rfl⟩
    have e0 : (x0 != 0) = true := by simpa using h0
    clear hAi hAo
    go_enter Tryd.func27, Tryd.ntmps27
    go_wp2_with (go_at_call 30; refine (h5 _ (hb0 _)).mono ?_; rintro e w1 ⟨rfl, hb1⟩; have bx := box3 hb1; obtain ⟨bx0, bx1, bx2⟩ := bx; have hw1 : Below w.heap.size w w1 := (hb0 _).trans (hb1.mono (by simp)))
    go_ret3
    exact ⟨_, _, _, rfl, HR.out, hw1⟩
end Go.Proofs.YtfjocafepigijaaDoor.Cq
/- machineBegun is true in whatever memory. Condition: what newField makes is as it is said (Nx). -/
namespace Go.Proofs.YtfjocafepigijaaDoor.Mb
open Go.RowKit Mv Wk Sy Rz Cq

def m1 : M := ⟨2, [(0, 1, 1, 2, 3)], [(1, 0)]⟩
theorem row25 : (Tryd.prog.info? 25).map (·.size) = some 3 := by kernel_rfl
theorem lit_row {w : World} {size n cap g : Nat} {cur : Array Value} {t : TypeId} (hg : w.heap[g]? = some (.cells cur t (0, 0))) (hl : cur.size = n * size) (hn : n ≤ 140737488355328) : Mv.Row w (.slice (some ⟨g, 0, none⟩) n cap) size n cur.toList :=
  ⟨by rw [Array.length_toList]; exact hl, _, cap, rfl, hn, .inr ⟨g, 0, rfl, (Array.getElem?_eq_some_iff.1 hg).1, fun j u hu => by rw [Nat.zero_add, cell_of_row w g j cur t (0, 0) hg]; rw [Array.getElem?_toList] at hu; exact hu⟩⟩
theorem three (w : World) (a b c : Obj) : (((w.alloc a).alloc b).alloc c).heap[w.heap.size]? = some a ∧ (((w.alloc a).alloc b).alloc c).heap[w.heap.size + 1]? = some b ∧ (((w.alloc a).alloc b).alloc c).heap[w.heap.size + 1 + 1]? = some c ∧ Below w.heap.size w (((w.alloc a).alloc b).alloc c) := by
  have s1 : (w.alloc a).heap.size = w.heap.size + 1 := by simp
  have s2 : ((w.alloc a).alloc b).heap.size = w.heap.size + 1 + 1 := by simp
  refine ⟨?_, ?_, ?_, ?_⟩
  · rw [heap_alloc_old _ _ (by omega), heap_alloc_old _ _ (by omega)]
    exact heap_alloc_new _ _
  · rw [heap_alloc_old _ _ (by omega), ← s1]
    exact heap_alloc_new _ _
  · rw [← s2]
    exact heap_alloc_new _ _
  · exact (((Below.refl _ w).alloc (Nat.le_refl _) a).alloc (by omega) b).alloc (by omega) c

set_option maxHeartbeats 1000000 in
set_option maxRecDepth 100000 in
theorem one_any (w : World) : Calls Tryd.prog 29 #[] w fun e w' => ∃ v, e = .returned v ∧ IsM w' v m1 ∧ Below w.heap.size w w' := by
  go_enter Tryd.func29, Tryd.ntmps29
  go_wp2
  obtain ⟨h1, h2, h3, hb⟩ := three w (.cells #[.int .i64 2, .slice (some ⟨w.heap.size + 1, 0, none⟩) 1 1, .slice (some ⟨w.heap.size + 1 + 1, 0, none⟩) 1 1] 25) (.cells #[.int .i64 0, .int .i64 1, .int .i64 1, .int .i64 2, .int .i64 3] 64) (.cells #[.int .i64 1, .int .i64 0] 66)
  exact bodyPost_ret (results_cell_row rfl _ _ w.heap.size 25 _ (0, 0) _ rfl h1 Tryd.underlying25 rfl row25) rfl ⟨_, rfl, ⟨_, _, rfl, lit_row (n := 1) (size := 5) h2 rfl (by decide), lit_row (n := 1) (size := 2) h3 rfl (by decide)⟩, hb⟩

theorem chk1 : checkP m1 0 := .inr (.inr (.inr (.inr ⟨by decide, fun k h => by
  have : k = 0 := by simp [m1] at h; exact h
  subst this; show arcB 2 (0, 1, 1, 2, 3) = true; decide, fun k h => by
  have : k = 0 := by simp [m1] at h; exact h
  subst this; show finB 2 (1, 0) = true; decide, fun i j hi hj hij _ => by
  simp [m1] at hi hj; omega, rfl⟩)))
theorem low1 : ∀ (t s i j c : Nat), ReachN m1 [1] [2] true t s i j c → (s = 0 ∧ c = 0) ∨ (s = 1 ∧ c = 3) := by
  intro t
  cases t with
  | zero => rintro s i j c ⟨h1, _, _, h2⟩; exact .inl ⟨h1, h2⟩
  | succ t =>
    intro s i j c h
    induction t generalizing s i j c with
    | zero =>
      obtain ⟨s0, i0, j0, c0, x, hx, ⟨r1, _, _, r2⟩, e1, e2, _, e3⟩ := h
      have : x = 0 := by simp [m1] at hx; exact hx
      subst this
      simp [m1] at e1 e2 e3
      exact .inr ⟨by omega, by omega⟩
    | succ t ih =>
      obtain ⟨s0, i0, j0, c0, x, hx, hr, e1, e2, _, e3⟩ := h
      have : x = 0 := by simp [m1] at hx; exact hx
      subst this
      simp [m1] at e1 e2 e3
      rcases ih s0 i0 j0 c0 hr with ⟨a, b⟩ | ⟨a, b⟩
      · exact .inr ⟨by omega, by omega⟩
      · omega
theorem res1 : Res m1 [1] [2] 3 true 0 := by
  refine .inr (.inr ⟨chk1, by decide, rfl, .inr ⟨3, ⟨⟨0, by decide, 1, 3, rfl, ⟨1, 0, 0, 0, 0, 0, by decide, ⟨rfl, rfl, rfl, rfl⟩, rfl, rfl, ⟨.inr ⟨by decide, rfl, rfl⟩, .inr ⟨by decide, rfl, rfl, rfl⟩⟩, by decide⟩, by decide⟩, ?_⟩, rfl, rfl⟩⟩)
  intro y hy f c e ⟨t, hr⟩
  have : y = 0 := by simp [m1] at hy; exact hy
  subst this
  simp [m1] at e
  rcases low1 t _ _ _ _ hr with ⟨a, b⟩ | ⟨a, b⟩
  · omega
  · subst b; show (3 : Int) ≤ 3 + 0; decide
theorem few1 : fewB m1 = true := by decide
theorem two (w : World) (a b : Obj) : ((w.alloc a).alloc b).heap[w.heap.size]? = some a ∧ ((w.alloc a).alloc b).heap[w.heap.size + 1]? = some b ∧ Below w.heap.size w ((w.alloc a).alloc b) := by
  have s1 : (w.alloc a).heap.size = w.heap.size + 1 := by simp
  refine ⟨?_, ?_, ?_⟩
  · rw [heap_alloc_old _ _ (by omega)]
    exact heap_alloc_new _ _
  · rw [← s1]
    exact heap_alloc_new _ _
  · exact ((Below.refl _ w).alloc (Nat.le_refl _) a).alloc (by omega) b

theorem cost1 (hf : FieldOk) (w0 w : World) (v : Value) (hM : IsM w0 v m1) (hb : Below w0.heap.size w0 w) (g h : Nat) (hg : w.heap[g]? = some (.cells #[.int .i64 1] 3 (0, 0))) (hh : w.heap[h]? = some (.cells #[.int .i64 2] 3 (0, 0))) :
    Calls Tryd.prog 27 #[v, .slice (some ⟨g, 0, none⟩) 1 1, .slice (some ⟨h, 0, none⟩) 1 1] w fun e w' => e = .returned (.tuple #[.int .i64 3, .bool true, .int .i64 0]) ∧ Below w.heap.size w w' := by
  refine (cost_any hf m1 [1] [2] v _ _ w (hM.below hb) (lit_row (n := 1) (size := 1) hg rfl (by decide)) (lit_row (n := 1) (size := 1) hh rfl (by decide)) few1 (by decide) (by decide)).mono ?_
  rintro e w' ⟨c, ok, er, rfl, hr, hb'⟩
  obtain ⟨rfl, rfl, rfl⟩ := hr.one res1
  exact ⟨rfl, hb'⟩

set_option maxHeartbeats 1000000 in
set_option maxRecDepth 100000 in
theorem begun_any (hf : FieldOk) (w : World) : Calls Tryd.prog 7 #[] w fun e w' => e = .returned (.bool true) ∧ Below w.heap.size w w' := by
  have HF : Hid FieldOk := hf
  clear hf
  go_enter Tryd.func7, Tryd.ntmps7
  go_wp2_with (first | (go_at_call 29; refine (one_any w).mono ?_; rintro e w1 ⟨v, rfl, hM, hb1⟩; have HM : Hid (IsM w1 v m1) := hM; clear hM) | (go_at_call 27; refine (cost1 HF.out w1 _ v HM.out (two w1 _ _).2.2 w1.heap.size (w1.heap.size + 1) (two w1 _ _).1 (two w1 _ _).2.1).mono ?_; rintro e w2 ⟨rfl, hb2⟩; have hw2 : Below w.heap.size w w2 := hb1.trans (((two w1 _ _).2.2.trans (hb2.mono (two w1 _ _).2.2.size)).mono hb1.size); clear hb2))
  repeat (go_quiet (fail); go_wp2)
  go_ret
  exact ⟨rfl, by first | exact hw2 | exact below_drewN hw2 _⟩
end Go.Proofs.YtfjocafepigijaaDoor.Mb
