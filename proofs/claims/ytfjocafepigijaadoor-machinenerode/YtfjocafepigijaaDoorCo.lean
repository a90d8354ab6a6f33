/- The program's costs: the least cost of coming to each state by all of both texts. Conditions: the machine is right and small, the texts are of symbols. -/
import Derived.Test.YtfjocafepigijaaDoorCfM
import Derived.Deep.Cut
import Derived.Deep.CutRange
namespace Go.Proofs.YtfjocafepigijaaDoor.Co
open Go.RowKit Mv Wk Qp Sk Po Ps Wd Se Mp St Wg Nw Cm Cn
open CR (nc)

set_option maxHeartbeats 8000000 in
set_option maxRecDepth 100000 in
theorem costs_any (F K0 mb sb S capS n : Nat) (A : List Arc) (G : Int → Int → Value) (fins : List (Int × Int)) (inn out : List Int) (ai ao : Option Addr) (ci co : Nat) (vq : Value) (w : World)
    (hcb : Cb w w F K0 mb sb S capS n A G vq nilS nilS [] []) (hFK : F < K0) (hr : Right ⟨(S : Int), A, fins⟩ S) (hS : S ≤ 40) (hAl : A.length ≤ 120)
    (hI : LiesI w F K0 ai inn) (hO : LiesI w F K0 ao out) (hil : inn.length ≤ 60) (hol : out.length ≤ 60) (hsi : ∀ s ∈ inn, 1 ≤ s ∧ s ≤ 60) (hso : ∀ s ∈ out, 1 ≤ s ∧ s ≤ 60) :
    Calls Tryd.prog 56 #[.pointer (some ⟨F, 0, none⟩), .slice ai inn.length ci, .slice ao out.length co] w fun e w' => ∃ C cap R, e = .returned (.slice (some ⟨C, 0, none⟩) S cap) ∧ w'.ownsRow K0 3 1 (.slice (some ⟨C, 0, none⟩) S cap) S (nc R) ∧ Fine ⟨(S : Int), A, fins⟩ inn out S inn.length out.length R ∧ Kp (fun k => k = F ∨ K0 ≤ k) w w' := by
  obtain ⟨i26, hi26, hz0, hz1, hz2⟩ := info_parts info26
  have hS0 := hr.2.1
  have HR : Hid (Right ⟨(S : Int), A, fins⟩ S) := hr
  have HK0 : Hid (K0 ≤ w.heap.size) := hcb.fld.sils.size
  have HI : Hid (LiesI w F K0 ai inn) := hI
  have HO : Hid (LiesI w F K0 ao out) := hO
  have HSI : Hid (∀ s ∈ inn, 1 ≤ s ∧ s ≤ 60) := hsi
  have HSO : Hid (∀ s ∈ out, 1 ≤ s ∧ s ≤ 60) := hso
  have HA : Hid (∀ a ∈ A, arcB (S : Int) a = true) := right_all hr
  have HCB : Hid (Cb w w F K0 mb sb S capS n A G vq nilS nilS [] []) := hcb
  clear hr hI hO hsi hso hcb
  go_enter Tryd.func56, Tryd.ntmps56
  go_wp2
  go_loopw [8, 9] (fun ro i wr => ∃ (i1 : Nat) (vq vr : Value) (lr : List RowH), vr = ro ∧ i = .int .i64 i1 ∧ i1 ≤ inn.length + 1 ∧ Cb w wr F K0 mb sb S capS n A G vq nilS vr [] lr ∧ (i1 = 0 ∨ (lr.length = out.length + 1 ∧ FineL ⟨(S : Int), A, fins⟩ inn out S (i1 - 1) lr))) (fun _ i _ => inn.length + 1 - (intOf i).toNat)
  case atStart => exact ⟨0, vq, nilS, [], rfl, rfl, Nat.zero_le _, HCB.out, .inl rfl⟩
  case round =>
    clear HCB
    obtain ⟨i1, vq, va, la, rfl, rfl, hi1, hcb, hla⟩ := hrel
    by_cases hin : i1 ≤ inn.length
    · have HCB : Hid (Cb w wr F K0 mb sb S capS n A G vq va nilS la []) := hcb.turn
      have HLA : Hid (i1 = 0 ∨ (la.length = out.length + 1 ∧ FineL ⟨(S : Int), A, fins⟩ inn out S (i1 - 1) la)) := hla
      clear hcb hla
      go_wp2
      go_loopw [8, 10] (fun ro j wr => ∃ (j1 : Nat) (vq vr : Value) (lr : List RowH), vr = ro ∧ j = .int .i64 j1 ∧ j1 ≤ out.length + 1 ∧ Cb w wr F K0 mb sb S capS n A G vq va vr la lr ∧ lr.length = j1 ∧ FineL ⟨(S : Int), A, fins⟩ inn out S i1 lr) (fun _ j _ => out.length + 1 - (intOf j).toNat)
      case atStart => exact ⟨0, vq, nilS, [], rfl, rfl, Nat.zero_le _, HCB.out, rfl, fun _ _ h => by simp at h⟩
      case round =>
        clear HCB
        obtain ⟨j1, vq, vr, lr, rfl, rfl, hj1, hcb, hlr, hfl⟩ := hrel
        have HLR : Hid (lr.length = j1) := hlr
        have HFL : Hid (FineL ⟨(S : Int), A, fins⟩ inn out S i1 lr) := hfl
        have HCB : Hid (Cb w wr F K0 mb sb S capS n A G vq va vr la lr) := hcb
        clear hlr hfl
        by_cases hjn : j1 ≤ out.length
        · have q0 : wr.cell? ⟨F, 0, none⟩ = some (.int .i64 S) := hcb.field.cell 0
          have hlr60 : lr.length ≤ 60 := by have := HLR.out; omega
          clear hcb
          by_cases hi0 : i1 = 0
          · skip
            have HIe : Hid (i1 = 0) := hi0
            have bi : ((i1 : Int) == 0) = true := by rw [HIe.out]; rfl
            have gi : ¬ (0 : Int) < (i1 : Int) := by rw [HIe.out]; decide
            have ni : ¬ 0 < i1 := by rw [HIe.out]; decide
            clear hi0
            by_cases hj0 : j1 = 0
            · skip
              have HJe : Hid (j1 = 0) := hj0
              have bj : ((j1 : Int) == 0) = true := by rw [HJe.out]; rfl
              have gj : ¬ (0 : Int) < (j1 : Int) := by rw [HJe.out]; decide
              have nj : ¬ 0 < j1 := by rw [HJe.out]; decide
              clear hj0
              have HPA : Hid (Pre S (Pl ⟨(S : Int), A, fins⟩ inn out i1 j1) (Bd S (i1 + j1)) ((List.replicate S far).set 0 0) ∧ cv ((List.replicate S far).set 0 0) 0 = 0) := by have e1 := HIe.out; have e2 := HJe.out; subst e1; subst e2; exact pre_first hS0
              have HcA : Hid (Comp ⟨(S : Int), A, fins⟩ inn out i1 j1 ((List.replicate S far).set 0 0)) := by have e1 := HIe.out; have e2 := HJe.out; subst e1; subst e2; exact comp_of (fun _ _ h => by omega) (fun _ _ h => by omega) (fun _ _ _ _ h => by omega)
              go_wp2_with (first | (go_at_call 87; refine (nowhere_any S _ hS0 hS).mono ?_; rintro e w1 ⟨rfl, ho1, hb1⟩; have HC : Hid (Ch w w1 F K0 mb sb S capS n A G vq va vr la lr wr.heap.size (List.replicate S far)) := HCB.out.laid hb1 ho1; clear ho1 hb1; have c0 : w1.cell? ⟨wr.heap.size, 0, none⟩ = some (.int .i64 (cv (List.replicate S far) 0 : Nat)) := (by rw [HC.out.here.cellAt 0 (by omega)]; exact Se.nc_at (by simpa using hS0)); have f0 := HC.out.here.frozenAt 0) | (go_at_call 89; refine (settle_any F K0 sb S wr.heap.size S capS A (Pl ⟨(S : Int), A, fins⟩ inn out i1 j1) (Bd S (i1 + j1)) ((List.replicate S far).set 0 0) (.int .i64 S) (.map (some mb)) vq _ (HC.out.store 0 0).mem (HC.out.store 0 0).cb.fld.sils hFK (Pre.toRow HPA.out.1) hS (Nat.le_trans (Bd_le hS (by omega)) (by decide)) hAl HA.out (silent (m := ⟨(S : Int), A, fins⟩))).mono ?_; rintro e w5 ⟨rfl, R, v5, hset, hm5⟩; have HF : Hid (Fine ⟨(S : Int), A, fins⟩ inn out S i1 j1 R) := settled_of HR.out hS (by omega) hset (fun _ _ => HPA.out.2) HcA.out; have HJ : Hid (Ch w w5 F K0 mb sb S capS n A G v5 va vr la lr wr.heap.size R) := (HC.out.store 0 0).settled hm5; clear hset hm5) | (at_builtin; refine wpList_append_own_at _ rfl _ _ 29 rfl K0 26 i26 (.slice none 0 0) 1 24 Tryd.underlying29 hi26 hz0 hz1 hz2 rfl (by decide) _ _ _ rfl (HJ.out.cb.tr.own.alloc _) ⟨w5.heap.size, 0, none⟩ 1 1 [.slice (some ⟨wr.heap.size, 0, none⟩) S S] rfl rfl (cell_one_new _ _ _) (slice_one _ rfl) (by unfold maxLen; omega) (by omega) (Nat.le_trans HK0.out (Nat.le_trans HJ.out.cb.kept.size (by simp))) ?_; intro vr6 w6 ho6 hg6 _ hl6; have HN : Hid (Cb w w6 F K0 mb sb S capS n A G v5 va vr6 la (lr ++ [(wr.heap.size, S, R)])) := HJ.out.joined ho6 hg6 hl6; clear ho6 hg6 hl6))
              all_goals go_roundw
              all_goals first
                | exact ⟨j1 + 1, v5, vr6, lr ++ [(wr.heap.size, S, R)], rfl, by go_num, by omega, HN.out, by rw [List.length_append, HLR.out]; rfl, FineL.snoc (x := (wr.heap.size, S, R)) HFL.out HLR.out HF.out⟩
                | (simp [intOf]; omega)
            · skip
              obtain ⟨jj, ej⟩ : ∃ k, j1 = k + 1 := ⟨j1 - 1, by omega⟩
              have HJe : Hid (j1 = jj + 1) := ej
              have bj : ((j1 : Int) == 0) = false := by rw [ej]; simp; omega
              have gj : (0 : Int) < (j1 : Int) := by omega
              have nj : 0 < j1 := by omega
              have wj1 : wrap64 ((j1 : Int) - 1) = (jj : Int) := by unfold wrap64; omega
              have wj2 : IntKind.i64.wrap ((j1 : Int) - 1) = (jj : Int) := by rw [IntKind.wrap_i64]; omega
              have lj : jj < out.length := by omega
              clear ej hj0
              obtain ⟨so, hso⟩ : ∃ s, out[jj]? = some s := ⟨_, List.getElem?_eq_getElem (by omega)⟩
              have HSo : Hid (out[jj]? = some so) := hso
              have rso := HSO.out so (List.mem_of_getElem? hso)
              obtain ⟨bo, oo, rfl, _⟩ := HO.out.at HCB.out.kept HK0.out hso
              clear hso
              obtain ⟨x, hx⟩ : ∃ x, lr[jj]? = some x := ⟨_, List.getElem?_eq_getElem (by have := HLR.out; have := HJe.out; omega)⟩
              have HX : Hid (lr[jj]? = some x) := hx
              clear hx
              obtain ⟨gr, capr, rfl, _, _⟩ := own_some HCB.out.tr.own (by have := HLR.out; omega)
              have hjl : jj < lr.length := (List.getElem?_eq_some_iff.1 HX.out).1
              have HFx : Hid (Fine ⟨(S : Int), A, fins⟩ inn out S i1 jj x.2.2) := HFL.out _ _ HX.out
              go_wp2_with (go_at_call 87; refine (nowhere_any S _ hS0 hS).mono ?_; rintro e w1 ⟨rfl, ho1, hb1⟩; have HC : Hid (Ch w w1 F K0 mb sb S capS n A G vq va (.slice (some ⟨gr, 0, none⟩) lr.length capr) la lr wr.heap.size (List.replicate S far)) := HCB.out.laid hb1 ho1; clear ho1 hb1; have cR := HC.out.cb.tr.cell HX.out; obtain ⟨_, _, ebo, cO⟩ := HO.out.at HC.out.cb.kept HK0.out HSo.out; cases ebo)
              go_region_with (go_at_call 88; refine (step_any F K0 mb sb S n wr.heap.size S x.1 x.2.1 A G x.2.2 (List.replicate S far) 0 so (.slice (some ⟨sb, 0, none⟩) S capS) vq _ HC.out.drew.cb.field HC.out.drew.cb.fld HC.out.drew.here (HC.out.drew.cb.tr.rows x (List.mem_of_getElem? HX.out)) (fun e => HC.out.new x (List.mem_append_right _ (List.mem_of_getElem? HX.out)) e.symm) ((pre_none S (Pl ⟨(S : Int), A, fins⟩ inn out i1 j1) (Bd S (i1 + j1)))).len HFx.out.row.len hAl HA.out (by omega) (by omega) (by omega) (by omega) (by omega) (fine_small HFx.out hS (by have := HIe.out; have := HJe.out; omega)) HFx.out.row.top).mono ?_; rintro e w2 ⟨rfl, H1, hs1, ho2, hk2⟩; have HC1 : Hid (Ch w w2 F K0 mb sb S capS n A G vq va (.slice (some ⟨gr, 0, none⟩) lr.length capr) la lr wr.heap.size H1) := HC.out.drew.stepped ho2 hk2; have HP1 : Hid (Pre S (Pl ⟨(S : Int), A, fins⟩ inn out i1 j1) (Bd S (i1 + j1)) H1 ∧ (∀ s, cv H1 s ≤ cv (List.replicate S far) s) ∧ From ⟨(S : Int), A, fins⟩ inn out H1 0 so i1 jj) := step_of (m := ⟨(S : Int), A, fins⟩) HR.out hS (by have := HIe.out; have := HJe.out; omega) HFx.out (pre_none S (Pl ⟨(S : Int), A, fins⟩ inn out i1 j1) (Bd S (i1 + j1))) hs1 (by have := HIe.out; have := HJe.out; omega) (by rw [HJe.out]; exact mv2 HSo.out rso.1); clear hs1 ho2 hk2; skip)
              all_goals go_wp2_with (first | (go_at_call 89; refine (settle_any F K0 sb S wr.heap.size S capS A (Pl ⟨(S : Int), A, fins⟩ inn out i1 j1) (Bd S (i1 + j1)) H1 (.int .i64 S) (.map (some mb)) vq _ HC1.out.mem HC1.out.cb.fld.sils hFK (Pre.toRow HP1.out.1) hS (Nat.le_trans (Bd_le hS (by omega)) (by decide)) hAl HA.out (silent (m := ⟨(S : Int), A, fins⟩))).mono ?_; rintro e w5 ⟨rfl, R, v5, hset, hm5⟩; have HF : Hid (Fine ⟨(S : Int), A, fins⟩ inn out S i1 j1 R) := settled_of HR.out hS (by omega) hset (fun _ h => by have := HJe.out; omega) (by have e1 := HIe.out; have e2 := HJe.out; subst e1; subst e2; exact compB HSo.out HP1.out.2.2); have HJ : Hid (Ch w w5 F K0 mb sb S capS n A G v5 va (.slice (some ⟨gr, 0, none⟩) lr.length capr) la lr wr.heap.size R) := HC1.out.settled hm5; clear hset hm5) | (at_builtin; refine wpList_append_own_at _ rfl _ _ 29 rfl K0 26 i26 (.slice none 0 0) 1 24 Tryd.underlying29 hi26 hz0 hz1 hz2 rfl (by decide) _ _ _ rfl (HJ.out.cb.tr.own.alloc _) ⟨w5.heap.size, 0, none⟩ 1 1 [.slice (some ⟨wr.heap.size, 0, none⟩) S S] rfl rfl (cell_one_new _ _ _) (slice_one _ rfl) (by unfold maxLen; omega) (by omega) (Nat.le_trans HK0.out (Nat.le_trans HJ.out.cb.kept.size (by simp))) ?_; intro vr6 w6 ho6 hg6 _ hl6; have HN : Hid (Cb w w6 F K0 mb sb S capS n A G v5 va vr6 la (lr ++ [(wr.heap.size, S, R)])) := HJ.out.joined ho6 hg6 hl6; clear ho6 hg6 hl6))
              all_goals go_roundw
              all_goals first
                | exact ⟨j1 + 1, v5, vr6, lr ++ [(wr.heap.size, S, R)], rfl, by go_num, by omega, HN.out, by rw [List.length_append, HLR.out]; rfl, FineL.snoc (x := (wr.heap.size, S, R)) HFL.out HLR.out HF.out⟩
                | (simp [intOf]; omega)
          · skip
            obtain ⟨ii, ei⟩ : ∃ k, i1 = k + 1 := ⟨i1 - 1, by omega⟩
            have HIe : Hid (i1 = ii + 1) := ei
            have bi : ((i1 : Int) == 0) = false := by rw [ei]; simp; omega
            have gi : (0 : Int) < (i1 : Int) := by omega
            have ni : 0 < i1 := by omega
            have wi1 : wrap64 ((i1 : Int) - 1) = (ii : Int) := by unfold wrap64; omega
            have wi2 : IntKind.i64.wrap ((i1 : Int) - 1) = (ii : Int) := by rw [IntKind.wrap_i64]; omega
            have li : ii < inn.length := by omega
            clear ei hi0
            have HLA2 : Hid (la.length = out.length + 1 ∧ FineL ⟨(S : Int), A, fins⟩ inn out S ii la) := by have h1 := HLA.out.resolve_left (by omega); have e1 := HIe.out; subst e1; exact h1
            have hal : la.length = out.length + 1 := HLA2.out.1
            obtain ⟨si, hsi⟩ : ∃ s, inn[ii]? = some s := ⟨_, List.getElem?_eq_getElem (by omega)⟩
            have HSi : Hid (inn[ii]? = some si) := hsi
            have rsi := HSI.out si (List.mem_of_getElem? hsi)
            obtain ⟨bi, oi, rfl, _⟩ := HI.out.at HCB.out.kept HK0.out hsi
            clear hsi
            obtain ⟨ga, capa, rfl, _, _⟩ := own_some HCB.out.ta.own (by omega)
            obtain ⟨y, hy⟩ : ∃ x, la[j1]? = some x := ⟨_, List.getElem?_eq_getElem (by skip; omega)⟩
            have HY : Hid (la[j1]? = some y) := hy
            clear hy
            have hja : j1 < la.length := by omega
            have HFy : Hid (Fine ⟨(S : Int), A, fins⟩ inn out S ii j1 y.2.2) := HLA2.out.2 _ _ HY.out
            clear hal
            by_cases hj0 : j1 = 0
            · skip
              have HJe : Hid (j1 = 0) := hj0
              have bj : ((j1 : Int) == 0) = true := by rw [HJe.out]; rfl
              have gj : ¬ (0 : Int) < (j1 : Int) := by rw [HJe.out]; decide
              have nj : ¬ 0 < j1 := by rw [HJe.out]; decide
              clear hj0
              go_wp2_with (go_at_call 87; refine (nowhere_any S _ hS0 hS).mono ?_; rintro e w1 ⟨rfl, ho1, hb1⟩; have HC : Hid (Ch w w1 F K0 mb sb S capS n A G vq (.slice (some ⟨ga, 0, none⟩) la.length capa) vr la lr wr.heap.size (List.replicate S far)) := HCB.out.laid hb1 ho1; clear ho1 hb1; have cA := HC.out.cb.ta.cell HY.out; obtain ⟨_, _, ebi, cI⟩ := HI.out.at HC.out.cb.kept HK0.out HSi.out; cases ebi)
              go_region_with (go_at_call 88; refine (step_any F K0 mb sb S n wr.heap.size S y.1 y.2.1 A G y.2.2 (List.replicate S far) si 0 (.slice (some ⟨sb, 0, none⟩) S capS) vq _ HC.out.drew.cb.field HC.out.drew.cb.fld HC.out.drew.here (HC.out.drew.cb.ta.rows y (List.mem_of_getElem? HY.out)) (fun e => HC.out.new y (List.mem_append_left _ (List.mem_of_getElem? HY.out)) e.symm) ((pre_none S (Pl ⟨(S : Int), A, fins⟩ inn out i1 j1) (Bd S (i1 + j1)))).len HFy.out.row.len hAl HA.out (by omega) (by omega) (by omega) (by omega) (by omega) (fine_small HFy.out hS (by have := HIe.out; have := HJe.out; omega)) HFy.out.row.top).mono ?_; rintro e w2 ⟨rfl, H1, hs1, ho2, hk2⟩; have HC1 : Hid (Ch w w2 F K0 mb sb S capS n A G vq (.slice (some ⟨ga, 0, none⟩) la.length capa) vr la lr wr.heap.size H1) := HC.out.drew.stepped ho2 hk2; have HP1 : Hid (Pre S (Pl ⟨(S : Int), A, fins⟩ inn out i1 j1) (Bd S (i1 + j1)) H1 ∧ (∀ s, cv H1 s ≤ cv (List.replicate S far) s) ∧ From ⟨(S : Int), A, fins⟩ inn out H1 si 0 ii j1) := step_of (m := ⟨(S : Int), A, fins⟩) HR.out hS (by have := HIe.out; have := HJe.out; omega) HFy.out (pre_none S (Pl ⟨(S : Int), A, fins⟩ inn out i1 j1) (Bd S (i1 + j1))) hs1 (by have := HIe.out; have := HJe.out; omega) (by rw [HIe.out]; exact mv1 HSi.out rsi.1); clear hs1 ho2 hk2; skip)
              all_goals go_wp2_with (first | (go_at_call 89; refine (settle_any F K0 sb S wr.heap.size S capS A (Pl ⟨(S : Int), A, fins⟩ inn out i1 j1) (Bd S (i1 + j1)) H1 (.int .i64 S) (.map (some mb)) vq _ HC1.out.mem HC1.out.cb.fld.sils hFK (Pre.toRow HP1.out.1) hS (Nat.le_trans (Bd_le hS (by omega)) (by decide)) hAl HA.out (silent (m := ⟨(S : Int), A, fins⟩))).mono ?_; rintro e w5 ⟨rfl, R, v5, hset, hm5⟩; have HF : Hid (Fine ⟨(S : Int), A, fins⟩ inn out S i1 j1 R) := settled_of HR.out hS (by omega) hset (fun h => by have := HIe.out; omega) (by have e1 := HIe.out; have e2 := HJe.out; subst e1; subst e2; exact compC HSi.out HP1.out.2.2); have HJ : Hid (Ch w w5 F K0 mb sb S capS n A G v5 (.slice (some ⟨ga, 0, none⟩) la.length capa) vr la lr wr.heap.size R) := HC1.out.settled hm5; clear hset hm5) | (at_builtin; refine wpList_append_own_at _ rfl _ _ 29 rfl K0 26 i26 (.slice none 0 0) 1 24 Tryd.underlying29 hi26 hz0 hz1 hz2 rfl (by decide) _ _ _ rfl (HJ.out.cb.tr.own.alloc _) ⟨w5.heap.size, 0, none⟩ 1 1 [.slice (some ⟨wr.heap.size, 0, none⟩) S S] rfl rfl (cell_one_new _ _ _) (slice_one _ rfl) (by unfold maxLen; omega) (by omega) (Nat.le_trans HK0.out (Nat.le_trans HJ.out.cb.kept.size (by simp))) ?_; intro vr6 w6 ho6 hg6 _ hl6; have HN : Hid (Cb w w6 F K0 mb sb S capS n A G v5 (.slice (some ⟨ga, 0, none⟩) la.length capa) vr6 la (lr ++ [(wr.heap.size, S, R)])) := HJ.out.joined ho6 hg6 hl6; clear ho6 hg6 hl6))
              all_goals go_roundw
              all_goals first
                | exact ⟨j1 + 1, v5, vr6, lr ++ [(wr.heap.size, S, R)], rfl, by go_num, by omega, HN.out, by rw [List.length_append, HLR.out]; rfl, FineL.snoc (x := (wr.heap.size, S, R)) HFL.out HLR.out HF.out⟩
                | (simp [intOf]; omega)
            · skip
              obtain ⟨jj, ej⟩ : ∃ k, j1 = k + 1 := ⟨j1 - 1, by omega⟩
              have HJe : Hid (j1 = jj + 1) := ej
              have bj : ((j1 : Int) == 0) = false := by rw [ej]; simp; omega
              have gj : (0 : Int) < (j1 : Int) := by omega
              have nj : 0 < j1 := by omega
              have wj1 : wrap64 ((j1 : Int) - 1) = (jj : Int) := by unfold wrap64; omega
              have wj2 : IntKind.i64.wrap ((j1 : Int) - 1) = (jj : Int) := by rw [IntKind.wrap_i64]; omega
              have lj : jj < out.length := by omega
              clear ej hj0
              obtain ⟨so, hso⟩ : ∃ s, out[jj]? = some s := ⟨_, List.getElem?_eq_getElem (by omega)⟩
              have HSo : Hid (out[jj]? = some so) := hso
              have rso := HSO.out so (List.mem_of_getElem? hso)
              obtain ⟨bo, oo, rfl, _⟩ := HO.out.at HCB.out.kept HK0.out hso
              clear hso
              obtain ⟨x, hx⟩ : ∃ x, lr[jj]? = some x := ⟨_, List.getElem?_eq_getElem (by have := HLR.out; have := HJe.out; omega)⟩
              have HX : Hid (lr[jj]? = some x) := hx
              clear hx
              obtain ⟨gr, capr, rfl, _, _⟩ := own_some HCB.out.tr.own (by have := HLR.out; omega)
              have hjl : jj < lr.length := (List.getElem?_eq_some_iff.1 HX.out).1
              have HFx : Hid (Fine ⟨(S : Int), A, fins⟩ inn out S i1 jj x.2.2) := HFL.out _ _ HX.out
              obtain ⟨z, hz⟩ : ∃ x, la[jj]? = some x := ⟨_, List.getElem?_eq_getElem (by have := HLA2.out.1; omega)⟩
              have HZ : Hid (la[jj]? = some z) := hz
              clear hz
              have hja2 : jj < la.length := (List.getElem?_eq_some_iff.1 HZ.out).1
              have HFz : Hid (Fine ⟨(S : Int), A, fins⟩ inn out S ii jj z.2.2) := HLA2.out.2 _ _ HZ.out
              go_upto_region 13 with (go_at_call 87; refine (nowhere_any S _ hS0 hS).mono ?_; rintro e w1 ⟨rfl, ho1, hb1⟩; have HC : Hid (Ch w w1 F K0 mb sb S capS n A G vq (.slice (some ⟨ga, 0, none⟩) la.length capa) (.slice (some ⟨gr, 0, none⟩) lr.length capr) la lr wr.heap.size (List.replicate S far)) := HCB.out.laid hb1 ho1; clear ho1 hb1; have cA := HC.out.cb.ta.cell HY.out; obtain ⟨_, _, ebi, cI⟩ := HI.out.at HC.out.cb.kept HK0.out HSi.out; cases ebi)
              go_cut [19] from 19 to 100 (fun _ wx => ∃ H1, Ch w wx F K0 mb sb S capS n A G vq (.slice (some ⟨ga, 0, none⟩) la.length capa) (.slice (some ⟨gr, 0, none⟩) lr.length capr) la lr wr.heap.size H1 ∧ (Pre S (Pl ⟨(S : Int), A, fins⟩ inn out i1 j1) (Bd S (i1 + j1)) H1 ∧ (∀ s, cv H1 s ≤ cv (List.replicate S far) s) ∧ From ⟨(S : Int), A, fins⟩ inn out H1 si 0 ii j1))
              case first =>
                go_region_with (go_at_call 88; refine (step_any F K0 mb sb S n wr.heap.size S y.1 y.2.1 A G y.2.2 (List.replicate S far) si 0 (.slice (some ⟨sb, 0, none⟩) S capS) vq _ HC.out.drew.cb.field HC.out.drew.cb.fld HC.out.drew.here (HC.out.drew.cb.ta.rows y (List.mem_of_getElem? HY.out)) (fun e => HC.out.new y (List.mem_append_left _ (List.mem_of_getElem? HY.out)) e.symm) ((pre_none S (Pl ⟨(S : Int), A, fins⟩ inn out i1 j1) (Bd S (i1 + j1)))).len HFy.out.row.len hAl HA.out (by omega) (by omega) (by omega) (by omega) (by omega) (fine_small HFy.out hS (by have := HIe.out; have := HJe.out; omega)) HFy.out.row.top).mono ?_; rintro e w2 ⟨rfl, H1, hs1, ho2, hk2⟩; have HC1 : Hid (Ch w w2 F K0 mb sb S capS n A G vq (.slice (some ⟨ga, 0, none⟩) la.length capa) (.slice (some ⟨gr, 0, none⟩) lr.length capr) la lr wr.heap.size H1) := HC.out.drew.stepped ho2 hk2; have HP1 : Hid (Pre S (Pl ⟨(S : Int), A, fins⟩ inn out i1 j1) (Bd S (i1 + j1)) H1 ∧ (∀ s, cv H1 s ≤ cv (List.replicate S far) s) ∧ From ⟨(S : Int), A, fins⟩ inn out H1 si 0 ii j1) := step_of (m := ⟨(S : Int), A, fins⟩) HR.out hS (by have := HIe.out; have := HJe.out; omega) HFy.out (pre_none S (Pl ⟨(S : Int), A, fins⟩ inn out i1 j1) (Bd S (i1 + j1))) hs1 (by have := HIe.out; have := HJe.out; omega) (by rw [HIe.out]; exact mv1 HSi.out rsi.1); clear hs1 ho2 hk2; skip)
                all_goals (go_wp2_with fail; go_meet; exact ⟨H1, HC1.out, HP1.out⟩)
              case rest =>
              clear cA cI
              obtain ⟨H1, hc, hp⟩ := hcut
              obtain ⟨w2, ew2⟩ : ∃ x, x = wc := ⟨_, rfl⟩
              subst ew2
              have HC1 : Hid (Ch w w2 F K0 mb sb S capS n A G vq (.slice (some ⟨ga, 0, none⟩) la.length capa) (.slice (some ⟨gr, 0, none⟩) lr.length capr) la lr wr.heap.size H1) := hc
              have HP1 : Hid (Pre S (Pl ⟨(S : Int), A, fins⟩ inn out i1 j1) (Bd S (i1 + j1)) H1 ∧ (∀ s, cv H1 s ≤ cv (List.replicate S far) s) ∧ From ⟨(S : Int), A, fins⟩ inn out H1 si 0 ii j1) := hp
              clear hc hp
              have cR := HC1.out.cb.tr.cell HX.out
              obtain ⟨_, _, ebo, cO⟩ := HO.out.at HC1.out.cb.kept HK0.out HSo.out
              cases ebo
              go_upto_region 15 with (fail)
              go_cut [19] from 19 to 100 (fun _ wx => ∃ H2, Ch w wx F K0 mb sb S capS n A G vq (.slice (some ⟨ga, 0, none⟩) la.length capa) (.slice (some ⟨gr, 0, none⟩) lr.length capr) la lr wr.heap.size H2 ∧ (Pre S (Pl ⟨(S : Int), A, fins⟩ inn out i1 j1) (Bd S (i1 + j1)) H2 ∧ (∀ s, cv H2 s ≤ cv H1 s) ∧ From ⟨(S : Int), A, fins⟩ inn out H2 0 so i1 jj))
              case first =>
                go_region_with (go_at_call 88; refine (step_any F K0 mb sb S n wr.heap.size S x.1 x.2.1 A G x.2.2 H1 0 so (.slice (some ⟨sb, 0, none⟩) S capS) vq _ HC1.out.drew.cb.field HC1.out.drew.cb.fld HC1.out.drew.here (HC1.out.drew.cb.tr.rows x (List.mem_of_getElem? HX.out)) (fun e => HC1.out.new x (List.mem_append_right _ (List.mem_of_getElem? HX.out)) e.symm) (HP1.out.1).len HFx.out.row.len hAl HA.out (by omega) (by omega) (by omega) (by omega) (by omega) (fine_small HFx.out hS (by have := HIe.out; have := HJe.out; omega)) HFx.out.row.top).mono ?_; rintro e w3 ⟨rfl, H2, hs1, ho2, hk2⟩; have HC2 : Hid (Ch w w3 F K0 mb sb S capS n A G vq (.slice (some ⟨ga, 0, none⟩) la.length capa) (.slice (some ⟨gr, 0, none⟩) lr.length capr) la lr wr.heap.size H2) := HC1.out.drew.stepped ho2 hk2; have HP2 : Hid (Pre S (Pl ⟨(S : Int), A, fins⟩ inn out i1 j1) (Bd S (i1 + j1)) H2 ∧ (∀ s, cv H2 s ≤ cv H1 s) ∧ From ⟨(S : Int), A, fins⟩ inn out H2 0 so i1 jj) := step_of (m := ⟨(S : Int), A, fins⟩) HR.out hS (by have := HIe.out; have := HJe.out; omega) HFx.out HP1.out.1 hs1 (by have := HIe.out; have := HJe.out; omega) (by rw [HJe.out]; exact mv2 HSo.out rso.1); clear hs1 ho2 hk2; skip)
                all_goals (go_wp2_with fail; go_meet; exact ⟨H2, HC2.out, HP2.out⟩)
              case rest =>
              clear cR cO
              obtain ⟨H2, hc, hp⟩ := hcut
              obtain ⟨w3, ew3⟩ : ∃ x, x = wc := ⟨_, rfl⟩
              subst ew3
              have HC2 : Hid (Ch w w3 F K0 mb sb S capS n A G vq (.slice (some ⟨ga, 0, none⟩) la.length capa) (.slice (some ⟨gr, 0, none⟩) lr.length capr) la lr wr.heap.size H2) := hc
              have HP2 : Hid (Pre S (Pl ⟨(S : Int), A, fins⟩ inn out i1 j1) (Bd S (i1 + j1)) H2 ∧ (∀ s, cv H2 s ≤ cv H1 s) ∧ From ⟨(S : Int), A, fins⟩ inn out H2 0 so i1 jj) := hp
              clear hc hp
              have cA := HC2.out.cb.ta.cell HZ.out
              obtain ⟨_, _, ebi, cI⟩ := HI.out.at HC2.out.cb.kept HK0.out HSi.out
              cases ebi
              obtain ⟨_, _, ebo, cO⟩ := HO.out.at HC2.out.cb.kept HK0.out HSo.out
              cases ebo
              go_upto_region 17 with (fail)
              go_cut [19] from 19 to 100 (fun _ wx => ∃ H3, Ch w wx F K0 mb sb S capS n A G vq (.slice (some ⟨ga, 0, none⟩) la.length capa) (.slice (some ⟨gr, 0, none⟩) lr.length capr) la lr wr.heap.size H3 ∧ (Pre S (Pl ⟨(S : Int), A, fins⟩ inn out i1 j1) (Bd S (i1 + j1)) H3 ∧ (∀ s, cv H3 s ≤ cv H2 s) ∧ From ⟨(S : Int), A, fins⟩ inn out H3 si so ii jj))
              case first =>
                go_region_with (go_at_call 88; refine (step_any F K0 mb sb S n wr.heap.size S z.1 z.2.1 A G z.2.2 H2 si so (.slice (some ⟨sb, 0, none⟩) S capS) vq _ HC2.out.drew.cb.field HC2.out.drew.cb.fld HC2.out.drew.here (HC2.out.drew.cb.ta.rows z (List.mem_of_getElem? HZ.out)) (fun e => HC2.out.new z (List.mem_append_left _ (List.mem_of_getElem? HZ.out)) e.symm) (HP2.out.1).len HFz.out.row.len hAl HA.out (by omega) (by omega) (by omega) (by omega) (by omega) (fine_small HFz.out hS (by have := HIe.out; have := HJe.out; omega)) HFz.out.row.top).mono ?_; rintro e w4 ⟨rfl, H3, hs1, ho2, hk2⟩; have HC3 : Hid (Ch w w4 F K0 mb sb S capS n A G vq (.slice (some ⟨ga, 0, none⟩) la.length capa) (.slice (some ⟨gr, 0, none⟩) lr.length capr) la lr wr.heap.size H3) := HC2.out.drew.stepped ho2 hk2; have HP3 : Hid (Pre S (Pl ⟨(S : Int), A, fins⟩ inn out i1 j1) (Bd S (i1 + j1)) H3 ∧ (∀ s, cv H3 s ≤ cv H2 s) ∧ From ⟨(S : Int), A, fins⟩ inn out H3 si so ii jj) := step_of (m := ⟨(S : Int), A, fins⟩) HR.out hS (by have := HIe.out; have := HJe.out; omega) HFz.out HP2.out.1 hs1 (by have := HIe.out; have := HJe.out; omega) (by rw [HIe.out, HJe.out]; exact mv3 HSi.out rsi.1 HSo.out rso.1); clear hs1 ho2 hk2; skip)
                all_goals (go_wp2_with fail; go_meet; exact ⟨H3, HC3.out, HP3.out⟩)
              case rest =>
              clear cA cI cO
              obtain ⟨H3, hc, hp⟩ := hcut
              obtain ⟨w4, ew4⟩ : ∃ x, x = wc := ⟨_, rfl⟩
              subst ew4
              have HC3 : Hid (Ch w w4 F K0 mb sb S capS n A G vq (.slice (some ⟨ga, 0, none⟩) la.length capa) (.slice (some ⟨gr, 0, none⟩) lr.length capr) la lr wr.heap.size H3) := hc
              have HP3 : Hid (Pre S (Pl ⟨(S : Int), A, fins⟩ inn out i1 j1) (Bd S (i1 + j1)) H3 ∧ (∀ s, cv H3 s ≤ cv H2 s) ∧ From ⟨(S : Int), A, fins⟩ inn out H3 si so ii jj) := hp
              clear hc hp
              all_goals go_wp2_with (first | (go_at_call 89; refine (settle_any F K0 sb S wr.heap.size S capS A (Pl ⟨(S : Int), A, fins⟩ inn out i1 j1) (Bd S (i1 + j1)) H3 (.int .i64 S) (.map (some mb)) vq _ HC3.out.mem HC3.out.cb.fld.sils hFK (Pre.toRow HP3.out.1) hS (Nat.le_trans (Bd_le hS (by omega)) (by decide)) hAl HA.out (silent (m := ⟨(S : Int), A, fins⟩))).mono ?_; rintro e w5 ⟨rfl, R, v5, hset, hm5⟩; have HF : Hid (Fine ⟨(S : Int), A, fins⟩ inn out S i1 j1 R) := settled_of HR.out hS (by omega) hset (fun h => by have := HIe.out; omega) (by have e1 := HIe.out; have e2 := HJe.out; subst e1; subst e2; exact compD HSi.out HSo.out HP1.out.2.2 HP2.out.2.2 HP3.out.2.2 HP2.out.2.1 HP3.out.2.1); have HJ : Hid (Ch w w5 F K0 mb sb S capS n A G v5 (.slice (some ⟨ga, 0, none⟩) la.length capa) (.slice (some ⟨gr, 0, none⟩) lr.length capr) la lr wr.heap.size R) := HC3.out.settled hm5; clear hset hm5) | (at_builtin; refine wpList_append_own_at _ rfl _ _ 29 rfl K0 26 i26 (.slice none 0 0) 1 24 Tryd.underlying29 hi26 hz0 hz1 hz2 rfl (by decide) _ _ _ rfl (HJ.out.cb.tr.own.alloc _) ⟨w5.heap.size, 0, none⟩ 1 1 [.slice (some ⟨wr.heap.size, 0, none⟩) S S] rfl rfl (cell_one_new _ _ _) (slice_one _ rfl) (by unfold maxLen; omega) (by omega) (Nat.le_trans HK0.out (Nat.le_trans HJ.out.cb.kept.size (by simp))) ?_; intro vr6 w6 ho6 hg6 _ hl6; have HN : Hid (Cb w w6 F K0 mb sb S capS n A G v5 (.slice (some ⟨ga, 0, none⟩) la.length capa) vr6 la (lr ++ [(wr.heap.size, S, R)])) := HJ.out.joined ho6 hg6 hl6; clear ho6 hg6 hl6))
              all_goals go_roundw
              all_goals first
                | exact ⟨j1 + 1, v5, vr6, lr ++ [(wr.heap.size, S, R)], rfl, by go_num, by omega, HN.out, by rw [List.length_append, HLR.out]; rfl, FineL.snoc (x := (wr.heap.size, S, R)) HFL.out HLR.out HF.out⟩
                | (simp [intOf]; omega)
        · have ej : j1 = out.length + 1 := by omega
          have HLR2 : Hid (lr.length = out.length + 1) := by rw [HLR.out]; exact ej
          clear hcb ej
          go_wp2
          go_roundw
          case rel => exact ⟨i1 + 1, vq, vr, lr, rfl, by go_num, by omega, HCB.out.drop, .inr ⟨HLR2.out, HFL.out⟩⟩
          case measure => simp [intOf]; omega
    · have ei : i1 = inn.length + 1 := by omega
      obtain ⟨hl1, hf1⟩ := hla.resolve_left (by omega)
      obtain ⟨x, hx⟩ : ∃ x, la[out.length]? = some x := ⟨_, List.getElem?_eq_getElem (by omega)⟩
      obtain ⟨gr, capr, rfl, _, _⟩ := own_some hcb.tr.own (by omega)
      have cR := hcb.tr.cell hx
      have HX : Hid (la[out.length]? = some x ∧ la.length = out.length + 1) := ⟨hx, hl1⟩
      have HF : Hid (Fine ⟨(S : Int), A, fins⟩ inn out S inn.length out.length x.2.2) := by have := hf1 _ _ hx; rw [ei] at this; exact this
      have HC : Hid (Cb w wr F K0 mb sb S capS n A G vq nilS (.slice (some ⟨gr, 0, none⟩) la.length capr) [] la) := hcb
      have hll : out.length < la.length := by omega
      clear hx hl1 hf1 hcb ei hla
      go_wp2
      go_ret
      exact ⟨x.1, x.2.1, x.2.2, rfl, HC.out.tr.rows x (List.mem_of_getElem? HX.out.1), HF.out, HC.out.kept⟩
end Go.Proofs.YtfjocafepigijaaDoor.Co
