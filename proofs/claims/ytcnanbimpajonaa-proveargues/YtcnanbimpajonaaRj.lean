/- isRight where a line is no premise; Sound. Conditions: the claims are of literals (where that is not checked); few numbers. -/
import Derived.Test.YtcnanbimpajonaaRi
namespace Go.Proofs.Ytcnanbimpajonaa.Rj
open Go.RowKit Cl Co Cp Nu Ag Cs Cf Ri

theorem below_of_grown {w w' : World} {base e size n : Nat} {v : Value} {xs : List Value} (hg : w.grownBy w' v.ownBlock) (h : w.ownsRow base e size v n xs) (_ : base ≤ w.heap.size) : Below base w w' :=
  ⟨hg.os, hg.tape, hg.output, hg.size, fun k hk => hg.block k (by omega) (fun e => by have := (h.lt k e.symm).1; omega)⟩
theorem IsL.take {w : World} {a : Option Addr} {k : Nat} {Z : List (Ln × Value)} (h : IsL w (.slice a Z.length k) Z) (i : Nat) (hi : i ≤ Z.length) : IsL w (.slice a i k) (Z.take i) := by
  obtain ⟨⟨_, a', k', hv, hn, hc⟩, hz⟩ := h
  simp only [Value.slice.injEq, true_and] at hv
  obtain ⟨rfl, rfl⟩ := hv
  have hl : (Z.take i).length = i := by rw [List.length_take]; omega
  refine ⟨⟨zcs_length _, a, k, by rw [hl], by omega, ?_⟩, fun z h => hz z (List.mem_of_mem_take h)⟩
  rcases hc with h0 | ⟨b, off, ha, hb, hc⟩
  · exact .inl (by omega)
  · refine .inr ⟨b, off, ha, hb, fun j u hu => ?_⟩
    have e : (zcs Z)[j]? = some u := by
      have : zcs Z = zcs (Z.take i) ++ zcs (Z.drop i) := by unfold zcs; rw [← List.flatMap_append, List.take_append_drop]
      rw [this, List.getElem?_append_left (List.getElem?_eq_some_iff.1 hu).1]
      exact hu
    exact hc j u e

set_option maxHeartbeats 4000000 in
set_option maxRecDepth 100000 in
theorem other_any (r : Int) (hr : r ≠ 1) (c0 : Bool) (c1 c2 : Int) (fr : List Int) (fv : Value) (ps : List C) (Z : List (Ln × Value)) (vp va : Value) (hvp : ∃ a n k, vp = .slice a n k) (w : World) (hf : IsI w fv fr) (hA : IsL w va Z) (hs : ∀ z ∈ Z, Sm z.1.2.1) :
    Calls Try.prog 24 #[.agg #[.int .i64 r, .bool c0, .int .i64 c1, .int .i64 c2, fv], vp, va] w fun e w' => e = .returned (.bool (soundL ps (Z.map Prod.fst) (r, (c0, c1, c2), fr))) ∧ Below w.heap.size w w' := by
  obtain ⟨_, fa, fk, rfl, _, hfc⟩ := hf
  obtain ⟨⟨_, aa, ak, rfl, _, hac⟩, _⟩ := hA
  obtain ⟨pa, pn, pk, rfl⟩ := hvp
  have hb0 : Below w.heap.size w (w.alloc (.cells #[.int .i64 r, .bool c0, .int .i64 c1, .int .i64 c2, .slice fa fr.length fk] 38)) := (Below.refl _ w).alloc (Nat.le_refl _) _
  have HB : Hid _ := hb0
  have dr : (r == 1) = false := by simpa using hr
  by_cases h2 : 2 < fr.length
  · have HE : Hid _ := sound_long (ps := ps) (A := Z.map Prod.fst) (c := (c0, c1, c2)) hr h2
    have d2 : (2 : Int) < (fr.length : Int) := by omega
    clear hfc hac hb0
    go_enter Try.func24, Try.ntmps24
    go_wp2
    go_ret
    rw [HE.out]
    exact ⟨rfl, HB.out⟩
  · have d2 : ¬ (2 : Int) < (fr.length : Int) := by omega
    obtain ⟨i0, hi, hz0, hz1, hz2⟩ := info_parts info24
    have HF : Hid (fr.length = 0 ∨ ∃ b off, fa = some ⟨b, off, none⟩ ∧ b < w.heap.size ∧ ∀ j u, (nv fr)[j]? = some u → w.cell? ⟨b, off + j, none⟩ = some u) := hfc
    have HA : Hid (Z.length = 0 ∨ ∃ b off, aa = some ⟨b, off, none⟩ ∧ b < w.heap.size ∧ ∀ j u, (zcs Z)[j]? = some u → w.cell? ⟨b, off + j, none⟩ = some u) := hac
    have HS : Hid (∀ z ∈ Z, Sm z.1.2.1) := hs
    have HR : Hid (r ≠ 1) := hr
    clear hfc hac hs hb0 hr
    go_enter Try.func24, Try.ntmps24
    go_wp2
    go_loopw [7, 45] (fun v iv wr => ∃ (k : Nat) (of : List C), iv = .int .i64 (k : Int) ∧ k ≤ fr.length ∧ (fr.take k).mapM (pickA ps (Z.map Prod.fst) r) = some of ∧ wr.ownsRow (w.heap.size + 1) 24 3 v k (ccs of) ∧ Below (w.heap.size + 1) (w.alloc (.cells #[.int .i64 r, .bool c0, .int .i64 c1, .int .i64 c2, .slice fa fr.length fk] 38)) wr) (fun _ iv _ => fr.length - (intOf iv).toNat)
    case atStart => exact ⟨0, [], rfl, Nat.zero_le _, rfl, World.ownsRow_nil _ _ _ _, Below.refl _ _⟩
    case round =>
      obtain ⟨k, of, rfl, hk, hof, hown, hb⟩ := hrel
      have hbw : Below w.heap.size w wr := HB.out.trans (hb.mono (Nat.le_succ _))
      have hws : w.heap.size + 1 ≤ wr.heap.size := by have := hb.size; simp at this; exact this
      by_cases hlt : k < fr.length
      · obtain ⟨fb, fo, rfl, hfb, hfcs⟩ := HF.out.resolve_left (by omega)
        obtain ⟨n, hn⟩ : ∃ n, fr[k] = n := ⟨_, rfl⟩
        have q0 : wr.cell? ⟨fb, fo + k, none⟩ = some (.int .i64 n) := (hbw.cell hfb).trans (hfcs k _ (by simp [nv, hlt, hn]))
        have k30 := fun W => place_any n Z.length W
        have HN : Hid (fr[k] = n) := hn
        have HOF : Hid _ := hof
        have HO : Hid (wr.ownsRow (w.heap.size + 1) 24 3 u7 k (ccs of)) := hown
        have HBW : Hid (Below w.heap.size w wr) := hbw
        have HBB : Hid (Below (w.heap.size + 1) (w.alloc (.cells #[.int .i64 r, .bool c0, .int .i64 c1, .int .i64 c2, .slice (some ⟨fb, fo, none⟩) fr.length fk] 38)) wr) := hb
        clear hn hof hown hbw hb hfcs
        by_cases hpl : placeB n Z.length = true
        · rw [hpl] at k30
          unfold placeB at hpl
          simp only [Bool.and_eq_true, decide_eq_true_eq] at hpl
          obtain ⟨m, rfl⟩ : ∃ m : Nat, n = (m : Int) := ⟨n.toNat, by omega⟩
          have hm : m < Z.length := by omega
          obtain ⟨ab, ao, rfl, habl, hacs⟩ := HA.out.resolve_left (by omega)
          have hat := zcs_at Z m hm
          obtain ⟨⟨⟨xr, ⟨s0, s1, s2⟩, xf⟩, xv⟩, hz⟩ : ∃ z, Z[m] = z := ⟨_, rfl⟩
          rw [hz] at hat
          have c1' : wr.cell? ⟨ab, ao + m * 5 + 1, none⟩ = some (.bool s0) := (HBW.out.cell habl).trans (hacs _ _ hat.2.1)
          have c2' : wr.cell? ⟨ab, ao + m * 5 + 1 + 1, none⟩ = some (.int .i64 s1) := (HBW.out.cell habl).trans (hacs _ _ hat.2.2.1)
          have c3' : wr.cell? ⟨ab, ao + m * 5 + 1 + 2, none⟩ = some (.int .i64 s2) := (HBW.out.cell habl).trans (hacs _ _ hat.2.2.2.1)
          have HP : Hid (pickA ps (Z.map Prod.fst) r (m : Int) = some (s0, s1, s2)) := by
            show pickA ps (Z.map Prod.fst) r (m : Int) = some (s0, s1, s2)
            unfold pickA
            rw [if_neg (by omega), if_neg HR.out, Int.toNat_natCast, List.getElem?_map, List.getElem?_eq_getElem hm, hz]
            rfl
          clear hat hz hacs hpl
          go_wp2_with (first | (go_at_call 39; refine (k30 _).mono ?_; rintro e w2 ⟨rfl, hw2⟩; rw [hw2]; clear k30 hw2) | (refine wpList_append_own_at _ rfl _ _ 22 rfl (w.heap.size + 1) 24 i0 (.agg #[.bool false, .int .i64 0, .int .i64 0]) 3 24 Try.underlying22 hi hz0 hz1 hz2 rfl (by decide) _ _ _ rfl (HO.out.alloc _) ⟨_, 0, none⟩ 1 1 (cc (s0, s1, s2)) rfl rfl (cell_three_at _ _ _ _ _ _ rfl) (cc_one _) (by unfold maxLen; omega) (by omega) (by simp; omega) ?_; intro v1 w1 ho1 hg1 _ _; have HO1 : Hid (w1.ownsRow (w.heap.size + 1) 24 3 v1 (k + 1) (ccs of ++ cc (s0, s1, s2))) := ho1; have HB1 : Hid (Below (w.heap.size + 1) wr w1) := ((Below.refl _ wr).alloc hws _).trans (below_of_grown hg1 (HO.out.alloc _) (by simp; omega)); clear ho1 hg1))
          go_roundw
          case rel =>
            refine ⟨k + 1, of ++ [(s0, s1, s2)], by go_num, hlt, ?_, ?_, HBB.out.trans HB1.out⟩
            · rw [List.take_succ_eq_append_getElem hlt]
              exact mapM_snoc HOF.out (by rw [HN.out]; exact HP.out)
            · rw [← ccs_snoc]
              exact HO1.out
          case measure => simp [intOf]; omega
        · have hpl' : placeB n Z.length = false := by simpa using hpl
          rw [hpl'] at k30
          have HE : Hid (soundL ps (Z.map Prod.fst) (r, (c0, c1, c2), fr) = false) := by
            show soundL ps (Z.map Prod.fst) (r, (c0, c1, c2), fr) = false
            have e : pickA ps (Z.map Prod.fst) r n = none := by
              unfold pickA
              unfold placeB at hpl'
              by_cases hn : n < 0
              · rw [if_pos hn]
              · rw [if_neg hn, if_neg HR.out]
                simp at hpl'
                rw [List.getElem?_eq_none (by rw [List.length_map]; omega)]
                rfl
            unfold soundL
            dsimp only
            rw [mapM_none hlt (by rw [HN.out]; exact e)]
          clear hpl hpl'
          go_wp2_with (go_at_call 39; refine (k30 _).mono ?_; rintro e w2 ⟨rfl, hw2⟩; rw [hw2]; clear k30 hw2)
          go_ret
          rw [HE.out]
          exact ⟨rfl, HBW.out⟩
      · have ek : k = fr.length := by omega
        subst ek
        rw [List.take_length] at hof
        have hC : IsC wr u7 of := own_isC hown (by omega)
        have hofl := mapM_len hof
        have con := comes_any r (c0, c1, c2) u7 of wr hC (by omega) (fun p hp => by
          obtain ⟨n, hn⟩ := mapM_mem hof hp
          unfold pickA at hn
          split at hn
          · cases hn
          · rw [if_neg HR.out] at hn
            cases hg : (Z.map Prod.fst)[n.toNat]? with
            | none => rw [hg] at hn; cases hn
            | some l =>
              rw [hg] at hn
              cases hn
              rw [List.getElem?_map] at hg
              cases hz : Z[n.toNat]? with
              | none => rw [hz] at hg; cases hg
              | some z =>
                rw [hz] at hg
                cases hg
                exact HS.out z (List.mem_of_getElem? hz))
        have gb : wr.heap[w.heap.size]? = some (.cells #[.int .i64 r, .bool c0, .int .i64 c1, .int .i64 c2, .slice fa fr.length fk] 38 (0, 0)) := (hb.block _ (Nat.lt_succ_self _)).trans (heap_alloc_new w _)
        have g0 := cell_of_row _ _ 0 _ 38 (0, 0) gb
        have g1 := cell_of_row _ _ 1 _ 38 (0, 0) gb
        have g2 := cell_of_row _ _ 2 _ 38 (0, 0) gb
        have g3 := cell_of_row _ _ 3 _ 38 (0, 0) gb
        dsimp at g0 g1 g2 g3
        unfold vc at con
        dsimp only at con
        have HE : Hid (soundL ps (Z.map Prod.fst) (r, (c0, c1, c2), fr) = comesP r (c0, c1, c2) of) := by
          show soundL ps (Z.map Prod.fst) (r, (c0, c1, c2), fr) = comesP r (c0, c1, c2) of
          unfold soundL
          dsimp only
          rw [hof]
          dsimp only
          rw [if_neg HR.out]
        have HBW : Hid (Below w.heap.size w wr) := hbw
        clear hown hb hof hC hofl gb hbw
        go_wp2_with (go_at_call 40; refine con.mono ?_; rintro e w2 ⟨rfl, hb2⟩; have HB2 : Hid (Below w.heap.size w w2) := HBW.out.trans (hb2.mono HBW.out.size); clear hb2 con)
        go_ret
        rw [HE.out]
        exact ⟨rfl, HB2.out⟩
theorem right_any (r : Int) (c0 : Bool) (c1 c2 : Int) (fr : List Int) (fv : Value) (ps : List C) (Z : List (Ln × Value)) (vp va : Value) (w : World) (hf : IsI w fv fr) (hp : IsC w vp ps) (hA : IsL w va Z) (hs : ∀ z ∈ Z, Sm z.1.2.1) :
    Calls Try.prog 24 #[.agg #[.int .i64 r, .bool c0, .int .i64 c1, .int .i64 c2, fv], vp, va] w fun e w' => e = .returned (.bool (soundL ps (Z.map Prod.fst) (r, (c0, c1, c2), fr))) ∧ Below w.heap.size w w' := by
  by_cases hr : r = 1
  · subst hr
    obtain ⟨⟨_, aa, ak, hv, _⟩, _⟩ := id hA
    exact given_any c0 c1 c2 fr fv ps (Z.map Prod.fst) vp va ⟨_, _, _, hv⟩ w hf hp
  · obtain ⟨_, pa, pk, hv, _⟩ := id hp
    exact other_any r hr c0 c1 c2 fr fv ps Z vp va ⟨_, _, _, hv⟩ w hf hA hs
end Go.Proofs.Ytcnanbimpajonaa.Rj
