/- TalkMeets walked. Condition: the steps lie in memory. -/
import Derived.Test.YtmhgoddlbklbfaaMv
import Derived.Test.YtmhgoddlbklbfaaLd
import Derived.Carry
import Derived.Deep.CutRange
namespace Go.Proofs.Ytmhgoddlbklbfaa.Ms
open Go.RowKit Ta Tb Ra Lb Mm Mo Zz

/-- the box while both are made -/
def Mk (w : World) (P N : Nat) (j : Nat) (wr : World) : Prop := Below w.heap.size w wr ∧ w.heap.size ≤ P ∧ P < wr.heap.size ∧ ∃ x0 x1, wr.heap[P]? = some (.cells #[.pointer x0, .pointer x1] 25 (0, 0)) ∧ (1 ≤ j → ∃ p0, x0 = some ⟨p0, 0, none⟩ ∧ P < p0 ∧ Tk wr p0 1 (N : Int) (newS N)) ∧ (2 ≤ j → ∃ p0 p1, x0 = some ⟨p0, 0, none⟩ ∧ x1 = some ⟨p1, 0, none⟩ ∧ Two w P N p0 p1 wr)

set_option maxHeartbeats 8000000 in
set_option maxRecDepth 100000 in
theorem meets (n : Int) (hn : i64B n) (ao : Option Addr) (co : Nat) (os : List Sp) (w : World) (hO : IsO w ao os) (hSL : ∀ o ∈ os, i64B o.sl ∧ o.val.size ≤ maxLen) : Calls Try.prog 4 #[.int .i64 n, .slice ao os.length co] w fun e w' => e = .returned (.bool true) ∧ Below w.heap.size w w' := by
  have HSL : Hid (∀ o ∈ os, i64B o.sl ∧ o.val.size ≤ maxLen) := hSL
  clear hSL
  have KB := begun_any w
  have KC : ∀ w', Calls Try.prog 8 #[.int .i64 n, .int .i64 20] w' (Chose 20 w') := fun w' => choose_any n 20 w' (by omega) (by omega) hn.1 hn.2
  go_enter Try.func4, Try.ntmps4
  go_wp2_with (first
    | (go_at_call 5; (with_reducible refine KB.mono ?_); rintro e w1 ⟨rfl, hb1⟩)
    | (go_at_call 8; (with_reducible refine (KC _).mono ?_); rintro e wq ⟨k, rfl, hk2, hwq⟩; rw [hwq]; have hwk : IntKind.i64.wrap (1 + (k : Int)) = ((k + 1 : Nat) : Int) := (by rw [wrap_id (by omega) (by omega)]; omega)))
  obtain ⟨N, hN⟩ : ∃ N, k + 1 = N := ⟨_, rfl⟩
  have hN1 : 1 ≤ N := by omega
  have hN2 : N ≤ 20 := by omega
  rw [hN] at hwk
  obtain ⟨P, hP⟩ : ∃ P, w1.heap.size = P := ⟨_, rfl⟩
  obtain ⟨W0, hW0⟩ : ∃ W0, w1.alloc (.cells #[.pointer none, .pointer none] 25) = W0 := ⟨_, rfl⟩
  have HM : Hid (Mk w P N 0 W0) := by
    show Mk w P N 0 W0
    rw [← hW0, ← hP]
    exact ⟨hb1.alloc hb1.size _, hb1.size, by simp, none, none, heap_alloc_new _ _, by omega, by omega⟩
  have hcast : (k : Int) + 1 = (N : Int) := by omega
  rw [hcast, hW0, hP]
  clear hcast hwk hN hW0 hP hb1 KB KC
  go_loopw [6, 7, 8] (fun jv _ _ wr => ∃ j : Nat, jv = .int .i64 (j : Int) ∧ j ≤ 2 ∧ Mk w P N j wr) (fun jv _ _ _ => 2 - (intOf jv).toNat)
  case atStart => exact ⟨0, rfl, by omega, HM.out⟩
  case round =>
    clear HM
    obtain ⟨j, rfl, hj, hbel, hwP, hPl, x0, x1, hbox, hp0, hp1⟩ := hrel
    rcases j with _ | _ | _ | j
    · clear hp0 hp1
      have K6 := new_ok (w := wr) (W := 1) (N := N) (by decide) hN1 hN2
      go_wp2_with (go_at_call 6; (with_reducible refine K6.mono ?_); rintro e w2 ⟨b, rfl, hb, hT, hb2⟩; have hbx := (hb2.block P hPl).trans hbox; have fP := cell_of_row _ _ 0 _ _ _ hbx; have zP := frozen_of_row _ _ 0 _ _ hbx)
      go_roundw
      case rel =>
        refine ⟨0 + 1, by go_num, by omega, (hbel.trans (hb2.mono hbel.size)).setCell (p := ⟨P, 0, none⟩) hwP _, hwP, by have := hb2.size; simp; omega, some ⟨b, 0, none⟩, x1, ?_, fun _ => ⟨b, rfl, by omega, hT.ko (ko_set _ _ _ _) (by omega)⟩, fun h => by omega⟩
        rw [heap_setCell_same _ P 0 _ 25 _ hbx]
        simp
      case measure => simp [intOf]
    · clear hp1
      obtain ⟨p0, rfl, hPp, hT0⟩ := hp0 (by omega)
      have hl0 := hT0.lt
      have K6 := new_ok (w := wr) (W := 2) (N := N) (by decide) hN1 hN2
      have HT0 : Hid (Tk wr p0 1 (N : Int) (newS N)) := hT0
      clear hp0 hT0
      go_wp2_with (go_at_call 6; (with_reducible refine K6.mono ?_); rintro e w2 ⟨b, rfl, hb, hT, hb2⟩; have hbx := (hb2.block P hPl).trans hbox; have fP := cell_of_row _ _ 1 _ _ _ hbx; have zP := frozen_of_row _ _ 1 _ _ hbx)
      go_roundw
      case rel =>
        have hT0' := HT0.out.below hb2
        have hB : Below w.heap.size w (w2.setCell ⟨P, 1, none⟩ (.pointer (some ⟨b, 0, none⟩))) := (hbel.trans (hb2.mono hbel.size)).setCell (p := ⟨P, 1, none⟩) hwP _
        have hBox : (w2.setCell ⟨P, 1, none⟩ (.pointer (some ⟨b, 0, none⟩))).heap[P]? = some (.cells #[.pointer (some ⟨p0, 0, none⟩), .pointer (some ⟨b, 0, none⟩)] 25 (0, 0)) := by
          rw [heap_setCell_same _ P 1 _ 25 _ hbx]
          simp
        have hA := hT0'.ko (ko_set w2 P 1 (.pointer (some ⟨b, 0, none⟩))) (by omega)
        refine ⟨0 + 1 + 1, by go_num, by omega, hB, hwP, by have := hb2.size; simp; omega, some ⟨p0, 0, none⟩, some ⟨b, 0, none⟩, hBox, fun _ => ⟨p0, rfl, hPp, hA⟩, fun _ => ⟨p0, b, rfl, rfl, hB, ⟨hwP, hPp, by omega⟩, hBox, hA, hT.ko (ko_set _ _ _ _) (by omega)⟩⟩
      case measure => simp [intOf]
    · obtain ⟨p0, p1, rfl, rfl, h2⟩ := hp1 (by omega)
      have H2 : Hid (Two w P N p0 p1 wr) := h2
      clear hp0 hp1 h2 hbox hbel
      have hmm := @run_makeMap Try.prog
      go_wp2
      have hS0 := H2.out.start rfl rfl rfl
      simp only [show ∀ (W : World) (o : Obj), (W.alloc o).heap.size = W.heap.size + 1 from fun W o => by simp] at hS0
      obtain ⟨F, hF⟩ : ∃ F : Fm, F = ⟨P, wr.heap.size, wr.heap.size + 1 + 1, wr.heap.size + 1 + 1 + 1 + 1, wr.heap.size + 1, wr.heap.size + 1 + 1 + 1, fun k => if k = 0 then p0 else p1, wr.heap.size + 1 + 1 + 1 + 1 + 1⟩ := ⟨_, rfl⟩
      rw [← hF] at hS0
      have eP : P = F.P := by rw [hF]
      have eY : wr.heap.size = F.Y := by rw [hF]
      have eS : wr.heap.size + 1 + 1 = F.S := by rw [hF]
      have eT : wr.heap.size + 1 + 1 + 1 + 1 = F.T := by rw [hF]
      have ems : wr.heap.size + 1 = F.ms := by rw [hF]
      have eml : wr.heap.size + 1 + 1 + 1 = F.ml := by rw [hF]
      obtain ⟨W3, hW3⟩ : ∃ W3, ((((wr.alloc (.cells #[.slice none 0 0, .slice none 0 0] 35)).alloc (.map #[] 0)).alloc (.cells #[.map (some (wr.heap.size + 1))] 47)).alloc (.map #[] 0)).alloc (.cells #[.map (some (wr.heap.size + 1 + 1 + 1))] 48) = W3 := ⟨_, rfl⟩
      rw [hW3] at hS0 ⊢
      rw [eT, eml, eS, ems, eY, eP, show (((0 + 1 + 1 : Nat)) : Int) = 2 from rfl]
      have HS : Hid (Sm w N F (fun _ => newS N) (fun _ => []) (fun _ => False) (fun _ _ => zeroT) 0 0 W3) := hS0
      have HI : Hid (Inv N 0 (fun _ => newS N) (fun _ => []) (fun _ => False) (fun _ _ => zeroT)) := inv_new hN2
      have HO : Hid (IsO w ao os) := hO
      have hol := hO.1
      clear hS0 hF eP eY eS eT ems eml hW3 hO H2 hmm hwP hPl
      go_loopw [13, 14, 15, 16, 17, 18, 19, 20] (fun iv _ _ _ _ _ _ _ wr => ∃ (i : Nat) (es : Nat → List Sl) (LL : Nat → List (List To)) (D : To → Prop) (la : Nat → Nat → To), iv = .int .i64 (i : Int) ∧ i ≤ os.length ∧ i ≤ 300 ∧ Sm w N F es LL D la (20 * i) (40 * i) wr ∧ Inv N i es LL D la ∧ ∀ k, k < 2 → (LL k).length ≤ i) (fun iv _ _ _ _ _ _ _ _ => 300 - (intOf iv).toNat)
      case atStart => exact ⟨0, _, _, _, _, rfl, by omega, by omega, HS.out, HI.out, fun k _ => by simp⟩
      case round =>
        clear HS HI
        obtain ⟨i, es, LL, D, la, rfl, hio, hi3, hst, hiv, hLL⟩ := hrel
        have HLL : Hid (∀ k, k < 2 → (LL k).length ≤ i) := hLL
        have HI : Hid (Inv N i es LL D la) := hiv
        clear hLL
        by_cases hend : i < os.length ∧ i < 300
        · have hi1 : (i : Int) < (os.length : Int) := by omega
          have hi2 : (i : Int) < 300 := by omega
          obtain ⟨g0, off, rfl, hg, d0, d1, d2, d3, d4, d5, d6⟩ := HO.out.at hend.1
          obtain ⟨qq1, qq2, hwho, hnn, qq3⟩ := HO.out.2.1 os[i] (List.getElem_mem hend.1)
          have hsl := HSL.out os[i] (List.getElem_mem hend.1)
          have cb := fun q => hst.bel.cell (p := ⟨g0, off + i * 7 + q, none⟩) hg
          have cb0 := (hst.bel.cell (p := ⟨g0, off + i * 7, none⟩) hg).trans d0
          have cb1 := (cb 1).trans d1
          have cb2 := (cb 2).trans d2
          have cb3 := (cb 3).trans d3
          have cb4 := (cb 4).trans d4
          have cb5 := (cb 5).trans d5
          have cb6 := (cb 6).trans d6
          obtain ⟨⟨o0, o1, o2, o3, o4, o5, oa, ock, ol⟩, ho⟩ : ∃ o, os[i] = o := ⟨_, rfl⟩
          rw [ho] at cb0 cb1 cb2 cb3 cb4 cb5 cb6 hwho hnn hsl
          dsimp only at cb0 cb1 cb2 cb3 cb4 cb5 cb6 hwho hnn hsl
          have KC : ∀ w', Calls Try.prog 8 #[.int .i64 o1, .int .i64 2] w' (Chose 2 w') := fun w' => choose_any o1 2 w' (by omega) (by omega) hwho.1 hwho.2
          have HNN : Hid (i64B o3 ∧ i64B o2 ∧ o4.size ≤ maxLen) := ⟨hnn, hsl⟩
          have HST : Hid (Sm w N F es LL D la (20 * i) (40 * i) wr) := hst
          have hend2 : i < 300 := hend.2
          have hend1 : i < os.length := hend.1
          clear qq1 qq2 qq3 d0 d1 d2 d3 d4 d5 d6 cb ho hwho hnn hsl hend hst hiv
          go_upto_region 21 with (go_at_call 8; (with_reducible refine (KC _).mono ?_); rintro e wq ⟨k, rfl, hk2, hwq⟩; rw [hwq])
          obtain ⟨Wc, hWc⟩ : ∃ Wc, wr.alloc (.cells #[.int .i64 o0, .int .i64 o1, .int .i64 o2, .int .i64 o3, .string o4, .bool o5, .slice oa ol.length ock] 38) = Wc := ⟨_, rfl⟩
          rw [hWc]
          have hbb : Below wr.heap.size wr Wc := hWc ▸ (Below.refl _ wr).alloc (Nat.le_refl _) _
          have hbox : Wc.heap[wr.heap.size]? = some (.cells #[.int .i64 o0, .int .i64 o1, .int .i64 o2, .int .i64 o3, .string o4, .bool o5, .slice oa ol.length ock] 38 (0, 0)) := hWc ▸ heap_alloc_new _ _
          have HSC : Hid (Sm w N F es LL D la (20 * i) (40 * i) Wc) := HST.out.below hbb
          obtain ⟨BB, hBB⟩ : ∃ BB, wr.heap.size = BB := ⟨_, rfl⟩
          have hF2 : F.b2 ≤ BB := by have := HST.out.hi; omega
          rw [hBB] at hbox ⊢
          have x0 := cell_of_row _ _ 0 _ _ _ hbox
          have x2 := cell_of_row _ _ 2 _ _ _ hbox
          have x3 := cell_of_row _ _ 3 _ _ _ hbox
          have x4 := cell_of_row _ _ 4 _ _ _ hbox
          have hBBc : BB < Wc.heap.size := cell_lt x0
          have HBX : Hid (Wc.heap[BB]? = some (.cells #[.int .i64 o0, .int .i64 o1, .int .i64 o2, .int .i64 o3, .string o4, .bool o5, .slice oa ol.length ock] 38 (0, 0))) := hbox
          have cp := HSC.out.pb k hk2
          have hk20 : (k : Int) < 2 := by omega
          clear hWc cb0 cb1 cb2 cb3 cb4 cb5 cb6 KC hbox hBB hbb HST
          go_cut [68] from 50 to 67 (fun s68 wc => s68 = .int .i64 o0 ∧ Wc = wc)
          case first =>
            go_wp2_with fail
            go_meet
            case rel => exact ⟨rfl, rfl⟩
          obtain ⟨h68, hwc⟩ := hcut
          subst h68
          subst hwc
          go_step
          go_cut [] from 50 to 173 (fun wc => ∃ (es' : Nat → List Sl) (LL' : Nat → List (List To)) (D' : To → Prop), Sm w N F es' LL' D' la (20 * i + 20) (40 * i) wc ∧ Inv N (i + 1) es' LL' D' la ∧ ∀ j, j < 2 → (LL' j).length ≤ i + 1)
          case first =>
            by_cases h1 : o0 = 1
            · as_aux_lemma =>
                have b1 : (o0 == 1) = true := by simp [h1]
                clear h1
                have KC2 : ∀ w', Calls Try.prog 8 #[.int .i64 o2, .int .i64 (N : Int)] w' (Chose N w') := fun w' => choose_any o2 N w' (by omega) (by omega) HNN.out.2.1.1 HNN.out.2.1.2
                have hsz := HNN.out.2.2
                go_upto_region 25 with (go_at_call 8; (with_reducible refine (KC2 _).mono ?_); rintro e wq ⟨s, rfl, hsN, hwq⟩; rw [hwq])
                obtain ⟨v, hv⟩ : ∃ v, o4.extract 0 (min (o4.size : Int) 100).toNat = v := ⟨_, rfl⟩
                have hvs : v.size ≤ 100 := by rw [← hv, ByteArray.size_extract]; omega
                rw [hv]
                obtain ⟨hR, hI1⟩ := HI.out.say hk2 hsN (by omega) hvs
                obtain ⟨e', he'⟩ : ∃ e', putS (g (es k) s) ((g (es k) s).ver + 1) ((k : Int) + 1) v = e' := ⟨_, rfl⟩
                have hesl : e'.sl = (s : Int) := by rw [← he']; exact (HI.out.ok k hk2 s hsN).sl
                have hewho : e'.who = (k : Int) + 1 := by rw [← he']; rfl
                have heval : e'.val = v := by rw [← he']; rfl
                have hever : 0 < e'.ver := by rw [← he']; show 0 < (g (es k) s).ver + 1; have := (HI.out.ok k hk2 s hsN).pos; omega
                rw [he'] at hR hI1
                have K9 := say_any (HSC.out.tk k hk2) hN2 (HI.out.versE hk2 (by omega)) (s : Int) v
                rw [hR] at K9
                dsimp only at K9
                obtain ⟨es1, hes1⟩ : ∃ es1, Lb.upd es k ((es k).set s e') = es1 := ⟨_, rfl⟩
                rw [hes1] at hI1
                have hg1 : g (es1 k) s = e' := by rw [← hes1, upd_same, g_set (by rw [HI.out.len k hk2]; omega), if_pos rfl]
                obtain ⟨L, hL⟩ : ∃ L, tellL ((es1 k).take N) = L := ⟨_, rfl⟩
                have hL20 : L.length ≤ 20 := by
                  rw [← hL]
                  exact Nat.le_trans (tellL_le _) (by rw [List.length_take, hI1.len k hk2]; omega)
                have HL1 : Hid (∀ t, t ∈ L → t.sl = (s : Int) → t = shutT e') := fun t ht hs => by
                  rw [← hL] at ht
                  obtain ⟨s', hs', e1, _, e2⟩ := hI1.tells hk2 ht
                  have : s' = s := by omega
                  subst this
                  rw [e1, hg1]
                have HL2 : Hid (shutT e' ∈ L) := by
                  show shutT e' ∈ L
                  rw [← hL, ← hg1]
                  exact hI1.told hk2 hsN (by rw [hg1]; exact hever)
                have HOK : Hid (OkT (shutT e')) := okT (hI1.d _ (.inr rfl)).1 hN2
                have HIX : Hid (Inv N (i + 1) es1 LL (fun t => D t ∨ t = shutT e') la) := hI1
                have HLX : Hid (∀ j, j < 2 → (LL j).length ≤ i + 1) := fun j hj => by have := HLL.out j hj; omega
                have HE : Hid (shutT e' = ⟨(s : Int), e'.ver, (k : Int) + 1, v, false⟩) := by (show shutT e' = _; unfold shutT; rw [hesl, hewho, heval])
                have HU : Hid (Lb.upd es k ((es k).set s e') = es1) := hes1
                have hF3 : F.ms < F.b2 := by have := HSC.out.lo; omega
                have hwk : IntKind.i64.wrap ((k : Int) + 1) = (k : Int) + 1 := wrap_id (by omega) (by omega)
                clear hR hI1 hesl hewho heval hever he' hes1 hg1 x0 x2 x3 x4 KC2 hv hsz
                go_wp2_with (first
                  | (go_at_call 9; (with_reducible refine K9.mono ?_); rintro e w2 ⟨rfl, hT2, hk9⟩; have HS2 : Hid (Sm w N F es1 LL D la (20 * i) (40 * i) w2) := (by rw [← HU.out]; exact HSC.out.upd hk2 hk9 hT2); have cp2 := HS2.out.pb k hk2)
                  | (go_at_call 16; (with_reducible refine (tell_sm HS2.out hN2 hk2 hL).mono ?_); rintro e w3 ⟨a3, c3, rfl, hT3, hp3, hb3⟩; have HT3 : Hid (IsT w3 a3 L) := hT3; have HA3 : Hid (Away a3 F.ms) := (fun p hp => by have := hp3 p hp; omega); have HS3 : Hid _ := HS2.out.below hb3))
                clear hL
                go_loopw [20] (fun qv W => ∃ q : Nat, qv = .int .i64 (q : Int) ∧ q ≤ L.length ∧ Sm w N F es1 LL (fun t => D t ∨ (t ∈ L.take q ∧ t.sl = (s : Int))) la (20 * i + q) (40 * i) W ∧ IsT W a3 L) (fun qv _ => L.length - (intOf qv).toNat)
                case atStart => exact ⟨0, rfl, by omega, HS3.out.sub (fun t ht => ht.elim id (fun h => by simp at h)), HT3.out⟩
                case round =>
                  clear HS3 HT3 HS2 cp2 cp
                  obtain ⟨q, rfl, hq, hsq, hTq⟩ := hrel
                  have HSQ : Hid (Sm w N F es1 LL (fun t => D t ∨ (t ∈ L.take q ∧ t.sl = (s : Int))) la (20 * i + q) (40 * i) wr) := hsq
                  have HTQ : Hid (IsT wr a3 L) := hTq
                  clear hsq
                  by_cases hql : q < L.length
                  · have hql' : (q : Int) < (L.length : Int) := by omega
                    obtain ⟨g3, off3, rfl, hg3, c0, c1, c2, c3', c4⟩ := hTq.at hql
                    have htk : L.take (q + 1) = L.take q ++ [L[q]] := (List.take_append_getElem hql).symm
                    have hLQ := HL1.out L[q] (List.getElem_mem hql)
                    obtain ⟨⟨t0, t1, t2, t3, t4⟩, ht⟩ : ∃ t, L[q] = t := ⟨_, rfl⟩
                    rw [ht] at c0 c1 c2 c3' c4 htk hLQ
                    dsimp only at c0 c1 c2 c3' c4
                    have HTK : Hid (L.take (q + 1) = L.take q ++ [(⟨t0, t1, t2, t3, t4⟩ : To)]) := htk
                    clear htk hTq
                    by_cases hts : t0 = (s : Int)
                    · have hLQ' := hLQ hts
                      rw [HE.out] at hLQ'
                      simp only [To.mk.injEq] at hLQ'
                      obtain ⟨rfl, rfl, rfl, rfl, rfl⟩ := hLQ'
                      have bsl : ((s : Int) == (s : Int)) = true := by simp
                      have bwh : (((k : Int) + 1) != ((k : Int) + 1)) = false := by simp
                      have hmx : 20 * i + q < maxLen := by unfold maxLen; omega
                      have hOK := HOK.out
                      rw [HE.out] at hOK
                      obtain ⟨W9, hup, hl9, hg9⟩ := (HSQ.out.sd.kept (w' := wr.drew) rfl).store hmx hOK
                      unfold vt at hup
                      dsimp only at hup
                      have hk9 : Ko wr W9 F.ms := (ko_below (Below.refl _ wr).drew).trans (ko_grown hg9)
                      have sb := HSQ.out.sb
                      have HS9 : Hid (Sm w N F es1 LL (fun t => D t ∨ (t ∈ L.take (q + 1) ∧ t.sl = (s : Int))) la (20 * i + q + 1) (40 * i) W9) := (HSQ.out.said hk9 hl9).sub (fun t ht => by
                        rcases ht with h | ⟨h, h'⟩
                        · exact .inl (.inl h)
                        · rw [HTK.out] at h
                          rcases List.mem_append.1 h with h | h
                          · exact .inl (.inr ⟨h, h'⟩)
                          · simp at h; exact .inr h)
                      have HT9 : Hid (IsT W9 (some ⟨g3, off3, none⟩) L) := HTQ.out.ko hk9 HA3.out
                      clear hl9 hk9 hg9 hLQ
                      go_upto_region 35 with fail
                      refine region_z (S := fun W => W.cell? ⟨F.S, 0, none⟩ = some (.map (some F.ms)) ∧ W.cell? ⟨g3, off3 + q * 5, none⟩ = some (.int .i64 (s : Int)) ∧ W.cell? ⟨g3, off3 + q * 5 + 1, none⟩ = some (.int .i64 e'.ver) ∧ W.cell? ⟨g3, off3 + q * 5 + 2, none⟩ = some (.int .i64 ((k : Int) + 1)) ∧ W.cell? ⟨g3, off3 + q * 5 + 3, none⟩ = some (.string t3) ∧ W.cell? ⟨g3, off3 + q * 5 + 4, none⟩ = some (.bool false)) 5 (by kernel_rfl) (by exact ⟨sb, c0, c1, c2, c3', c4⟩) (fun hHeld => ?_)
                      refine take_z (z := 5) (i := 0) (oi := { dst := some 124, op := Op.load 47 (Operand.tmp 10), type := 47, pos := "talk.go:310", after := #[], guard := none }) (v := ?_) (by kernel_rfl) (by decide) rfl (by kernel_rfl) (by kernel_rfl) (by kernel_rfl) (fun _ _ _ h => h) (Or.inl ⟨by rfl, ?_⟩) (by assumption) ?_
                      case refine_2 => intro w hSw; (try dsimp only at hSw); obtain ⟨hA, hB, hC, hD1, hD2, hD3⟩ := hSw; go_simp; (try with_reducible rfl)
                      simp only [Act.put, List.setIfInBounds_toArray, List.set_cons_zero, List.set_cons_succ]
                      refine take_z (z := 5) (i := 1) (oi := { dst := some 125, op := Op.move (Operand.tmp 19), type := 36, pos := "talk.go:310", after := #[], guard := none }) (v := ?_) (by kernel_rfl) (by decide) rfl (by kernel_rfl) (by kernel_rfl) (by kernel_rfl) (fun _ _ _ h => h) (Or.inl ⟨by rfl, ?_⟩) (by assumption) ?_
                      case refine_2 => intro w hSw; (try dsimp only at hSw); obtain ⟨hA, hB, hC, hD1, hD2, hD3⟩ := hSw; go_simp; (try with_reducible rfl)
                      simp only [Act.put, List.setIfInBounds_toArray, List.set_cons_zero, List.set_cons_succ]
                      refine take_z (z := 5) (i := 2) (oi := { dst := some 126, op := Op.move (Operand.tmp 20), type := 3, pos := "talk.go:310", after := #[], guard := none }) (v := ?_) (by kernel_rfl) (by decide) rfl (by kernel_rfl) (by kernel_rfl) (by kernel_rfl) (fun _ _ _ h => h) (Or.inl ⟨by rfl, ?_⟩) (by assumption) ?_
                      case refine_2 => intro w hSw; (try dsimp only at hSw); obtain ⟨hA, hB, hC, hD1, hD2, hD3⟩ := hSw; go_simp; (try with_reducible rfl)
                      simp only [Act.put, List.setIfInBounds_toArray, List.set_cons_zero, List.set_cons_succ]
                      refine take_z (z := 5) (i := 3) (oi := { dst := some 127, op := Op.indexAddr 36 (Operand.tmp 125) (Operand.tmp 126), type := 0, pos := "talk.go:310", after := #[{ on := 1, ground := Ground.data }, { on := 2, ground := Ground.data }], guard := none }) (v := ?_) (by kernel_rfl) (by decide) rfl (by kernel_rfl) (by kernel_rfl) (by kernel_rfl) (fun _ _ _ h => h) (Or.inl ⟨by rfl, ?_⟩) (by assumption) ?_
                      case refine_2 => intro w hSw; (try dsimp only at hSw); obtain ⟨hA, hB, hC, hD1, hD2, hD3⟩ := hSw; go_simp; (try with_reducible rfl)
                      simp only [Act.put, List.setIfInBounds_toArray, List.set_cons_zero, List.set_cons_succ]
                      refine take_z (z := 5) (i := 4) (oi := { dst := some 128, op := Op.load 44 (Operand.tmp 127), type := 44, pos := "talk.go:310", after := #[{ on := 3, ground := Ground.data }], guard := none }) (v := ?_) (by kernel_rfl) (by decide) rfl (by kernel_rfl) (by kernel_rfl) (by kernel_rfl) (fun _ _ _ h => h) (Or.inl ⟨by rfl, ?_⟩) (by assumption) ?_
                      case refine_2 => intro w hSw; (try dsimp only at hSw); obtain ⟨hA, hB, hC, hD1, hD2, hD3⟩ := hSw; go_simp; (try with_reducible rfl)
                      simp only [Act.put, List.setIfInBounds_toArray, List.set_cons_zero, List.set_cons_succ]
                      refine ready_z (rs := [5]) (by kernel_rfl) (by simp) ?_
                      refine (AllZ.last (o := { dst := none, op := Op.mapUpdate 47 (Operand.tmp 124) (Operand.tmp 128) (Operand.const (Value.bool true)), type := 0, pos := "talk.go:310", after := #[{ on := 0, ground := Ground.data }, { on := 4, ground := Ground.data }, { on := 0, ground := Ground.phase }, { on := 1, ground := Ground.phase }, { on := 2, ground := Ground.phase }, { on := 3, ground := Ground.phase }, { on := 4, ground := Ground.phase }], guard := none }) rfl (fun K hK => ?_) AllZ.nil)
                      go_simp
                      refine hK.out _ _ ?_
                      clear hK K
                      try simp only [Act.put, List.setIfInBounds_toArray, List.set_cons_zero, List.set_cons_succ]
                      refine done_z (by kernel_rfl) ?_ _
                      go_wp2_with fail
                      go_roundw
                      case rel => exact ⟨q + 1, by go_num, by omega, HS9.out, HT9.out⟩
                      case measure => simp [intOf]; omega
                    · have bsl : (t0 == (s : Int)) = false := by simp [hts]
                      have HS9 : Hid (Sm w N F es1 LL (fun t => D t ∨ (t ∈ L.take (q + 1) ∧ t.sl = (s : Int))) la (20 * i + q) (40 * i) wr) := HSQ.out.sub (fun t ht => by
                        rcases ht with h | ⟨h, h'⟩
                        · exact .inl h
                        · rw [HTK.out] at h
                          rcases List.mem_append.1 h with h | h
                          · exact .inr ⟨h, h'⟩
                          · simp at h; rw [h] at h'; exact absurd h' hts)
                      clear hLQ
                      go_wp2
                      go_roundw
                      case rel => exact ⟨q + 1, by go_num, by omega, HS9.out.mono (by omega) (Nat.le_refl _), HTQ.out⟩
                      case measure => simp [intOf]; omega
                  · have hql' : ¬ (q : Int) < (L.length : Int) := by omega
                    have HSX : Hid (Sm w N F es1 LL (fun t => D t ∨ t = shutT e') la (20 * i + q) (40 * i) wr) := HSQ.out.sub (fun t ht => by
                      rcases ht with h | h
                      · exact .inl h
                      · right
                        rw [h, List.take_of_length_le (by omega)]
                        refine ⟨HL2.out, ?_⟩
                        rw [HE.out])
                    clear HSQ HTQ hTq
                    go_wp2_with fail
                    go_meet
                    case rel => exact ⟨_, _, _, HSX.out.mono (by omega) (Nat.le_refl _), HIX.out, HLX.out⟩
            by_cases h2 : o0 = 2
            · as_aux_lemma =>
                have b1 : (o0 == 1) = false := by simp; omega
                have b2 : (o0 == 2) = true := by simp [h2]
                clear h1 h2
                obtain ⟨k', hk', hkk, hkw, hkb⟩ : ∃ k' : Nat, k' < 2 ∧ k' ≠ k ∧ IntKind.i64.wrap (1 - (k : Int)) = (k' : Int) ∧ 1 - k' = k := ⟨1 - k, by omega, by omega, by rw [wrap_id (by omega) (by omega)]; omega, by omega⟩
                have hk'2 : (k' : Int) < 2 := by omega
                obtain ⟨wx, wn, wm, hcY, vs, hwo, hwl, hwi⟩ := HSC.out.wy k' hk'
                have hwn : wn = (LL k').length := by
                  rcases hwo.2 with ⟨h, h'⟩ | ⟨gg, cap, cur, h, _⟩
                  · simp only [Value.slice.injEq] at h; omega
                  · simp only [Value.slice.injEq] at h; exact h.2.1
                subst hwn
                obtain ⟨L, hL⟩ : ∃ L, toldL ((es k).take N) = L := ⟨_, rfl⟩
                obtain ⟨hI1, _, hM⟩ := HI.out.take hk2
                rw [hL] at hM
                have hI2 := hI1.push hk' (m := L) (by rw [hkb, upd_same]; exact hM)
                have HIX : Hid (Inv N (i + 1) (Lb.upd es k (takeS N (es k))) (Lb.upd LL k' (LL k' ++ [L])) D la) := hI2.mono (by omega) (fun _ h => h) (fun t h => by have := HI.out.d t h; exact ⟨this.1, this.2.1, by omega⟩)
                have hLk := HLL.out k' hk'
                have HLX : Hid (∀ j, j < 2 → (Lb.upd LL k' (LL k' ++ [L]) j).length ≤ i + 1) := fun j hj => by
                  by_cases e : j = k'
                  · subst e; rw [upd_same, List.length_append]; simp; omega
                  · rw [upd_other _ _ e]; have := HLL.out j hj; omega
                have K11 := take_sm (HSC.out.below (Below.refl _ _).drew) hN2 hk2 hL
                have ho := HSC.out.ords hk2
                have hlo := HSC.out.lo
                have hhi := HSC.out.hi
                have HLO : Hid (F.p k < F.b2 ∧ F.Y < F.b2 ∧ F.Y ≠ F.p k ∧ F.b2 ≤ Wc.heap.size) := ⟨by omega, by omega, by omega, hhi⟩
                obtain ⟨i36, hi36, hz360, hz361, hz362⟩ := info_parts info36
                have HWO : Hid (Wc.ownsRow F.b2 36 1 (.slice wx (LL k').length wm) (LL k').length vs) := hwo
                have HWI : Hid (∀ j (h : j < (LL k').length) (h' : j < vs.length), Wc.ownsRow F.b2 44 5 vs[j] (LL k')[j].length (tls (LL k')[j]) ∧ ∀ g, vs[j].ownBlock = some g → ¬ No g) := hwi
                have hfY := HSC.out.yf k'
                have hYl : F.Y < Wc.heap.size := by omega
                clear hwo hwi hI1 hI2 hM hL ho hlo x0 x2 x3 x4
                go_upto_region 37 with fail
                refine region_z (S := fun W => W.cell? ⟨F.Y, k', none⟩ = some (.slice wx (LL k').length wm) ∧ W.cell? ⟨F.P, k, none⟩ = some (.pointer (some ⟨F.p k, 0, none⟩))) 13 (by kernel_rfl) (by exact ⟨hcY, cp⟩) (fun hHeld => ?_)
                refine take_z (z := 13) (i := 0) (oi := { dst := some 131, op := Op.move (Operand.tmp 15), type := 3, pos := "talk.go:314", after := #[], guard := none }) (v := ?_) (by kernel_rfl) (by decide) rfl (by kernel_rfl) (by kernel_rfl) (by kernel_rfl) (fun _ _ _ h => h) (Or.inl ⟨by rfl, ?_⟩) (by assumption) ?_
                case refine_2 => intro w hSw; (try dsimp only at hSw); obtain ⟨hA, hB⟩ := hSw; go_simp; (try with_reducible rfl)
                simp only [Act.put, List.setIfInBounds_toArray, List.set_cons_zero, List.set_cons_succ]
                refine take_z (z := 13) (i := 1) (oi := { dst := some 132, op := Op.binOp BinOp.sub 3 (Operand.const (Value.int IntKind.i64 1)) (Operand.tmp 131) 3, type := 3, pos := "talk.go:314", after := #[{ on := 0, ground := Ground.data }], guard := none }) (v := ?_) (by kernel_rfl) (by decide) rfl (by kernel_rfl) (by kernel_rfl) (by kernel_rfl) (fun _ _ _ h => h) (Or.inl ⟨by rfl, ?_⟩) (by assumption) ?_
                case refine_2 => intro w hSw; (try dsimp only at hSw); obtain ⟨hA, hB⟩ := hSw; go_simp; (try with_reducible rfl)
                simp only [Act.put, List.setIfInBounds_toArray, List.set_cons_zero, List.set_cons_succ]
                refine take_z (z := 13) (i := 2) (oi := { dst := some 133, op := Op.move (Operand.tmp 15), type := 3, pos := "talk.go:314", after := #[], guard := none }) (v := ?_) (by kernel_rfl) (by decide) rfl (by kernel_rfl) (by kernel_rfl) (by kernel_rfl) (fun _ _ _ h => h) (Or.inl ⟨by rfl, ?_⟩) (by assumption) ?_
                case refine_2 => intro w hSw; (try dsimp only at hSw); obtain ⟨hA, hB⟩ := hSw; go_simp; (try with_reducible rfl)
                simp only [Act.put, List.setIfInBounds_toArray, List.set_cons_zero, List.set_cons_succ]
                refine take_z (z := 13) (i := 3) (oi := { dst := some 134, op := Op.binOp BinOp.sub 3 (Operand.const (Value.int IntKind.i64 1)) (Operand.tmp 133) 3, type := 3, pos := "talk.go:314", after := #[{ on := 2, ground := Ground.data }], guard := none }) (v := ?_) (by kernel_rfl) (by decide) rfl (by kernel_rfl) (by kernel_rfl) (by kernel_rfl) (fun _ _ _ h => h) (Or.inl ⟨by rfl, ?_⟩) (by assumption) ?_
                case refine_2 => intro w hSw; (try dsimp only at hSw); obtain ⟨hA, hB⟩ := hSw; go_simp; (try with_reducible rfl)
                simp only [Act.put, List.setIfInBounds_toArray, List.set_cons_zero, List.set_cons_succ]
                refine take_z (z := 13) (i := 4) (oi := { dst := some 135, op := Op.indexAddr 35 (Operand.tmp 9) (Operand.tmp 134), type := 0, pos := "talk.go:314", after := #[{ on := 3, ground := Ground.data }], guard := none }) (v := ?_) (by kernel_rfl) (by decide) rfl (by kernel_rfl) (by kernel_rfl) (by kernel_rfl) (fun _ _ _ h => h) (Or.inl ⟨by rfl, ?_⟩) (by assumption) ?_
                case refine_2 => intro w hSw; (try dsimp only at hSw); obtain ⟨hA, hB⟩ := hSw; go_simp; (try with_reducible rfl)
                simp only [Act.put, List.setIfInBounds_toArray, List.set_cons_zero, List.set_cons_succ]
                refine take_z (z := 13) (i := 5) (oi := { dst := some 136, op := Op.load 34 (Operand.tmp 135), type := 34, pos := "talk.go:314", after := #[{ on := 4, ground := Ground.data }], guard := none }) (v := ?_) (by kernel_rfl) (by decide) rfl (by kernel_rfl) (by kernel_rfl) (by kernel_rfl) (fun _ _ _ h => h) (Or.inl ⟨by rfl, ?_⟩) (by assumption) ?_
                case refine_2 => intro w hSw; (try dsimp only at hSw); obtain ⟨hA, hB⟩ := hSw; go_simp; (try with_reducible rfl)
                simp only [Act.put, List.setIfInBounds_toArray, List.set_cons_zero, List.set_cons_succ]
                refine take_z (z := 13) (i := 6) (oi := { dst := some 137, op := Op.move (Operand.tmp 15), type := 3, pos := "talk.go:314", after := #[], guard := none }) (v := ?_) (by kernel_rfl) (by decide) rfl (by kernel_rfl) (by kernel_rfl) (by kernel_rfl) (fun _ _ _ h => h) (Or.inl ⟨by rfl, ?_⟩) (by assumption) ?_
                case refine_2 => intro w hSw; (try dsimp only at hSw); obtain ⟨hA, hB⟩ := hSw; go_simp; (try with_reducible rfl)
                simp only [Act.put, List.setIfInBounds_toArray, List.set_cons_zero, List.set_cons_succ]
                refine take_z (z := 13) (i := 7) (oi := { dst := some 138, op := Op.indexAddr 25 (Operand.tmp 5) (Operand.tmp 137), type := 0, pos := "talk.go:314", after := #[{ on := 6, ground := Ground.data }], guard := none }) (v := ?_) (by kernel_rfl) (by decide) rfl (by kernel_rfl) (by kernel_rfl) (by kernel_rfl) (fun _ _ _ h => h) (Or.inl ⟨by rfl, ?_⟩) (by assumption) ?_
                case refine_2 => intro w hSw; (try dsimp only at hSw); obtain ⟨hA, hB⟩ := hSw; go_simp; (try with_reducible rfl)
                simp only [Act.put, List.setIfInBounds_toArray, List.set_cons_zero, List.set_cons_succ]
                refine take_z (z := 13) (i := 8) (oi := { dst := some 139, op := Op.load 24 (Operand.tmp 138), type := 24, pos := "talk.go:314", after := #[{ on := 7, ground := Ground.data }], guard := none }) (v := ?_) (by kernel_rfl) (by decide) rfl (by kernel_rfl) (by kernel_rfl) (by kernel_rfl) (fun _ _ _ h => h) (Or.inl ⟨by rfl, ?_⟩) (by assumption) ?_
                case refine_2 => intro w hSw; (try dsimp only at hSw); obtain ⟨hA, hB⟩ := hSw; go_simp; (try with_reducible rfl)
                simp only [Act.put, List.setIfInBounds_toArray, List.set_cons_zero, List.set_cons_succ]
                refine ready_z (rs := [9]) (by kernel_rfl) (by simp) ?_
                refine (AllZ.cons (o := { dst := some 140, op := Op.call { callee := Callee.value (Operand.func 11), args := #[Operand.tmp 139], argTypes := #[24] }, type := 36, pos := "talk.go:314", after := #[{ on := 8, ground := Ground.data }], guard := none }) rfl (fun K hK => ?_) AllZ.nil)
                go_wp2_with (go_at_call 11; (with_reducible refine K11.mono ?_); rintro e w5 ⟨a5, c5, rfl, hT5, hp5, hoc5, hk5, hs5⟩)
                have HS5 : Hid (Sm w N F (Lb.upd es k (takeS N (es k))) LL D la (20 * i) (40 * i) w5) := hs5
                have hcY5 : w5.cell? ⟨F.Y, k', none⟩ = some (.slice wx (LL k').length wm) := (cell_same (hk5.2 F.Y HLO.out.2.2.1 hYl)).trans hcY
                have hcP5 := hs5.pb k hk2
                have hfY5 : w5.frozen? ⟨F.Y, k', none⟩ = false := (frozen_same (hk5.2 F.Y HLO.out.2.2.1 hYl)).trans hfY
                have hwo5 : w5.ownsRow F.b2 36 1 (.slice wx (LL k').length wm) (LL k').length vs := own_ko HWO.out.drew hk5 HLO.out.1
                have HWI5 : Hid (∀ j (h : j < (LL k').length) (h' : j < vs.length), w5.ownsRow F.b2 44 5 vs[j] (LL k')[j].length (tls (LL k')[j]) ∧ ∀ g, vs[j].ownBlock = some g → ¬ No g) := fun j h h' => ⟨own_ko (HWI.out j h h').1.drew hk5 HLO.out.1, (HWI.out j h h').2⟩
                have hsz5 : Wc.heap.size ≤ w5.heap.size := hk5.1
                have hb25 : F.b2 ≤ w5.heap.size := Nat.le_trans HLO.out.2.2.2 hsz5
                have HOC5 : Hid (w5.ownsRow F.b2 44 5 (.slice a5 L.length c5) L.length (tls L)) := own_base' hoc5 (by show F.b2 ≤ Wc.heap.size; exact HLO.out.2.2.2)
                clear hs5 hk5 hT5 hp5 hoc5
                refine hK.out _ _ ?_ (fun hHeld => ?_)
                · exact ⟨hcY5, hcP5⟩
                clear hK K
                try simp only [Act.put, List.setIfInBounds_toArray, List.set_cons_zero, List.set_cons_succ]
                refine ready_z (rs := [10]) (by kernel_rfl) (by simp) ?_
                refine (AllZ.cons (o := { dst := some 141, op := Op.buildSlice 34 1 #[(0, Operand.tmp 140)], type := 34, pos := "talk.go:314", after := #[{ on := 9, ground := Ground.data }], guard := none }) rfl (fun K hK => ?_) AllZ.nil)
                go_simp
                refine hK.out _ _ ?_ (fun hHeld => ?_)
                · exact ⟨(((Below.refl _ w5).alloc (Nat.le_refl _) _).cell (p := ⟨F.Y, k', none⟩) (by have := HLO.out; show F.Y < w5.heap.size; omega)).trans hcY5, (((Below.refl _ w5).alloc (Nat.le_refl _) _).cell (p := ⟨F.P, k, none⟩) (by have := HS5.out.lo; have := HS5.out.hi; show F.P < w5.heap.size; omega)).trans hcP5⟩
                clear hK K
                try simp only [Act.put, List.setIfInBounds_toArray, List.set_cons_zero, List.set_cons_succ]
                refine ready_z (rs := [11]) (by kernel_rfl) (by simp) ?_
                refine (AllZ.cons (o := { dst := some 142, op := Op.call { callee := Callee.builtin Builtin.append, args := #[Operand.tmp 136, Operand.tmp 141], argTypes := #[34, 34] }, type := 34, pos := "talk.go:314", after := #[{ on := 5, ground := Ground.data }, { on := 10, ground := Ground.data }, { on := 9, ground := Ground.chain }], guard := none }) rfl (fun K hK => ?_) AllZ.nil)
                refine step_append_at rfl (.tmp 136) (.tmp 141) 34 rfl F.b2 36 i36 (.slice none 0 0) 1 24 Try.underlying34 hi36 hz360 hz361 hz362 rfl (by decide) (.slice wx (LL k').length wm) _ _ rfl (hwo5.alloc _) ⟨_, 0, none⟩ 1 1 [.slice a5 L.length c5] rfl rfl (cell_sl _ _ rfl _) (by simp [Value.oneCell']) (by unfold maxLen; omega) (by omega) (by simp; omega) ?_
                intro v6 W6 ho6 hg6 hat6
                obtain ⟨g6, c6, rfl, hg6b⟩ := slice_of1 ho6
                have hb6 : Below F.b2 w5 W6 := ((Below.refl _ w5).alloc hb25 _).grown hg6 (by simp; omega) (fun q hq => (hwo5.lt q hq).1)
                have hYb : F.Y < F.b2 := HLO.out.2.1
                have cY6 := (hb6.cell (p := ⟨F.Y, k', none⟩) hYb).trans hcY5
                have cP6 : W6.cell? ⟨F.P, k, none⟩ = some (.pointer (some ⟨F.p k, 0, none⟩)) := (hb6.cell (p := ⟨F.P, k, none⟩) (by have := HS5.out.lo; show F.P < F.b2; omega)).trans hcP5
                have fY6 : W6.frozen? ⟨F.Y, k', none⟩ = false := (frozen_same (hb6.block F.Y hYb)).trans hfY5
                have HSX : Hid _ := HS5.out.push hk' hcY5 hwo5 hwl HWI5.out HOC5.out (Below.refl _ w5) ho6 hg6 hat6
                refine hK.out _ _ ?_ (fun hHeld => ?_)
                · exact ⟨cY6, cP6⟩
                clear hK K
                try simp only [Act.put, List.setIfInBounds_toArray, List.set_cons_zero, List.set_cons_succ]
                refine take_z (z := 13) (i := 12) (oi := { dst := some 143, op := Op.indexAddr 35 (Operand.tmp 9) (Operand.tmp 132), type := 0, pos := "talk.go:314", after := #[{ on := 1, ground := Ground.data }, { on := 0, ground := Ground.phase }, { on := 1, ground := Ground.phase }, { on := 2, ground := Ground.phase }, { on := 3, ground := Ground.phase }, { on := 4, ground := Ground.phase }, { on := 5, ground := Ground.phase }, { on := 6, ground := Ground.phase }, { on := 7, ground := Ground.phase }, { on := 8, ground := Ground.phase }, { on := 9, ground := Ground.phase }, { on := 10, ground := Ground.phase }, { on := 11, ground := Ground.phase }], guard := none }) (v := ?_) (by kernel_rfl) (by decide) rfl (by kernel_rfl) (by kernel_rfl) (by kernel_rfl) (fun _ _ _ h => h) (Or.inl ⟨by rfl, ?_⟩) (by assumption) ?_
                case refine_2 => intro w hSw; (try dsimp only at hSw); obtain ⟨hA, hB⟩ := hSw; go_simp; (try with_reducible rfl)
                simp only [Act.put, List.setIfInBounds_toArray, List.set_cons_zero, List.set_cons_succ]
                refine ready_z (rs := [13]) (by kernel_rfl) (by simp) ?_
                refine (AllZ.last (o := { dst := none, op := Op.store 34 (Operand.tmp 143) (Operand.tmp 142), type := 0, pos := "talk.go:314", after := #[{ on := 12, ground := Ground.data }, { on := 11, ground := Ground.data }, { on := 11, ground := Ground.chain }, { on := 0, ground := Ground.phase }, { on := 1, ground := Ground.phase }, { on := 2, ground := Ground.phase }, { on := 3, ground := Ground.phase }, { on := 4, ground := Ground.phase }, { on := 5, ground := Ground.phase }, { on := 6, ground := Ground.phase }, { on := 7, ground := Ground.phase }, { on := 8, ground := Ground.phase }, { on := 9, ground := Ground.phase }, { on := 10, ground := Ground.phase }, { on := 11, ground := Ground.phase }], guard := none }) rfl (fun K hK => ?_) AllZ.nil)
                go_simp
                refine hK.out _ _ ?_
                clear hK K
                try simp only [Act.put, List.setIfInBounds_toArray, List.set_cons_zero, List.set_cons_succ]
                refine done_z (by kernel_rfl) ?_ _
                clear hb6 hg6 hat6 ho6 hwo5 cY6 cP6 fY6 hcY5 hcP5 hfY5 hcY hfY
                go_wp2_with fail
                go_meet
                case rel => exact ⟨_, _, _, HSX.out.mono (by omega) (Nat.le_refl _), HIX.out, HLX.out⟩
            by_cases h3 : o0 = 3 ∨ o0 = 4
            · as_aux_lemma =>
                have b1 : (o0 == 1) = false := by simp; omega
                have b2 : (o0 == 2) = false := by simp; omega
                clear h1 h2
                have HIX : Hid (Inv N (i + 1) es LL D la) := HI.out.mono (by omega) (fun _ h => h) (fun t h => by have := HI.out.d t h; exact ⟨this.1, this.2.1, by omega⟩)
                have HLX : Hid (∀ j, j < 2 → (LL j).length ≤ i + 1) := fun j hj => by have := HLL.out j hj; omega
                clear HLX HIX
                obtain ⟨wx, wn, wm, hcY, vs, hwo, hwl, hwi⟩ := HSC.out.wy k hk2
                have hwn : wn = (LL k).length := by
                  rcases hwo.2 with ⟨h, h'⟩ | ⟨gg, cap, cur, h, _⟩
                  · simp only [Value.slice.injEq] at h; omega
                  · simp only [Value.slice.injEq] at h; exact h.2.1
                subst hwn
                have hLk := HLL.out k hk2
                have HLX : Hid (∀ j, j < 2 → (LL j).length ≤ i + 1) := fun j hj => by have := HLL.out j hj; omega
                by_cases hem : (LL k).length = 0
                · have HIX : Hid (Inv N (i + 1) es LL D la) := HI.out.mono (by omega) (fun _ h => h) (fun t h => by have := HI.out.d t h; exact ⟨this.1, this.2.1, by omega⟩)
                  rw [hem] at hcY
                  clear hwo hwi hem hwl hLk
                  rcases h3 with h3 | h3
                  · have b3 : (o0 == 3) = true := by simp [h3]
                    clear h3
                    go_upto_region 40 with fail
                    go_quiet (fail)
                    have HSX : Hid _ := HSC.out.below (below_drewN (Below.refl _ _) nq)
                    go_wp2_with fail
                    go_meet
                    case rel => exact ⟨_, _, _, HSX.out.mono (by omega) (Nat.le_refl _), HIX.out, HLX.out⟩
                  · have b3 : (o0 == 3) = false := by simp; omega
                    have b4 : (o0 == 4) = true := by simp [h3]
                    clear h3
                    go_upto_region 40 with fail
                    go_quiet (fail)
                    have HSX : Hid _ := HSC.out.below (below_drewN (Below.refl _ _) nq)
                    go_wp2_with fail
                    go_meet
                    case rel => exact ⟨_, _, _, HSX.out.mono (by omega) (Nat.le_refl _), HIX.out, HLX.out⟩
                obtain ⟨gw, cw, hgw, hgb⟩ : ∃ gw cw, (Value.slice wx (LL k).length wm) = .slice (some ⟨gw, 0, none⟩) (LL k).length cw ∧ F.b2 ≤ gw := by
                  rcases hwo.2 with ⟨h, h'⟩ | ⟨gg, cap, cur, h, hg', _⟩
                  · omega
                  · exact ⟨gg, cap, h, hg'⟩
                simp only [Value.slice.injEq, true_and] at hgw
                obtain ⟨rfl, rfl⟩ := hgw
                obtain ⟨n0, hn0⟩ : ∃ n0, (LL k).length = n0 := ⟨_, rfl⟩
                have KC3 : ∀ w', Calls Try.prog 8 #[.int .i64 o3, .int .i64 (n0 : Int)] w' (Chose n0 w') := fun w' => choose_any o3 n0 w' (by omega) (by omega) HNN.out.1.1 HNN.out.1.2
                have HWI : Hid (∀ pk, pk < n0 → ∃ aj cj, Wc.drew.cell? ⟨gw, pk, none⟩ = some (.slice aj (LL k)[pk]!.length cj) ∧ IsT Wc.drew aj (LL k)[pk]! ∧ (∀ p, aj = some p → F.b2 ≤ p.block) ∧ Mess D (es (1 - k)) (LL k)[pk]!) := fun pk hpk => by
                  rw [← hn0] at hpk
                  have hpv : pk < vs.length := by omega
                  have hm := HI.out.msg k hk2 _ (List.getElem_mem hpk)
                  have hr := (hwi pk hpk hpv).1
                  rw [getElem!_pos (LL k) pk hpk]
                  obtain ⟨aj, cj, hvj, hij, haj⟩ := isT_own hr (by have := hm.1; omega)
                  have cW := (hwo.cellAt pk (by omega)).trans (List.getElem?_eq_getElem hpv)
                  rw [hvj] at cW
                  exact ⟨aj, cj, cW, hij.below (Below.refl _ _).drew, fun p hp => (haj p hp).1, hm⟩
                have HSD : Hid (Sm w N F es LL D la (20 * i) (40 * i) Wc.drew) := HSC.out.below (Below.refl _ _).drew
                rw [hn0] at hcY
                have hg1 : (0 : Int) < (n0 : Int) := by omega
                have hg2 : 0 < n0 := by omega
                clear hwo hwi hem hwl hLk hn0
                rcases h3 with h3 | h3
                · have b3 : (o0 == 3) = true := by simp [h3]
                  clear h3
                  go_upto_region 40 with fail
                  refine wp_region_held_drew (S := fun W => W.cell? ⟨F.Y, k, none⟩ = some (.slice (some ⟨gw, 0, none⟩) n0 wm) ∧ W.cell? ⟨F.P, k, none⟩ = some (.pointer (some ⟨F.p k, 0, none⟩)) ∧ W.cell? ⟨BB, 3, none⟩ = some (.int .i64 o3)) (by kernel_rfl) (by exact ⟨hcY, cp, x3⟩) (fun hHeld => ?_)
                  refine wpAnyH_take (i := 0) (oi := { dst := some 147, op := Op.move (Operand.tmp 15), type := 3, pos := "talk.go:316", after := #[], guard := none }) (v := ?_) rfl (by kernel_rfl) (by kernel_rfl) (by kernel_rfl) (fun _ _ _ h => h) (Or.inl ⟨by rfl, ?_⟩) (by assumption) ?_
                  case refine_2 => intro w hSw; (try dsimp only at hSw); obtain ⟨hA, hB, hC⟩ := hSw; go_simp; (try with_reducible rfl)
                  simp only [Act.put, List.setIfInBounds_toArray, List.set_cons_zero, List.set_cons_succ]
                  refine wpAnyH_take (i := 1) (oi := { dst := some 148, op := Op.indexAddr 35 (Operand.tmp 9) (Operand.tmp 147), type := 0, pos := "talk.go:316", after := #[{ on := 0, ground := Ground.data }], guard := none }) (v := ?_) rfl (by kernel_rfl) (by kernel_rfl) (by kernel_rfl) (fun _ _ _ h => h) (Or.inl ⟨by rfl, ?_⟩) (by assumption) ?_
                  case refine_2 => intro w hSw; (try dsimp only at hSw); obtain ⟨hA, hB, hC⟩ := hSw; go_simp; (try with_reducible rfl)
                  simp only [Act.put, List.setIfInBounds_toArray, List.set_cons_zero, List.set_cons_succ]
                  refine wpAnyH_take (i := 2) (oi := { dst := some 149, op := Op.load 34 (Operand.tmp 148), type := 34, pos := "talk.go:316", after := #[{ on := 1, ground := Ground.data }], guard := none }) (v := ?_) rfl (by kernel_rfl) (by kernel_rfl) (by kernel_rfl) (fun _ _ _ h => h) (Or.inl ⟨by rfl, ?_⟩) (by assumption) ?_
                  case refine_2 => intro w hSw; (try dsimp only at hSw); obtain ⟨hA, hB, hC⟩ := hSw; go_simp; (try with_reducible rfl)
                  simp only [Act.put, List.setIfInBounds_toArray, List.set_cons_zero, List.set_cons_succ]
                  refine wpAnyH_take (i := 3) (oi := { dst := some 150, op := Op.call { callee := Callee.builtin Builtin.len, args := #[Operand.tmp 149], argTypes := #[34] }, type := 3, pos := "talk.go:316", after := #[{ on := 2, ground := Ground.data }], guard := none }) (v := ?_) rfl (by kernel_rfl) (by kernel_rfl) (by kernel_rfl) (fun _ _ _ h => h) (Or.inl ⟨by rfl, ?_⟩) (by assumption) ?_
                  case refine_2 => intro w hSw; (try dsimp only at hSw); obtain ⟨hA, hB, hC⟩ := hSw; go_simp; (try with_reducible rfl)
                  simp only [Act.put, List.setIfInBounds_toArray, List.set_cons_zero, List.set_cons_succ]
                  refine wpAnyH_take (i := 4) (oi := { dst := some 151, op := Op.binOp BinOp.gtr 3 (Operand.tmp 150) (Operand.const (Value.int IntKind.i64 0)) 3, type := 4, pos := "talk.go:316", after := #[{ on := 3, ground := Ground.data }], guard := none }) (v := ?_) rfl (by kernel_rfl) (by kernel_rfl) (by kernel_rfl) (fun _ _ _ h => h) (Or.inl ⟨by rfl, ?_⟩) (by assumption) ?_
                  case refine_2 => intro w hSw; (try dsimp only at hSw); obtain ⟨hA, hB, hC⟩ := hSw; go_simp; (try with_reducible rfl)
                  simp only [Act.put, List.setIfInBounds_toArray, List.set_cons_zero, List.set_cons_succ]
                  refine wpAnyH_take (i := 5) (oi := { dst := some 152, op := Op.move (Operand.tmp 151), type := 4, pos := "talk.go:316", after := #[{ on := 4, ground := Ground.data }], guard := none }) (v := ?_) rfl (by kernel_rfl) (by kernel_rfl) (by kernel_rfl) (fun _ _ _ h => h) (Or.inl ⟨by rfl, ?_⟩) (by assumption) ?_
                  case refine_2 => intro w hSw; (try dsimp only at hSw); obtain ⟨hA, hB, hC⟩ := hSw; go_simp; (try with_reducible rfl)
                  simp only [Act.put, List.setIfInBounds_toArray, List.set_cons_zero, List.set_cons_succ]
                  refine wpAnyH_take (i := 6) (oi := { dst := some 153, op := Op.move (Operand.tmp 15), type := 3, pos := "talk.go:316", after := #[{ on := 5, ground := Ground.guard }], guard := some (5, true) }) (v := ?_) rfl (by kernel_rfl) (by kernel_rfl) (by kernel_rfl) (fun _ _ _ h => h) (Or.inl ⟨by rfl, ?_⟩) (by assumption) ?_
                  case refine_2 => intro w hSw; (try dsimp only at hSw); obtain ⟨hA, hB, hC⟩ := hSw; go_simp; (try with_reducible rfl)
                  simp only [Act.put, List.setIfInBounds_toArray, List.set_cons_zero, List.set_cons_succ]
                  refine wpAnyH_take (i := 7) (oi := { dst := some 154, op := Op.indexAddr 25 (Operand.tmp 5) (Operand.tmp 153), type := 0, pos := "talk.go:316", after := #[{ on := 6, ground := Ground.data }, { on := 5, ground := Ground.guard }], guard := some (5, true) }) (v := ?_) rfl (by kernel_rfl) (by kernel_rfl) (by kernel_rfl) (fun _ _ _ h => h) (Or.inl ⟨by rfl, ?_⟩) (by assumption) ?_
                  case refine_2 => intro w hSw; (try dsimp only at hSw); obtain ⟨hA, hB, hC⟩ := hSw; go_simp; (try with_reducible rfl)
                  simp only [Act.put, List.setIfInBounds_toArray, List.set_cons_zero, List.set_cons_succ]
                  refine wpAnyH_take (i := 8) (oi := { dst := some 155, op := Op.load 24 (Operand.tmp 154), type := 24, pos := "talk.go:316", after := #[{ on := 7, ground := Ground.data }, { on := 5, ground := Ground.guard }], guard := some (5, true) }) (v := ?_) rfl (by kernel_rfl) (by kernel_rfl) (by kernel_rfl) (fun _ _ _ h => h) (Or.inl ⟨by rfl, ?_⟩) (by assumption) ?_
                  case refine_2 => intro w hSw; (try dsimp only at hSw); obtain ⟨hA, hB, hC⟩ := hSw; go_simp; (try with_reducible rfl)
                  simp only [Act.put, List.setIfInBounds_toArray, List.set_cons_zero, List.set_cons_succ]
                  refine wpAnyH_take (i := 9) (oi := { dst := some 156, op := Op.move (Operand.tmp 15), type := 3, pos := "talk.go:316", after := #[{ on := 5, ground := Ground.guard }], guard := some (5, true) }) (v := ?_) rfl (by kernel_rfl) (by kernel_rfl) (by kernel_rfl) (fun _ _ _ h => h) (Or.inl ⟨by rfl, ?_⟩) (by assumption) ?_
                  case refine_2 => intro w hSw; (try dsimp only at hSw); obtain ⟨hA, hB, hC⟩ := hSw; go_simp; (try with_reducible rfl)
                  simp only [Act.put, List.setIfInBounds_toArray, List.set_cons_zero, List.set_cons_succ]
                  refine wpAnyH_take (i := 10) (oi := { dst := some 157, op := Op.indexAddr 35 (Operand.tmp 9) (Operand.tmp 156), type := 0, pos := "talk.go:316", after := #[{ on := 9, ground := Ground.data }, { on := 5, ground := Ground.guard }], guard := some (5, true) }) (v := ?_) rfl (by kernel_rfl) (by kernel_rfl) (by kernel_rfl) (fun _ _ _ h => h) (Or.inl ⟨by rfl, ?_⟩) (by assumption) ?_
                  case refine_2 => intro w hSw; (try dsimp only at hSw); obtain ⟨hA, hB, hC⟩ := hSw; go_simp; (try with_reducible rfl)
                  simp only [Act.put, List.setIfInBounds_toArray, List.set_cons_zero, List.set_cons_succ]
                  refine wpAnyH_take (i := 11) (oi := { dst := some 158, op := Op.load 34 (Operand.tmp 157), type := 34, pos := "talk.go:316", after := #[{ on := 10, ground := Ground.data }, { on := 5, ground := Ground.guard }], guard := some (5, true) }) (v := ?_) rfl (by kernel_rfl) (by kernel_rfl) (by kernel_rfl) (fun _ _ _ h => h) (Or.inl ⟨by rfl, ?_⟩) (by assumption) ?_
                  case refine_2 => intro w hSw; (try dsimp only at hSw); obtain ⟨hA, hB, hC⟩ := hSw; go_simp; (try with_reducible rfl)
                  simp only [Act.put, List.setIfInBounds_toArray, List.set_cons_zero, List.set_cons_succ]
                  refine wpAnyH_take (i := 12) (oi := { dst := some 159, op := Op.fieldAddr 38 (Operand.tmp 14) 3, type := 0, pos := "talk.go:316", after := #[{ on := 5, ground := Ground.guard }], guard := some (5, true) }) (v := ?_) rfl (by kernel_rfl) (by kernel_rfl) (by kernel_rfl) (fun _ _ _ h => h) (Or.inl ⟨by rfl, ?_⟩) (by assumption) ?_
                  case refine_2 => intro w hSw; (try dsimp only at hSw); obtain ⟨hA, hB, hC⟩ := hSw; go_simp; (try with_reducible rfl)
                  simp only [Act.put, List.setIfInBounds_toArray, List.set_cons_zero, List.set_cons_succ]
                  refine wpAnyH_take (i := 13) (oi := { dst := some 160, op := Op.load 3 (Operand.tmp 159), type := 3, pos := "talk.go:316", after := #[{ on := 12, ground := Ground.data }, { on := 5, ground := Ground.guard }], guard := some (5, true) }) (v := ?_) rfl (by kernel_rfl) (by kernel_rfl) (by kernel_rfl) (fun _ _ _ h => h) (Or.inl ⟨by rfl, ?_⟩) (by assumption) ?_
                  case refine_2 => intro w hSw; (try dsimp only at hSw); obtain ⟨hA, hB, hC⟩ := hSw; go_simp; (try with_reducible rfl)
                  simp only [Act.put, List.setIfInBounds_toArray, List.set_cons_zero, List.set_cons_succ]
                  refine wpAnyH_take (i := 14) (oi := { dst := some 161, op := Op.move (Operand.tmp 15), type := 3, pos := "talk.go:316", after := #[{ on := 5, ground := Ground.guard }], guard := some (5, true) }) (v := ?_) rfl (by kernel_rfl) (by kernel_rfl) (by kernel_rfl) (fun _ _ _ h => h) (Or.inl ⟨by rfl, ?_⟩) (by assumption) ?_
                  case refine_2 => intro w hSw; (try dsimp only at hSw); obtain ⟨hA, hB, hC⟩ := hSw; go_simp; (try with_reducible rfl)
                  simp only [Act.put, List.setIfInBounds_toArray, List.set_cons_zero, List.set_cons_succ]
                  refine wpAnyH_take (i := 15) (oi := { dst := some 162, op := Op.indexAddr 35 (Operand.tmp 9) (Operand.tmp 161), type := 0, pos := "talk.go:316", after := #[{ on := 14, ground := Ground.data }, { on := 5, ground := Ground.guard }], guard := some (5, true) }) (v := ?_) rfl (by kernel_rfl) (by kernel_rfl) (by kernel_rfl) (fun _ _ _ h => h) (Or.inl ⟨by rfl, ?_⟩) (by assumption) ?_
                  case refine_2 => intro w hSw; (try dsimp only at hSw); obtain ⟨hA, hB, hC⟩ := hSw; go_simp; (try with_reducible rfl)
                  simp only [Act.put, List.setIfInBounds_toArray, List.set_cons_zero, List.set_cons_succ]
                  refine wpAnyH_take (i := 16) (oi := { dst := some 163, op := Op.load 34 (Operand.tmp 162), type := 34, pos := "talk.go:316", after := #[{ on := 15, ground := Ground.data }, { on := 5, ground := Ground.guard }], guard := some (5, true) }) (v := ?_) rfl (by kernel_rfl) (by kernel_rfl) (by kernel_rfl) (fun _ _ _ h => h) (Or.inl ⟨by rfl, ?_⟩) (by assumption) ?_
                  case refine_2 => intro w hSw; (try dsimp only at hSw); obtain ⟨hA, hB, hC⟩ := hSw; go_simp; (try with_reducible rfl)
                  simp only [Act.put, List.setIfInBounds_toArray, List.set_cons_zero, List.set_cons_succ]
                  refine wpAnyH_take (i := 17) (oi := { dst := some 164, op := Op.call { callee := Callee.builtin Builtin.len, args := #[Operand.tmp 163], argTypes := #[34] }, type := 3, pos := "talk.go:316", after := #[{ on := 16, ground := Ground.data }, { on := 5, ground := Ground.guard }], guard := some (5, true) }) (v := ?_) rfl (by kernel_rfl) (by kernel_rfl) (by kernel_rfl) (fun _ _ _ h => h) (Or.inl ⟨by rfl, ?_⟩) (by assumption) ?_
                  case refine_2 => intro w hSw; (try dsimp only at hSw); obtain ⟨hA, hB, hC⟩ := hSw; go_simp; (try with_reducible rfl)
                  simp only [Act.put, List.setIfInBounds_toArray, List.set_cons_zero, List.set_cons_succ]
                  refine wpAnyH_ready (rs := [18]) (by kernel_rfl) (by simp) ?_
                  refine (AllReadyH.cons (o := { dst := some 165, op := Op.call { callee := Callee.value (Operand.func 8), args := #[Operand.tmp 160, Operand.tmp 164], argTypes := #[3, 3] }, type := 3, pos := "talk.go:316", after := #[{ on := 13, ground := Ground.data }, { on := 17, ground := Ground.data }, { on := 5, ground := Ground.chain }, { on := 5, ground := Ground.guard }], guard := some (5, true) }) rfl (fun K hK => ?_) AllReadyH.nil)
                  go_wp2_with (go_at_call 8; (with_reducible refine (KC3 _).mono ?_); rintro e wq ⟨pk, rfl, hpk, rfl⟩)
                  obtain ⟨aj, cj, hcW, hij, haj, hMj⟩ := HWI.out pk hpk
                  obtain ⟨lj, hlj⟩ : ∃ lj, (LL k)[pk]! = lj := ⟨_, rfl⟩
                  rw [hlj] at hcW hij hMj
                  have hpki : (pk : Int) < (n0 : Int) := by omega
                  have K14 := hear_sm (c := cj) HSD.out hN2 hk2 hij haj (HI.out.hearE hMj)
                  have HIX : Hid (Inv N (i + 1) (Lb.upd es k (hearAll (es k) lj)) LL D la) := (HI.out.hear hk2 hMj.2).mono (by omega) (fun _ h => h) (fun t h => by have := HI.out.d t h; exact ⟨this.1, this.2.1, by omega⟩)
                  clear hij haj hMj hlj
                  refine hK.out _ _ ?_ (fun hHeld => ?_)
                  · exact ⟨hcY, cp, x3⟩
                  clear hK K
                  try simp only [Act.put, List.setIfInBounds_toArray, List.set_cons_zero, List.set_cons_succ]
                  refine wpAnyH_take (i := 19) (oi := { dst := some 166, op := Op.indexAddr 34 (Operand.tmp 158) (Operand.tmp 165), type := 0, pos := "talk.go:316", after := #[{ on := 11, ground := Ground.data }, { on := 18, ground := Ground.data }, { on := 5, ground := Ground.guard }], guard := some (5, true) }) (v := ?_) rfl (by kernel_rfl) (by kernel_rfl) (by kernel_rfl) (fun _ _ _ h => h) (Or.inl ⟨by rfl, ?_⟩) (by assumption) ?_
                  case refine_2 => intro w hSw; (try dsimp only at hSw); obtain ⟨hA, hB, hC⟩ := hSw; go_simp; (try with_reducible rfl)
                  simp only [Act.put, List.setIfInBounds_toArray, List.set_cons_zero, List.set_cons_succ]
                  refine wpAnyH_ready (rs := [20]) (by kernel_rfl) (by simp) ?_
                  refine (AllReadyH.cons (o := { dst := some 167, op := Op.load 36 (Operand.tmp 166), type := 36, pos := "talk.go:316", after := #[{ on := 19, ground := Ground.data }, { on := 5, ground := Ground.guard }], guard := some (5, true) }) rfl (fun K hK => ?_) AllReadyH.nil)
                  go_simp
                  refine hK.out _ _ ?_ (fun hHeld => ?_)
                  · exact ⟨hcY, cp, x3⟩
                  clear hK K
                  try simp only [Act.put, List.setIfInBounds_toArray, List.set_cons_zero, List.set_cons_succ]
                  refine wpAnyH_ready (rs := [21]) (by kernel_rfl) (by simp) ?_
                  refine (AllReadyH.cons (o := { dst := some 168, op := Op.call { callee := Callee.value (Operand.func 14), args := #[Operand.tmp 155, Operand.tmp 167], argTypes := #[24, 36] }, type := 29, pos := "talk.go:316", after := #[{ on := 8, ground := Ground.data }, { on := 20, ground := Ground.data }, { on := 18, ground := Ground.chain }, { on := 5, ground := Ground.guard }], guard := some (5, true) }) rfl (fun K hK => ?_) AllReadyH.nil)
                  go_simp
                  (with_reducible refine K14.mono ?_)
                  rintro e w5 ⟨rfl, hk5, hs5⟩
                  clear K14
                  dsimp only
                  have HSX : Hid (Sm w N F (Lb.upd es k (hearAll (es k) lj)) LL D la (20 * i) (40 * i) w5) := hs5
                  have hpp : F.Y ≠ F.p k ∧ F.Y < Wc.heap.size ∧ BB ≠ F.p k := by (have := HSC.out.ords hk2; have := HSC.out.lo; have := HSC.out.hi; exact ⟨by omega, by omega, by omega⟩)
                  have cY5 := (cell_same (hk5.2 F.Y hpp.1 hpp.2.1) (q := k)).trans hcY
                  have cB5 := (cell_same (hk5.2 BB hpp.2.2 hBBc) (q := 3)).trans x3
                  have cP5 := hs5.pb k hk2
                  clear hs5 hk5
                  refine hK.out _ _ ?_ (fun hHeld => ?_)
                  · exact ⟨cY5, cP5, cB5⟩
                  clear hK K
                  try simp only [Act.put, List.setIfInBounds_toArray, List.set_cons_zero, List.set_cons_succ]
                  refine wpAnyH_take (i := 22) (oi := { dst := some 169, op := Op.binOp BinOp.neq 29 (Operand.tmp 168) (Operand.const (Value.int IntKind.i64 0)) 29, type := 4, pos := "talk.go:316", after := #[{ on := 21, ground := Ground.data }, { on := 5, ground := Ground.guard }], guard := some (5, true) }) (v := ?_) rfl (by kernel_rfl) (by kernel_rfl) (by kernel_rfl) (fun _ _ _ h => h) (Or.inl ⟨by rfl, ?_⟩) (by assumption) ?_
                  case refine_2 => intro w hSw; (try dsimp only at hSw); obtain ⟨hA, hB, hC⟩ := hSw; go_simp; (try with_reducible rfl)
                  simp only [Act.put, List.setIfInBounds_toArray, List.set_cons_zero, List.set_cons_succ]
                  refine wpAnyH_take (i := 23) (oi := { dst := some 170, op := Op.pick (Operand.tmp 152) (Operand.tmp 169) (Operand.const (Value.bool false)), type := 4, pos := "talk.go:316", after := #[{ on := 5, ground := Ground.data }, { on := 22, ground := Ground.data }], guard := none }) (v := ?_) rfl (by kernel_rfl) (by kernel_rfl) (by kernel_rfl) (fun _ _ _ h => h) (Or.inl ⟨by rfl, ?_⟩) (by assumption) ?_
                  case refine_2 => intro w hSw; (try dsimp only at hSw); obtain ⟨hA, hB, hC⟩ := hSw; go_simp; (try with_reducible rfl)
                  simp only [Act.put, List.setIfInBounds_toArray, List.set_cons_zero, List.set_cons_succ]
                  refine wpAnyH_done (by kernel_rfl) ?_ _
                  clear cY5 cB5 cP5 hcY hpp hcW
                  go_wp2_with fail
                  go_meet
                  case rel => exact ⟨_, _, _, HSX.out.mono (by omega) (Nat.le_refl _), HIX.out, HLX.out⟩
                · have b3 : (o0 == 3) = false := by simp; omega
                  have b4 : (o0 == 4) = true := by simp [h3]
                  clear h3
                  go_upto_region 40 with fail
                  refine wp_region_held_drew (S := fun W => W.cell? ⟨F.Y, k, none⟩ = some (.slice (some ⟨gw, 0, none⟩) n0 wm) ∧ W.cell? ⟨F.P, k, none⟩ = some (.pointer (some ⟨F.p k, 0, none⟩)) ∧ W.cell? ⟨BB, 3, none⟩ = some (.int .i64 o3)) (by kernel_rfl) (by exact ⟨hcY, cp, x3⟩) (fun hHeld => ?_)
                  refine wpAnyH_take (i := 0) (oi := { dst := some 147, op := Op.move (Operand.tmp 15), type := 3, pos := "talk.go:316", after := #[], guard := none }) (v := ?_) rfl (by kernel_rfl) (by kernel_rfl) (by kernel_rfl) (fun _ _ _ h => h) (Or.inl ⟨by rfl, ?_⟩) (by assumption) ?_
                  case refine_2 => intro w hSw; (try dsimp only at hSw); obtain ⟨hA, hB, hC⟩ := hSw; go_simp; (try with_reducible rfl)
                  simp only [Act.put, List.setIfInBounds_toArray, List.set_cons_zero, List.set_cons_succ]
                  refine wpAnyH_take (i := 1) (oi := { dst := some 148, op := Op.indexAddr 35 (Operand.tmp 9) (Operand.tmp 147), type := 0, pos := "talk.go:316", after := #[{ on := 0, ground := Ground.data }], guard := none }) (v := ?_) rfl (by kernel_rfl) (by kernel_rfl) (by kernel_rfl) (fun _ _ _ h => h) (Or.inl ⟨by rfl, ?_⟩) (by assumption) ?_
                  case refine_2 => intro w hSw; (try dsimp only at hSw); obtain ⟨hA, hB, hC⟩ := hSw; go_simp; (try with_reducible rfl)
                  simp only [Act.put, List.setIfInBounds_toArray, List.set_cons_zero, List.set_cons_succ]
                  refine wpAnyH_take (i := 2) (oi := { dst := some 149, op := Op.load 34 (Operand.tmp 148), type := 34, pos := "talk.go:316", after := #[{ on := 1, ground := Ground.data }], guard := none }) (v := ?_) rfl (by kernel_rfl) (by kernel_rfl) (by kernel_rfl) (fun _ _ _ h => h) (Or.inl ⟨by rfl, ?_⟩) (by assumption) ?_
                  case refine_2 => intro w hSw; (try dsimp only at hSw); obtain ⟨hA, hB, hC⟩ := hSw; go_simp; (try with_reducible rfl)
                  simp only [Act.put, List.setIfInBounds_toArray, List.set_cons_zero, List.set_cons_succ]
                  refine wpAnyH_take (i := 3) (oi := { dst := some 150, op := Op.call { callee := Callee.builtin Builtin.len, args := #[Operand.tmp 149], argTypes := #[34] }, type := 3, pos := "talk.go:316", after := #[{ on := 2, ground := Ground.data }], guard := none }) (v := ?_) rfl (by kernel_rfl) (by kernel_rfl) (by kernel_rfl) (fun _ _ _ h => h) (Or.inl ⟨by rfl, ?_⟩) (by assumption) ?_
                  case refine_2 => intro w hSw; (try dsimp only at hSw); obtain ⟨hA, hB, hC⟩ := hSw; go_simp; (try with_reducible rfl)
                  simp only [Act.put, List.setIfInBounds_toArray, List.set_cons_zero, List.set_cons_succ]
                  refine wpAnyH_take (i := 4) (oi := { dst := some 151, op := Op.binOp BinOp.gtr 3 (Operand.tmp 150) (Operand.const (Value.int IntKind.i64 0)) 3, type := 4, pos := "talk.go:316", after := #[{ on := 3, ground := Ground.data }], guard := none }) (v := ?_) rfl (by kernel_rfl) (by kernel_rfl) (by kernel_rfl) (fun _ _ _ h => h) (Or.inl ⟨by rfl, ?_⟩) (by assumption) ?_
                  case refine_2 => intro w hSw; (try dsimp only at hSw); obtain ⟨hA, hB, hC⟩ := hSw; go_simp; (try with_reducible rfl)
                  simp only [Act.put, List.setIfInBounds_toArray, List.set_cons_zero, List.set_cons_succ]
                  refine wpAnyH_take (i := 5) (oi := { dst := some 152, op := Op.move (Operand.tmp 151), type := 4, pos := "talk.go:316", after := #[{ on := 4, ground := Ground.data }], guard := none }) (v := ?_) rfl (by kernel_rfl) (by kernel_rfl) (by kernel_rfl) (fun _ _ _ h => h) (Or.inl ⟨by rfl, ?_⟩) (by assumption) ?_
                  case refine_2 => intro w hSw; (try dsimp only at hSw); obtain ⟨hA, hB, hC⟩ := hSw; go_simp; (try with_reducible rfl)
                  simp only [Act.put, List.setIfInBounds_toArray, List.set_cons_zero, List.set_cons_succ]
                  refine wpAnyH_take (i := 6) (oi := { dst := some 153, op := Op.move (Operand.tmp 15), type := 3, pos := "talk.go:316", after := #[{ on := 5, ground := Ground.guard }], guard := some (5, true) }) (v := ?_) rfl (by kernel_rfl) (by kernel_rfl) (by kernel_rfl) (fun _ _ _ h => h) (Or.inl ⟨by rfl, ?_⟩) (by assumption) ?_
                  case refine_2 => intro w hSw; (try dsimp only at hSw); obtain ⟨hA, hB, hC⟩ := hSw; go_simp; (try with_reducible rfl)
                  simp only [Act.put, List.setIfInBounds_toArray, List.set_cons_zero, List.set_cons_succ]
                  refine wpAnyH_take (i := 7) (oi := { dst := some 154, op := Op.indexAddr 25 (Operand.tmp 5) (Operand.tmp 153), type := 0, pos := "talk.go:316", after := #[{ on := 6, ground := Ground.data }, { on := 5, ground := Ground.guard }], guard := some (5, true) }) (v := ?_) rfl (by kernel_rfl) (by kernel_rfl) (by kernel_rfl) (fun _ _ _ h => h) (Or.inl ⟨by rfl, ?_⟩) (by assumption) ?_
                  case refine_2 => intro w hSw; (try dsimp only at hSw); obtain ⟨hA, hB, hC⟩ := hSw; go_simp; (try with_reducible rfl)
                  simp only [Act.put, List.setIfInBounds_toArray, List.set_cons_zero, List.set_cons_succ]
                  refine wpAnyH_take (i := 8) (oi := { dst := some 155, op := Op.load 24 (Operand.tmp 154), type := 24, pos := "talk.go:316", after := #[{ on := 7, ground := Ground.data }, { on := 5, ground := Ground.guard }], guard := some (5, true) }) (v := ?_) rfl (by kernel_rfl) (by kernel_rfl) (by kernel_rfl) (fun _ _ _ h => h) (Or.inl ⟨by rfl, ?_⟩) (by assumption) ?_
                  case refine_2 => intro w hSw; (try dsimp only at hSw); obtain ⟨hA, hB, hC⟩ := hSw; go_simp; (try with_reducible rfl)
                  simp only [Act.put, List.setIfInBounds_toArray, List.set_cons_zero, List.set_cons_succ]
                  refine wpAnyH_take (i := 9) (oi := { dst := some 156, op := Op.move (Operand.tmp 15), type := 3, pos := "talk.go:316", after := #[{ on := 5, ground := Ground.guard }], guard := some (5, true) }) (v := ?_) rfl (by kernel_rfl) (by kernel_rfl) (by kernel_rfl) (fun _ _ _ h => h) (Or.inl ⟨by rfl, ?_⟩) (by assumption) ?_
                  case refine_2 => intro w hSw; (try dsimp only at hSw); obtain ⟨hA, hB, hC⟩ := hSw; go_simp; (try with_reducible rfl)
                  simp only [Act.put, List.setIfInBounds_toArray, List.set_cons_zero, List.set_cons_succ]
                  refine wpAnyH_take (i := 10) (oi := { dst := some 157, op := Op.indexAddr 35 (Operand.tmp 9) (Operand.tmp 156), type := 0, pos := "talk.go:316", after := #[{ on := 9, ground := Ground.data }, { on := 5, ground := Ground.guard }], guard := some (5, true) }) (v := ?_) rfl (by kernel_rfl) (by kernel_rfl) (by kernel_rfl) (fun _ _ _ h => h) (Or.inl ⟨by rfl, ?_⟩) (by assumption) ?_
                  case refine_2 => intro w hSw; (try dsimp only at hSw); obtain ⟨hA, hB, hC⟩ := hSw; go_simp; (try with_reducible rfl)
                  simp only [Act.put, List.setIfInBounds_toArray, List.set_cons_zero, List.set_cons_succ]
                  refine wpAnyH_take (i := 11) (oi := { dst := some 158, op := Op.load 34 (Operand.tmp 157), type := 34, pos := "talk.go:316", after := #[{ on := 10, ground := Ground.data }, { on := 5, ground := Ground.guard }], guard := some (5, true) }) (v := ?_) rfl (by kernel_rfl) (by kernel_rfl) (by kernel_rfl) (fun _ _ _ h => h) (Or.inl ⟨by rfl, ?_⟩) (by assumption) ?_
                  case refine_2 => intro w hSw; (try dsimp only at hSw); obtain ⟨hA, hB, hC⟩ := hSw; go_simp; (try with_reducible rfl)
                  simp only [Act.put, List.setIfInBounds_toArray, List.set_cons_zero, List.set_cons_succ]
                  refine wpAnyH_take (i := 12) (oi := { dst := some 159, op := Op.fieldAddr 38 (Operand.tmp 14) 3, type := 0, pos := "talk.go:316", after := #[{ on := 5, ground := Ground.guard }], guard := some (5, true) }) (v := ?_) rfl (by kernel_rfl) (by kernel_rfl) (by kernel_rfl) (fun _ _ _ h => h) (Or.inl ⟨by rfl, ?_⟩) (by assumption) ?_
                  case refine_2 => intro w hSw; (try dsimp only at hSw); obtain ⟨hA, hB, hC⟩ := hSw; go_simp; (try with_reducible rfl)
                  simp only [Act.put, List.setIfInBounds_toArray, List.set_cons_zero, List.set_cons_succ]
                  refine wpAnyH_take (i := 13) (oi := { dst := some 160, op := Op.load 3 (Operand.tmp 159), type := 3, pos := "talk.go:316", after := #[{ on := 12, ground := Ground.data }, { on := 5, ground := Ground.guard }], guard := some (5, true) }) (v := ?_) rfl (by kernel_rfl) (by kernel_rfl) (by kernel_rfl) (fun _ _ _ h => h) (Or.inl ⟨by rfl, ?_⟩) (by assumption) ?_
                  case refine_2 => intro w hSw; (try dsimp only at hSw); obtain ⟨hA, hB, hC⟩ := hSw; go_simp; (try with_reducible rfl)
                  simp only [Act.put, List.setIfInBounds_toArray, List.set_cons_zero, List.set_cons_succ]
                  refine wpAnyH_take (i := 14) (oi := { dst := some 161, op := Op.move (Operand.tmp 15), type := 3, pos := "talk.go:316", after := #[{ on := 5, ground := Ground.guard }], guard := some (5, true) }) (v := ?_) rfl (by kernel_rfl) (by kernel_rfl) (by kernel_rfl) (fun _ _ _ h => h) (Or.inl ⟨by rfl, ?_⟩) (by assumption) ?_
                  case refine_2 => intro w hSw; (try dsimp only at hSw); obtain ⟨hA, hB, hC⟩ := hSw; go_simp; (try with_reducible rfl)
                  simp only [Act.put, List.setIfInBounds_toArray, List.set_cons_zero, List.set_cons_succ]
                  refine wpAnyH_take (i := 15) (oi := { dst := some 162, op := Op.indexAddr 35 (Operand.tmp 9) (Operand.tmp 161), type := 0, pos := "talk.go:316", after := #[{ on := 14, ground := Ground.data }, { on := 5, ground := Ground.guard }], guard := some (5, true) }) (v := ?_) rfl (by kernel_rfl) (by kernel_rfl) (by kernel_rfl) (fun _ _ _ h => h) (Or.inl ⟨by rfl, ?_⟩) (by assumption) ?_
                  case refine_2 => intro w hSw; (try dsimp only at hSw); obtain ⟨hA, hB, hC⟩ := hSw; go_simp; (try with_reducible rfl)
                  simp only [Act.put, List.setIfInBounds_toArray, List.set_cons_zero, List.set_cons_succ]
                  refine wpAnyH_take (i := 16) (oi := { dst := some 163, op := Op.load 34 (Operand.tmp 162), type := 34, pos := "talk.go:316", after := #[{ on := 15, ground := Ground.data }, { on := 5, ground := Ground.guard }], guard := some (5, true) }) (v := ?_) rfl (by kernel_rfl) (by kernel_rfl) (by kernel_rfl) (fun _ _ _ h => h) (Or.inl ⟨by rfl, ?_⟩) (by assumption) ?_
                  case refine_2 => intro w hSw; (try dsimp only at hSw); obtain ⟨hA, hB, hC⟩ := hSw; go_simp; (try with_reducible rfl)
                  simp only [Act.put, List.setIfInBounds_toArray, List.set_cons_zero, List.set_cons_succ]
                  refine wpAnyH_take (i := 17) (oi := { dst := some 164, op := Op.call { callee := Callee.builtin Builtin.len, args := #[Operand.tmp 163], argTypes := #[34] }, type := 3, pos := "talk.go:316", after := #[{ on := 16, ground := Ground.data }, { on := 5, ground := Ground.guard }], guard := some (5, true) }) (v := ?_) rfl (by kernel_rfl) (by kernel_rfl) (by kernel_rfl) (fun _ _ _ h => h) (Or.inl ⟨by rfl, ?_⟩) (by assumption) ?_
                  case refine_2 => intro w hSw; (try dsimp only at hSw); obtain ⟨hA, hB, hC⟩ := hSw; go_simp; (try with_reducible rfl)
                  simp only [Act.put, List.setIfInBounds_toArray, List.set_cons_zero, List.set_cons_succ]
                  refine wpAnyH_ready (rs := [18]) (by kernel_rfl) (by simp) ?_
                  refine (AllReadyH.cons (o := { dst := some 165, op := Op.call { callee := Callee.value (Operand.func 8), args := #[Operand.tmp 160, Operand.tmp 164], argTypes := #[3, 3] }, type := 3, pos := "talk.go:316", after := #[{ on := 13, ground := Ground.data }, { on := 17, ground := Ground.data }, { on := 5, ground := Ground.chain }, { on := 5, ground := Ground.guard }], guard := some (5, true) }) rfl (fun K hK => ?_) AllReadyH.nil)
                  go_wp2_with (go_at_call 8; (with_reducible refine (KC3 _).mono ?_); rintro e wq ⟨pk, rfl, hpk, rfl⟩)
                  obtain ⟨aj, cj, hcW, hij, haj, hMj⟩ := HWI.out pk hpk
                  obtain ⟨lj, hlj⟩ : ∃ lj, (LL k)[pk]! = lj := ⟨_, rfl⟩
                  rw [hlj] at hcW hij hMj
                  have hpki : (pk : Int) < (n0 : Int) := by omega
                  have K14 := hear_sm (c := cj) HSD.out hN2 hk2 hij haj (HI.out.hearE hMj)
                  have HIX : Hid (Inv N (i + 1) (Lb.upd es k (hearAll (es k) lj)) LL D la) := (HI.out.hear hk2 hMj.2).mono (by omega) (fun _ h => h) (fun t h => by have := HI.out.d t h; exact ⟨this.1, this.2.1, by omega⟩)
                  clear hij haj hMj hlj
                  refine hK.out _ _ ?_ (fun hHeld => ?_)
                  · exact ⟨hcY, cp, x3⟩
                  clear hK K
                  try simp only [Act.put, List.setIfInBounds_toArray, List.set_cons_zero, List.set_cons_succ]
                  refine wpAnyH_take (i := 19) (oi := { dst := some 166, op := Op.indexAddr 34 (Operand.tmp 158) (Operand.tmp 165), type := 0, pos := "talk.go:316", after := #[{ on := 11, ground := Ground.data }, { on := 18, ground := Ground.data }, { on := 5, ground := Ground.guard }], guard := some (5, true) }) (v := ?_) rfl (by kernel_rfl) (by kernel_rfl) (by kernel_rfl) (fun _ _ _ h => h) (Or.inl ⟨by rfl, ?_⟩) (by assumption) ?_
                  case refine_2 => intro w hSw; (try dsimp only at hSw); obtain ⟨hA, hB, hC⟩ := hSw; go_simp; (try with_reducible rfl)
                  simp only [Act.put, List.setIfInBounds_toArray, List.set_cons_zero, List.set_cons_succ]
                  refine wpAnyH_ready (rs := [20]) (by kernel_rfl) (by simp) ?_
                  refine (AllReadyH.cons (o := { dst := some 167, op := Op.load 36 (Operand.tmp 166), type := 36, pos := "talk.go:316", after := #[{ on := 19, ground := Ground.data }, { on := 5, ground := Ground.guard }], guard := some (5, true) }) rfl (fun K hK => ?_) AllReadyH.nil)
                  go_simp
                  refine hK.out _ _ ?_ (fun hHeld => ?_)
                  · exact ⟨hcY, cp, x3⟩
                  clear hK K
                  try simp only [Act.put, List.setIfInBounds_toArray, List.set_cons_zero, List.set_cons_succ]
                  refine wpAnyH_ready (rs := [21]) (by kernel_rfl) (by simp) ?_
                  refine (AllReadyH.cons (o := { dst := some 168, op := Op.call { callee := Callee.value (Operand.func 14), args := #[Operand.tmp 155, Operand.tmp 167], argTypes := #[24, 36] }, type := 29, pos := "talk.go:316", after := #[{ on := 8, ground := Ground.data }, { on := 20, ground := Ground.data }, { on := 18, ground := Ground.chain }, { on := 5, ground := Ground.guard }], guard := some (5, true) }) rfl (fun K hK => ?_) AllReadyH.nil)
                  go_simp
                  (with_reducible refine K14.mono ?_)
                  rintro e w5 ⟨rfl, hk5, hs5⟩
                  clear K14
                  dsimp only
                  have HSX : Hid (Sm w N F (Lb.upd es k (hearAll (es k) lj)) LL D la (20 * i) (40 * i) w5) := hs5
                  have hpp : F.Y ≠ F.p k ∧ F.Y < Wc.heap.size ∧ BB ≠ F.p k := by (have := HSC.out.ords hk2; have := HSC.out.lo; have := HSC.out.hi; exact ⟨by omega, by omega, by omega⟩)
                  have cY5 := (cell_same (hk5.2 F.Y hpp.1 hpp.2.1) (q := k)).trans hcY
                  have cB5 := (cell_same (hk5.2 BB hpp.2.2 hBBc) (q := 3)).trans x3
                  have cP5 := hs5.pb k hk2
                  clear hs5 hk5
                  refine hK.out _ _ ?_ (fun hHeld => ?_)
                  · exact ⟨cY5, cP5, cB5⟩
                  clear hK K
                  try simp only [Act.put, List.setIfInBounds_toArray, List.set_cons_zero, List.set_cons_succ]
                  refine wpAnyH_take (i := 22) (oi := { dst := some 169, op := Op.binOp BinOp.neq 29 (Operand.tmp 168) (Operand.const (Value.int IntKind.i64 0)) 29, type := 4, pos := "talk.go:316", after := #[{ on := 21, ground := Ground.data }, { on := 5, ground := Ground.guard }], guard := some (5, true) }) (v := ?_) rfl (by kernel_rfl) (by kernel_rfl) (by kernel_rfl) (fun _ _ _ h => h) (Or.inl ⟨by rfl, ?_⟩) (by assumption) ?_
                  case refine_2 => intro w hSw; (try dsimp only at hSw); obtain ⟨hA, hB, hC⟩ := hSw; go_simp; (try with_reducible rfl)
                  simp only [Act.put, List.setIfInBounds_toArray, List.set_cons_zero, List.set_cons_succ]
                  refine wpAnyH_take (i := 23) (oi := { dst := some 170, op := Op.pick (Operand.tmp 152) (Operand.tmp 169) (Operand.const (Value.bool false)), type := 4, pos := "talk.go:316", after := #[{ on := 5, ground := Ground.data }, { on := 22, ground := Ground.data }], guard := none }) (v := ?_) rfl (by kernel_rfl) (by kernel_rfl) (by kernel_rfl) (fun _ _ _ h => h) (Or.inl ⟨by rfl, ?_⟩) (by assumption) ?_
                  case refine_2 => intro w hSw; (try dsimp only at hSw); obtain ⟨hA, hB, hC⟩ := hSw; go_simp; (try with_reducible rfl)
                  simp only [Act.put, List.setIfInBounds_toArray, List.set_cons_zero, List.set_cons_succ]
                  refine wpAnyH_done (by kernel_rfl) ?_ _
                  clear cY5 cB5 cP5 hcY hpp hcW
                  go_wp2_with fail
                  go_meet
                  case rel => exact ⟨_, _, _, HSX.out.mono (by omega) (Nat.le_refl _), HIX.out, HLX.out⟩
            as_aux_lemma =>
              have HIX : Hid (Inv N (i + 1) es LL D la) := HI.out.mono (by omega) (fun _ h => h) (fun t h => by have := HI.out.d t h; exact ⟨this.1, this.2.1, by omega⟩)
              have HLX : Hid (∀ j, j < 2 → (LL j).length ≤ i + 1) := fun j hj => by have := HLL.out j hj; omega
              have b1 : (o0 == 1) = false := by simp; omega
              have b2 : (o0 == 2) = false := by simp; omega
              have b3 : (o0 == 3) = false := by simp; omega
              have b4 : (o0 == 4) = false := by simp; omega
              have HSX : Hid (Sm w N F es LL D la (20 * i) (40 * i) Wc) := HSC.out
              clear h1 h2 h3
              go_wp2_with fail
              go_meet
              case rel => exact ⟨_, _, _, HSX.out.mono (by omega) (Nat.le_refl _), HIX.out, HLX.out⟩
          case rest =>
            as_aux_lemma =>
              obtain ⟨es', LL', D', hsc, hic, hlc⟩ := hcut
              have HSX : Hid (Sm w N F es' LL' D' la (20 * i + 20) (40 * i) wc) := hsc
              have HIX : Hid (Inv N (i + 1) es' LL' D' la) := hic
              have HLX : Hid (∀ k, k < 2 → (LL' k).length ≤ i + 1) := hlc
              have KL := looks_any hsc hic (by omega)
              clear hsc hic hlc
              go_wp2_with (go_at_call 18; (with_reducible refine KL.mono ?_); rintro e w15 ⟨rfl, la', hs5, hi5⟩; have HS5 : Hid _ := hs5; have HI5 : Hid _ := hi5)
              go_roundw
              case rel => exact ⟨i + 1, _, _, _, la', by go_num, by omega, by omega, HS5.out, HI5.out, HLX.out⟩
              case measure => simp [intOf]; omega
        · as_aux_lemma =>
            obtain ⟨ea, hea⟩ : ∃ ea, es 0 = ea := ⟨_, rfl⟩
            obtain ⟨eb, heb⟩ : ∃ eb, es 1 = eb := ⟨_, rfl⟩
            have HS0 : Hid (Sm w N F (two ea eb) LL D la (20 * i) (40 * i + 40 * 0) wr) := hst.ext hea.symm heb.symm
            have HI0 : Hid (Inv N i (two ea eb) LL D la) := HI.out.ext hea.symm heb.symm
            have HIE : Hid (Inv N i (two ea eb) LL D la) := HI0.out
            have HT0 : Hid (Turns N (two ea eb) 0 (two ea eb)) := rfl
            clear hst hiv HI hea heb HLL HO HSL
            by_cases hI1 : i < os.length
            · have hi1 : (i : Int) < (os.length : Int) := by omega
              have hi2 : ¬ (i : Int) < 300 := by omega
              go_wp2
              go_loopw [21] (fun mv W => ∃ (m : Nat) (a b : List Sl) (la' : Nat → Nat → To), mv = .int .i64 (m : Int) ∧ m ≤ 3 ∧ Sm w N F (two a b) LL D la' (20 * i) (40 * i + 40 * m) W ∧ Inv N i (two a b) LL D la' ∧ Turns N (two ea eb) m (two a b)) (fun mv _ => 3 - (intOf mv).toNat)
              case atStart => exact ⟨0, ea, eb, la, rfl, by omega, HS0.out, HI0.out, HT0.out⟩
              case round =>
                clear HS0 HI0 HT0
                obtain ⟨m, a, b, la', rfl, hm, hsm, him, htm⟩ := hrel
                have y0 := hsm.pb 0 (by omega)
                have y1 := hsm.pb 1 (by omega)
                by_cases hm3 : m < 3
                · have hm3' : (m : Int) < 3 := by omega
                  obtain ⟨cc, hcc⟩ : ∃ cc, cc = hearAll b (toldL (a.take N)) := ⟨_, rfl⟩
                  obtain ⟨dd, hdd⟩ : ∃ dd, dd = hearAll (takeS N a) (toldL (cc.take N)) := ⟨_, rfl⟩
                  obtain ⟨hE0, hE1, hi1, ht1⟩ := turn_two him htm hcc hdd
                  obtain ⟨L0, hL0⟩ : ∃ L0, toldL (a.take N) = L0 := ⟨_, rfl⟩
                  obtain ⟨L1, hL1⟩ : ∃ L1, toldL (cc.take N) = L1 := ⟨_, rfl⟩
                  rw [hL0] at hE0 hcc
                  rw [hL1] at hE1 hdd
                  have HSD : Hid (Sm w N F (two a b) LL D la' (20 * i) (40 * i + 40 * m) wr.drew) := hsm.below (Below.refl _ _).drew
                  have HE0 : Hid (hearE N L0 = 0) := hE0
                  have HE1 : Hid (hearE N L1 = 0) := hE1
                  have HI1 : Hid (Inv N i (two dd (takeS N cc)) LL D la') := hi1
                  have HT1 : Hid (Turns N (two ea eb) (m + 1) (two dd (takeS N cc))) := ht1
                  have HCC : Hid (cc = hearAll b L0) := hcc
                  have HDD : Hid (dd = hearAll (takeS N a) L1) := hdd
                  have HL0 : Hid (toldL (a.take N) = L0) := hL0
                  have HL1 : Hid (toldL (cc.take N) = L1) := hL1
                  have hpn : F.p 0 ≠ F.p 1 := by have := hsm.lo; omega
                  clear hsm him htm hE0 hE1 hi1 ht1 hcc hdd hL0 hL1
                  go_upto_region 47 with fail
                  go_region_held3 (fun W' => W'.cell? ⟨F.P, 0, none⟩ = some (.pointer (some ⟨F.p 0, 0, none⟩)) ∧ W'.cell? ⟨F.P, 1, none⟩ = some (.pointer (some ⟨F.p 1, 0, none⟩))) (go_keep) (first
                    | (go_at_call 11; (with_reducible refine (take0 HSD.out hN2 HL0.out).mono ?_); rintro e w2 ⟨q2, c2, rfl, hT2, hp2, hs2⟩; have HS2 : Hid _ := hs2; have HX2 : Hid (IsT w2 q2 L0 ∧ ∀ p, q2 = some p → F.b2 ≤ p.block) := ⟨hT2, hp2⟩; have yy0 := hs2.pb 0 (by omega); have yy1 := hs2.pb 1 (by omega); clear hs2 hT2 hp2)
                    | (go_at_call 14; (with_reducible refine (hear1' HS2.out hN2 HX2.out.1 HX2.out.2 HE0.out).mono ?_); rintro e w3 ⟨rfl, hs3⟩; have HS3 : Hid (Sm w N F (two (takeS N a) cc) LL D la' (20 * i) (40 * i + 40 * m) w3) := (by rw [HCC.out]; exact hs3); have yz0 := hs3.pb 0 (by omega); have yz1 := hs3.pb 1 (by omega); clear hs3)
                    | (go_at_call 11; (with_reducible refine (take1 HS3.out hN2 HL1.out).mono ?_); rintro e w4 ⟨q4, c4, rfl, hT4, hp4, hs4⟩; have HS4 : Hid _ := hs4; have HX4 : Hid (IsT w4 q4 L1 ∧ ∀ p, q4 = some p → F.b2 ≤ p.block) := ⟨hT4, hp4⟩; have yv0 := hs4.pb 0 (by omega); have yv1 := hs4.pb 1 (by omega); clear hs4 hT4 hp4)
                    | (go_at_call 14; (with_reducible refine (hear0 HS4.out hN2 HX4.out.1 HX4.out.2 HE1.out).mono ?_); rintro e w5 ⟨rfl, hs5⟩; have HS5 : Hid (Sm w N F (two dd (takeS N cc)) LL D la' (20 * i) (40 * i + 40 * m) w5) := (by rw [HDD.out]; exact hs5); have yu0 := hs5.pb 0 (by omega); have yu1 := hs5.pb 1 (by omega); clear hs5)
                    | (go_at_call 18; (with_reducible refine (looks_any HS5.out HI1.out (by omega)).mono ?_); rintro e w6 ⟨rfl, la6, hs6, hi6⟩; have HS6 : Hid _ := hs6; have HI6 : Hid _ := hi6; have yt0 := hs6.pb 0 (by omega); have yt1 := hs6.pb 1 (by omega); clear hs6 hi6))
                  go_wp2_with fail
                  go_roundw
                  case rel => exact ⟨m + 1, _, _, la6, by go_num, by omega, HS6.out.mono (Nat.le_refl _) (by omega), HI6.out, HT1.out⟩
                  case measure => simp [intOf]; omega
                · have hm3' : ¬ (m : Int) < 3 := by omega
                  have e3 : m = 3 := by omega
                  subst e3
                  obtain ⟨q1, q2, q3⟩ := turns_three HIE.out him htm
                  change tellL (a.take N) = tellL (b.take N) at q1
                  change toldL (a.take N) = [] at q2
                  change toldL (b.take N) = [] at q3
                  obtain ⟨L, hL⟩ : ∃ L, tellL (a.take N) = L := ⟨_, rfl⟩
                  have HQ1 : Hid (tellL (a.take N) = L) := hL
                  have HQ2 : Hid (tellL (b.take N) = L) := q1.symm.trans hL
                  have HQ3 : Hid (toldL (a.take N) = []) := q2
                  have HQ4 : Hid (toldL (b.take N) = []) := q3
                  have HSD : Hid (Sm w N F (two a b) LL D la' (20 * i) (40 * i + 40 * 3) wr.drew) := hsm.below (Below.refl _ _).drew
                  have hpn : F.p 0 ≠ F.p 1 := by have := hsm.lo; omega
                  clear hsm him htm q1 q2 q3 hL
                  go_upto_region 49 with fail
                  go_region_held3 (fun W' => W'.cell? ⟨F.P, 0, none⟩ = some (.pointer (some ⟨F.p 0, 0, none⟩)) ∧ W'.cell? ⟨F.P, 1, none⟩ = some (.pointer (some ⟨F.p 1, 0, none⟩))) (go_keep) (first
                    | (go_at_call 16; (with_reducible refine (tell0 HSD.out hN2 HQ1.out).mono ?_); rintro e w2 ⟨q2, c2, rfl, hT2, hb2⟩; have HS2 : Hid _ := HSD.out.below hb2; have HX2 : Hid (IsT w2 q2 L) := hT2; have yy0 := HS2.out.pb 0 (by omega); have yy1 := HS2.out.pb 1 (by omega); clear hT2)
                    | (go_at_call 16; (with_reducible refine (tell1 HS2.out hN2 HQ2.out).mono ?_); rintro e w3 ⟨q3, c3, rfl, hT3, hb3⟩; have HS3 : Hid _ := HS2.out.below hb3; have HX3 : Hid (IsT w3 q2 L ∧ IsT w3 q3 L) := ⟨HX2.out.below hb3, hT3⟩; have yz0 := HS3.out.pb 0 (by omega); have yz1 := HS3.out.pb 1 (by omega); clear hT3)
                    | (go_at_call 13; (with_reducible refine (same_told HX3.out.1 HX3.out.2).mono ?_); rintro e w4 ⟨rfl, hb4⟩; have HS4 : Hid _ := HS3.out.below hb4; have yv0 := HS4.out.pb 0 (by omega); have yv1 := HS4.out.pb 1 (by omega))
                    | (go_at_call 11; (with_reducible refine (take0 HS4.out hN2 HQ3.out).mono ?_); rintro e w5 ⟨q5, c5, rfl, hT5, hp5, hs5⟩; have HS5 : Hid _ := hs5; have yu0 := hs5.pb 0 (by omega); have yu1 := hs5.pb 1 (by omega); clear hs5 hT5 hp5)
                    | (go_at_call 11; (with_reducible refine (take1 HS5.out hN2 HQ4.out).mono ?_); rintro e w6 ⟨q6, c6, rfl, hT6, hp6, hs6⟩; have HS6 : Hid _ := hs6; have yt0 := hs6.pb 0 (by omega); have yt1 := hs6.pb 1 (by omega); clear hs6 hT6 hp6))
                  have hfin := HS6.out.bel
                  go_wp2_with fail
                  go_ret
                  exact ⟨rfl, hfin⟩
            · have hi1 : ¬ (i : Int) < (os.length : Int) := by omega
              go_wp2
              go_loopw [21] (fun mv W => ∃ (m : Nat) (a b : List Sl) (la' : Nat → Nat → To), mv = .int .i64 (m : Int) ∧ m ≤ 3 ∧ Sm w N F (two a b) LL D la' (20 * i) (40 * i + 40 * m) W ∧ Inv N i (two a b) LL D la' ∧ Turns N (two ea eb) m (two a b)) (fun mv _ => 3 - (intOf mv).toNat)
              case atStart => exact ⟨0, ea, eb, la, rfl, by omega, HS0.out, HI0.out, HT0.out⟩
              case round =>
                clear HS0 HI0 HT0
                obtain ⟨m, a, b, la', rfl, hm, hsm, him, htm⟩ := hrel
                have y0 := hsm.pb 0 (by omega)
                have y1 := hsm.pb 1 (by omega)
                by_cases hm3 : m < 3
                · have hm3' : (m : Int) < 3 := by omega
                  obtain ⟨cc, hcc⟩ : ∃ cc, cc = hearAll b (toldL (a.take N)) := ⟨_, rfl⟩
                  obtain ⟨dd, hdd⟩ : ∃ dd, dd = hearAll (takeS N a) (toldL (cc.take N)) := ⟨_, rfl⟩
                  obtain ⟨hE0, hE1, hi1, ht1⟩ := turn_two him htm hcc hdd
                  obtain ⟨L0, hL0⟩ : ∃ L0, toldL (a.take N) = L0 := ⟨_, rfl⟩
                  obtain ⟨L1, hL1⟩ : ∃ L1, toldL (cc.take N) = L1 := ⟨_, rfl⟩
                  rw [hL0] at hE0 hcc
                  rw [hL1] at hE1 hdd
                  have HSD : Hid (Sm w N F (two a b) LL D la' (20 * i) (40 * i + 40 * m) wr.drew) := hsm.below (Below.refl _ _).drew
                  have HE0 : Hid (hearE N L0 = 0) := hE0
                  have HE1 : Hid (hearE N L1 = 0) := hE1
                  have HI1 : Hid (Inv N i (two dd (takeS N cc)) LL D la') := hi1
                  have HT1 : Hid (Turns N (two ea eb) (m + 1) (two dd (takeS N cc))) := ht1
                  have HCC : Hid (cc = hearAll b L0) := hcc
                  have HDD : Hid (dd = hearAll (takeS N a) L1) := hdd
                  have HL0 : Hid (toldL (a.take N) = L0) := hL0
                  have HL1 : Hid (toldL (cc.take N) = L1) := hL1
                  have hpn : F.p 0 ≠ F.p 1 := by have := hsm.lo; omega
                  clear hsm him htm hE0 hE1 hi1 ht1 hcc hdd hL0 hL1
                  go_upto_region 47 with fail
                  go_region_held3 (fun W' => W'.cell? ⟨F.P, 0, none⟩ = some (.pointer (some ⟨F.p 0, 0, none⟩)) ∧ W'.cell? ⟨F.P, 1, none⟩ = some (.pointer (some ⟨F.p 1, 0, none⟩))) (go_keep) (first
                    | (go_at_call 11; (with_reducible refine (take0 HSD.out hN2 HL0.out).mono ?_); rintro e w2 ⟨q2, c2, rfl, hT2, hp2, hs2⟩; have HS2 : Hid _ := hs2; have HX2 : Hid (IsT w2 q2 L0 ∧ ∀ p, q2 = some p → F.b2 ≤ p.block) := ⟨hT2, hp2⟩; have yy0 := hs2.pb 0 (by omega); have yy1 := hs2.pb 1 (by omega); clear hs2 hT2 hp2)
                    | (go_at_call 14; (with_reducible refine (hear1' HS2.out hN2 HX2.out.1 HX2.out.2 HE0.out).mono ?_); rintro e w3 ⟨rfl, hs3⟩; have HS3 : Hid (Sm w N F (two (takeS N a) cc) LL D la' (20 * i) (40 * i + 40 * m) w3) := (by rw [HCC.out]; exact hs3); have yz0 := hs3.pb 0 (by omega); have yz1 := hs3.pb 1 (by omega); clear hs3)
                    | (go_at_call 11; (with_reducible refine (take1 HS3.out hN2 HL1.out).mono ?_); rintro e w4 ⟨q4, c4, rfl, hT4, hp4, hs4⟩; have HS4 : Hid _ := hs4; have HX4 : Hid (IsT w4 q4 L1 ∧ ∀ p, q4 = some p → F.b2 ≤ p.block) := ⟨hT4, hp4⟩; have yv0 := hs4.pb 0 (by omega); have yv1 := hs4.pb 1 (by omega); clear hs4 hT4 hp4)
                    | (go_at_call 14; (with_reducible refine (hear0 HS4.out hN2 HX4.out.1 HX4.out.2 HE1.out).mono ?_); rintro e w5 ⟨rfl, hs5⟩; have HS5 : Hid (Sm w N F (two dd (takeS N cc)) LL D la' (20 * i) (40 * i + 40 * m) w5) := (by rw [HDD.out]; exact hs5); have yu0 := hs5.pb 0 (by omega); have yu1 := hs5.pb 1 (by omega); clear hs5)
                    | (go_at_call 18; (with_reducible refine (looks_any HS5.out HI1.out (by omega)).mono ?_); rintro e w6 ⟨rfl, la6, hs6, hi6⟩; have HS6 : Hid _ := hs6; have HI6 : Hid _ := hi6; have yt0 := hs6.pb 0 (by omega); have yt1 := hs6.pb 1 (by omega); clear hs6 hi6))
                  go_wp2_with fail
                  go_roundw
                  case rel => exact ⟨m + 1, _, _, la6, by go_num, by omega, HS6.out.mono (Nat.le_refl _) (by omega), HI6.out, HT1.out⟩
                  case measure => simp [intOf]; omega
                · have hm3' : ¬ (m : Int) < 3 := by omega
                  have e3 : m = 3 := by omega
                  subst e3
                  obtain ⟨q1, q2, q3⟩ := turns_three HIE.out him htm
                  change tellL (a.take N) = tellL (b.take N) at q1
                  change toldL (a.take N) = [] at q2
                  change toldL (b.take N) = [] at q3
                  obtain ⟨L, hL⟩ : ∃ L, tellL (a.take N) = L := ⟨_, rfl⟩
                  have HQ1 : Hid (tellL (a.take N) = L) := hL
                  have HQ2 : Hid (tellL (b.take N) = L) := q1.symm.trans hL
                  have HQ3 : Hid (toldL (a.take N) = []) := q2
                  have HQ4 : Hid (toldL (b.take N) = []) := q3
                  have HSD : Hid (Sm w N F (two a b) LL D la' (20 * i) (40 * i + 40 * 3) wr.drew) := hsm.below (Below.refl _ _).drew
                  have hpn : F.p 0 ≠ F.p 1 := by have := hsm.lo; omega
                  clear hsm him htm q1 q2 q3 hL
                  go_upto_region 49 with fail
                  go_region_held3 (fun W' => W'.cell? ⟨F.P, 0, none⟩ = some (.pointer (some ⟨F.p 0, 0, none⟩)) ∧ W'.cell? ⟨F.P, 1, none⟩ = some (.pointer (some ⟨F.p 1, 0, none⟩))) (go_keep) (first
                    | (go_at_call 16; (with_reducible refine (tell0 HSD.out hN2 HQ1.out).mono ?_); rintro e w2 ⟨q2, c2, rfl, hT2, hb2⟩; have HS2 : Hid _ := HSD.out.below hb2; have HX2 : Hid (IsT w2 q2 L) := hT2; have yy0 := HS2.out.pb 0 (by omega); have yy1 := HS2.out.pb 1 (by omega); clear hT2)
                    | (go_at_call 16; (with_reducible refine (tell1 HS2.out hN2 HQ2.out).mono ?_); rintro e w3 ⟨q3, c3, rfl, hT3, hb3⟩; have HS3 : Hid _ := HS2.out.below hb3; have HX3 : Hid (IsT w3 q2 L ∧ IsT w3 q3 L) := ⟨HX2.out.below hb3, hT3⟩; have yz0 := HS3.out.pb 0 (by omega); have yz1 := HS3.out.pb 1 (by omega); clear hT3)
                    | (go_at_call 13; (with_reducible refine (same_told HX3.out.1 HX3.out.2).mono ?_); rintro e w4 ⟨rfl, hb4⟩; have HS4 : Hid _ := HS3.out.below hb4; have yv0 := HS4.out.pb 0 (by omega); have yv1 := HS4.out.pb 1 (by omega))
                    | (go_at_call 11; (with_reducible refine (take0 HS4.out hN2 HQ3.out).mono ?_); rintro e w5 ⟨q5, c5, rfl, hT5, hp5, hs5⟩; have HS5 : Hid _ := hs5; have yu0 := hs5.pb 0 (by omega); have yu1 := hs5.pb 1 (by omega); clear hs5 hT5 hp5)
                    | (go_at_call 11; (with_reducible refine (take1 HS5.out hN2 HQ4.out).mono ?_); rintro e w6 ⟨q6, c6, rfl, hT6, hp6, hs6⟩; have HS6 : Hid _ := hs6; have yt0 := hs6.pb 0 (by omega); have yt1 := hs6.pb 1 (by omega); clear hs6 hT6 hp6))
                  have hfin := HS6.out.bel
                  go_wp2_with fail
                  go_ret
                  exact ⟨rfl, hfin⟩
    · omega
end Go.Proofs.Ytmhgoddlbklbfaa.Ms
