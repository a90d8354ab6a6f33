/- The document's here: whether a change turns what stands in a text from a place on. Conditions: the change is right; what was written, and the text, are at most 1000 symbols. -/
import Derived.Test.YtkcbgapakpheiaaHp
import Derived.Test.YtkcbgapakpheiaaWi
import Derived.Test.YtkcbgapakpheiaaBx
import Derived.Deep.CutRange
import Derived.Deep.DeepCutAuto
namespace Go.Proofs.Ytkcbgapakpheiaa.He
open Go.RowKit Go.Shelf Sd Md Sc Wi Bx Tu Hp

theorem wrapN {x : Int} {m : Nat} (h : x = (m : Int)) (hm : m ≤ 1000000) : IntKind.i64.wrap x = (m : Int) := by
  rw [IntKind.wrap_i64, h]
  omega

set_option maxHeartbeats 4000000 in
set_option maxRecDepth 100000 in
theorem here_any (x : VC) (vo vx : Value) (out text : List Int) (p : Nat) (w : World) (h : IsC w x) (hg : Sd.Good x.c) (ho : IsI w vo out) (hx : IsI w vx text) (hp : p < text.length) (hol : out.length ≤ 1000) (htl : text.length ≤ 1000) :
    Calls Try.prog 30 #[x.val, vo, vx, .int .i64 p] w fun e w' => e = .returned (.bool (here x.c out (text.drop p))) ∧ Below w.heap.size w w' := by
  obtain ⟨⟨kk, frm, tt, left, right⟩, vf, vt, vl, vr, ls, rs⟩ := x
  have f1 := hg.f1
  have f2 := hg.f2
  have l2 := hg.l2
  have r1 := hg.r1
  have hleft := rleft_left hg out
  obtain ⟨hl, hr, hf, ht, hls, hrs, _⟩ := h
  dsimp only at hl hr hf ht hls hrs f1 f2 l2 r1 hleft
  subst hl hr
  rw [sps_length] at l2 r1
  simp only [VC.val, here]
  rw [← hleft]
  rcases hf.shape with ⟨_, _, _, e⟩ | ⟨bf, of, cf, hv, hltf, hnf, hmf, _, hcf⟩
  · rw [e] at f1
    simp at f1
  subst hv
  rcases hx.shape with ⟨_, _, _, e⟩ | ⟨bx, ox, cx, hv, hltx, hnx, hmx, _, hcx⟩
  · rw [e] at hp
    simp at hp
  subst hv
  obtain ⟨al, cl, hv, _, _⟩ := hls.len
  subst hv
  obtain ⟨ar, cr, hv, _, _⟩ := hrs.len
  subst hv
  obtain ⟨av, cv, hv, _, _⟩ := ht.len
  subst hv
  obtain ⟨ao, co, hv, _, _⟩ := ho.len
  subst hv
  have hb : ∀ o, Below w.heap.size w (w.alloc o) := fun o => (Below.refl _ _).alloc (Nat.le_refl _) _
  have bx0 := Box.new w kk (.slice (some ⟨bf, of, none⟩) frm.length cf) (.slice av tt.length cv) (.slice al ls.length cl) (.slice ar rs.length cr)
  have HO : Hid (IsI w (.slice ao out.length co) out) := ho
  have HL : Hid (IsS w (.slice al ls.length cl) ls) := hls
  have HR : Hid (IsS w (.slice ar rs.length cr) rs) := hrs
  have HB : Hid (1 ≤ frm.length ∧ frm.length ≤ 2 ∧ ls.length ≤ 2 ∧ rs.length ≤ 1 ∧ out.length ≤ 1000 ∧ text.length ≤ 1000 ∧ p < text.length) := ⟨f1, f2, l2, r1, hol, htl, hp⟩
  obtain ⟨rest, hrest⟩ : ∃ rest, text.drop p = rest := ⟨_, rfl⟩
  have hrl : rest.length = text.length - p := by rw [← hrest, List.length_drop]
  have hgd : ∀ k, rest.getD k 0 = text.getD (p + k) 0 := fun k => by rw [← hrest]; exact getD_drop text p k
  rw [hrest]
  have HRL : Hid (rest.length = text.length - p ∧ ∀ k, rest.getD k 0 = text.getD (p + k) 0) := ⟨hrl, hgd⟩
  have hcx' : ∀ j, j < text.length → ∀ W, Below w.heap.size w W → W.cell? ⟨bx, ox + j, none⟩ = some (.int .i64 (text.getD j 0)) := fun j hj W hW => (hW.cell (p := ⟨bx, ox + j, none⟩) hltx).trans (hcx j hj)
  have hcf' : ∀ j, j < frm.length → ∀ W, Below w.heap.size w W → W.cell? ⟨bf, of + j, none⟩ = some (.int .i64 (frm.getD j 0)) := fun j hj W hW => (hW.cell (p := ⟨bf, of + j, none⟩) hltf).trans (hcf j hj)
  have HCX : Hid (∀ j, j < text.length → ∀ W, Below w.heap.size w W → W.cell? ⟨bx, ox + j, none⟩ = some (.int .i64 (text.getD j 0))) := hcx'
  have HCF : Hid (∀ j, j < frm.length → ∀ W, Below w.heap.size w W → W.cell? ⟨bf, of + j, none⟩ = some (.int .i64 (frm.getD j 0))) := hcf'
  clear hf hx hls hrs ho ht hcf hcx hcx' hcf' hrest hrl hgd hg hleft f1 f2 l2 r1 hol htl hp
  go_enter Try.func30, Try.ntmps30
  go_wp2
  go_loopw [9] (fun i wr => ∃ k : Nat, i = .int .i64 k ∧ k ≤ frm.length ∧ Below (w.heap.size + 1) (w.alloc (.cells #[.int .i64 kk, .slice (some ⟨bf, of, none⟩) frm.length cf, .slice av tt.length cv, .slice al ls.length cl, .slice ar rs.length cr] 58)) wr ∧ Hid (upTo frm rest k)) (fun i _ => frm.length - (intOf i).toNat)
  case atStart => exact ⟨0, rfl, by omega, Below.refl _ _, upTo_zero _ _⟩
  case round =>
    obtain ⟨k, rfl, hk, hbw, hall⟩ := hrel
    have hbT : Below w.heap.size w wr := (hb _).trans (hbw.mono (by omega))
    have hbx := bx0.below (by simpa using hbw)
    have g1 := hbx.g1
    by_cases hlt : k < frm.length
    · have hbb := HB.out
      have hrr := HRL.out.1
      obtain ⟨m, hm⟩ : ∃ m, p + k = m := ⟨_, rfl⟩
      have hwm : IntKind.i64.wrap ((p : Int) + (k : Int)) = (m : Int) := wrapN (by omega) (by omega)
      by_cases he : (text.length : Int) ≤ (m : Int)
      · have HF : Hid (pre frm rest = false) := pre_false (by omega)
        clear hbb hrr hall hm
        go_wp2
        go_quiet (fail)
        go_wp2
        go_ret
        exact ⟨by rw [HF.out]; rfl, below_drewN' hbT _⟩
      · have hpk : m < text.length := by omega
        have dle : decide ((text.length : Int) ≤ (m : Int)) = false := decide_eq_false he
        have cx1 := HCX.out m hpk wr hbT
        have cf1 := HCF.out k hlt wr hbT
        have hgk := HRL.out.2 k
        rw [hm] at hgk
        obtain ⟨y, hy⟩ : ∃ y, text.getD m 0 = y := ⟨_, rfl⟩
        obtain ⟨z, hz⟩ : ∃ z, frm.getD k 0 = z := ⟨_, rfl⟩
        rw [hy] at cx1 hgk
        rw [hz] at cf1
        by_cases hyz : y = z
        · have HN : Hid (upTo frm rest (k + 1)) := upTo_step hall.out hlt (by omega) (by rw [hgk, hz, hyz])
          subst hyz
          clear hbb hrr hall hgk hy hz hm
          go_wp2
          go_quiet (fail)
          go_wp2
          go_roundw
          case rel => exact ⟨k + 1, by go_num, by omega, below_drewN' hbw _, HN⟩
          case measure => simp [intOf]; omega
        · have HF : Hid (pre frm rest = false) := pre_ne hlt (by rw [hgk, hz]; exact hyz)
          have dn : (y == z) = false := by simpa using hyz
          have dn2 : (y != z) = true := by simpa using hyz
          have dn3 : decide (y = z) = false := decide_eq_false hyz
          clear hbb hrr hall hgk hy hz hm
          go_wp2
          go_quiet (fail)
          go_wp2
          go_ret
          exact ⟨by rw [HF.out]; rfl, below_drewN' hbT _⟩
    · have hke : k = frm.length := by omega
      subst hke
      have HPT : Hid (pre frm rest = true) := upTo_end hall.out
      have HUL : Hid (frm.length ≤ rest.length) := hall.out.2
      have HBW : Hid (Below (w.heap.size + 1) (w.alloc (.cells #[.int .i64 kk, .slice (some ⟨bf, of, none⟩) frm.length cf, .slice av tt.length cv, .slice al ls.length cl, .slice ar rs.length cr] 58)) wr) := hbw
      clear hall hbx hbT hbw
      go_wp2
      go_loopw [10] (fun i wr => ∃ k : Nat, i = .int .i64 k ∧ k ≤ ls.length ∧ Below (w.heap.size + 1) (w.alloc (.cells #[.int .i64 kk, .slice (some ⟨bf, of, none⟩) frm.length cf, .slice av tt.length cv, .slice al ls.length cl, .slice ar rs.length cr] 58)) wr ∧ Hid (rleft (sps ls) out = rleft ((sps ls).drop k) out)) (fun i _ => ls.length - (intOf i).toNat)
      case atStart => exact ⟨0, rfl, by omega, HBW, rfl⟩
      case round =>
        clear g1 HBW
        obtain ⟨j, rfl, hj, hbw, hall⟩ := hrel
        have hbT : Below w.heap.size w wr := (hb _).trans (hbw.mono (by omega))
        have hbx := bx0.below (by simpa using hbw)
        have g1 := hbx.g1
        have g3 := hbx.g3
        have g4 := hbx.g4
        by_cases hlt : j < ls.length
        · obtain ⟨bl, ol, rfl⟩ : ∃ bl ol, al = some ⟨bl, ol, none⟩ := by
            rcases HL.out.shape with ⟨_, _, _, e⟩ | ⟨b', o', c', hv, _⟩
            · rw [e] at hlt
              simp at hlt
            · simp only [Value.slice.injEq] at hv
              exact ⟨b', o', hv.1⟩
          obtain ⟨hlb, s0, s1, hu⟩ := spot_cells (HL.out.below (Nat.le_refl _) hbT) j hlt
          have hstep := sps_drop ls j hlt
          obtain ⟨⟨u, s⟩, hus⟩ : ∃ p, ls[j] = p := ⟨_, rfl⟩
          rw [hus] at s0 s1 hu hstep
          dsimp only at s0 s1 hu hstep
          have hpos : (out.length : Int) - ((((sps ls).drop (j + 1)).length : Int) + 1) = (out.length : Int) - (ls.length : Int) + (j : Int) := by rw [List.length_drop, sps_length]; omega
          have hcase : rleft ((sps ls).drop j) out = (rfit s out ((out.length : Int) - (ls.length : Int) + (j : Int)) && rleft ((sps ls).drop (j + 1)) out) := by rw [hstep, rleft_cons, hpos]
          have hbb := HB.out
          have con40 := fun n y => among_any u s.any y (wr.drewN n) (hu.below (Nat.le_refl _) (below_drewN' (Below.refl _ _) n))
          obtain ⟨au, cu, hv, _, _⟩ := hu.len
          subst hv
          clear hu hstep hpos hus
          by_cases hlow : (out.length : Int) - (ls.length : Int) + (j : Int) < -1
          · have hE : (out.length : Int) - (ls.length : Int) + (j : Int) = -2 := by omega
            have HF : Hid (rleft (sps ls) out = false) := by
              show _ = _
              rw [hall.out, hcase, rfit_low hlow, Bool.false_and]
            clear hall hcase hlow hbb
            go_wp2
            go_quiet (fail)
            go_wp2
            go_ret
            exact ⟨by rw [HF.out, Bool.and_false]; rfl, below_drewN' hbT _⟩
          · by_cases hed : (out.length : Int) - (ls.length : Int) + (j : Int) = -1
            · have hE := hed
              rw [hed, rfit_edge] at hcase
              obtain ⟨ed, hedd⟩ : ∃ b, s.edge = b := ⟨_, rfl⟩
              rw [hedd] at hcase s1
              cases ed with
              | false =>
                have HF : Hid (rleft (sps ls) out = false) := by
                  show _ = _
                  rw [hall.out, hcase, Bool.false_and]
                clear hall hcase hlow hbb hed hedd
                go_wp2
                go_quiet (fail)
                go_wp2
                go_ret
                exact ⟨by rw [HF.out, Bool.and_false]; rfl, below_drewN' hbT _⟩
              | true =>
                have HN : Hid (rleft (sps ls) out = rleft ((sps ls).drop (j + 1)) out) := by
                  show _ = _
                  rw [hall.out, hcase, Bool.true_and]
                have hl47 : ls.length ≤ 140737488355328 := by omega
                clear hall hcase hlow hbb hed hedd
                go_wp2
                go_quiet (fail)
                go_wp2
                go_roundw
                case rel => exact ⟨j + 1, by go_num, by omega, below_drewN' hbw _, HN⟩
                case measure => simp [intOf]; omega
            · obtain ⟨m, hm⟩ : ∃ m : Nat, (out.length : Int) - (ls.length : Int) + (j : Int) = m := ⟨((out.length : Int) - (ls.length : Int) + (j : Int)).toNat, by omega⟩
              have hml : m < out.length := by omega
              rw [hm, rfit_in] at hcase
              obtain ⟨bo, oo, hao, co1⟩ : ∃ bo oo, ao = some ⟨bo, oo, none⟩ ∧ wr.cell? ⟨bo, oo + m, none⟩ = some (.int .i64 (out.getD m 0)) := by
                rcases (HO.out.below (Nat.le_refl _) hbT).shape with ⟨_, _, _, e⟩ | ⟨b', o', c', hv, _, _, _, _, hc⟩
                · rw [e] at hml
                  simp at hml
                · simp only [Value.slice.injEq] at hv
                  exact ⟨b', o', hv.1, hc m hml⟩
              subst hao
              obtain ⟨y, hy⟩ : ∃ y, out.getD m 0 = y := ⟨_, rfl⟩
              rw [hy] at hcase co1
              have con := fun n => con40 n y
              obtain ⟨r, hr⟩ : ∃ r, s.any.contains y = r := ⟨_, rfl⟩
              rw [hr] at hcase con
              have dA : decide ((m : Int) < -1) = false := decide_eq_false (by omega)
              have dB : ((m : Int) == -1) = false := by simp
              have dC : decide ((0 : Int) ≤ (m : Int)) = true := decide_eq_true (by omega)
              have hl47 : ls.length ≤ 140737488355328 := by omega
              have HCS : Hid (rleft ((sps ls).drop j) out = (r && rleft ((sps ls).drop (j + 1)) out)) := hcase
              clear hcase hlow hbb hed hy hr con40
              cases r with
              | false =>
                have HF : Hid (rleft (sps ls) out = false) := by
                  show _ = _
                  rw [hall.out, HCS.out, Bool.false_and]
                clear hall HCS
                go_wp2
                go_quiet ((go_at_call 53; refine Calls.quiet_of_same (con _)))
                go_wp2
                go_ret
                exact ⟨by rw [HF.out, Bool.and_false]; rfl, below_drewN' hbT _⟩
              | true =>
                have HN : Hid (rleft (sps ls) out = rleft ((sps ls).drop (j + 1)) out) := by
                  show _ = _
                  rw [hall.out, HCS.out, Bool.true_and]
                clear hall HCS
                go_wp2
                go_quiet ((go_at_call 53; refine Calls.quiet_of_same (con _)))
                go_wp2
                go_roundw
                case rel => exact ⟨j + 1, by go_num, by omega, below_drewN' hbw _, HN⟩
                case measure => simp [intOf]; omega
        · have HLT : Hid (rleft (sps ls) out = true) := by
            show _ = _
            rw [hall.out, List.drop_of_length_le (by rw [sps_length]; omega)]
            rfl
          clear hall
          have hbb := HB.out
          have hr01 : rs.length = 0 ∨ rs.length = 1 := by omega
          rcases hr01 with e0 | e1
          · have HRT : Hid (rightB (sps rs) rest frm.length = true) := by
              show _ = _
              rw [List.length_eq_zero_iff.1 e0]
              rfl
            simp only [e0] at g4
            clear hbb
            go_wp2
            go_ret
            exact ⟨by rw [HPT.out, HLT.out, HRT.out]; rfl, hbT⟩
          · obtain ⟨⟨u, s⟩, hrs⟩ : ∃ q, rs = [q] := List.length_eq_one_iff.1 e1
            obtain ⟨br, or', rfl⟩ : ∃ b o, ar = some ⟨b, o, none⟩ := by
              rcases HR.out.shape with ⟨_, _, _, e⟩ | ⟨b', o', c', hv, _⟩
              · rw [e] at e1
                simp at e1
              · simp only [Value.slice.injEq] at hv
                exact ⟨b', o', hv.1⟩
            obtain ⟨_, s0, s1, hu⟩ := spot_cells (HR.out.below (Nat.le_refl _) hbT) 0 (by omega)
            have hge : rs[0]'(by omega) = (u, s) := by simp [hrs]
            rw [hge] at s0 s1 hu
            dsimp only at s0 s1 hu
            rw [Nat.zero_mul, Nat.add_zero] at s0 s1
            obtain ⟨m, hm⟩ : ∃ m, p + frm.length = m := ⟨_, rfl⟩
            have hmi : (p : Int) + (frm.length : Int) = (m : Int) := by omega
            have hrr := HRL.out
            have hright : rightB (sps rs) rest frm.length = if rest.length = frm.length then s.edge else s.any.contains (text.getD m 0) := by
              rw [hrs]
              show rightB [s] rest frm.length = _
              rw [right_one s rest frm.length HUL.out, hrr.2, hm]
            have con40 := fun n y => among_any u s.any y (wr.drewN n) (hu.below (Nat.le_refl _) (below_drewN' (Below.refl _ _) n))
            obtain ⟨au, cu, hv, _, _⟩ := hu.len
            subst hv
            simp only [e1] at g4
            have hul := HUL.out
            by_cases hend : (m : Int) = (text.length : Int)
            · rw [if_pos (by omega)] at hright
              have HRT : Hid (rightB (sps rs) rest frm.length = s.edge) := hright
              have dE : ((m : Int) == (text.length : Int)) = true := by simpa using hend
              have hmb : m ≤ 140737488355328 := by omega
              clear hbb hrr hright hm hul hend con40
              go_wp2
              go_ret
              exact ⟨by rw [HPT.out, HLT.out, HRT.out]; rfl, hbT⟩
            · rw [if_neg (by omega)] at hright
              have hml : m < text.length := by omega
              have cm := HCX.out m hml wr hbT
              obtain ⟨y, hy⟩ : ∃ y, text.getD m 0 = y := ⟨_, rfl⟩
              rw [hy] at hright cm
              have con := fun n => con40 n y
              obtain ⟨r, hr⟩ : ∃ r, s.any.contains y = r := ⟨_, rfl⟩
              rw [hr] at hright con
              have HRT : Hid (rightB (sps rs) rest frm.length = r) := hright
              have dE : ((m : Int) == (text.length : Int)) = false := by simpa using hend
              have dE2 : decide (m = text.length) = false := decide_eq_false (by omega)
              have dE3 : (m == text.length) = false := by simpa using (show ¬ m = text.length by omega)
              have dE4 : ¬ m = text.length := by omega
              clear hbb hrr hright hm hul con40 hy hr
              go_wp2
              go_quiet ((go_at_call 53; refine Calls.quiet_of_same (con _)))
              go_wp2
              go_ret
              exact ⟨by rw [HPT.out, HLT.out, HRT.out]; rfl, below_drewN' hbT _⟩
end Go.Proofs.Ytkcbgapakpheiaa.He
