/- The program's turns: whether a change turns what is to be read. Conditions: From is not empty; what was written and what is to be read are at most 1000 symbols. -/
import Derived.Test.YtkcbgapakpheiaaFi
import Derived.Test.YtkcbgapakpheiaaIe
namespace Go.Proofs.Ytkcbgapakpheiaa.Tu
open Go.RowKit Go.Shelf Sd Md Sc Fi

theorem isI_take {w : World} {b off cap : Nat} {l : List Int} {n : Nat} (h : IsI w (.slice (some ⟨b, off, none⟩) l.length cap) l) (hn : n ≤ l.length) : IsI w (.slice (some ⟨b, off, none⟩) n cap) (l.take n) := by
  obtain ⟨hl, a, c, hv, hc, hm, hz, hx⟩ := h
  simp only [Value.slice.injEq, true_and] at hv
  obtain ⟨rfl, rfl⟩ := hv
  have e : (l.take n).length = n := by rw [List.length_take]; omega
  refine ⟨by simp [ints], some ⟨b, off, none⟩, cap, by rw [e], by omega, by omega, fun h => (by cases h), ?_⟩
  rcases hx with hx | ⟨b', o', e', hlt, hx⟩
  · exact .inl (by omega)
  · simp only [Option.some.injEq, Addr.mk.injEq, and_true] at e'
    obtain ⟨rfl, rfl⟩ := e'
    refine .inr ⟨b, off, rfl, hlt, fun j u hu => hx j u ?_⟩
    simp only [ints, List.map_take, List.getElem?_take] at hu ⊢
    split at hu
    · exact hu
    · cases hu

theorem leftB_cons (s : Sp) (l : List Sp) (out : List Int) : leftB (s :: l) out = (fits s out ((out.length : Int) - ((l.length : Int) + 1)) && leftB l out) := rfl
theorem rightB_cons (s : Sp) (l : List Sp) (text : List Int) (k : Nat) : rightB (s :: l) text k = (fits s text k && rightB l text (k + 1)) := rfl
theorem sps_drop (ls : List VS) (k : Nat) (hk : k < ls.length) : (sps ls).drop k = (ls[k]).2 :: (sps ls).drop (k + 1) := by
  rw [List.drop_eq_getElem_cons (by simpa [sps] using hk)]
  simp [sps]
theorem sps_length (ls : List VS) : (sps ls).length = ls.length := by simp [sps]

/-- what a round over spots finds -/
theorem spot_cells {w : World} {b off cap : Nat} {ls : List VS} (h : IsS w (.slice (some ⟨b, off, none⟩) ls.length cap) ls) (k : Nat) (hk : k < ls.length) :
    b < w.heap.size ∧ w.cell? ⟨b, off + k * 2, none⟩ = some (ls[k]).1 ∧ w.cell? ⟨b, off + k * 2 + 1, none⟩ = some (.bool (ls[k]).2.edge) ∧ IsI w (ls[k]).1 (ls[k]).2.any := by
  rcases h.shape with ⟨a, c, _, e⟩ | ⟨b', o', c', hv, hlt, _, _, _, hc⟩
  · rw [e] at hk
    simp at hk
  · simp only [Value.slice.injEq, Option.some.injEq, Addr.mk.injEq, and_true, true_and] at hv
    obtain ⟨⟨rfl, rfl⟩, rfl⟩ := hv
    have u := vscs_at ls k hk
    refine ⟨hlt, hc _ _ u.1, ?_, h.2 _ (List.getElem_mem hk)⟩
    rw [Nat.add_assoc]
    exact hc _ _ u.2

theorem pre_false {f text : List Int} (h : text.length < f.length) : pre f text = false := by
  unfold pre
  refine decide_eq_false fun e => ?_
  have := congrArg List.length e
  rw [List.length_take] at this
  omega
theorem pre_eq (f text : List Int) : pre f text = (text.take f.length == f) := by
  unfold pre
  cases h : (text.take f.length == f) with
  | true => exact decide_eq_true (by simpa using h)
  | false => exact decide_eq_false (by simpa using h)

set_option maxHeartbeats 4000000 in
theorem turns_any (x : VC) (vo vx : Value) (out text : List Int) (w : World) (h : IsC w x) (ho : IsI w vo out) (hx : IsI w vx text) (hf1 : 0 < x.c.frm.length) (ht1 : 0 < text.length) (hol : out.length ≤ 1000) (htl : text.length ≤ 1000) (hfl : x.c.frm.length ≤ 1000) (hll : x.ls.length ≤ 1000) (hrl : x.rs.length ≤ 1000) :
    Calls Try.prog 62 #[x.val, vo, vx] w fun e w' => e = .returned (.bool (here x.c out text)) ∧ Below w.heap.size w w' := by
  obtain ⟨⟨kk, frm, to, left, right⟩, vf, vt, vl, vr, ls, rs⟩ := x
  obtain ⟨hl, hr, hf, ht, hls, hrs, _⟩ := h
  dsimp only at hl hr hf ht hls hrs hf1 hfl hll hrl
  subst hl hr
  have hb : ∀ o, Below w.heap.size w (w.alloc o) := fun o => (Below.refl _ _).alloc (Nat.le_refl _) _
  simp only [VC.val, here]
  rcases hf.shape with ⟨_, _, _, e⟩ | ⟨bf, of, cf, hv, hltf, hnf, hmf, _, hcf⟩
  · rw [e] at hf1
    simp at hf1
  subst hv
  rcases hx.shape with ⟨_, _, _, e⟩ | ⟨bx, ox, cx, hv, hltx, hnx, hmx, _, hcx⟩
  · rw [e] at ht1
    simp at ht1
  subst hv
  obtain ⟨al, cl, hv, _, _⟩ := hls.len
  subst hv
  obtain ⟨ar, cr, hv, _, _⟩ := hrs.len
  subst hv
  obtain ⟨ao, co, hv, _, _⟩ := ho.len
  subst hv
  by_cases h1 : (text.length : Int) < (frm.length : Int)
  · rw [pre_false (by omega), Bool.false_and, Bool.false_and]
    clear hf hx hls hrs ho hcf hcx ht
    go_enter Try.func62, Try.ntmps62
    go_wp2
    go_quiet (fail)
    go_wp2
    go_ret
    exact ⟨rfl, below_drewN' (hb _) _⟩
  have d1 : decide ((text.length : Int) < (frm.length : Int)) = false := decide_eq_false h1
  have hnt : frm.length ≤ text.length := by omega
  have d1' : decide (text.length < frm.length) = false := decide_eq_false (by omega)
  have con37 := fun o n => equal_any (.slice (some ⟨bx, ox, none⟩) frm.length cx) (.slice (some ⟨bf, of, none⟩) frm.length cf) (text.take frm.length) frm ((w.alloc o).drewN n)
    ((isI_take hx hnt).below (Nat.le_refl _) (below_drewN' (hb o) n)) (hf.below (Nat.le_refl _) (below_drewN' (hb o) n)) (by rw [List.length_take]; omega) hf1
  have hcx' : frm.length ≤ cx := by omega
  rw [pre_eq]
  generalize (text.take frm.length == frm) = r at con37 ⊢
  cases r with
  | false =>
    rw [Bool.false_and, Bool.false_and]
    clear hf hx hls hrs ho hcf hcx ht h1
    go_enter Try.func62, Try.ntmps62
    go_wp2
    go_quiet ((go_at_call 25; refine Calls.quiet_of (con37 _ _)))
    go_wp2
    go_ret
    exact ⟨rfl, below_drewN' (hb _) _⟩
  | true =>
    rw [Bool.true_and]
    have HO : Hid (IsI w (.slice ao out.length co) out) := ho
    have HX : Hid (IsI w (.slice (some ⟨bx, ox, none⟩) text.length cx) text) := hx
    have HL : Hid (IsS w (.slice al ls.length cl) ls) := hls
    have HR : Hid (IsS w (.slice ar rs.length cr) rs) := hrs
    have HB : Hid (out.length ≤ 1000 ∧ text.length ≤ 1000 ∧ frm.length ≤ 1000 ∧ ls.length ≤ 1000 ∧ rs.length ≤ 1000) := ⟨hol, htl, hfl, hll, hrl⟩
    clear hf hx hls hrs ho hcf hcx ht h1 hol htl hfl hll hrl
    go_enter Try.func62, Try.ntmps62
    go_wp2
    go_quiet ((go_at_call 25; refine Calls.quiet_of (con37 _ _)))
    go_wp2
    go_loopw [32] (fun i wr => ∃ k : Nat, i = .int .i64 k ∧ k ≤ ls.length ∧ Below (w.heap.size + 1) (w.alloc (.cells #[.int .i64 kk, .slice (some ⟨bf, of, none⟩) frm.length cf, vt, .slice al ls.length cl, .slice ar rs.length cr] 58)) wr ∧ Hid (leftB (sps ls) out = leftB ((sps ls).drop k) out)) (fun i _ => ls.length - (intOf i).toNat)
    case atStart => exact ⟨0, rfl, by omega, below_drewN' (Below.refl _ _) _, rfl⟩
    case round =>
      obtain ⟨k, rfl, hk, hbw, hall⟩ := hrel
      have hsz := hbw.size
      simp only [World.size_alloc] at hsz
      have hbT : Below w.heap.size w wr := (hb _).trans (hbw.mono (by omega))
      have g1 : wr.cell? ⟨w.heap.size, 1, none⟩ = some (.slice (some ⟨bf, of, none⟩) frm.length cf) := by rw [hbw.cell (by show w.heap.size < w.heap.size + 1; omega)]; simp
      have g3 : wr.cell? ⟨w.heap.size, 3, none⟩ = some (.slice al ls.length cl) := by rw [hbw.cell (by show w.heap.size < w.heap.size + 1; omega)]; simp
      have g4 : wr.cell? ⟨w.heap.size, 4, none⟩ = some (.slice ar rs.length cr) := by rw [hbw.cell (by show w.heap.size < w.heap.size + 1; omega)]; simp
      by_cases hlt : k < ls.length
      · obtain ⟨bl, ol, rfl⟩ : ∃ bl ol, al = some ⟨bl, ol, none⟩ := by
          rcases HL.out.shape with ⟨_, _, _, e⟩ | ⟨b', o', c', hv, _⟩
          · rw [e] at hlt
            simp at hlt
          · simp only [Value.slice.injEq] at hv
            exact ⟨b', o', hv.1⟩
        obtain ⟨hlb, s0, s1, hu⟩ := spot_cells (HL.out.below (Nat.le_refl _) hbT) k hlt
        have hstep := sps_drop ls k hlt
        obtain ⟨⟨u, s⟩, hus⟩ : ∃ p, ls[k] = p := ⟨_, rfl⟩
        rw [hus] at s0 s1 hu hstep
        dsimp only at s0 s1 hu hstep
        have hpos : (out.length : Int) - ((((sps ls).drop (k + 1)).length : Int) + 1) = (out.length : Int) - (ls.length : Int) + (k : Int) := by rw [List.length_drop, sps_length]; omega
        have hcase : leftB ((sps ls).drop k) out = (fits s out ((out.length : Int) - (ls.length : Int) + (k : Int)) && leftB ((sps ls).drop (k + 1)) out) := by rw [hstep, leftB_cons, hpos]
        have HC : Hid (leftB ((sps ls).drop k) out = (fits s out ((out.length : Int) - (ls.length : Int) + (k : Int)) && leftB ((sps ls).drop (k + 1)) out)) := hcase
        have hl47 : ls.length ≤ 140737488355328 := by
          have hbb := HB.out
          omega
        have hbo : ∀ o, Below wr.heap.size wr (wr.alloc o) := fun o => (Below.refl _ _).alloc (Nat.le_refl _) _
        have g3' : ∀ o, (wr.alloc o).cell? ⟨w.heap.size, 3, none⟩ = some (.slice (some ⟨bl, ol, none⟩) ls.length cl) := fun o => ((hbo o).cell (p := ⟨w.heap.size, 3, none⟩) (by show w.heap.size < _; omega)).trans g3
        have con38 := fun o => fits_any (u, s) (.slice ao out.length co) out ((out.length : Int) - (ls.length : Int) + (k : Int)) (wr.alloc o) (hu.below (Nat.le_refl _) (hbo o)) ((HO.out.below (Nat.le_refl _) hbT).below (Nat.le_refl _) (hbo o))
        dsimp only at con38
        obtain ⟨au, cu, hv, _, _⟩ := hu.len
        subst hv
        clear hu hstep hpos hcase hus
        generalize hr : fits s out ((out.length : Int) - (ls.length : Int) + (k : Int)) = r at con38 HC
        cases r with
        | false =>
          have HF : Hid (leftB (sps ls) out = false) := by
            show _ = _
            rw [hall.out, HC.out, Bool.false_and]
          clear hr HC hall
          go_wp2_with (go_at_call 64; with_reducible refine (con38 _).mono ?_; rintro e w2 ⟨rfl, hb2⟩)
          go_ret
          exact ⟨by rw [HF.out, Bool.false_and]; rfl, (hbT.trans ((hbo _).mono (by omega))).trans (hb2.mono (by simp; omega))⟩
        | true =>
          have HN : Hid (leftB (sps ls) out = leftB ((sps ls).drop (k + 1)) out) := by
            show _ = _
            rw [hall.out, HC.out, Bool.true_and]
          clear hr HC hall
          go_wp2_with (go_at_call 64; with_reducible refine (con38 _).mono ?_; rintro e w2 ⟨rfl, hb2⟩)
          go_roundw
          case rel => exact ⟨k + 1, by go_num, by omega, (hbw.trans ((hbo _).mono (by omega))).trans (hb2.mono (by simp; omega)), HN⟩
          case measure => simp [intOf]; omega
      · have HLT : Hid (leftB (sps ls) out = true) := by
          show _ = _
          rw [hall.out, List.drop_of_length_le (by rw [sps_length]; omega)]
          rfl
        have HBW : Hid (Below (w.heap.size + 1) (w.alloc (.cells #[.int .i64 kk, .slice (some ⟨bf, of, none⟩) frm.length cf, vt, .slice al ls.length cl, .slice ar rs.length cr] 58)) wr) := hbw
        clear hall hbw hbT
        go_wp2
        go_loopw [54] (fun i wq => ∃ k : Nat, i = .int .i64 k ∧ k ≤ rs.length ∧ Below (w.heap.size + 1) (w.alloc (.cells #[.int .i64 kk, .slice (some ⟨bf, of, none⟩) frm.length cf, vt, .slice al ls.length cl, .slice ar rs.length cr] 58)) wq ∧ Hid (rightB (sps rs) text frm.length = rightB ((sps rs).drop k) text (frm.length + k))) (fun i _ => rs.length - (intOf i).toNat)
        case atStart => exact ⟨0, rfl, by omega, HBW, rfl⟩
        case round =>
          clear g1 g3 g4 hsz HBW
          obtain ⟨k2, rfl, hk2, hbw, hall⟩ := hrel
          have hsz := hbw.size
          simp only [World.size_alloc] at hsz
          have hbT : Below w.heap.size w wr := (hb _).trans (hbw.mono (by omega))
          have g1 : wr.cell? ⟨w.heap.size, 1, none⟩ = some (.slice (some ⟨bf, of, none⟩) frm.length cf) := by rw [hbw.cell (by show w.heap.size < w.heap.size + 1; omega)]; simp
          by_cases hlt : k2 < rs.length
          · obtain ⟨bl, ol, rfl⟩ : ∃ bl ol, ar = some ⟨bl, ol, none⟩ := by
              rcases HR.out.shape with ⟨_, _, _, e⟩ | ⟨b', o', c', hv, _⟩
              · rw [e] at hlt
                simp at hlt
              · simp only [Value.slice.injEq] at hv
                exact ⟨b', o', hv.1⟩
            obtain ⟨hlb, s0, s1, hu⟩ := spot_cells (HR.out.below (Nat.le_refl _) hbT) k2 hlt
            have hstep := sps_drop rs k2 hlt
            obtain ⟨⟨u, s⟩, hus⟩ : ∃ p, rs[k2] = p := ⟨_, rfl⟩
            rw [hus] at s0 s1 hu hstep
            dsimp only at s0 s1 hu hstep
            have HC : Hid (rightB ((sps rs).drop k2) text (frm.length + k2) = (fits s text ((frm.length : Int) + (k2 : Int)) && rightB ((sps rs).drop (k2 + 1)) text (frm.length + (k2 + 1)))) := by
              show _ = _
              rw [hstep, rightB_cons]
              rfl
            have hl47 : rs.length ≤ 140737488355328 := by
              have hbb := HB.out
              omega
            have hbo : ∀ o, Below wr.heap.size wr (wr.alloc o) := fun o => (Below.refl _ _).alloc (Nat.le_refl _) _
            have g1' : ∀ o, (wr.alloc o).cell? ⟨w.heap.size, 1, none⟩ = some (.slice (some ⟨bf, of, none⟩) frm.length cf) := fun o => ((hbo o).cell (p := ⟨w.heap.size, 1, none⟩) (by show w.heap.size < _; omega)).trans g1
            have con38 := fun o => fits_any (u, s) (.slice (some ⟨bx, ox, none⟩) text.length cx) text ((frm.length : Int) + (k2 : Int)) (wr.alloc o) (hu.below (Nat.le_refl _) (hbo o)) ((HX.out.below (Nat.le_refl _) hbT).below (Nat.le_refl _) (hbo o))
            dsimp only at con38
            obtain ⟨au, cu, hv, _, _⟩ := hu.len
            subst hv
            clear hu hstep hus
            generalize hr : fits s text ((frm.length : Int) + (k2 : Int)) = r at con38 HC
            cases r with
            | false =>
              have HF : Hid (rightB (sps rs) text frm.length = false) := by
                show _ = _
                rw [hall.out, HC.out, Bool.false_and]
              clear hr HC hall
              go_wp2_with (go_at_call 64; with_reducible refine (con38 _).mono ?_; rintro e w2 ⟨rfl, hb2⟩)
              go_ret
              exact ⟨by rw [HF.out, Bool.and_false]; rfl, (hbT.trans ((hbo _).mono (by omega))).trans (hb2.mono (by simp; omega))⟩
            | true =>
              have HN : Hid (rightB (sps rs) text frm.length = rightB ((sps rs).drop (k2 + 1)) text (frm.length + (k2 + 1))) := by
                show _ = _
                rw [hall.out, HC.out, Bool.true_and]
              clear hr HC hall
              go_wp2_with (go_at_call 64; with_reducible refine (con38 _).mono ?_; rintro e w2 ⟨rfl, hb2⟩)
              go_roundw
              case rel => exact ⟨k2 + 1, by go_num, by omega, (hbw.trans ((hbo _).mono (by omega))).trans (hb2.mono (by simp; omega)), HN⟩
              case measure => simp [intOf]; omega
          · have HRT : Hid (rightB (sps rs) text frm.length = true) := by
              show _ = _
              rw [hall.out, List.drop_of_length_le (by rw [sps_length]; omega)]
              rfl
            clear hall
            go_wp2
            go_ret
            exact ⟨by rw [HLT.out, HRT.out]; rfl, hbT⟩
end Go.Proofs.Ytkcbgapakpheiaa.Tu
