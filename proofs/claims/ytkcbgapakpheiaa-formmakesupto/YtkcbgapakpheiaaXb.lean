/- The program's Check of a lexicon: what the document says. No conditions beyond how it lies. -/
import Derived.Test.YtkcbgapakpheiaaXa
import Derived.Test.YtkcbgapakpheiaaCk2
namespace Go.Proofs.Ytkcbgapakpheiaa.Xb
open Go.RowKit Go.Shelf Sd Md Sc Aq Ls Lx Ly Lz

theorem manyB_mk (k : Int) (a : List St) (b : List Ce) (c : List Ch) (n1 n2 n3 : Nat) (h1 : a.length = n1) (h2 : b.length = n2) (h3 : c.length = n3) : Lex.manyB ⟨k, a, b, c⟩ = (decide (40 < n1) || decide (20 < n2) || decide (3 < n3) || decide (k < 1) || decide (4 < k)) := by
  subst h1 h2 h3
  rfl

set_option maxHeartbeats 4000000 in
set_option maxRecDepth 100000 in
theorem check_any (y : VX) (w : World) (h : IsX w y) : Calls Try.prog 10 #[y.val] w fun e w' => e = .returned (.int .i64 (checkX y.lex)) ∧ Below w.heap.size w w' := by
  have hb : ∀ o, Below w.heap.size w (w.alloc o) := fun o => (Below.refl _ _).alloc (Nat.le_refl _) _
  have c21 := fun o => tooLong_any y (w.alloc o) (h.below (hb o))
  have c22 := fun W (hW : Below w.heap.size w W) => Xa.outOfRange_any y W (h.below hW)
  obtain ⟨k, vs, vc, vh, sts, ces, xs⟩ := y
  have HX : Hid (IsL w vh xs) := h.h
  obtain ⟨aS, cs, hv, _, _⟩ := IsR.len h.s
  dsimp only at hv
  subst hv
  obtain ⟨ac, cc, hv, _, _⟩ := IsR.len h.c
  dsimp only at hv
  subst hv
  obtain ⟨ah, ch, hv, _, hm⟩ := h.h.len
  dsimp only at hv hm
  subst hv
  have hmb : (VX.lex ⟨k, .slice aS sts.length cs, .slice ac ces.length cc, .slice ah xs.length ch, sts, ces, xs⟩).manyB = (decide (40 < sts.length) || decide (20 < ces.length) || decide (3 < xs.length) || decide (k < 1) || decide (4 < k)) := manyB_mk k _ _ _ _ _ _ (List.length_map ..) (List.length_map ..) (chs_length xs)
  have hkk : (VX.lex ⟨k, .slice aS sts.length cs, .slice ac ces.length cc, .slice ah xs.length ch, sts, ces, xs⟩).kinds = k := rfl
  have hch : (VX.lex ⟨k, .slice aS sts.length cs, .slice ac ces.length cc, .slice ah xs.length ch, sts, ces, xs⟩).chg = chs xs := rfl
  unfold checkX
  rw [hmb, hkk, hch]
  simp only [VX.val] at c21 c22 ⊢
  generalize (VX.lex ⟨k, .slice aS sts.length cs, .slice ac ces.length cc, .slice ah xs.length ch, sts, ces, xs⟩).longB = rl at c21 ⊢
  generalize (VX.lex ⟨k, .slice aS sts.length cs, .slice ac ces.length cc, .slice ah xs.length ch, sts, ces, xs⟩).farB = rf at c22 ⊢
  clear h hmb hkk hch
  by_cases h1 : (40 : Int) < (sts.length : Int)
  · rw [show (decide (40 < sts.length) || decide (20 < ces.length) || decide (3 < xs.length) || decide (k < 1) || decide (4 < k)) = true from by simp [show 40 < sts.length by omega], if_pos rfl]
    go_enter Try.func10, Try.ntmps10
    go_wp2
    go_ret
    exact ⟨rfl, hb _⟩
  have d1 : decide ((40 : Int) < (sts.length : Int)) = false := decide_eq_false h1
  by_cases h2 : (20 : Int) < (ces.length : Int)
  · rw [show (decide (40 < sts.length) || decide (20 < ces.length) || decide (3 < xs.length) || decide (k < 1) || decide (4 < k)) = true from by simp [show 20 < ces.length by omega], if_pos rfl]
    go_enter Try.func10, Try.ntmps10
    go_wp2
    go_ret
    exact ⟨rfl, hb _⟩
  have d2 : decide ((20 : Int) < (ces.length : Int)) = false := decide_eq_false h2
  by_cases h3 : (3 : Int) < (xs.length : Int)
  · rw [show (decide (40 < sts.length) || decide (20 < ces.length) || decide (3 < xs.length) || decide (k < 1) || decide (4 < k)) = true from by simp [show 3 < xs.length by omega], if_pos rfl]
    go_enter Try.func10, Try.ntmps10
    go_wp2
    go_ret
    exact ⟨rfl, hb _⟩
  have d3 : decide ((3 : Int) < (xs.length : Int)) = false := decide_eq_false h3
  by_cases h4 : k < 1
  · rw [show (decide (40 < sts.length) || decide (20 < ces.length) || decide (3 < xs.length) || decide (k < 1) || decide (4 < k)) = true from by simp [h4], if_pos rfl]
    go_enter Try.func10, Try.ntmps10
    go_wp2
    go_ret
    exact ⟨rfl, hb _⟩
  have d4 : decide (k < 1) = false := decide_eq_false h4
  by_cases h5 : 4 < k
  · rw [show (decide (40 < sts.length) || decide (20 < ces.length) || decide (3 < xs.length) || decide (k < 1) || decide (4 < k)) = true from by simp [h5], if_pos rfl]
    go_enter Try.func10, Try.ntmps10
    go_wp2
    go_ret
    exact ⟨rfl, hb _⟩
  have d5 : decide (4 < k) = false := decide_eq_false h5
  rw [show (decide (40 < sts.length) || decide (20 < ces.length) || decide (3 < xs.length) || decide (k < 1) || decide (4 < k)) = false from by
    rw [decide_eq_false (by omega), decide_eq_false (by omega), decide_eq_false (by omega), d4, d5]; rfl, if_neg (by simp)]
  have x1 : decide (40 < sts.length) = false := decide_eq_false (by omega)
  have x2 : decide (20 < ces.length) = false := decide_eq_false (by omega)
  have x3 : decide (3 < xs.length) = false := decide_eq_false (by omega)
  cases rl with
  | true =>
    rw [if_pos rfl]
    go_enter Try.func10, Try.ntmps10
    go_wp2_with (go_at_call 21; refine (c21 _).mono ?_; rintro e w1 ⟨rfl, hb1⟩)
    go_ret
    exact ⟨rfl, (hb _).trans (hb1.mono (hb _).size)⟩
  | false =>
    rw [if_neg (by simp)]
    have A21 : ∀ w1 : World, Below (w.alloc (.cells #[.int .i64 k, .slice aS sts.length cs, .slice ac ces.length cc, .slice ah xs.length ch] 26)).heap.size (w.alloc (.cells #[.int .i64 k, .slice aS sts.length cs, .slice ac ces.length cc, .slice ah xs.length ch] 26)) w1 → w1.cell? ⟨w.heap.size, 0, none⟩ = some (.int .i64 k) ∧ w1.cell? ⟨w.heap.size, 1, none⟩ = some (.slice aS sts.length cs) ∧ w1.cell? ⟨w.heap.size, 2, none⟩ = some (.slice ac ces.length cc) ∧ w1.cell? ⟨w.heap.size, 3, none⟩ = some (.slice ah xs.length ch) := by
      intro w1 hb1
      refine ⟨?_, ?_, ?_, ?_⟩ <;> (rw [hb1.cell (by simp)]; simp)
    cases rf with
    | true =>
      rw [if_pos rfl]
      go_enter Try.func10, Try.ntmps10
      go_wp2_with (first | (go_at_call 21; refine (c21 _).mono ?_; rintro e w1 ⟨rfl, hb1⟩; obtain ⟨p0, p1, p2, p3⟩ := A21 _ hb1; have B1 := (hb _).trans (hb1.mono (hb _).size)) | (go_at_call 22; refine (c22 _ B1).mono ?_; rintro e w2 ⟨rfl, hb2⟩))
      go_ret
      exact ⟨rfl, B1.trans (hb2.mono B1.size)⟩
    | false =>
      rw [if_neg (by simp)]
      obtain ⟨fx, hfx⟩ : ∃ z, firstX k (chs xs) = z := ⟨_, rfl⟩
      rw [hfx]
      have HFX : Hid (firstX k (chs xs) = fx) := hfx
      clear hfx
      go_enter Try.func10, Try.ntmps10
      go_wp2_with (first | (go_at_call 21; refine (c21 _).mono ?_; rintro e w1 ⟨rfl, hb1⟩; obtain ⟨p0, p1, p2, p3⟩ := A21 _ hb1; have B1 := (hb _).trans (hb1.mono (hb _).size)) | (go_at_call 22; refine (c22 _ B1).mono ?_; rintro e w2 ⟨rfl, hb2⟩; have B2 := B1.trans (hb2.mono B1.size); have b12 := hb1.trans (hb2.mono hb1.size); obtain ⟨r0, r1, r2, r3⟩ := A21 _ b12))
      have HB12 : Hid (Below (w.heap.size + 1) (w.alloc (.cells #[.int .i64 k, .slice aS sts.length cs, .slice ac ces.length cc, .slice ah xs.length ch] 26)) w2) := by
        have := b12
        rw [World.size_alloc] at this
        exact this
      clear c21 c22 hb1 hb2 B1 B2 b12 p0 p1 p2 p3
      go_loopw [34] (fun i wr => ∃ j : Nat, i = .int .i64 j ∧ j ≤ xs.length ∧ Below (w.heap.size + 1) (w.alloc (.cells #[.int .i64 k, .slice aS sts.length cs, .slice ac ces.length cc, .slice ah xs.length ch] 26)) wr ∧ Hid (∀ i (hi : i < (chs xs).length), i < j → oneX k (chs xs)[i] = 0)) (fun i _ => xs.length - (intOf i).toNat)
      case atStart => exact ⟨0, rfl, by omega, HB12, fun j _ h => by omega⟩
      case round =>
        clear HB12 r0 r1 r2 r3
        obtain ⟨j, rfl, hj, hbw, hall⟩ := hrel
        have hsz := hbw.size
        simp only [World.size_alloc] at hsz
        have hbT : Below w.heap.size w wr := (hb _).trans (hbw.mono (by omega))
        have hLr := HX.out.below (Nat.le_refl _) hbT
        have g0 : wr.cell? ⟨w.heap.size, 0, none⟩ = some (.int .i64 k) := by rw [hbw.cell (by show w.heap.size < w.heap.size + 1; omega)]; simp
        by_cases hlt : j < xs.length
        · obtain ⟨b, off, rfl⟩ : ∃ b o, ah = some ⟨b, o, none⟩ := by
            rcases hLr.shape with ⟨_, _, _, e⟩ | ⟨b', o', c', hv, _⟩
            · rw [e] at hlt
              simp at hlt
            · simp only [Value.slice.injEq] at hv
              exact ⟨b', o', hv.1⟩
          obtain ⟨hbl, q0, q1, q2, q3, q4, hC, hs⟩ := change_cells hLr j hlt
          have hst := firstX_at (k0 := k) (l := chs xs) (k := j) (by rw [chs_length]; exact hlt)
          rw [chs_at xs j hlt] at hst
          have hcj := chs_at xs j hlt
          obtain ⟨x, hx⟩ : ∃ x, xs[j] = x := ⟨_, rfl⟩
          rw [hx] at q0 q1 q2 q3 q4 hC hs hst hcj
          have hbo : ∀ o, Below wr.heap.size wr (wr.alloc o) := fun o => (Below.refl _ _).alloc (Nat.le_refl _) _
          have con23 := fun o => Ck2.check_any x (wr.alloc o) (hC.below (Nat.le_refl _) (hbo o)) hs
          have HF : Hid (fx = if oneX k x.c = 0 then firstX k ((chs xs).drop (j + 1)) else oneX k x.c) := HFX.out.symm.trans ((firstX_drop hall.out).trans hst)
          have HN : Hid (oneX k x.c = 0 → ∀ i (hi : i < (chs xs).length), i < j + 1 → oneX k (chs xs)[i] = 0) := by
            intro h0 i hi hij
            by_cases e : i < j
            · exact hall.out i hi e
            · obtain rfl : i = j := by omega
              rw [hcj]
              exact h0
          clear hst hcj hx hall hs
          obtain ⟨⟨kk, frm, to, left, right⟩, vf, vt, vl, vr, ls, rs⟩ := x
          obtain ⟨_, _, hf, ht, hls, hrs, _⟩ := hC
          dsimp only at q0 q1 q2 q3 q4 hf ht hls hrs con23 HF HN
          obtain ⟨af, cf, hv, _, _⟩ := hf.len
          subst hv
          obtain ⟨at', ct, hv, _, _⟩ := ht.len
          subst hv
          obtain ⟨al, cl, hv, _, _⟩ := hls.len
          subst hv
          obtain ⟨ar, cr, hv, _, _⟩ := hrs.len
          subst hv
          simp only [VC.val] at con23
          clear hf ht hls hrs hLr
          have hone : oneX k ⟨kk, frm, to, left, right⟩ = if check ⟨kk, frm, to, left, right⟩ = 0 then (if kk = k then 0 else 1) else check ⟨kk, frm, to, left, right⟩ := rfl
          rw [hone] at HF HN
          clear hone
          have K2 : ∀ w2 : World, Below (wr.alloc (.cells #[.int .i64 kk, .slice af frm.length cf, .slice at' to.length ct, .slice al ls.length cl, .slice ar rs.length cr] 58)).heap.size (wr.alloc (.cells #[.int .i64 kk, .slice af frm.length cf, .slice at' to.length ct, .slice al ls.length cl, .slice ar rs.length cr] 58)) w2 → w2.cell? ⟨wr.heap.size, 0, none⟩ = some (.int .i64 kk) ∧ w2.cell? ⟨w.heap.size, 0, none⟩ = some (.int .i64 k) ∧ Below (w.heap.size + 1) (w.alloc (.cells #[.int .i64 k, .slice aS sts.length cs, .slice ac ces.length cc, .slice (some ⟨b, off, none⟩) xs.length ch] 26)) w2 := by
            intro w2 hb2
            refine ⟨?_, ?_, (hbw.trans ((hbo _).mono (by omega))).trans (hb2.mono (by simp; omega))⟩
            · rw [hb2.cell (by simp)]; simp
            · exact ((hb2.cell (p := ⟨w.heap.size, 0, none⟩) (by simp; omega)).trans ((hbo _).cell (p := ⟨w.heap.size, 0, none⟩) (by show w.heap.size < _; omega))).trans g0
          by_cases hc : check ⟨kk, frm, to, left, right⟩ = 0
          · rw [hc] at con23
            rw [if_pos hc] at HF HN
            by_cases hk : kk = k
            · have HN2 : Hid (∀ i (hi : i < (chs xs).length), i < j + 1 → oneX k (chs xs)[i] = 0) := HN.out (if_pos hk)
              subst hk
              clear HN HF hc
              go_wp2_with (go_at_call 23; refine (con23 _).mono ?_; rintro e w2 ⟨rfl, hb2⟩; obtain ⟨u0, u1, u2⟩ := K2 _ hb2)
              go_roundw
              case rel => exact ⟨j + 1, by go_num, by omega, u2, HN2⟩
              case measure => simp [intOf]; omega
            · have HR : Hid (fx = 1) := by
                show _ = _
                rw [HF.out, if_neg hk, if_neg (by omega)]
              have dk : (kk == k) = false := by simpa using hk
              have dk2 : (kk != k) = true := by simpa using hk
              clear HN HF hc
              go_wp2_with (go_at_call 23; refine (con23 _).mono ?_; rintro e w2 ⟨rfl, hb2⟩; obtain ⟨u0, u1, u2⟩ := K2 _ hb2)
              go_ret
              exact ⟨by rw [HR.out]; rfl, (hb _).trans (u2.mono (by omega))⟩
          · rw [if_neg hc] at HF
            have HR : Hid (fx = check ⟨kk, frm, to, left, right⟩) := by
              show _ = _
              rw [HF.out, if_neg hc]
            have hne : (check ⟨kk, frm, to, left, right⟩ == 0) = false := by simpa using hc
            generalize check ⟨kk, frm, to, left, right⟩ = r at con23 hne HR
            clear HN HF hc
            go_wp2_with (go_at_call 23; refine (con23 _).mono ?_; rintro e w2 ⟨rfl, hb2⟩; obtain ⟨u0, u1, u2⟩ := K2 _ hb2)
            go_ret
            exact ⟨by rw [HR.out]; rfl, (hb _).trans (u2.mono (by omega))⟩
        · have HR : Hid (fx = 0) := by
            show _ = _
            rw [← HFX.out, firstX_drop (k := j) hall.out, List.drop_of_length_le (by rw [chs_length]; omega)]
            rfl
          clear hall hLr
          go_wp2
          go_ret
          exact ⟨by rw [HR.out]; rfl, hbT⟩
end Go.Proofs.Ytkcbgapakpheiaa.Xb
