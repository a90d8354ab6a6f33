/- The program's checkAll, walked. No conditions beyond how the changes lie. -/
import Derived.Test.YtkcbgapakpheiaaCa
namespace Go.Proofs.Ytkcbgapakpheiaa.Cb
open Go.RowKit Go.Shelf Sd Md Sc Aq Ls Ca

set_option maxHeartbeats 4000000 in
set_option maxRecDepth 100000 in
theorem checkAll_any (v : Value) (xs : List VC) (w : World) (h : IsL w v xs) : Calls Try.prog 48 #[v] w fun e w' => e = .returned (.int .i64 (checks (chs xs))) ∧ Below w.heap.size w w' := by
  have hb : ∀ o, Below w.heap.size w (w.alloc o) := fun o => (Below.refl _ _).alloc (Nat.le_refl _) _
  obtain ⟨a, cap, hv, _, hm⟩ := h.len
  subst hv
  by_cases h3 : (3 : Int) < (xs.length : Int)
  · rw [show checks (chs xs) = 7 from by unfold checks; rw [if_pos (by rw [chs_length]; omega)]]
    clear h
    go_enter Try.func48, Try.ntmps48
    go_wp2
    go_ret
    exact ⟨rfl, hb _⟩
  have HL : Hid (IsL w (.slice a xs.length cap) xs) := h
  have HC : Hid (checks (chs xs) = if firstE (chs xs) = 0 then (if otherK (chs xs) then 7 else 0) else firstE (chs xs)) := by
    show _ = _
    unfold checks
    rw [if_neg (by rw [chs_length]; omega)]
  have d3 : decide ((3 : Int) < (xs.length : Int)) = false := decide_eq_false h3
  clear h
  go_enter Try.func48, Try.ntmps48
  go_wp2
  go_loopw [11] (fun i wr => ∃ k : Nat, i = .int .i64 k ∧ k ≤ xs.length ∧ Below (w.heap.size + 1) (w.alloc (.cells #[.slice a xs.length cap] 24)) wr ∧ Hid (∀ j (hj : j < (chs xs).length), j < k → check (chs xs)[j] = 0)) (fun i _ => xs.length - (intOf i).toNat)
  case atStart => exact ⟨0, rfl, by omega, Below.refl _ _, fun j _ h => by omega⟩
  case round =>
    obtain ⟨k, rfl, hk, hbw, hall⟩ := hrel
    have hsz := hbw.size
    simp only [World.size_alloc] at hsz
    have hbT : Below w.heap.size w wr := (hb _).trans (hbw.mono (by omega))
    have g0 : wr.cell? ⟨w.heap.size, 0, none⟩ = some (.slice a xs.length cap) := by rw [hbw.cell (by show w.heap.size < w.heap.size + 1; omega)]; simp
    have hLr := HL.out.below (Nat.le_refl _) hbT
    by_cases hlt : k < xs.length
    · obtain ⟨b, off, rfl⟩ : ∃ b o, a = some ⟨b, o, none⟩ := by
        rcases hLr.shape with ⟨_, _, _, e⟩ | ⟨b', o', c', hv, _⟩
        · rw [e] at hlt
          simp at hlt
        · simp only [Value.slice.injEq] at hv
          exact ⟨b', o', hv.1⟩
      obtain ⟨hbl, q0, q1, q2, q3, q4, hC, hs⟩ := change_cells hLr k hlt
      have hst := firstE_at (l := chs xs) (k := k) (by rw [chs_length]; exact hlt)
      rw [chs_at xs k hlt] at hst
      have hch := chs_at xs k hlt
      obtain ⟨x, hx⟩ : ∃ x, xs[k] = x := ⟨_, rfl⟩
      rw [hx] at q0 q1 q2 q3 q4 hC hs hst hch
      have hbo : ∀ o, Below wr.heap.size wr (wr.alloc o) := fun o => (Below.refl _ _).alloc (Nat.le_refl _) _
      have con8 := fun o => Ck2.check_any x (wr.alloc o) (hC.below (Nat.le_refl _) (hbo o)) hs
      have HF : Hid (firstE (chs xs) = if check x.c = 0 then firstE ((chs xs).drop (k + 1)) else check x.c) := (firstE_drop hall.out).trans hst
      have HN : Hid (check x.c = 0 → ∀ j (hj : j < (chs xs).length), j < k + 1 → check (chs xs)[j] = 0) := by
        intro h0 j hj hjk
        by_cases e : j < k
        · exact hall.out j hj e
        · obtain rfl : j = k := by omega
          rw [hch]
          exact h0
      clear hst hch hx hall hs
      obtain ⟨⟨kk, frm, to, left, right⟩, vf, vt, vl, vr, ls, rs⟩ := x
      obtain ⟨_, _, hf, ht, hls, hrs, _⟩ := hC
      dsimp only at q0 q1 q2 q3 q4 hf ht hls hrs con8 HF HN
      obtain ⟨af, cf, hv, _, _⟩ := hf.len
      subst hv
      obtain ⟨at', ct, hv, _, _⟩ := ht.len
      subst hv
      obtain ⟨al, cl, hv, _, _⟩ := hls.len
      subst hv
      obtain ⟨ar, cr, hv, _, _⟩ := hrs.len
      subst hv
      simp only [VC.val] at con8
      clear hf ht hls hrs hLr
      by_cases hc : check ⟨kk, frm, to, left, right⟩ = 0
      · have HN2 : Hid (∀ j (hj : j < (chs xs).length), j < k + 1 → check (chs xs)[j] = 0) := HN.out hc
        rw [hc] at con8
        clear HN HF hc
        go_wp2_with (go_at_call 23; refine (con8 _).mono ?_; rintro e w2 ⟨rfl, hb2⟩)
        go_roundw
        case rel => exact ⟨k + 1, by go_num, by omega, (hbw.trans ((hbo _).mono (by omega))).trans (hb2.mono (by simp; omega)), HN2⟩
        case measure => simp [intOf]; omega
      · have HR : Hid (checks (chs xs) = check ⟨kk, frm, to, left, right⟩) := by
          have e : firstE (chs xs) = check ⟨kk, frm, to, left, right⟩ := by rw [HF.out, if_neg hc]
          show _ = _
          rw [HC.out, if_neg (by rw [e]; exact hc), e]
        have hne : (check ⟨kk, frm, to, left, right⟩ == 0) = false := by simpa using hc
        generalize check ⟨kk, frm, to, left, right⟩ = r at con8 hne HR
        clear HN HF hc
        go_wp2_with (go_at_call 23; refine (con8 _).mono ?_; rintro e w2 ⟨rfl, hb2⟩)
        go_ret
        exact ⟨by rw [HR.out]; rfl, (hbT.trans ((hbo _).mono (by omega))).trans (hb2.mono (by simp; omega))⟩
    · have hf0 : firstE (chs xs) = 0 := by
        rw [firstE_drop (k := k) hall.out, List.drop_of_length_le (by rw [chs_length]; omega)]
        rfl
      have hce : checks (chs xs) = if otherK (chs xs) then 7 else 0 := by rw [HC.out, if_pos hf0]
      clear hall hf0
      by_cases h0 : xs.length = 0
      · have HR : Hid (checks (chs xs) = 0) := by
          show _ = _
          rw [hce, List.length_eq_zero_iff.1 h0]
          rfl
        simp only [h0] at g0
        clear hLr hce
        go_wp2
        go_ret
        exact ⟨by rw [HR.out]; rfl, hbT⟩
      · have hpos : 0 < xs.length := by omega
        obtain ⟨b, off, rfl⟩ : ∃ b o, a = some ⟨b, o, none⟩ := by
          rcases hLr.shape with ⟨_, _, _, e⟩ | ⟨b', o', c', hv, _⟩
          · rw [e] at hpos
            simp at hpos
          · simp only [Value.slice.injEq] at hv
            exact ⟨b', o', hv.1⟩
        have con35 := anyOther xs b off cap w.heap.size wr hLr hpos (by omega) g0
        obtain ⟨r, hr⟩ : ∃ r, otherK (chs xs) = r := ⟨_, rfl⟩
        rw [hr] at con35 hce
        have HR : Hid (checks (chs xs) = if r then 7 else 0) := hce
        have hpi : (0 : Int) < (xs.length : Int) := by omega
        clear hLr hce hr h0
        cases r with
        | true =>
          go_wp2_with (go_at_call 60; refine con35.mono ?_; rintro e w2 ⟨rfl, hb2⟩)
          go_ret
          exact ⟨by rw [HR.out]; rfl, hbT.trans (hb2.mono hbT.size)⟩
        | false =>
          go_wp2_with (go_at_call 60; refine con35.mono ?_; rintro e w2 ⟨rfl, hb2⟩)
          go_ret
          exact ⟨by rw [HR.out]; rfl, hbT.trans (hb2.mono hbT.size)⟩
end Go.Proofs.Ytkcbgapakpheiaa.Cb
