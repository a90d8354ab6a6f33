/- The document's CheckChanges, walked. No conditions beyond how the changes lie. -/
import Derived.Test.YtjjpgnahmliblabLs
import Derived.Test.YtjjpgnahmliblabCr
namespace Go.Proofs.Ytjjpgnahmliblab.Cd
open Go.RowKit Go.Shelf Sd Md Sc Aq Ls

theorem otherK_of {l : List Ch} {k : Nat} (hk : k < l.length) (h : l[k].kinds ≠ headK l) : otherK l = true := by
  unfold otherK
  rw [List.any_eq_true]
  exact ⟨l[k], List.getElem_mem hk, by simpa using h⟩
theorem otherK_not {l : List Ch} (h : ∀ j (hj : j < l.length), l[j].kinds = headK l) : otherK l = false := by
  unfold otherK
  rw [Bool.eq_false_iff]
  intro hc
  rw [List.any_eq_true] at hc
  obtain ⟨c, hc, hk⟩ := hc
  obtain ⟨j, hj, rfl⟩ := List.getElem_of_mem hc
  simp only [bne_iff_ne, ne_eq] at hk
  exact hk (h j hj)

set_option maxHeartbeats 4000000 in
set_option maxRecDepth 100000 in
theorem checks_any (v : Value) (xs : List VC) (w : World) (h : IsL w v xs) : Calls Try.prog 27 #[v] w fun e w' => e = .returned (.int .i64 (checks (chs xs))) ∧ Below w.heap.size w w' := by
  obtain ⟨a, cap, hv, _, hm⟩ := h.len
  subst hv
  by_cases h3 : (3 : Int) < (xs.length : Int)
  · rw [show checks (chs xs) = 7 from by unfold checks; rw [if_pos (by rw [chs_length]; omega)]]
    clear h
    go_enter Try.func27, Try.ntmps27
    go_wp2
    go_ret
    exact ⟨rfl, Below.refl _ _⟩
  have HL : Hid (IsL w (.slice a xs.length cap) xs) := h
  have HC : Hid (checks (chs xs) = if firstE (chs xs) = 0 then (if otherK (chs xs) then 7 else 0) else firstE (chs xs)) := by
    show _ = _
    unfold checks
    rw [if_neg (by rw [chs_length]; omega)]
  have d3 : decide ((3 : Int) < (xs.length : Int)) = false := decide_eq_false h3
  have d3' : decide (3 < xs.length) = false := decide_eq_false (by omega)
  clear h
  go_enter Try.func27, Try.ntmps27
  go_wp2
  go_loopw [3] (fun i wr => ∃ k : Nat, i = .int .i64 k ∧ k ≤ xs.length ∧ Below w.heap.size w wr ∧ Hid (∀ j (hj : j < (chs xs).length), j < k → check (chs xs)[j] = 0)) (fun i _ => xs.length - (intOf i).toNat)
  case atStart => exact ⟨0, rfl, by omega, Below.refl _ _, fun j _ h => by omega⟩
  case round =>
    obtain ⟨k, rfl, hk, hbT, hall⟩ := hrel
    have hLr := HL.out.below (Nat.le_refl _) hbT
    by_cases hlt : k < xs.length
    · obtain ⟨b, off, rfl⟩ : ∃ b o, a = some ⟨b, o, none⟩ := by
        rcases hLr.shape with ⟨_, _, _, e⟩ | ⟨b', o', c', hv, _⟩
        · rw [e] at hlt
          simp at hlt
        · simp only [Value.slice.injEq] at hv
          exact ⟨b', o', hv.1⟩
      obtain ⟨hbl, q0, q1, q2, q3, q4, hC, hs⟩ := change_cells hLr k hlt
      have hst := firstE_at (l := chs xs) (k := k) (by rw [chs_length]; exact hlt)
      rw [chs_at xs k hlt] at hst
      have hch := chs_at xs k hlt
      obtain ⟨x, hx⟩ : ∃ x, xs[k] = x := ⟨_, rfl⟩
      rw [hx] at q0 q1 q2 q3 q4 hC hs hst hch
      have con9 := Cr.check_any x wr hC hs
      have HF : Hid (firstE (chs xs) = if check x.c = 0 then firstE ((chs xs).drop (k + 1)) else check x.c) := (firstE_drop hall.out).trans hst
      have HN : Hid (check x.c = 0 → ∀ j (hj : j < (chs xs).length), j < k + 1 → check (chs xs)[j] = 0) := by
        intro h0 j hj hjk
        by_cases e : j < k
        · exact hall.out j hj e
        · obtain rfl : j = k := by omega
          rw [hch]
          exact h0
      clear hst hch hx hall hs hC hLr
      obtain ⟨⟨kk, frm, tt, left, right⟩, vf, vt, vl, vr, ls, rs⟩ := x
      dsimp only at q0 q1 q2 q3 q4 con9 HF HN
      simp only [VC.val] at con9
      by_cases hc : check ⟨kk, frm, tt, left, right⟩ = 0
      · have HN2 : Hid (∀ j (hj : j < (chs xs).length), j < k + 1 → check (chs xs)[j] = 0) := HN.out hc
        rw [hc] at con9
        clear HN HF hc
        go_wp2_with (go_at_call 9; refine con9.mono ?_; rintro e w2 ⟨rfl, hb2⟩)
        go_roundw
        case rel => exact ⟨k + 1, by go_num, by omega, hbT.trans (hb2.mono hbT.size), HN2⟩
        case measure => simp [intOf]; omega
      · have HR : Hid (checks (chs xs) = check ⟨kk, frm, tt, left, right⟩) := by
          have e : firstE (chs xs) = check ⟨kk, frm, tt, left, right⟩ := by rw [HF.out, if_neg hc]
          show _ = _
          rw [HC.out, if_neg (by rw [e]; exact hc), e]
        have hne : (check ⟨kk, frm, tt, left, right⟩ == 0) = false := by simpa using hc
        generalize check ⟨kk, frm, tt, left, right⟩ = r at con9 hne HR
        clear HN HF hc
        go_wp2_with (go_at_call 9; refine con9.mono ?_; rintro e w2 ⟨rfl, hb2⟩)
        go_ret
        exact ⟨by rw [HR.out]; rfl, hbT.trans (hb2.mono hbT.size)⟩
    · have hf0 : firstE (chs xs) = 0 := by
        rw [firstE_drop (k := k) hall.out, List.drop_of_length_le (by rw [chs_length]; omega)]
        rfl
      have HCE : Hid (checks (chs xs) = if otherK (chs xs) then 7 else 0) := by
        show _ = _
        rw [HC.out, if_pos hf0]
      have HBT : Hid (Below w.heap.size w wr) := hbT
      clear hall hf0 hLr hbT
      go_wp2
      go_loopw [5] (fun i wr => ∃ k : Nat, i = .int .i64 k ∧ k ≤ xs.length ∧ Below w.heap.size w wr ∧ Hid (∀ j (hj : j < (chs xs).length), j < k → (chs xs)[j].kinds = headK (chs xs))) (fun i _ => xs.length - (intOf i).toNat)
      case atStart => exact ⟨0, rfl, by omega, HBT, fun j _ h => by omega⟩
      case round =>
        clear HBT
        obtain ⟨m, rfl, hm2, hbT, hall⟩ := hrel
        have hLr := HL.out.below (Nat.le_refl _) hbT
        by_cases hlt : m < xs.length
        · obtain ⟨b, off, rfl⟩ : ∃ b o, a = some ⟨b, o, none⟩ := by
            rcases hLr.shape with ⟨_, _, _, e⟩ | ⟨b', o', c', hv, _⟩
            · rw [e] at hlt
              simp at hlt
            · simp only [Value.slice.injEq] at hv
              exact ⟨b', o', hv.1⟩
          obtain ⟨_, q0, _⟩ := change_cells hLr m hlt
          obtain ⟨_, p0, _⟩ := change_cells hLr 0 (by omega)
          rw [Nat.zero_mul, Nat.add_zero] at p0
          have hch := chs_at xs m hlt
          have hhead : headK (chs xs) = (xs[0]'(by omega)).c.kinds := by
            cases xs with
            | nil => simp at hlt
            | cons x l => rfl
          obtain ⟨y, hy⟩ : ∃ y, (xs[m]).c.kinds = y := ⟨_, rfl⟩
          obtain ⟨z, hz⟩ : ∃ z, (xs[0]'(by omega)).c.kinds = z := ⟨_, rfl⟩
          rw [hy] at q0
          rw [hz] at p0 hhead
          have hpi : (0 : Int) < (xs.length : Int) := by omega
          by_cases hyz : y = z
          · have HN : Hid (∀ j (hj : j < (chs xs).length), j < m + 1 → (chs xs)[j].kinds = headK (chs xs)) := by
              intro j hj hjm
              by_cases e : j < m
              · exact hall.out j hj e
              · obtain rfl : j = m := by omega
                rw [hch, hy, hhead, hyz]
            subst hyz
            clear hall hch hhead hy hz hLr
            go_wp2
            go_quiet (fail)
            go_wp2
            go_roundw
            case rel => exact ⟨m + 1, by go_num, by omega, below_drewN' hbT _, HN⟩
            case measure => simp [intOf]; omega
          · have HR : Hid (checks (chs xs) = 7) := by
              show _ = _
              rw [HCE.out, if_pos (otherK_of (k := m) (by rw [chs_length]; exact hlt) (by rw [hch, hy, hhead]; exact hyz))]
            have dn : (y == z) = false := by simpa using hyz
            have dn2 : (y != z) = true := by simpa using hyz
            have dn3 : decide (y = z) = false := decide_eq_false hyz
            clear hall hch hhead hy hz hLr
            go_wp2
            go_quiet (fail)
            go_wp2
            go_ret
            exact ⟨by rw [HR.out]; rfl, below_drewN' hbT _⟩
        · have HR : Hid (checks (chs xs) = 0) := by
            show _ = _
            rw [HCE.out, otherK_not (fun j hj => hall.out j hj (by rw [chs_length] at hj; omega))]
            rfl
          clear hall hLr
          go_wp2
          go_ret
          exact ⟨by rw [HR.out]; rfl, hbT⟩
end Go.Proofs.Ytjjpgnahmliblab.Cd
