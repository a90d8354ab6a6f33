/- The document's All, walked. No conditions beyond how the changes and the text lie. -/
import Derived.Test.YtjjpgnahmliblabCd
import Derived.Test.YtjjpgnahmliblabCs
import Derived.Test.YtjjpgnahmliblabAl
namespace Go.Proofs.Ytjjpgnahmliblab.Am
open Go.RowKit Go.Shelf Sd Md Sc Aq Ls Al

set_option maxHeartbeats 4000000 in
set_option maxRecDepth 100000 in
theorem all_any (v vx : Value) (xs : List VC) (text : List Int) (w : World) (h : IsL w v xs) (hx : IsI w vx text) :
    Calls Try.prog 12 #[v, vx] w fun e w' => ∃ v', e = .returned (.tuple #[v', .int .i64 (allE (chs xs) text)]) ∧ IsI w' v' (allR (chs xs) text) ∧ Below w.heap.size w w' := by
  have con27 := Cd.checks_any v xs w h
  obtain ⟨a, cap, hv, _, hm⟩ := h.len
  subst hv
  obtain ⟨ax, cx, hv, _, _⟩ := hx.len
  subst hv
  by_cases hc : checks (chs xs) = 0
  · obtain ⟨_, hg, _⟩ := checks_zero hc
    rw [hc] at con27
    have con15 : ∀ W, Below w.heap.size w W → Calls Try.prog 15 #[.slice ax text.length cx, .int .i64 (headK (chs xs))] W fun e w' => e = .returned (.bool (okAll text (headK (chs xs)))) ∧ w' = W := fun W hb => Wi.within_any _ text _ W (hx.below (Nat.le_refl _) hb)
    unfold okAll at con15
    have HL : Hid (IsL w (.slice a xs.length cap) xs) := h
    have HG : Hid (∀ c, c ∈ chs xs → check c = 0) := hg
    have HX : Hid (IsI w (.slice ax text.length cx) text) := hx
    by_cases h60 : (60 : Int) < (text.length : Int)
    · have hte : textE (headK (chs xs)) text = 2 := by unfold textE; rw [if_pos (by omega)]
      obtain ⟨e1, e2⟩ := allE_text (l := chs xs) (text := text) hc (by rw [hte]; omega)
      rw [e1, e2, hte]
      clear e1 e2 hte hc hg hx HX HG h
      by_cases h0 : xs.length = 0
      · have hnil : xs = [] := List.length_eq_zero_iff.1 h0
        subst hnil
        clear HL con15
        go_enter Try.func12, Try.ntmps12
        go_wp2_with (go_at_call 27; refine con27.mono ?_; rintro e w1 ⟨rfl, hb1⟩)
        go_ret2
        exact ⟨_, rfl, isI_nil _, hb1⟩
      · have hpos : 0 < xs.length := by omega
        obtain ⟨b, off, rfl⟩ : ∃ b o, a = some ⟨b, o, none⟩ := by
          rcases HL.out.shape with ⟨_, _, _, e⟩ | ⟨b', o', c', hv, _⟩
          · rw [e] at hpos
            simp at hpos
          · simp only [Value.slice.injEq] at hv
            exact ⟨b', o', hv.1⟩
        obtain ⟨hbl, k0, _⟩ := change_cells HL.out 0 hpos
        rw [Nat.zero_mul, Nat.add_zero] at k0
        have hhead : headK (chs xs) = (xs[0]).c.kinds := by
          cases xs with
          | nil => simp at hpos
          | cons x l => rfl
        rw [← hhead] at k0
        obtain ⟨kd, hkd⟩ : ∃ z, headK (chs xs) = z := ⟨_, rfl⟩
        rw [hkd] at k0 con15
        have hpi : (0 : Int) < (xs.length : Int) := by omega
        clear hhead hkd h0
        clear HL con15
        go_enter Try.func12, Try.ntmps12
        go_wp2_with (go_at_call 27; refine con27.mono ?_; rintro e w1 ⟨rfl, hb1⟩; have k1 : w1.cell? ⟨b, off, none⟩ = some (.int .i64 kd) := (hb1.cell (p := ⟨b, off, none⟩) hbl).trans k0)
        go_ret2
        exact ⟨_, rfl, isI_nil _, hb1⟩
    have d60 : decide ((60 : Int) < (text.length : Int)) = false := decide_eq_false h60
    cases hr : text.any (bad (headK (chs xs))) with
    | true =>
      have hte : textE (headK (chs xs)) text = 3 := by unfold textE; rw [if_neg (by omega), hr]; rfl
      obtain ⟨e1, e2⟩ := allE_text (l := chs xs) (text := text) hc (by rw [hte]; omega)
      rw [e1, e2, hte]
      rw [hr] at con15
      clear e1 e2 hte hc hg hx HX HG h hr
      by_cases h0 : xs.length = 0
      · have hnil : xs = [] := List.length_eq_zero_iff.1 h0
        subst hnil
        have con15e : ∀ W, Below w.heap.size w W → Calls Try.prog 15 #[.slice ax text.length cx, .int .i64 60] W fun e w' => e = .returned (.bool (!true)) ∧ w' = W := con15
        clear HL con15
        have con15 := con15e
        clear con15e
        go_enter Try.func12, Try.ntmps12
        go_wp2_with (first | (go_at_call 27; refine con27.mono ?_; rintro e w1 ⟨rfl, hb1⟩) | (go_at_call 15; refine (con15 _ hb1).mono ?_; rintro e w2 ⟨rfl, hw⟩; obtain rfl := hw.symm; clear hw))
        go_ret2
        exact ⟨_, rfl, isI_nil _, hb1⟩
      · have hpos : 0 < xs.length := by omega
        obtain ⟨b, off, rfl⟩ : ∃ b o, a = some ⟨b, o, none⟩ := by
          rcases HL.out.shape with ⟨_, _, _, e⟩ | ⟨b', o', c', hv, _⟩
          · rw [e] at hpos
            simp at hpos
          · simp only [Value.slice.injEq] at hv
            exact ⟨b', o', hv.1⟩
        obtain ⟨hbl, k0, _⟩ := change_cells HL.out 0 hpos
        rw [Nat.zero_mul, Nat.add_zero] at k0
        have hhead : headK (chs xs) = (xs[0]).c.kinds := by
          cases xs with
          | nil => simp at hpos
          | cons x l => rfl
        rw [← hhead] at k0
        obtain ⟨kd, hkd⟩ : ∃ z, headK (chs xs) = z := ⟨_, rfl⟩
        rw [hkd] at k0 con15
        have hpi : (0 : Int) < (xs.length : Int) := by omega
        clear hhead hkd h0
        clear HL
        go_enter Try.func12, Try.ntmps12
        go_wp2_with (first | (go_at_call 27; refine con27.mono ?_; rintro e w1 ⟨rfl, hb1⟩; have k1 : w1.cell? ⟨b, off, none⟩ = some (.int .i64 kd) := (hb1.cell (p := ⟨b, off, none⟩) hbl).trans k0) | (go_at_call 15; refine (con15 _ hb1).mono ?_; rintro e w2 ⟨rfl, hw⟩; obtain rfl := hw.symm; clear hw))
        go_ret2
        exact ⟨_, rfl, isI_nil _, hb1⟩
    | false =>
      have hte : textE (headK (chs xs)) text = 0 := by unfold textE; rw [if_neg (by omega), hr]; rfl
      have HE : Hid ((allGo (chs xs) text = none → allE (chs xs) text = 2 ∧ allR (chs xs) text = []) ∧ (∀ t, allGo (chs xs) text = some t → allE (chs xs) text = 0 ∧ allR (chs xs) text = t)) := allE_go hc hte
      rw [hr] at con15
      obtain ⟨ae, hae⟩ : ∃ z, allE (chs xs) text = z := ⟨_, rfl⟩
      obtain ⟨rr, hrr⟩ : ∃ z, allR (chs xs) text = z := ⟨_, rfl⟩
      rw [hae, hrr] at HE
      rw [hae, hrr]
      clear hae hrr hte hc hg hx h hr
      by_cases h0 : xs.length = 0
      · have hnil : xs = [] := List.length_eq_zero_iff.1 h0
        subst hnil
        have con15e : ∀ W, Below w.heap.size w W → Calls Try.prog 15 #[.slice ax text.length cx, .int .i64 60] W fun e w' => e = .returned (.bool (!false)) ∧ w' = W := con15
        have hE := HE.out.2 text rfl
        obtain ⟨rfl, rfl⟩ := hE
        clear HL con15 HE HG
        have con15 := con15e
        clear con15e
        go_enter Try.func12, Try.ntmps12
        go_wp2_with (first | (go_at_call 27; refine con27.mono ?_; rintro e w1 ⟨rfl, hb1⟩) | (go_at_call 15; refine (con15 _ hb1).mono ?_; rintro e w2 ⟨rfl, hw⟩; obtain rfl := hw.symm; clear hw))
        refine wp_loop_rounds 1 ?_
        rw [rounds_succ]
        go_wp2
        go_ret2
        exact ⟨_, rfl, HX.out.below (Nat.le_refl _) hb1, hb1⟩
      · have hpos : 0 < xs.length := by omega
        obtain ⟨b, off, rfl⟩ : ∃ b o, a = some ⟨b, o, none⟩ := by
          rcases HL.out.shape with ⟨_, _, _, e⟩ | ⟨b', o', c', hv, _⟩
          · rw [e] at hpos
            simp at hpos
          · simp only [Value.slice.injEq] at hv
            exact ⟨b', o', hv.1⟩
        obtain ⟨hbl, k0, _⟩ := change_cells HL.out 0 hpos
        rw [Nat.zero_mul, Nat.add_zero] at k0
        have hhead : headK (chs xs) = (xs[0]).c.kinds := by
          cases xs with
          | nil => simp at hpos
          | cons x l => rfl
        rw [← hhead] at k0
        obtain ⟨kd, hkd⟩ : ∃ z, headK (chs xs) = z := ⟨_, rfl⟩
        rw [hkd] at k0 con15
        have hpi : (0 : Int) < (xs.length : Int) := by omega
        clear hhead hkd h0
        go_enter Try.func12, Try.ntmps12
        go_wp2_with (first | (go_at_call 27; refine con27.mono ?_; rintro e w1 ⟨rfl, hb1⟩; have k1 : w1.cell? ⟨b, off, none⟩ = some (.int .i64 kd) := (hb1.cell (p := ⟨b, off, none⟩) hbl).trans k0) | (go_at_call 15; refine (con15 _ hb1).mono ?_; rintro e w2 ⟨rfl, hw⟩; obtain rfl := hw.symm; clear hw))
        clear con27 con15
        go_loopw [1, 8] (fun v1 i wr => ∃ (k : Nat) (t : List Int), i = .int .i64 k ∧ IsI wr v1 t ∧ k ≤ xs.length ∧ Below w.heap.size w wr ∧ Hid (allGo (chs xs) text = allGo ((chs xs).drop k) t)) (fun _ i _ => xs.length - (intOf i).toNat)
        case atStart => exact ⟨0, text, rfl, HX.out.below (Nat.le_refl _) hb1, by omega, hb1, rfl⟩
        case round =>
          clear hb1 k1
          obtain ⟨k, t, rfl, hI, hk, hbT, hall⟩ := hrel
          have hLr := HL.out.below (Nat.le_refl _) hbT
          by_cases hlt : k < xs.length
          · obtain ⟨_, q0, q1, q2, q3, q4, hC, hs⟩ := change_cells hLr k hlt
            have hst := allGo_at (l := chs xs) (k := k) (by rw [chs_length]; exact hlt) t
            rw [chs_at xs k hlt] at hst
            have hck : check (xs[k]).c = 0 := HG.out _ (by rw [← chs_at xs k hlt]; exact List.getElem_mem _)
            obtain ⟨x, hx⟩ : ∃ x, xs[k] = x := ⟨_, rfl⟩
            rw [hx] at q0 q1 q2 q3 q4 hC hs hst hck
            have HST : Hid (allGo (chs xs) text = if 60 < t.length then none else allGo ((chs xs).drop (k + 1)) (change x.c t)) := hall.out.trans hst
            obtain ⟨at', ct, hv, _, _⟩ := hI.len
            subst hv
            by_cases h6 : (60 : Int) < (t.length : Int)
            · have hE := HE.out.1 (by rw [HST.out, if_pos (by omega)])
              have HRE : Hid (ae = 2 ∧ rr = []) := hE
              clear hst hck hx hall hs hLr HST hE hC hI q0 q1 q2 q3 q4
              go_wp2
              go_ret2
              obtain ⟨e1, e2⟩ := HRE.out
              exact ⟨_, by rw [e1]; rfl, by rw [e2]; exact isI_nil _, hbT⟩
            · have con16 := Cs.change_any x _ t wr hC (good_of hck) hI (by omega)
              have HN : Hid (allGo (chs xs) text = allGo ((chs xs).drop (k + 1)) (change x.c t)) := by
                show _ = _
                rw [HST.out, if_neg (by omega)]
              have d6 : decide ((60 : Int) < (t.length : Int)) = false := decide_eq_false h6
              obtain ⟨nt, hnt⟩ : ∃ z, change x.c t = z := ⟨_, rfl⟩
              rw [hnt] at con16 HN
              clear hst hck hx hall hs hLr hnt HST hC hI
              obtain ⟨⟨kk, frm, tt, left, right⟩, vf, vt, vl, vr, ls, rs⟩ := x
              dsimp only at q0 q1 q2 q3 q4 con16
              simp only [VC.val] at con16
              go_wp2_with (go_at_call 16; refine con16.mono ?_; rintro e w2 ⟨v2, rfl, hI2, _, hb2⟩)
              go_roundw
              case rel => exact ⟨k + 1, nt, by go_num, hI2, by omega, hbT.trans (hb2.mono hbT.size), HN⟩
              case measure => simp [intOf]; omega
          · have hE := HE.out.2 t (by rw [hall.out, List.drop_of_length_le (by rw [chs_length]; omega)]; rfl)
            have HRE : Hid (ae = 0 ∧ rr = t) := hE
            clear hall hLr hE
            go_wp2
            go_ret2
            obtain ⟨e1, e2⟩ := HRE.out
            exact ⟨_, by rw [e1]; rfl, by rw [e2]; exact hI, hbT⟩
  · obtain ⟨e1, e2⟩ := allE_checks (l := chs xs) (text := text) hc
    rw [e1, e2]
    have hne : (checks (chs xs) == 0) = false := by simpa using hc
    generalize checks (chs xs) = r at con27 hne ⊢
    clear e1 e2 hc h hx
    go_enter Try.func12, Try.ntmps12
    go_wp2_with (go_at_call 27; refine con27.mono ?_; rintro e w1 ⟨rfl, hb1⟩)
    go_ret2
    exact ⟨_, rfl, isI_nil _, hb1⟩
end Go.Proofs.Ytjjpgnahmliblab.Am
