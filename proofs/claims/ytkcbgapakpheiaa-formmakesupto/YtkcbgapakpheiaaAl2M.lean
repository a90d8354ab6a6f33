/- The program's All, walked: what the document says. No conditions beyond how the changes and the text lie. -/
import Derived.Test.YtkcbgapakpheiaaCb
import Derived.Test.YtkcbgapakpheiaaCh
namespace Go.Proofs.Ytkcbgapakpheiaa.Al
open Go.RowKit Go.Shelf Sd Md Sc Aq Ls

theorem clone_any (v : Value) (l : List Int) (w : World) (h : IsI w v l) (hl : l.length ≤ 1000) : Calls Try.prog 50 #[v] w fun e w' => ∃ v', e = .returned v' ∧ IsI w' v' l ∧ Below w.heap.size w w' := by
  rcases h.shape with ⟨a, cap, rfl, rfl⟩ | ⟨b, off, cap, rfl, hb, hn, hm, h0, hc⟩
  · cases a with
    | none =>
      refine (Try.slices_Clone_int_nil 0 cap w).mono ?_
      rintro e w' ⟨rfl, rfl⟩
      exact ⟨_, rfl, isI_nil _, Below.refl _ _⟩
    | some a =>
      refine (Try.slices_Clone_int_zero a cap w).mono ?_
      rintro e w' ⟨v', rfl, hown, _, hb⟩
      exact ⟨_, rfl, isI_of_own (l := []) hown (Nat.zero_le _), hb⟩
  · refine (Try.slices_Clone_int b off l.length cap l w (Nat.le_refl _) (by omega) hc).mono ?_
    rintro e w' ⟨v', rfl, hown, _, hb⟩
    rw [List.take_length] at hown
    exact ⟨_, rfl, isI_of_own hown (by omega), hb⟩

theorem allGo_at {l : List Ch} {k : Nat} (hk : k < l.length) (t : List Int) : allGo (l.drop k) t = if 60 < t.length then none else allGo (l.drop (k + 1)) (change l[k] t) := by
  rw [List.drop_eq_getElem_cons hk]
  rfl
theorem allE_checks {l : List Ch} {text : List Int} (h : ¬ checks l = 0) : allE l text = checks l ∧ allR l text = [] := ⟨if_neg h, if_neg (fun hh => h hh.1)⟩
theorem allE_text {l : List Ch} {text : List Int} (h : checks l = 0) (ht : ¬ textE (headK l) text = 0) : allE l text = textE (headK l) text ∧ allR l text = [] := ⟨by unfold allE; rw [if_pos h, if_neg ht], if_neg (fun hh => ht hh.2)⟩
theorem allE_go {l : List Ch} {text : List Int} (h : checks l = 0) (ht : textE (headK l) text = 0) : (allGo l text = none → allE l text = 2 ∧ allR l text = []) ∧ (∀ t, allGo l text = some t → allE l text = 0 ∧ allR l text = t) := by
  refine ⟨fun hn => ⟨?_, ?_⟩, fun t hs => ⟨?_, ?_⟩⟩
  · unfold allE; rw [if_pos h, if_pos ht, hn]; rfl
  · unfold allR; rw [if_pos ⟨h, ht⟩, hn]; rfl
  · unfold allE; rw [if_pos h, if_pos ht, hs]; rfl
  · unfold allR; rw [if_pos ⟨h, ht⟩, hs]; rfl
theorem textE_len {k : Int} {text : List Int} (h : textE k text = 0) : text.length ≤ 60 := by
  unfold textE at h
  split at h
  · omega
  · omega
theorem change_len {c : Ch} (h : check c = 0) (t : List Int) (ht : t.length ≤ 60) : (change c t).length ≤ 120 := by
  have := going_len c (good_of h) t.length [] t (Nat.le_refl _)
  have e : going c [] t = change c t := rfl
  rw [e] at this
  simp only [List.length_nil] at this
  omega

set_option maxHeartbeats 4000000 in
set_option maxRecDepth 100000 in
theorem all_any (v vx : Value) (xs : List VC) (text : List Int) (w : World) (h : IsL w v xs) (hx : IsI w vx text) :
    Calls Try.prog 28 #[v, vx] w fun e w' => ∃ v', e = .returned (.tuple #[v', .int .i64 (allE (chs xs) text)]) ∧ IsI w' v' (allR (chs xs) text) ∧ Below w.heap.size w w' := by
  have con25 := Cb.checkAll_any v xs w h
  obtain ⟨a, cap, hv, _, hm⟩ := h.len
  subst hv
  by_cases hc : checks (chs xs) = 0
  · obtain ⟨_, hg, _⟩ := checks_zero hc
    rw [hc] at con25
    have hkk : ∀ W, Below w.heap.size w W → Calls Try.prog 49 #[vx, .int .i64 (headK (chs xs))] W fun e w' => e = .returned (.int .i64 (textE (headK (chs xs)) text)) ∧ Below W.heap.size W w' := fun W hb => checkText_any vx text _ W (hx.below (Nat.le_refl _) hb)
    have HL : Hid (IsL w (.slice a xs.length cap) xs) := h
    have HG : Hid (∀ c, c ∈ chs xs → check c = 0) := hg
    by_cases ht : textE (headK (chs xs)) text = 0
    · have htl := textE_len ht
      have HE : Hid ((allGo (chs xs) text = none → allE (chs xs) text = 2 ∧ allR (chs xs) text = []) ∧ (∀ t, allGo (chs xs) text = some t → allE (chs xs) text = 0 ∧ allR (chs xs) text = t)) := allE_go hc ht
      have con26 : ∀ W, Below w.heap.size w W → Calls Try.prog 50 #[vx] W fun e w' => ∃ v', e = .returned v' ∧ IsI w' v' text ∧ Below W.heap.size W w' := fun W hb => clone_any vx text W (hx.below (Nat.le_refl _) hb) (by omega)
      rw [ht] at hkk
      have HT : Hid (text.length ≤ 60) := htl
      obtain ⟨ae, hae⟩ : ∃ z, allE (chs xs) text = z := ⟨_, rfl⟩
      obtain ⟨rr, hrr⟩ : ∃ z, allR (chs xs) text = z := ⟨_, rfl⟩
      rw [hae, hrr] at HE
      rw [hae, hrr]
      clear hae hrr htl ht hc hg hx
      by_cases h0 : xs.length = 0
      · have hnil : xs = [] := List.length_eq_zero_iff.1 h0
        subst hnil
        have hE := HE.out.2 text rfl
        obtain ⟨rfl, rfl⟩ := hE
        have hk60 : ∀ W, Below w.heap.size w W → Calls Try.prog 49 #[vx, .int .i64 60] W fun e w' => e = .returned (.int .i64 0) ∧ Below W.heap.size W w' := hkk
        clear hkk h HE HG HL
        go_enter Try.func28, Try.ntmps28
        go_wp2_with (first
          | (go_at_call 48; refine con25.mono ?_; rintro e w1 ⟨rfl, hb1⟩)
          | (go_at_call 49; refine (hk60 _ hb1).mono ?_; rintro e w2 ⟨rfl, hb2⟩; have B2 := hb1.trans (hb2.mono hb1.size))
          | (go_at_call 50; refine (con26 _ B2).mono ?_; rintro e w3 ⟨v', rfl, hI, hb3⟩; have B3 := B2.trans (hb3.mono B2.size)))
        refine wp_loop_rounds 1 ?_
        rw [rounds_succ]
        go_wp2
        go_ret2
        exact ⟨_, rfl, hI, B3⟩
      · have hpos : 0 < xs.length := by omega
        obtain ⟨b, off, rfl⟩ : ∃ b o, a = some ⟨b, o, none⟩ := by
          rcases h.shape with ⟨_, _, _, e⟩ | ⟨b', o', c', hv, _⟩
          · rw [e] at hpos
            simp at hpos
          · simp only [Value.slice.injEq] at hv
            exact ⟨b', o', hv.1⟩
        obtain ⟨hbl, k0, _⟩ := change_cells h 0 hpos
        rw [Nat.zero_mul, Nat.add_zero] at k0
        have hhead : headK (chs xs) = (xs[0]).c.kinds := by
          cases xs with
          | nil => simp at hpos
          | cons x l => rfl
        rw [← hhead] at k0
        obtain ⟨kd, hkd⟩ : ∃ z, headK (chs xs) = z := ⟨_, rfl⟩
        rw [hkd] at k0 hkk
        have hpi : (0 : Int) < (xs.length : Int) := by omega
        clear hhead hkd h h0
        go_enter Try.func28, Try.ntmps28
        go_wp2_with (first
          | (go_at_call 48; refine con25.mono ?_; rintro e w1 ⟨rfl, hb1⟩; have k1 : w1.cell? ⟨b, off, none⟩ = some (.int .i64 kd) := (hb1.cell (p := ⟨b, off, none⟩) hbl).trans k0)
          | (go_at_call 49; refine (hkk _ hb1).mono ?_; rintro e w2 ⟨rfl, hb2⟩; have B2 := hb1.trans (hb2.mono hb1.size))
          | (go_at_call 50; refine (con26 _ B2).mono ?_; rintro e w3 ⟨v', rfl, hI, hb3⟩; have B3 := B2.trans (hb3.mono B2.size)))
        clear con25 hkk con26
        go_loopw [1, 33] (fun v1 i wr => ∃ (k : Nat) (t : List Int), i = .int .i64 k ∧ IsI wr v1 t ∧ k ≤ xs.length ∧ Below w.heap.size w wr ∧ Hid (allGo (chs xs) text = allGo ((chs xs).drop k) t ∧ (k = 0 → t.length ≤ 60))) (fun _ i _ => xs.length - (intOf i).toNat)
        case atStart => exact ⟨0, text, rfl, hI, by omega, B3, rfl, fun _ => HT.out⟩
        case round =>
          clear hI hb1 hb2 hb3 B2 B3 k1
          obtain ⟨k, t, rfl, hI, hk, hbT, hall⟩ := hrel
          have hLr := HL.out.below (Nat.le_refl _) hbT
          by_cases hlt : k < xs.length
          · obtain ⟨_, q0, q1, q2, q3, q4, hC, hs⟩ := change_cells hLr k hlt
            have hst := allGo_at (l := chs xs) (k := k) (by rw [chs_length]; exact hlt) t
            rw [chs_at xs k hlt] at hst
            have hck : check (xs[k]).c = 0 := HG.out _ (by rw [← chs_at xs k hlt]; exact List.getElem_mem _)
            obtain ⟨x, hx⟩ : ∃ x, xs[k] = x := ⟨_, rfl⟩
            rw [hx] at q0 q1 q2 q3 q4 hC hs hst hck
            have hbo : ∀ o, Below wr.heap.size wr (wr.alloc o) := fun o => (Below.refl _ _).alloc (Nat.le_refl _) _
            have HST : Hid (allGo (chs xs) text = if 60 < t.length then none else allGo ((chs xs).drop (k + 1)) (change x.c t)) := hall.out.1.trans hst
            obtain ⟨ax, cx, hv, _, _⟩ := hI.len
            subst hv
            by_cases h60 : t.length ≤ 60
            · have con14 := fun o => Ch.change_any x _ t (wr.alloc o) (hC.below (Nat.le_refl _) (hbo o)) (good_of hck) (hI.below (Nat.le_refl _) (hbo o)) h60
              have HN : Hid (allGo (chs xs) text = allGo ((chs xs).drop (k + 1)) (change x.c t) ∧ (k + 1 = 0 → (change x.c t).length ≤ 60)) := by
                refine ⟨?_, fun h => by omega⟩
                rw [HST.out, if_neg (by omega)]
              have d60 : decide ((60 : Int) < (t.length : Int)) = false := decide_eq_false (by omega)
              obtain ⟨nt, hnt⟩ : ∃ z, change x.c t = z := ⟨_, rfl⟩
              rw [hnt] at con14 HN
              clear hst hck hx hall hs hLr hnt HST
              obtain ⟨⟨kk, frm, to, left, right⟩, vf, vt, vl, vr, ls, rs⟩ := x
              obtain ⟨_, _, hf, ht, hls, hrs, _⟩ := hC
              dsimp only at q0 q1 q2 q3 q4 hf ht hls hrs con14
              obtain ⟨af, cf, hv, _, _⟩ := hf.len
              subst hv
              obtain ⟨at', ct, hv, _, _⟩ := ht.len
              subst hv
              obtain ⟨al, cl, hv, _, _⟩ := hls.len
              subst hv
              obtain ⟨ar, cr, hv, _, _⟩ := hrs.len
              subst hv
              simp only [VC.val] at con14
              clear hf ht hls hrs hI
              by_cases hk0 : (0 : Int) < (k : Int)
              · go_wp2_with (go_at_call 51; refine (con14 _).mono ?_; rintro e w2 ⟨v2, rfl, hI2, _, hb2⟩)
                go_roundw
                case rel => exact ⟨k + 1, nt, by go_num, hI2, by omega, (hbT.trans ((hbo _).mono hbT.size)).trans (hb2.mono (by have := hbT.size; simp; omega)), HN⟩
                case measure => simp [intOf]; omega
              · have dk0 : decide ((0 : Int) < (k : Int)) = false := decide_eq_false hk0
                have dk1 : decide (0 < k) = false := decide_eq_false (by omega)
                go_wp2_with (go_at_call 51; refine (con14 _).mono ?_; rintro e w2 ⟨v2, rfl, hI2, _, hb2⟩)
                go_roundw
                case rel => exact ⟨k + 1, nt, by go_num, hI2, by omega, (hbT.trans ((hbo _).mono hbT.size)).trans (hb2.mono (by have := hbT.size; simp; omega)), HN⟩
                case measure => simp [intOf]; omega
            · have hkp : (0 : Int) < (k : Int) := by
                have := hall.out.2
                rcases Nat.eq_zero_or_pos k with e | e
                · exact absurd (this e) h60
                · omega
              have h60i : (60 : Int) < (t.length : Int) := by omega
              have hE := HE.out.1 (by rw [HST.out, if_pos (by omega)])
              have HRE : Hid (ae = 2 ∧ rr = []) := hE
              clear hst hck hx hall hs hLr HST hE h60
              obtain ⟨⟨kk, frm, to, left, right⟩, vf, vt, vl, vr, ls, rs⟩ := x
              obtain ⟨_, _, hf, ht, hls, hrs, _⟩ := hC
              dsimp only at q0 q1 q2 q3 q4 hf ht hls hrs
              obtain ⟨af, cf, hv, _, _⟩ := hf.len
              subst hv
              obtain ⟨at', ct, hv, _, _⟩ := ht.len
              subst hv
              obtain ⟨al, cl, hv, _, _⟩ := hls.len
              subst hv
              obtain ⟨ar, cr, hv, _, _⟩ := hrs.len
              subst hv
              clear hf ht hls hrs hI
              go_wp2
              go_ret2
              obtain ⟨e1, e2⟩ := HRE.out
              exact ⟨_, by rw [e1]; rfl, by rw [e2]; exact isI_nil _, hbT.trans ((hbo _).mono hbT.size)⟩
          · have hE := HE.out.2 t (by rw [hall.out.1, List.drop_of_length_le (by rw [chs_length]; omega)]; rfl)
            have HRE : Hid (ae = 0 ∧ rr = t) := hE
            clear hall hLr hE
            go_wp2
            go_ret2
            obtain ⟨e1, e2⟩ := HRE.out
            exact ⟨_, by rw [e1]; rfl, by rw [e2]; exact hI, hbT⟩
    · obtain ⟨e1, e2⟩ := allE_text (l := chs xs) (text := text) hc ht
      rw [e1, e2]
      have hne : (textE (headK (chs xs)) text == 0) = false := by simpa using ht
      obtain ⟨te, hte⟩ : ∃ z, textE (headK (chs xs)) text = z := ⟨_, rfl⟩
      rw [hte] at hkk hne ⊢
      clear e1 e2 hte ht hc hg hx HG
      by_cases h0 : xs.length = 0
      · have hnil : xs = [] := List.length_eq_zero_iff.1 h0
        subst hnil
        have hk60 : ∀ W, Below w.heap.size w W → Calls Try.prog 49 #[vx, .int .i64 60] W fun e w' => e = .returned (.int .i64 te) ∧ Below W.heap.size W w' := hkk
        clear hkk h HL
        go_enter Try.func28, Try.ntmps28
        go_wp2_with (first
          | (go_at_call 48; refine con25.mono ?_; rintro e w1 ⟨rfl, hb1⟩)
          | (go_at_call 49; refine (hk60 _ hb1).mono ?_; rintro e w2 ⟨rfl, hb2⟩; have B2 := hb1.trans (hb2.mono hb1.size)))
        go_ret2
        exact ⟨_, rfl, isI_nil _, B2⟩
      · have hpos : 0 < xs.length := by omega
        obtain ⟨b, off, rfl⟩ : ∃ b o, a = some ⟨b, o, none⟩ := by
          rcases h.shape with ⟨_, _, _, e⟩ | ⟨b', o', c', hv, _⟩
          · rw [e] at hpos
            simp at hpos
          · simp only [Value.slice.injEq] at hv
            exact ⟨b', o', hv.1⟩
        obtain ⟨hbl, k0, _⟩ := change_cells h 0 hpos
        rw [Nat.zero_mul, Nat.add_zero] at k0
        have hhead : headK (chs xs) = (xs[0]).c.kinds := by
          cases xs with
          | nil => simp at hpos
          | cons x l => rfl
        rw [← hhead] at k0
        obtain ⟨kd, hkd⟩ : ∃ z, headK (chs xs) = z := ⟨_, rfl⟩
        rw [hkd] at k0 hkk
        have hpi : (0 : Int) < (xs.length : Int) := by omega
        clear hhead hkd h h0 HL
        go_enter Try.func28, Try.ntmps28
        go_wp2_with (first
          | (go_at_call 48; refine con25.mono ?_; rintro e w1 ⟨rfl, hb1⟩; have k1 : w1.cell? ⟨b, off, none⟩ = some (.int .i64 kd) := (hb1.cell (p := ⟨b, off, none⟩) hbl).trans k0)
          | (go_at_call 49; refine (hkk _ hb1).mono ?_; rintro e w2 ⟨rfl, hb2⟩; have B2 := hb1.trans (hb2.mono hb1.size)))
        go_ret2
        exact ⟨_, rfl, isI_nil _, B2⟩
  · obtain ⟨e1, e2⟩ := allE_checks (l := chs xs) (text := text) hc
    rw [e1, e2]
    have hne : (checks (chs xs) == 0) = false := by simpa using hc
    generalize checks (chs xs) = r at con25 hne ⊢
    clear e1 e2 hc h hx
    go_enter Try.func28, Try.ntmps28
    go_wp2_with (go_at_call 48; refine con25.mono ?_; rintro e w1 ⟨rfl, hb1⟩)
    go_ret2
    exact ⟨_, rfl, isI_nil _, hb1⟩
end Go.Proofs.Ytkcbgapakpheiaa.Al
/- The program's All: what it hands back is new. No conditions beyond how the changes and the text lie. -/
namespace Go.Proofs.Ytkcbgapakpheiaa.Al2
open Go.RowKit Go.Shelf Sd Md Sc Ap Aq Ls Ch Al

/-- a slice that lies in a block of so great a number -/
def Fresh (n : Nat) (v : Value) : Prop := ∀ b o s len cap, v = .slice (some ⟨b, o, s⟩) len cap → n ≤ b
theorem Fresh.mono {n m : Nat} {v : Value} (h : Fresh n v) (hm : m ≤ n) : Fresh m v := fun b o s len cap e => Nat.le_trans hm (h b o s len cap e)
theorem fresh_nil (n l c : Nat) : Fresh n (.slice none l c) := fun b o s len cap e => by cases e
theorem fresh_own {w : World} {base n e s m : Nat} {v : Value} {xs : List Value} (h : w.ownsRow base e s v m xs) (hn : n ≤ base) : Fresh n v := by
  intro b o s' len cap hv
  rcases h.2 with ⟨rfl, _⟩ | ⟨g, c, cur, rfl, hb, _⟩
  · cases hv
  · simp only [Value.slice.injEq, Option.some.injEq, Addr.mk.injEq] at hv
    omega
theorem clone_new (v : Value) (l : List Int) (w : World) (h : IsI w v l) (hl : l.length ≤ 1000) : Calls Try.prog 50 #[v] w fun e w' => ∃ v', e = .returned v' ∧ IsI w' v' l ∧ Fresh w.heap.size v' ∧ Below w.heap.size w w' := by
  rcases h.shape with ⟨a, cap, rfl, rfl⟩ | ⟨b, off, cap, rfl, hb, hn, hm, h0, hc⟩
  · cases a with
    | none =>
      refine (Try.slices_Clone_int_nil 0 cap w).mono ?_
      rintro e w' ⟨rfl, rfl⟩
      exact ⟨_, rfl, isI_nil _, fresh_nil _ _ _, Below.refl _ _⟩
    | some a =>
      refine (Try.slices_Clone_int_zero a cap w).mono ?_
      rintro e w' ⟨v', rfl, hown, _, hb⟩
      exact ⟨_, rfl, isI_of_own (l := []) hown (Nat.zero_le _), fresh_own hown (Nat.le_refl _), hb⟩
  · refine (Try.slices_Clone_int b off l.length cap l w (Nat.le_refl _) (by omega) hc).mono ?_
    rintro e w' ⟨v', rfl, hown, _, hb⟩
    rw [List.take_length] at hown
    exact ⟨_, rfl, isI_of_own hown (by omega), fresh_own hown (Nat.le_refl _), hb⟩

set_option maxHeartbeats 4000000 in
set_option maxRecDepth 100000 in
theorem all_new (v vx : Value) (xs : List VC) (text : List Int) (w : World) (h : IsL w v xs) (hx : IsI w vx text) :
    Calls Try.prog 28 #[v, vx] w fun e w' => ∃ v', e = .returned (.tuple #[v', .int .i64 (allE (chs xs) text)]) ∧ IsI w' v' (allR (chs xs) text) ∧ Fresh w.heap.size v' ∧ Below w.heap.size w w' := by
  have con25 := Cb.checkAll_any v xs w h
  obtain ⟨a, cap, hv, _, hm⟩ := h.len
  subst hv
  by_cases hc : checks (chs xs) = 0
  · obtain ⟨_, hg, _⟩ := checks_zero hc
    rw [hc] at con25
    have hkk : ∀ W, Below w.heap.size w W → Calls Try.prog 49 #[vx, .int .i64 (headK (chs xs))] W fun e w' => e = .returned (.int .i64 (textE (headK (chs xs)) text)) ∧ Below W.heap.size W w' := fun W hb => checkText_any vx text _ W (hx.below (Nat.le_refl _) hb)
    have HL : Hid (IsL w (.slice a xs.length cap) xs) := h
    have HG : Hid (∀ c, c ∈ chs xs → check c = 0) := hg
    by_cases ht : textE (headK (chs xs)) text = 0
    · have htl := textE_len ht
      have HE : Hid ((allGo (chs xs) text = none → allE (chs xs) text = 2 ∧ allR (chs xs) text = []) ∧ (∀ t, allGo (chs xs) text = some t → allE (chs xs) text = 0 ∧ allR (chs xs) text = t)) := allE_go hc ht
      have con26 : ∀ W, Below w.heap.size w W → Calls Try.prog 50 #[vx] W fun e w' => ∃ v', e = .returned v' ∧ (IsI w' v' text ∧ Fresh w.heap.size v') ∧ Below W.heap.size W w' := fun W hb => (clone_new vx text W (hx.below (Nat.le_refl _) hb) (by omega)).mono fun _ _ ⟨v', he, h1, h2, h3⟩ => ⟨v', he, ⟨h1, h2.mono hb.size⟩, h3⟩
      rw [ht] at hkk
      have HT : Hid (text.length ≤ 60) := htl
      obtain ⟨ae, hae⟩ : ∃ z, allE (chs xs) text = z := ⟨_, rfl⟩
      obtain ⟨rr, hrr⟩ : ∃ z, allR (chs xs) text = z := ⟨_, rfl⟩
      rw [hae, hrr] at HE
      rw [hae, hrr]
      clear hae hrr htl ht hc hg hx
      by_cases h0 : xs.length = 0
      · have hnil : xs = [] := List.length_eq_zero_iff.1 h0
        subst hnil
        have hE := HE.out.2 text rfl
        obtain ⟨rfl, rfl⟩ := hE
        have hk60 : ∀ W, Below w.heap.size w W → Calls Try.prog 49 #[vx, .int .i64 60] W fun e w' => e = .returned (.int .i64 0) ∧ Below W.heap.size W w' := hkk
        clear hkk h HE HG HL
        go_enter Try.func28, Try.ntmps28
        go_wp2_with (first
          | (go_at_call 48; refine con25.mono ?_; rintro e w1 ⟨rfl, hb1⟩)
          | (go_at_call 49; refine (hk60 _ hb1).mono ?_; rintro e w2 ⟨rfl, hb2⟩; have B2 := hb1.trans (hb2.mono hb1.size))
          | (go_at_call 50; refine (con26 _ B2).mono ?_; rintro e w3 ⟨v', rfl, ⟨hI, hF⟩, hb3⟩; have B3 := B2.trans (hb3.mono B2.size)))
        refine wp_loop_rounds 1 ?_
        rw [rounds_succ]
        go_wp2
        go_ret2
        exact ⟨_, rfl, hI, hF, B3⟩
      · have hpos : 0 < xs.length := by omega
        obtain ⟨b, off, rfl⟩ : ∃ b o, a = some ⟨b, o, none⟩ := by
          rcases h.shape with ⟨_, _, _, e⟩ | ⟨b', o', c', hv, _⟩
          · rw [e] at hpos
            simp at hpos
          · simp only [Value.slice.injEq] at hv
            exact ⟨b', o', hv.1⟩
        obtain ⟨hbl, k0, _⟩ := change_cells h 0 hpos
        rw [Nat.zero_mul, Nat.add_zero] at k0
        have hhead : headK (chs xs) = (xs[0]).c.kinds := by
          cases xs with
          | nil => simp at hpos
          | cons x l => rfl
        rw [← hhead] at k0
        obtain ⟨kd, hkd⟩ : ∃ z, headK (chs xs) = z := ⟨_, rfl⟩
        rw [hkd] at k0 hkk
        have hpi : (0 : Int) < (xs.length : Int) := by omega
        clear hhead hkd h h0
        go_enter Try.func28, Try.ntmps28
        go_wp2_with (first
          | (go_at_call 48; refine con25.mono ?_; rintro e w1 ⟨rfl, hb1⟩; have k1 : w1.cell? ⟨b, off, none⟩ = some (.int .i64 kd) := (hb1.cell (p := ⟨b, off, none⟩) hbl).trans k0)
          | (go_at_call 49; refine (hkk _ hb1).mono ?_; rintro e w2 ⟨rfl, hb2⟩; have B2 := hb1.trans (hb2.mono hb1.size))
          | (go_at_call 50; refine (con26 _ B2).mono ?_; rintro e w3 ⟨v', rfl, ⟨hI, hF⟩, hb3⟩; have B3 := B2.trans (hb3.mono B2.size)))
        clear con25 hkk con26
        go_loopw [1, 33] (fun v1 i wr => ∃ (k : Nat) (t : List Int), i = .int .i64 k ∧ IsI wr v1 t ∧ Fresh w.heap.size v1 ∧ k ≤ xs.length ∧ Below w.heap.size w wr ∧ Hid (allGo (chs xs) text = allGo ((chs xs).drop k) t ∧ (k = 0 → t.length ≤ 60))) (fun _ i _ => xs.length - (intOf i).toNat)
        case atStart => exact ⟨0, text, rfl, hI, hF, by omega, B3, rfl, fun _ => HT.out⟩
        case round =>
          clear hI hF hb1 hb2 hb3 B2 B3 k1
          obtain ⟨k, t, rfl, hI, hF, hk, hbT, hall⟩ := hrel
          have hLr := HL.out.below (Nat.le_refl _) hbT
          by_cases hlt : k < xs.length
          · obtain ⟨_, q0, q1, q2, q3, q4, hC, hs⟩ := change_cells hLr k hlt
            have hst := allGo_at (l := chs xs) (k := k) (by rw [chs_length]; exact hlt) t
            rw [chs_at xs k hlt] at hst
            have hck : check (xs[k]).c = 0 := HG.out _ (by rw [← chs_at xs k hlt]; exact List.getElem_mem _)
            obtain ⟨x, hx⟩ : ∃ x, xs[k] = x := ⟨_, rfl⟩
            rw [hx] at q0 q1 q2 q3 q4 hC hs hst hck
            have hbo : ∀ o, Below wr.heap.size wr (wr.alloc o) := fun o => (Below.refl _ _).alloc (Nat.le_refl _) _
            have HST : Hid (allGo (chs xs) text = if 60 < t.length then none else allGo ((chs xs).drop (k + 1)) (change x.c t)) := hall.out.1.trans hst
            obtain ⟨ax, cx, hv, _, _⟩ := hI.len
            subst hv
            by_cases h60 : t.length ≤ 60
            · have con14 := fun o => Ch.change_any x _ t (wr.alloc o) (hC.below (Nat.le_refl _) (hbo o)) (good_of hck) (hI.below (Nat.le_refl _) (hbo o)) h60
              have HN : Hid (allGo (chs xs) text = allGo ((chs xs).drop (k + 1)) (change x.c t) ∧ (k + 1 = 0 → (change x.c t).length ≤ 60)) := by
                refine ⟨?_, fun h => by omega⟩
                rw [HST.out, if_neg (by omega)]
              have d60 : decide ((60 : Int) < (t.length : Int)) = false := decide_eq_false (by omega)
              obtain ⟨nt, hnt⟩ : ∃ z, change x.c t = z := ⟨_, rfl⟩
              rw [hnt] at con14 HN
              clear hst hck hx hall hs hLr hnt HST
              obtain ⟨⟨kk, frm, to, left, right⟩, vf, vt, vl, vr, ls, rs⟩ := x
              obtain ⟨_, _, hf, ht, hls, hrs, _⟩ := hC
              dsimp only at q0 q1 q2 q3 q4 hf ht hls hrs con14
              obtain ⟨af, cf, hv, _, _⟩ := hf.len
              subst hv
              obtain ⟨at', ct, hv, _, _⟩ := ht.len
              subst hv
              obtain ⟨al, cl, hv, _, _⟩ := hls.len
              subst hv
              obtain ⟨ar, cr, hv, _, _⟩ := hrs.len
              subst hv
              simp only [VC.val] at con14
              clear hf ht hls hrs hI
              by_cases hk0 : (0 : Int) < (k : Int)
              · go_wp2_with (go_at_call 51; refine (con14 _).mono ?_; rintro e w2 ⟨v2, rfl, hI2, ho2, hb2⟩)
                go_roundw
                case rel => exact ⟨k + 1, nt, by go_num, hI2, fresh_own ho2 (by have := hbT.size; simp; omega), by omega, (hbT.trans ((hbo _).mono hbT.size)).trans (hb2.mono (by have := hbT.size; simp; omega)), HN⟩
                case measure => simp [intOf]; omega
              · have dk0 : decide ((0 : Int) < (k : Int)) = false := decide_eq_false hk0
                have dk1 : decide (0 < k) = false := decide_eq_false (by omega)
                go_wp2_with (go_at_call 51; refine (con14 _).mono ?_; rintro e w2 ⟨v2, rfl, hI2, ho2, hb2⟩)
                go_roundw
                case rel => exact ⟨k + 1, nt, by go_num, hI2, fresh_own ho2 (by have := hbT.size; simp; omega), by omega, (hbT.trans ((hbo _).mono hbT.size)).trans (hb2.mono (by have := hbT.size; simp; omega)), HN⟩
                case measure => simp [intOf]; omega
            · have hkp : (0 : Int) < (k : Int) := by
                have := hall.out.2
                rcases Nat.eq_zero_or_pos k with e | e
                · exact absurd (this e) h60
                · omega
              have h60i : (60 : Int) < (t.length : Int) := by omega
              have hE := HE.out.1 (by rw [HST.out, if_pos (by omega)])
              have HRE : Hid (ae = 2 ∧ rr = []) := hE
              clear hst hck hx hall hs hLr HST hE h60
              obtain ⟨⟨kk, frm, to, left, right⟩, vf, vt, vl, vr, ls, rs⟩ := x
              obtain ⟨_, _, hf, ht, hls, hrs, _⟩ := hC
              dsimp only at q0 q1 q2 q3 q4 hf ht hls hrs
              obtain ⟨af, cf, hv, _, _⟩ := hf.len
              subst hv
              obtain ⟨at', ct, hv, _, _⟩ := ht.len
              subst hv
              obtain ⟨al, cl, hv, _, _⟩ := hls.len
              subst hv
              obtain ⟨ar, cr, hv, _, _⟩ := hrs.len
              subst hv
              clear hf ht hls hrs hI
              go_wp2
              go_ret2
              obtain ⟨e1, e2⟩ := HRE.out
              exact ⟨_, by rw [e1]; rfl, by rw [e2]; exact isI_nil _, fresh_nil _ _ _, hbT.trans ((hbo _).mono hbT.size)⟩
          · have hE := HE.out.2 t (by rw [hall.out.1, List.drop_of_length_le (by rw [chs_length]; omega)]; rfl)
            have HRE : Hid (ae = 0 ∧ rr = t) := hE
            clear hall hLr hE
            go_wp2
            go_ret2
            obtain ⟨e1, e2⟩ := HRE.out
            exact ⟨_, by rw [e1]; rfl, by rw [e2]; exact hI, hF, hbT⟩
    · obtain ⟨e1, e2⟩ := allE_text (l := chs xs) (text := text) hc ht
      rw [e1, e2]
      have hne : (textE (headK (chs xs)) text == 0) = false := by simpa using ht
      obtain ⟨te, hte⟩ : ∃ z, textE (headK (chs xs)) text = z := ⟨_, rfl⟩
      rw [hte] at hkk hne ⊢
      clear e1 e2 hte ht hc hg hx HG
      by_cases h0 : xs.length = 0
      · have hnil : xs = [] := List.length_eq_zero_iff.1 h0
        subst hnil
        have hk60 : ∀ W, Below w.heap.size w W → Calls Try.prog 49 #[vx, .int .i64 60] W fun e w' => e = .returned (.int .i64 te) ∧ Below W.heap.size W w' := hkk
        clear hkk h HL
        go_enter Try.func28, Try.ntmps28
        go_wp2_with (first
          | (go_at_call 48; refine con25.mono ?_; rintro e w1 ⟨rfl, hb1⟩)
          | (go_at_call 49; refine (hk60 _ hb1).mono ?_; rintro e w2 ⟨rfl, hb2⟩; have B2 := hb1.trans (hb2.mono hb1.size)))
        go_ret2
        exact ⟨_, rfl, isI_nil _, fresh_nil _ _ _, B2⟩
      · have hpos : 0 < xs.length := by omega
        obtain ⟨b, off, rfl⟩ : ∃ b o, a = some ⟨b, o, none⟩ := by
          rcases h.shape with ⟨_, _, _, e⟩ | ⟨b', o', c', hv, _⟩
          · rw [e] at hpos
            simp at hpos
          · simp only [Value.slice.injEq] at hv
            exact ⟨b', o', hv.1⟩
        obtain ⟨hbl, k0, _⟩ := change_cells h 0 hpos
        rw [Nat.zero_mul, Nat.add_zero] at k0
        have hhead : headK (chs xs) = (xs[0]).c.kinds := by
          cases xs with
          | nil => simp at hpos
          | cons x l => rfl
        rw [← hhead] at k0
        obtain ⟨kd, hkd⟩ : ∃ z, headK (chs xs) = z := ⟨_, rfl⟩
        rw [hkd] at k0 hkk
        have hpi : (0 : Int) < (xs.length : Int) := by omega
        clear hhead hkd h h0 HL
        go_enter Try.func28, Try.ntmps28
        go_wp2_with (first
          | (go_at_call 48; refine con25.mono ?_; rintro e w1 ⟨rfl, hb1⟩; have k1 : w1.cell? ⟨b, off, none⟩ = some (.int .i64 kd) := (hb1.cell (p := ⟨b, off, none⟩) hbl).trans k0)
          | (go_at_call 49; refine (hkk _ hb1).mono ?_; rintro e w2 ⟨rfl, hb2⟩; have B2 := hb1.trans (hb2.mono hb1.size)))
        go_ret2
        exact ⟨_, rfl, isI_nil _, fresh_nil _ _ _, B2⟩
  · obtain ⟨e1, e2⟩ := allE_checks (l := chs xs) (text := text) hc
    rw [e1, e2]
    have hne : (checks (chs xs) == 0) = false := by simpa using hc
    generalize checks (chs xs) = r at con25 hne ⊢
    clear e1 e2 hc h hx
    go_enter Try.func28, Try.ntmps28
    go_wp2_with (go_at_call 48; refine con25.mono ?_; rintro e w1 ⟨rfl, hb1⟩)
    go_ret2
    exact ⟨_, rfl, isI_nil _, fresh_nil _ _ _, hb1⟩
end Go.Proofs.Ytkcbgapakpheiaa.Al2
