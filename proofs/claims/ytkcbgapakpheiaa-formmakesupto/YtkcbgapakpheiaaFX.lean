/- FormMakes: at every lexicon, stem, cell and text as they lie in memory the law returns true. No conditions beyond how they lie. -/
import Derived.Test.YtkcbgapakpheiaaTeM
import Derived.Test.YtkcbgapakpheiaaCx
import Derived.Test.YtkcbgapakpheiaaFb
namespace Go.Proofs.Ytkcbgapakpheiaa.FX
open Go.RowKit Go.Shelf Sd Md Sc Aq Ls Lx Ly Lz Fo Mk Tk Rd Fb Fp Fq Sm Tb Tc Cl Cm Cn

/-- a world in which all that lay in w lies as it lay -/
structure After (w : World) where
  W : World
  h : Below w.heap.size w W
theorem wp_region_after {P : Program} {id : Nat} {Q : Exit → Act → World → Prop} {a : Act} {w : World} {l : List Oper} (hm : P.follows .mixedOrders = true) (hB : Region.lexB .any l.toArray = true)
    (h : wpQuiet P l.toArray (fun w' => ∃ p : After w, w' = p.W) (fun a' => ∀ w', (∃ p : After w, w' = p.W) → Q .normal a' w') l a) : (Code.region id l.toArray true).wp P Q a w :=
  wp_region_quiet (C := fun w' => ∃ p : After w, w' = p.W) hm hB ⟨⟨w.drew, (Below.refl _ _).drew⟩, rfl⟩ (by simpa using h)
theorem after_of {P : Program} {f : FuncId} {args : Array Value} {w : World} {p : After w} {v : Value}
    (h : Calls P f args p.W fun e w' => e = .returned v ∧ Below p.W.heap.size p.W w') : Calls P f args p.W fun e w'' => e = .returned v ∧ ∃ p' : After w, w'' = p'.W :=
  h.mono fun _ w' ⟨he, hb⟩ => ⟨he, ⟨w', p.h.trans (hb.mono p.h.size)⟩, rfl⟩

theorem clash_any (y : VX) (w : World) (h : IsX w y) : Calls Try.prog 13 #[y.val] w fun e w' => e = .returned (.tuple #[rv (clA (clX y)), rv (clB (clX y)), .bool (clX y).isSome, .int .i64 (checkX y.lex)]) ∧ Below w.heap.size w w' := by
  unfold clX
  by_cases hck : checkX y.lex = 0
  · rw [if_pos hck, hck]
    exact clash_good y w h hck
  · rw [if_neg hck]
    exact clash_bad y w h hck
theorem make_three (y : VX) (s c : Int) : (checkX y.lex ≠ 0 → makeE y s c = checkX y.lex ∧ makeR y s c = []) ∧ (checkX y.lex = 0 → (fitX y s c).isSome = false → makeE y s c = 5 ∧ makeR y s c = []) ∧ (checkX y.lex = 0 → (fitX y s c).isSome = true → makeE y s c = 0) := by
  refine ⟨fun h => ⟨if_neg h, if_neg h⟩, fun h hf => ⟨?_, ?_⟩, fun h hf => ?_⟩
  · unfold makeE; rw [if_pos h, hf]; rfl
  · unfold makeR
    rw [if_pos h]
    cases e : fitX y s c with
    | none => rfl
    | some p => rw [e] at hf; cases hf
  · unfold makeE; rw [if_pos h, hf]; rfl
theorem make_zero {y : VX} {s c : Int} (h : makeE y s c = 0) : checkX y.lex = 0 ∧ ∃ (i j : Nat) (hi : i < y.sts.length) (hj : j < y.ces.length), s = i ∧ c = j ∧ makeR y s c = formX (chs y.xs) (y.sts[i]).2 (y.ces[j]).2 := by
  by_cases hck : checkX y.lex = 0
  · refine ⟨hck, ?_⟩
    have e1 : makeE y s c = if (fitX y s c).isSome then 0 else 5 := if_pos hck
    rw [e1] at h
    cases e : fitX y s c with
    | none => rw [e] at h; simp at h
    | some p =>
      obtain ⟨a, b⟩ := p
      obtain ⟨i, j, hs, hc, ha, hb, _⟩ := fit_mem e
      obtain ⟨hi, ha'⟩ := List.getElem?_eq_some_iff.1 ha
      obtain ⟨hj, hb'⟩ := List.getElem?_eq_some_iff.1 hb
      refine ⟨i, j, hi, hj, hs, hc, ?_⟩
      unfold makeR
      rw [if_pos hck, e, ha', hb']
  · have e1 : makeE y s c = checkX y.lex := if_neg hck
    exact absurd (e1.symm.trans h) hck

theorem three (w : World) (a1 a2 b1 b2 z1 z2 : Value) (w' : World) (hb : Below (((w.alloc (.cells #[a1, a2] 40)).alloc (.cells #[b1, b2] 40)).alloc (.cells #[z1, z2] 40)).heap.size (((w.alloc (.cells #[a1, a2] 40)).alloc (.cells #[b1, b2] 40)).alloc (.cells #[z1, z2] 40)) w') :
    (w'.cell? ⟨w.heap.size, 0, none⟩ = some a1 ∧ w'.cell? ⟨w.heap.size, 1, none⟩ = some a2) ∧ (w'.cell? ⟨w.heap.size + 1, 0, none⟩ = some b1 ∧ w'.cell? ⟨w.heap.size + 1, 1, none⟩ = some b2) ∧ w'.cell? ⟨w.heap.size + 1 + 1, 0, none⟩ = some z1 ∧ w'.cell? ⟨w.heap.size + 1 + 1, 1, none⟩ = some z2 := by
  have hA : (((w.alloc (.cells #[a1, a2] 40)).alloc (.cells #[b1, b2] 40)).alloc (.cells #[z1, z2] 40)).heap[w.heap.size]? = some (.cells #[a1, a2] 40 (0, 0)) := ((al _ _).block _ (by simp; omega)).trans (((al _ _).block _ (by simp)).trans (World.alloc_heap_new w _))
  have hB : (((w.alloc (.cells #[a1, a2] 40)).alloc (.cells #[b1, b2] 40)).alloc (.cells #[z1, z2] 40)).heap[w.heap.size + 1]? = some (.cells #[b1, b2] 40 (0, 0)) := by
    have := World.alloc_heap_new (w.alloc (.cells #[a1, a2] 40)) (.cells #[b1, b2] 40)
    rw [World.size_alloc] at this
    exact ((al _ _).block _ (by simp)).trans this
  have hZ : (((w.alloc (.cells #[a1, a2] 40)).alloc (.cells #[b1, b2] 40)).alloc (.cells #[z1, z2] 40)).heap[w.heap.size + 1 + 1]? = some (.cells #[z1, z2] 40 (0, 0)) := by
    have := World.alloc_heap_new ((w.alloc (.cells #[a1, a2] 40)).alloc (.cells #[b1, b2] 40)) (.cells #[z1, z2] 40)
    rw [World.size_alloc, World.size_alloc] at this
    exact this
  obtain ⟨h1, h2, _, _⟩ := two_of ((hb.block _ (Array.getElem?_eq_some_iff.1 hA).1).trans hA)
  obtain ⟨h3, h4, _, _⟩ := two_of ((hb.block _ (Array.getElem?_eq_some_iff.1 hB).1).trans hB)
  obtain ⟨h5, h6, _, _⟩ := two_of ((hb.block _ (Array.getElem?_eq_some_iff.1 hZ).1).trans hZ)
  exact ⟨⟨h1, h2⟩, ⟨h3, h4⟩, h5, h6⟩

set_option maxHeartbeats 8000000 in
set_option maxRecDepth 100000 in
theorem walk (y : VX) (s c : Int) (vx : Value) (text : List Int) (w : World) (h : IsX w y) (hx : IsI w vx text) :
    Calls Try.prog 3 #[y.val, .int .i64 s, .int .i64 c, vx] w fun e w' => e = .returned (.bool true) ∧ Below w.heap.size w w' := by
  have hb1 : ∀ (W : World) (o : Obj), Below W.heap.size W (W.alloc o) := fun W o => (Below.refl _ _).alloc (Nat.le_refl _) _
  have c5 := fun W (hW : Below w.heap.size w W) => make_any y s c W (h.below hW)
  have c6 := fun W (hW : Below w.heap.size w W) => Cx.check_any y W (h.below hW)
  have c7 := fun W (hW : Below w.heap.size w W) => Fs.fits_any y s c W (h.below hW)
  have c10 := fun W (hW : Below w.heap.size w W) => Xb.check_any y W (h.below hW)
  have c12 := fun W (hW : Below w.heap.size w W) => table_any y W (h.below hW)
  have c13 := fun W (hW : Below w.heap.size w W) => clash_any y W (h.below hW)
  have c14 := fun W (hW : Below w.heap.size w W) => read_any y vx text W (h.below hW) (hx.below (Nat.le_refl _) hW)
  obtain ⟨m1, m2, m3⟩ := make_three y s c
  have HZ : Hid (makeE y s c = 0 → ∀ W, Below w.heap.size w W → Calls Try.prog 8 #[y.val, .int .i64 s, .int .i64 c] W fun e w' => ∃ v, e = .returned v ∧ IsI w' v (makeR y s c) ∧ Below W.heap.size W w') := by
    intro h0 W hW
    obtain ⟨hck, i, j, hi, hj, rfl, rfl, hR⟩ := make_zero h0
    rw [hR]
    exact Fm.form_any y i j W (h.below hW) hck hi hj
  have HM : Hid ((checkX y.lex ≠ 0 → makeE y s c = checkX y.lex ∧ makeR y s c = []) ∧ (checkX y.lex = 0 → (fitX y s c).isSome = false → makeE y s c = 5 ∧ makeR y s c = []) ∧ (checkX y.lex = 0 → (fitX y s c).isSome = true → makeE y s c = 0)) := ⟨m1, m2, m3⟩
  have HNZ : Hid (makeE y s c ≠ 0 → makeR y s c = []) := by
    intro h0
    by_cases hck : checkX y.lex = 0
    · cases hf : (fitX y s c).isSome with
      | true => exact absurd (m3 hck hf) h0
      | false => exact (m2 hck hf).2
    · exact (m1 hck).2
  clear m1 m2 m3
  have HX : Hid (IsX w y ∧ IsI w vx text) := ⟨h, hx⟩
  have HY : Hid (y = y) := rfl
  generalize hME : makeE y s c = ME at c5 HZ HM HNZ
  generalize hMR : makeR y s c = MR at c5 HZ HM HNZ
  generalize hfs : (fitX y s c).isSome = fs at c7 HM
  obtain ⟨ck, hck⟩ : ∃ z, checkX y.lex = z := ⟨_, rfl⟩
  have HCK : Hid (checkX y.lex = ck) := hck
  obtain ⟨ax, cx, hv, _, _⟩ := hx.len
  subst hv
  rw [hck] at c6 c10 c12 c13 HM
  clear hME hMR hfs hck h hx
  obtain ⟨k, vs, vc, vh, sts, ces, xs⟩ := y
  simp only [VX.val] at c5 c6 c7 c10 c12 c13 c14 HZ ⊢
  have bx0 := Bx4.new w k vs vc vh
  have e0 := bx0.g0
  have e1 := bx0.g1
  have e2 := bx0.g2
  have e3 := bx0.g3
  go_enter Try.func3, Try.ntmps3
  go_upto_region 4 with (first
    | (go_at_call 5; refine (c5 _ (hb1 _ _)).mono ?_; rintro e w1 ⟨v5, rfl, hI5, hb5⟩; have B1 := (hb1 _ _).trans (hb5.mono (hb1 _ _).size); have x1 := bx0.below hb5; have p0 := x1.g0; have p1 := x1.g1; have p2 := x1.g2; have p3 := x1.g3)
    | (go_at_call 6; refine (c6 _ B1).mono ?_; rintro e w2 ⟨rfl, hb6⟩; have B2 := B1.trans (hb6.mono B1.size); have x2 := x1.below hb6; have q0 := x2.g0; have q1 := x2.g1; have q2 := x2.g2; have q3 := x2.g3; have J5 := hI5.below (Nat.le_refl _) hb6))
  clear e0 e1 e2 e3 p0 p1 p2 p3 bx0 x1 hI5 hb5 hb6 c5
  obtain ⟨b4, hb4⟩ : ∃ b, ((ck == 0) && !fs) = b := ⟨_, rfl⟩
  have HB4 : Hid (((ck == 0) && !fs) = b4) := hb4
  clear hb4
  go_cut [41] from 33 to 40 (fun s41 wx => s41 = .bool b4 ∧ Below w2.heap.size w2 wx)
  case first =>
    by_cases hc0 : ck = 0
    · subst hc0
      cases fs with
      | true =>
        go_wp2_with (go_at_call 7; refine (c7 _ B2).mono ?_; rintro e w3 ⟨rfl, hb7⟩)
        go_meet
        exact ⟨by rw [← HB4.out]; rfl, hb7⟩
      | false =>
        go_wp2_with (go_at_call 7; refine (c7 _ B2).mono ?_; rintro e w3 ⟨rfl, hb7⟩)
        go_meet
        exact ⟨by rw [← HB4.out]; rfl, hb7⟩
    · have d1 : (ck == 0) = false := by simpa using hc0
      go_wp2
      go_meet
      exact ⟨by rw [← HB4.out, d1]; rfl, Below.refl _ _⟩
  case rest =>
    obtain ⟨rfl, hbc⟩ := hcut
    have B3 := B2.trans (hbc.mono B2.size)
    have x3 := x2.below hbc
    have J6 := J5.below (Nat.le_refl _) hbc
    have r0 := x3.g0
    have r1 := x3.g1
    have r2 := x3.g2
    have r3 := x3.g3
    clear x2 J5 hbc B2 q0 q1 q2 q3 c7
    go_upto_if 41 with fail
    go_cut [11] from 41 to 41 (fun s11 wx => s11 = .int .i64 ME ∧ wx = wc)
    case first =>
      cases b4 with
      | true =>
        have HM5 : Hid (ME = 5) := by
          have hb := HB4.out
          cases fs with
          | true => simp at hb
          | false => exact (HM.out.2.1 (by simpa using hb) rfl).1
        go_wp2
        go_meet
        exact ⟨by rw [HM5.out], rfl⟩
      | false =>
        have HMC : Hid (ME = ck) := by
          have hb := HB4.out
          by_cases hc0 : ck = 0
          · cases fs with
            | true => exact (HM.out.2.2 hc0 rfl).trans hc0.symm
            | false => simp [hc0] at hb
          · exact (HM.out.1 hc0).1
        go_wp2
        go_meet
        exact ⟨by rw [HMC.out], rfl⟩
    case rest =>
      obtain ⟨rfl, hwc⟩ := hcut
      subst hwc
      clear HB4
      obtain ⟨b6, hb6⟩ : ∃ b, (ME == 0) = b := ⟨_, rfl⟩
      have HB6 : Hid ((ME == 0) = b6) := hb6
      go_upto_if 43 with fail
      go_cut [12] from 44 to 47 (fun s12 wx => IsI wx s12 MR ∧ Below wc.heap.size wc wx)
      case first =>
        cases b6 with
        | true =>
          have c8 := HZ.out (by simpa using HB6.out) wc B3
          clear hb6
          go_wp2_with (go_at_call 8; refine c8.mono ?_; rintro e w3 ⟨v8, rfl, hI8, hb8⟩)
          go_meet
          exact ⟨hI8, hb8⟩
        | false =>
          have HR : Hid (MR = []) := HNZ.out (by simpa using HB6.out)
          clear hb6
          go_wp2
          go_meet
          exact ⟨by rw [HR.out]; exact isI_nil _, Below.refl _ _⟩
      case rest =>
        obtain ⟨hI12, hbc⟩ := hcut
        have B4 := B3.trans (hbc.mono B3.size)
        have x4 := x3.below hbc
        have J7 := J6.below (Nat.le_refl _) hbc
        have r0 : ∀ p : After wc, p.W.cell? ⟨w.heap.size, 0, none⟩ = some (.int .i64 k) := fun p => (x4.below p.h).g0
        have r1 : ∀ p : After wc, p.W.cell? ⟨w.heap.size, 1, none⟩ = some vs := fun p => (x4.below p.h).g1
        have r2 : ∀ p : After wc, p.W.cell? ⟨w.heap.size, 2, none⟩ = some vc := fun p => (x4.below p.h).g2
        have r3 : ∀ p : After wc, p.W.cell? ⟨w.heap.size, 3, none⟩ = some vh := fun p => (x4.below p.h).g3
        have k9 := fun p : After wc => begun_any p.W
        have k10 := fun p : After wc => c10 p.W (B4.trans (p.h.mono B4.size))
        have k6 := fun p : After wc => c6 p.W (B4.trans (p.h.mono B4.size))
        have k11 := fun p : After wc => (same_any v5 u12 MR p.W (J7.below (Nat.le_refl _) p.h) (hI12.below (Nat.le_refl _) p.h)).mono fun e w' (hh : e = .returned (.bool true) ∧ ∃ q, w' = p.W.drewN q) => (show e = .returned (.bool true) ∧ Below p.W.heap.size p.W w' from ⟨hh.1, by obtain ⟨q, hq⟩ := hh.2; rw [hq]; exact below_drewN' (Below.refl _ _) q⟩)
        have dM : (ME == ME) = true := by simp
        have dM2 : (ME != ME) = false := by simp
        have dC : (ck == ck) = true := by simp
        have dC2 : (ck != ck) = false := by simp
        clear hI12 J7 J6 hbc x3 hb6
        haveI : Inhabited (After wc) := ⟨⟨wc, Below.refl _ _⟩⟩
        go_upto_region 8 with fail
        refine wp_region_after (by kernel_rfl) (by kernel_rfl) ?_
        repeat (go_big_quiet_step (first | (go_at_call 9; refine after_of (k9 _)) | (go_at_call 10; refine after_of (k10 _)) | (go_at_call 6; refine after_of (k6 _)) | (go_at_call 11; refine after_of (k11 _))))
        refine wpQuiet_nil ?_
        intro W hw'
        obtain ⟨⟨W, hW⟩, rfl⟩ := hw'
        have BW := B4.trans (hW.mono B4.size)
        have xW := x4.below hW
        have y0 := xW.g0
        have y1 := xW.g1
        have y2 := xW.g2
        have y3 := xW.g3
        clear k9 k10 k6 k11 r0 r1 r2 r3 c10 HB6 HM HNZ HZ dM dM2 x4 B4 B3 B1
        by_cases hc0 : ck = 0
        · subst hc0
          have hk0 : checkX (VX.lex ⟨k, vs, vc, vh, sts, ces, xs⟩) = 0 := HCK.out
          have eX : clX ⟨k, vs, vc, vh, sts, ces, xs⟩ = clashL (toldX ⟨k, vs, vc, vh, sts, ces, xs⟩) := if_pos hk0
          rw [eX] at c13
          have c15 := fun W (hW : Below w.heap.size w W) tv T hT hTb => Te.tabled_any ⟨k, vs, vc, vh, sts, ces, xs⟩ tv T W (HX.out.1.below hW) hk0 hT hTb
          have c17 := fun W (hW : Below w.heap.size w W) => Rg.readings_any ⟨k, vs, vc, vh, sts, ces, xs⟩ _ text W (HX.out.1.below hW) (HX.out.2.below (Nat.le_refl _) hW) hk0
          have c16 := fun W (hW : Below w.heap.size w W) => Wi.within_any _ text k W (HX.out.2.below (Nat.le_refl _) hW)
          unfold okAll at c16
          have hrd : readE ⟨k, vs, vc, vh, sts, ces, xs⟩ text = (if 60 < text.length then 2 else if text.any (bad k) then 3 else 0) := if_pos hk0
          have hln : (hits text (toldX ⟨k, vs, vc, vh, sts, ces, xs⟩)).length ≤ 800 := Nat.le_trans (hits_len _ _) (Nat.le_trans (toldX_len _) (Nat.mul_le_mul (many_of hk0).1 (many_of hk0).2))
          simp only [VX.val] at c15 c17
          generalize clashL (toldX ⟨k, vs, vc, vh, sts, ces, xs⟩) = LC at c13 c15
          generalize LC.isSome = IS at c13 c15
          obtain ⟨⟨A1, A2⟩, hA⟩ : ∃ p, clA LC = p := ⟨_, rfl⟩
          obtain ⟨⟨B1, B2⟩, hB⟩ : ∃ p, clB LC = p := ⟨_, rfl⟩
          rw [hA, hB] at c13 c15
          simp only [rv] at c13 c15
          clear eX hA hB
          by_cases h60 : 60 < text.length
          · have eE : readE ⟨k, vs, vc, vh, sts, ces, xs⟩ text = 2 := by rw [hrd, if_pos h60]
            have eR : readR ⟨k, vs, vc, vh, sts, ces, xs⟩ text = [] := if_neg (by rw [eE]; decide)
            rw [eE, eR] at c14
            have d6 : decide ((60 : Int) < (text.length : Int)) = true := decide_eq_true (by omega)
            clear eE eR hrd c16 c17 hln
            go_wp2_with (first
            | (go_at_call 6; refine (c6 _ BW).mono ?_; rintro e w6 ⟨rfl, hb6⟩; have B6 := BW.trans (hb6.mono BW.size); have x6 := xW.below hb6; have p0 := x6.g0; have p1 := x6.g1; have p2 := x6.g2; have p3 := x6.g3)
            | (go_at_call 12; refine (c12 _ B6).mono ?_; rintro e w12 ⟨v12, T, rfl, hT12, hT0, _, hb12⟩; have hTn := hT0 (by first | exact rfl | trivial); clear hT0; have B12 := B6.trans (hb12.mono B6.size); have x12 := x6.below hb12; have q0 := x12.g0; have q1 := x12.g1; have q2 := x12.g2; have q3 := x12.g3)
            | (go_at_call 13; refine (c13 _ B12).mono ?_; rintro e w13 ⟨rfl, hb13⟩; have B13 := B12.trans (hb13.mono B12.size); have x13 := x12.below hb13; have z0 := fun o1 o2 o3 => (((x13.below (hb1 w13 o1)).below (hb1 _ o2)).below (hb1 _ o3)).g0; have z1 := fun o1 o2 o3 => (((x13.below (hb1 w13 o1)).below (hb1 _ o2)).below (hb1 _ o3)).g1; have z2 := fun o1 o2 o3 => (((x13.below (hb1 w13 o1)).below (hb1 _ o2)).below (hb1 _ o3)).g2; have z3 := fun o1 o2 o3 => (((x13.below (hb1 w13 o1)).below (hb1 _ o2)).below (hb1 _ o3)).g3; have B3A := fun o1 o2 o3 => ((B13.alloc B13.size o1).alloc (Nat.le_trans B13.size (by simp)) o2).alloc (Nat.le_trans B13.size (by simp; omega)) o3; obtain ⟨⟨t1, t2⟩, ⟨t3, t4⟩, t5, t6⟩ := three w13 (.int .i64 A1) (.int .i64 A2) (.int .i64 B1) (.int .i64 B2) (.int .i64 0) (.int .i64 0) _ (Below.refl _ _); have BT := fun o1 o2 o3 => hb13.trans (((((Below.refl _ w13).alloc (Nat.le_refl _) o1).alloc (by simp) o2).alloc (by simp; omega) o3).mono hb13.size))
            | (go_at_call 15; refine (c15 _ (B3A _ _ _) _ T (IsR.below vtQ_up hT12 (BT _ _ _)) hTn).mono ?_; rintro e w15 ⟨rfl, hb15⟩; have B15 := (B3A _ _ _).trans (hb15.mono (B3A _ _ _).size); have x15 := (((x13.below (hb1 w13 _)).below (hb1 _ _)).below (hb1 _ _)).below hb15; have f0 := x15.g0; have f1 := x15.g1; have f2 := x15.g2; have f3 := x15.g3)
            | (go_at_call 14; refine (c14 _ B15).mono ?_; rintro e w14 ⟨u14, rfl, hu14, hb14⟩; have B14 := B15.trans (hb14.mono B15.size); have x14 := x15.below hb14; have h0 := x14.g0; have h1 := x14.g1; have h2 := x14.g2; have h3 := x14.g3; obtain ⟨_, au, cu, rfl, _, hmu, _, _⟩ := id hu14))
            go_ret
            exact ⟨rfl, B14⟩
          · have d6 : decide ((60 : Int) < (text.length : Int)) = false := decide_eq_false (by omega)
            rw [if_neg h60] at hrd
            by_cases hbad : text.any (bad k) = true
            · have eE : readE ⟨k, vs, vc, vh, sts, ces, xs⟩ text = 3 := by rw [hrd, if_pos hbad]
              have eR : readR ⟨k, vs, vc, vh, sts, ces, xs⟩ text = [] := if_neg (by rw [eE]; decide)
              rw [eE, eR] at c14
              rw [hbad] at c16
              clear eE eR hrd c17 hln
              go_wp2_with (first
            | (go_at_call 6; refine (c6 _ BW).mono ?_; rintro e w6 ⟨rfl, hb6⟩; have B6 := BW.trans (hb6.mono BW.size); have x6 := xW.below hb6; have p0 := x6.g0; have p1 := x6.g1; have p2 := x6.g2; have p3 := x6.g3)
            | (go_at_call 12; refine (c12 _ B6).mono ?_; rintro e w12 ⟨v12, T, rfl, hT12, hT0, _, hb12⟩; have hTn := hT0 (by first | exact rfl | trivial); clear hT0; have B12 := B6.trans (hb12.mono B6.size); have x12 := x6.below hb12; have q0 := x12.g0; have q1 := x12.g1; have q2 := x12.g2; have q3 := x12.g3)
            | (go_at_call 13; refine (c13 _ B12).mono ?_; rintro e w13 ⟨rfl, hb13⟩; have B13 := B12.trans (hb13.mono B12.size); have x13 := x12.below hb13; have z0 := fun o1 o2 o3 => (((x13.below (hb1 w13 o1)).below (hb1 _ o2)).below (hb1 _ o3)).g0; have z1 := fun o1 o2 o3 => (((x13.below (hb1 w13 o1)).below (hb1 _ o2)).below (hb1 _ o3)).g1; have z2 := fun o1 o2 o3 => (((x13.below (hb1 w13 o1)).below (hb1 _ o2)).below (hb1 _ o3)).g2; have z3 := fun o1 o2 o3 => (((x13.below (hb1 w13 o1)).below (hb1 _ o2)).below (hb1 _ o3)).g3; have B3A := fun o1 o2 o3 => ((B13.alloc B13.size o1).alloc (Nat.le_trans B13.size (by simp)) o2).alloc (Nat.le_trans B13.size (by simp; omega)) o3; obtain ⟨⟨t1, t2⟩, ⟨t3, t4⟩, t5, t6⟩ := three w13 (.int .i64 A1) (.int .i64 A2) (.int .i64 B1) (.int .i64 B2) (.int .i64 0) (.int .i64 0) _ (Below.refl _ _); have BT := fun o1 o2 o3 => hb13.trans (((((Below.refl _ w13).alloc (Nat.le_refl _) o1).alloc (by simp) o2).alloc (by simp; omega) o3).mono hb13.size))
            | (go_at_call 15; refine (c15 _ (B3A _ _ _) _ T (IsR.below vtQ_up hT12 (BT _ _ _)) hTn).mono ?_; rintro e w15 ⟨rfl, hb15⟩; have B15 := (B3A _ _ _).trans (hb15.mono (B3A _ _ _).size); have x15 := (((x13.below (hb1 w13 _)).below (hb1 _ _)).below (hb1 _ _)).below hb15; have f0 := x15.g0; have f1 := x15.g1; have f2 := x15.g2; have f3 := x15.g3)
            | (go_at_call 14; refine (c14 _ B15).mono ?_; rintro e w14 ⟨u14, rfl, hu14, hb14⟩; have B14 := B15.trans (hb14.mono B15.size); have x14 := x15.below hb14; have h0 := x14.g0; have h1 := x14.g1; have h2 := x14.g2; have h3 := x14.g3; obtain ⟨_, au, cu, rfl, _, hmu, _, _⟩ := id hu14)
            | (go_at_call 16; refine (c16 _ B14).mono ?_; rintro e w16 ⟨rfl, hw16⟩; obtain rfl := hw16.symm; clear hw16))
              go_ret
              exact ⟨rfl, B14⟩
            · have eE : readE ⟨k, vs, vc, vh, sts, ces, xs⟩ text = 0 := by rw [hrd, if_neg hbad]
              have eR : readR ⟨k, vs, vc, vh, sts, ces, xs⟩ text = hits text (toldX ⟨k, vs, vc, vh, sts, ces, xs⟩) := if_pos eE
              rw [eE, eR] at c14
              rw [show text.any (bad k) = false by simpa using hbad] at c16
              generalize hits text (toldX ⟨k, vs, vc, vh, sts, ces, xs⟩) = hs at c14 c17 hln
              have HL : Hid (hs.length ≤ 800) := hln
              have dl : ((hs.length : Int) == (hs.length : Int)) = true := by simp
              have dl2 : ((hs.length : Int) != (hs.length : Int)) = false := by simp
              clear eE eR hrd hln hbad
              go_wp2_with (first
            | (go_at_call 6; refine (c6 _ BW).mono ?_; rintro e w6 ⟨rfl, hb6⟩; have B6 := BW.trans (hb6.mono BW.size); have x6 := xW.below hb6; have p0 := x6.g0; have p1 := x6.g1; have p2 := x6.g2; have p3 := x6.g3)
            | (go_at_call 12; refine (c12 _ B6).mono ?_; rintro e w12 ⟨v12, T, rfl, hT12, hT0, _, hb12⟩; have hTn := hT0 (by first | exact rfl | trivial); clear hT0; have B12 := B6.trans (hb12.mono B6.size); have x12 := x6.below hb12; have q0 := x12.g0; have q1 := x12.g1; have q2 := x12.g2; have q3 := x12.g3)
            | (go_at_call 13; refine (c13 _ B12).mono ?_; rintro e w13 ⟨rfl, hb13⟩; have B13 := B12.trans (hb13.mono B12.size); have x13 := x12.below hb13; have z0 := fun o1 o2 o3 => (((x13.below (hb1 w13 o1)).below (hb1 _ o2)).below (hb1 _ o3)).g0; have z1 := fun o1 o2 o3 => (((x13.below (hb1 w13 o1)).below (hb1 _ o2)).below (hb1 _ o3)).g1; have z2 := fun o1 o2 o3 => (((x13.below (hb1 w13 o1)).below (hb1 _ o2)).below (hb1 _ o3)).g2; have z3 := fun o1 o2 o3 => (((x13.below (hb1 w13 o1)).below (hb1 _ o2)).below (hb1 _ o3)).g3; have B3A := fun o1 o2 o3 => ((B13.alloc B13.size o1).alloc (Nat.le_trans B13.size (by simp)) o2).alloc (Nat.le_trans B13.size (by simp; omega)) o3; obtain ⟨⟨t1, t2⟩, ⟨t3, t4⟩, t5, t6⟩ := three w13 (.int .i64 A1) (.int .i64 A2) (.int .i64 B1) (.int .i64 B2) (.int .i64 0) (.int .i64 0) _ (Below.refl _ _); have BT := fun o1 o2 o3 => hb13.trans (((((Below.refl _ w13).alloc (Nat.le_refl _) o1).alloc (by simp) o2).alloc (by simp; omega) o3).mono hb13.size))
            | (go_at_call 15; refine (c15 _ (B3A _ _ _) _ T (IsR.below vtQ_up hT12 (BT _ _ _)) hTn).mono ?_; rintro e w15 ⟨rfl, hb15⟩; have B15 := (B3A _ _ _).trans (hb15.mono (B3A _ _ _).size); have x15 := (((x13.below (hb1 w13 _)).below (hb1 _ _)).below (hb1 _ _)).below hb15; have f0 := x15.g0; have f1 := x15.g1; have f2 := x15.g2; have f3 := x15.g3)
            | (go_at_call 14; refine (c14 _ B15).mono ?_; rintro e w14 ⟨u14, rfl, hu14, hb14⟩; have B14 := B15.trans (hb14.mono B15.size); have x14 := x15.below hb14; have h0 := x14.g0; have h1 := x14.g1; have h2 := x14.g2; have h3 := x14.g3; obtain ⟨_, au, cu, rfl, _, hmu, _, _⟩ := id hu14)
            | (go_at_call 16; refine (c16 _ B14).mono ?_; rintro e w16 ⟨rfl, hw16⟩; obtain rfl := hw16.symm; clear hw16)
            | (go_at_call 17; refine (c17 _ B14).mono ?_; rintro e w17 ⟨u17, rfl, hu17, hb17⟩; have B17 := B14.trans (hb17.mono B14.size); have G14 := hu14.below (Nat.le_refl _) hb17; obtain ⟨_, av, cv, rfl, _, _, _, _⟩ := id hu17))
              have R14 : Hid (∀ W, Below w17.heap.size w17 W → IsR rdc 2 (fun _ _ => True) W (.slice au hs.length cu) hs) := fun W hW => ⟨G14.below (Nat.le_refl _) hW, fun _ _ => trivial⟩
              have R17 : Hid (∀ W, Below w17.heap.size w17 W → IsR rdc 2 (fun _ _ => True) W (.slice av hs.length cv) hs) := fun W hW => ⟨hu17.below (Nat.le_refl _) hW, fun _ _ => trivial⟩
              clear G14 hu17 hu14 hb17 hb14 x14 x15 x13 x12 x6 xW h0 h1 h2 h3 f0 f1 f2 f3 z0 z1 z2 z3 t1 t2 t3 t4 t5 t6 q0 q1 q2 q3 p0 p1 p2 p3 y0 y1 y2 y3 hT12 hTn BT B3A c6 c12 c13 c14 c15 c16 c17 hb15 hb13 hb12 hb6
              go_loopw [23] (fun i wr => ∃ n : Nat, i = .int .i64 n ∧ n ≤ hs.length ∧ Below w17.heap.size w17 wr) (fun i _ => hs.length - (intOf i).toNat)
              case atStart => exact ⟨0, rfl, Nat.zero_le _, Below.refl _ _⟩
              case round =>
                obtain ⟨n, rfl, hnl, hbT⟩ := hrel
                have hl8 := HL.out
                by_cases hlt : n < hs.length
                · have hlti : (n : Int) < (hs.length : Int) := by omega
                  obtain ⟨ba, oa, rfl⟩ := row_some (R14.out _ hbT) (by omega)
                  obtain ⟨bb, ob, rfl⟩ := row_some (R17.out _ hbT) (by omega)
                  obtain ⟨_, ha, _⟩ := row_cells (f := rdc) (k := 2) (fun _ => rfl) (R14.out _ hbT) n hlt
                  obtain ⟨_, hb, _⟩ := row_cells (f := rdc) (k := 2) (fun _ => rfl) (R17.out _ hbT) n hlt
                  have a1 := ha 0 _ (by omega) rfl
                  have a2 := ha 1 _ (by omega) rfl
                  have a3 := hb 0 _ (by omega) rfl
                  have a4 := hb 1 _ (by omega) rfl
                  rw [Nat.add_zero] at a1 a3
                  obtain ⟨⟨e1, e2⟩, he⟩ : ∃ p, hs[n] = p := ⟨_, rfl⟩
                  rw [he] at a1 a2 a3 a4
                  dsimp only at a1 a2 a3 a4
                  clear ha hb he
                  go_wp2
                  go_quiet (fail)
                  go_wp2
                  go_roundw
                  case rel => exact ⟨n + 1, by go_num, by omega, below_drewN' hbT _⟩
                  case measure => simp [intOf]; omega
                · go_wp2
                  go_ret
                  exact ⟨rfl, B17.trans (hbT.mono B17.size)⟩
        · have hkne : checkX (VX.lex ⟨k, vs, vc, vh, sts, ces, xs⟩) ≠ 0 := by rw [HCK.out]; exact hc0
          have d1 : (ck == 0) = false := by simpa using hc0
          have d2 : (ck != 0) = true := by simpa using hc0
          have eX : clX ⟨k, vs, vc, vh, sts, ces, xs⟩ = none := if_neg hkne
          rw [eX] at c13
          have c13' : ∀ W, Below w.heap.size w W → Calls Try.prog 13 #[.agg #[.int .i64 k, vs, vc, vh]] W fun e w' => e = .returned (.tuple #[.agg #[.int .i64 0, .int .i64 0], .agg #[.int .i64 0, .int .i64 0], .bool false, .int .i64 ck]) ∧ Below W.heap.size W w' := c13
          have eE : readE ⟨k, vs, vc, vh, sts, ces, xs⟩ text = ck := (if_neg hkne).trans HCK.out
          have eR : readR ⟨k, vs, vc, vh, sts, ces, xs⟩ text = [] := if_neg (by rw [eE]; exact hc0)
          rw [eE, eR] at c14
          clear eX c13 eE eR
          go_wp2_with (first
            | (go_at_call 6; refine (c6 _ BW).mono ?_; rintro e w6 ⟨rfl, hb6⟩; have B6 := BW.trans (hb6.mono BW.size); have x6 := xW.below hb6; have p0 := x6.g0; have p1 := x6.g1; have p2 := x6.g2; have p3 := x6.g3)
            | (go_at_call 12; refine (c12 _ B6).mono ?_; rintro e w12 ⟨v12, T, rfl, hT12, _, hT0, hb12⟩; have hTn := hT0 hc0; subst hTn; clear hT0; obtain ⟨aT, cT, rfl, _, _⟩ := IsR.len hT12; have B12 := B6.trans (hb12.mono B6.size); have x12 := x6.below hb12; have q0 := x12.g0; have q1 := x12.g1; have q2 := x12.g2; have q3 := x12.g3)
            | (go_at_call 13; refine (c13' _ B12).mono ?_; rintro e w13 ⟨rfl, hb13⟩; have B13 := B12.trans (hb13.mono B12.size); have x13 := x12.below hb13; have z0 := fun o1 o2 o3 => (((x13.below (hb1 w13 o1)).below (hb1 _ o2)).below (hb1 _ o3)).g0; have z1 := fun o1 o2 o3 => (((x13.below (hb1 w13 o1)).below (hb1 _ o2)).below (hb1 _ o3)).g1; have z2 := fun o1 o2 o3 => (((x13.below (hb1 w13 o1)).below (hb1 _ o2)).below (hb1 _ o3)).g2; have z3 := fun o1 o2 o3 => (((x13.below (hb1 w13 o1)).below (hb1 _ o2)).below (hb1 _ o3)).g3; have B3A := fun o1 o2 o3 => ((B13.alloc B13.size o1).alloc (Nat.le_trans B13.size (by simp)) o2).alloc (Nat.le_trans B13.size (by simp; omega)) o3)
            | (go_at_call 14; refine (c14 _ (B3A _ _ _)).mono ?_; rintro e w14 ⟨u14, rfl, hu14, hb14⟩; obtain ⟨_, au, cu, rfl, _, _, _, _⟩ := hu14; obtain ⟨⟨t1, t2⟩, ⟨t3, t4⟩, t5, t6⟩ := three w13 _ _ _ _ _ _ _ hb14))
          go_ret
          exact ⟨rfl, (B3A _ _ _).trans (hb14.mono (B3A _ _ _).size)⟩
end Go.Proofs.Ytkcbgapakpheiaa.FX
