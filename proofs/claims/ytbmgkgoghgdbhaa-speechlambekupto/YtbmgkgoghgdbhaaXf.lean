/- SpeechLambek walked: it returns true. Condition: the lists have at most some millions of parts. -/
import Derived.Test.YtbmgkgoghgdbhaaXe
import Derived.Deep.CutRange
namespace Go.Proofs.Ytbmgkgoghgdbhaa.Te
open Go.RowKit

set_option maxRecDepth 100000 in
set_option maxHeartbeats 8000000 in
theorem lambek_law {dd : Nat} (G : List Ty) (aG : Option Addr) (cG : Nat) (D : List Ty) (aD : Option Addr) (cD : Nat) (H : List Ty) (aH : Option Addr) (cH : Nat) (x : Ty) (ax : Option Addr) (cx : Nat) (z : Ty) (az : Option Addr) (cz : Nat) (w : World)
    (hG : TyAt w (dd + 1) ⟨0, 0, G⟩ aG cG) (nG : G.length ≤ 10000000) (hD : TyAt w (dd + 1) ⟨0, 0, D⟩ aD cD) (nD : D.length ≤ 10000000) (rD : D.length ≤ cD) (hH : TyAt w (dd + 1) ⟨0, 0, H⟩ aH cH) (nH : H.length ≤ 10000000) (hx : TyAt w dd x ax cx) (hz : TyAt w dd z az cz) :
    Calls Try.prog 8 #[.slice aG G.length cG, .slice aD D.length cD, .slice aH H.length cH, vty x ax cx, vty z az cz] w fun e w' => e = .returned (.bool true) ∧ Below w.heap.size w w' := by
  have HG : Hid (TyAt w (dd + 1) ⟨0, 0, G⟩ aG cG) := hG
  have HD : Hid (TyAt w (dd + 1) ⟨0, 0, D⟩ aD cD) := hD
  have HH : Hid (TyAt w (dd + 1) ⟨0, 0, H⟩ aH cH) := hH
  have HX : Hid (TyAt w dd x ax cx) := hx
  have HZ : Hid (TyAt w dd z az cz) := hz
  have HRD : Hid (D.length ≤ cD) := rD
  obtain ⟨e1, he1⟩ : ∃ e, cseq D x = e := ⟨_, rfl⟩
  obtain ⟨r1, hr1⟩ := fix_bool (cseq D x = 0 ∧ E D x)
  obtain ⟨f2, hf2⟩ : ∃ f, [] ++ G ++ [x] ++ H = f := ⟨_, rfl⟩
  obtain ⟨e2, he2⟩ : ∃ e, cseq f2 z = e := ⟨_, rfl⟩
  obtain ⟨r2, hr2⟩ := fix_bool (cseq f2 z = 0 ∧ E f2 z)
  obtain ⟨f3, hf3⟩ : ∃ f, [] ++ G ++ D ++ H = f := ⟨_, rfl⟩
  obtain ⟨e3, he3⟩ : ∃ e, cseq f3 z = e := ⟨_, rfl⟩
  obtain ⟨r3, hr3⟩ := fix_bool (cseq f3 z = 0 ∧ E f3 z)
  obtain ⟨e4, he4⟩ : ∃ e, cseq D (ov z x) = e := ⟨_, rfl⟩
  obtain ⟨r4, hr4⟩ := fix_bool (cseq D (ov z x) = 0 ∧ E D (ov z x))
  obtain ⟨f5, hf5⟩ : ∃ f, [] ++ D ++ [x] = f := ⟨_, rfl⟩
  obtain ⟨e5, he5⟩ : ∃ e, cseq f5 z = e := ⟨_, rfl⟩
  obtain ⟨r5, hr5⟩ := fix_bool (cseq f5 z = 0 ∧ E f5 z)
  obtain ⟨e6, he6⟩ : ∃ e, cseq D (un x z) = e := ⟨_, rfl⟩
  obtain ⟨r6, hr6⟩ := fix_bool (cseq D (un x z) = 0 ∧ E D (un x z))
  obtain ⟨f7, hf7⟩ : ∃ f, [x] ++ D = f := ⟨_, rfl⟩
  obtain ⟨e7, he7⟩ : ∃ e, cseq f7 z = e := ⟨_, rfl⟩
  obtain ⟨r7, hr7⟩ := fix_bool (cseq f7 z = 0 ∧ E f7 z)
  have HS45 : Hid (e4 = 0 → e5 = 0 → r4 = r5) := fun a b => lam_same (by rw [← he4]; exact hr4) (by rw [← he5]; exact hr5) (by rw [← hf5]; exact lam_ov) a b
  have HS67 : Hid (e6 = 0 → e7 = 0 → r6 = r7) := fun a b => lam_same (by rw [← he6]; exact hr6) (by rw [← he7]; exact hr7) (by rw [← hf7]; exact lam_un) a b
  have HE1 : Hid (cseq D x = e1) := he1
  have HE2 : Hid (cseq f2 z = e2) := he2
  have HE3 : Hid (cseq f3 z = e3) := he3
  have HE4 : Hid (cseq D (ov z x) = e4) := he4
  have HE5 : Hid (cseq f5 z = e5) := he5
  have HE6 : Hid (cseq D (un x z) = e6) := he6
  have HE7 : Hid (cseq f7 z = e7) := he7
  have HR1 : Hid (r1 = true ↔ cseq D x = 0 ∧ E D x) := hr1
  have HR2 : Hid (r2 = true ↔ cseq f2 z = 0 ∧ E f2 z) := hr2
  have HR3 : Hid (r3 = true ↔ cseq f3 z = 0 ∧ E f3 z) := hr3
  have HR4 : Hid (r4 = true ↔ cseq D (ov z x) = 0 ∧ E D (ov z x)) := hr4
  have HR5 : Hid (r5 = true ↔ cseq f5 z = 0 ∧ E f5 z) := hr5
  have HR6 : Hid (r6 = true ↔ cseq D (un x z) = 0 ∧ E D (un x z)) := hr6
  have HR7 : Hid (r7 = true ↔ cseq f7 z = 0 ∧ E f7 z) := hr7
  obtain ⟨rb, hrb⟩ : ∃ rb, (r1 && r2) = rb := ⟨_, rfl⟩
  have HRB : Hid ((r1 && r2) = rb) := hrb
  have HF2 : Hid ([] ++ G ++ [x] ++ H = f2) := hf2
  have HF3 : Hid ([] ++ G ++ D ++ H = f3) := hf3
  have HF5 : Hid ([] ++ D ++ [x] = f5) := hf5
  have HF7 : Hid ([x] ++ D = f7) := hf7
  clear hG hD hH hx hz rD he1 he2 he3 he4 he5 he6 he7 hr1 hr2 hr3 hr4 hr5 hr6 hr7 hf2 hf3 hf5 hf7 hrb
  unfold vty
  go_enter Try.func8, Try.ntmps8
  go_upto_region 1 with fail
  obtain ⟨x1, x2, _, hVb⟩ := two_boxes w (.cells #[.int .i64 x.kind, .int .i64 x.n, .slice ax x.kids.length cx] 24) (.cells #[.int .i64 z.kind, .int .i64 z.n, .slice az z.kids.length cz] 24)
  have hS : Sx w x ax cx z az cz ((w.alloc (.cells #[.int .i64 x.kind, .int .i64 x.n, .slice ax x.kids.length cx] 24)).alloc (.cells #[.int .i64 z.kind, .int .i64 z.n, .slice az z.kids.length cz] 24)) := ⟨hVb, x1, x2⟩
  clear x1 x2 hVb
  generalize hV : (w.alloc (.cells #[.int .i64 x.kind, .int .i64 x.n, .slice ax x.kids.length cx] 24)).alloc (.cells #[.int .i64 z.kind, .int .i64 z.n, .slice az z.kids.length cz] 24) = V at *
  clear hV
  have K11 := begun_any V
  go_upto_region 3 with (go_at_call 11; (with_reducible refine K11.mono ?_); rintro e1_ V1 ⟨rfl, hb1⟩; clear K11)
  replace hS := hS.below hb1
  clear hb1
  have i0 := cell_of_row _ _ 0 _ _ _ hS.bx
  have i1 := cell_of_row _ _ 1 _ _ _ hS.bx
  have i2 := cell_of_row _ _ 2 _ _ _ hS.bx
  have j0 := cell_of_row _ _ 0 _ _ _ hS.bz
  have j1 := cell_of_row _ _ 1 _ _ _ hS.bz
  have j2 := cell_of_row _ _ 2 _ _ _ hS.bz
  have K20 := Prove_any D aD cD x ax cx V1 r1 (HD.out.below hS.bel) HRD.out (HX.out.below hS.bel) HR1.out
  rw [HE1.out] at K20
  unfold vty at K20
  go_upto_region 4 with (go_at_call 20; (with_reducible refine K20.mono ?_); rintro e2_ V2 ⟨p1, y1, rfl, hb2, hq_, hq2_⟩; clear K20 hq_ hq2_; unfold vpf)
  replace hS := (hS.below hb2).below ((Below.refl _ V2).alloc (Nat.le_refl _) (.cells #[.int .i64 p1.step, .slice y1.la p1.left.length y1.lc, .int .i64 p1.goal.kind, .int .i64 p1.goal.n, .slice y1.ga p1.goal.kids.length y1.gc, .int .i64 p1.ix, .int .i64 p1.n, .slice y1.ka p1.kids.length y1.kc] 37))
  clear hb2
  clear i0 i1 i2 j0 j1 j2
  generalize hV : V2.alloc (.cells #[.int .i64 p1.step, .slice y1.la p1.left.length y1.lc, .int .i64 p1.goal.kind, .int .i64 p1.goal.n, .slice y1.ga p1.goal.kids.length y1.gc, .int .i64 p1.ix, .int .i64 p1.n, .slice y1.ka p1.kids.length y1.kc] 37) = V3 at *
  clear hV
  generalize V2.heap.size = B11 at *
  refine o8r4 (HG.out.below hS.bel) nG (HH.out.below hS.bel) nH (HX.out.below hS.bel) (HZ.out.below hS.bel) hS.bx hS.bz HF2.out HE2.out HR2.out ?_
  intro v14 v36 v37 v38 v39 v40 v41 v42 v43 v44 v45 v46 v47 v48 v49 V4 hb4
  replace hS := hS.below hb4
  clear hb4
  go_upto_region 5 with fail
  go_cut [60] from 50 to 60 (fun s wx => s = .bool false ∧ Sx w x ax cx z az cz wx)
  case first =>
    obtain rfl | rfl : r1 = true ∨ r1 = false := by cases r1 <;> simp
    · have hz1 := HR1.out.1 rfl
      have he1 : e1 = 0 := HE1.out.symm.trans hz1.1
      subst he1
      obtain ⟨s1, s2, s3, _⟩ := cseq_small HE1.out
      have K30 := level_doc D aD cD x ax cx V4 true (HD.out.below hS.bel) (HX.out.below hS.bel) s2 s3 (by omega) ⟨fun _ b _ => E_level hz1.2 b, fun _ => rfl⟩
      unfold vty at K30
      clear hz1 s1 s2 s3
      have i0 := cell_of_row _ _ 0 _ _ _ hS.bx
      have i1 := cell_of_row _ _ 1 _ _ _ hS.bx
      have i2 := cell_of_row _ _ 2 _ _ _ hS.bx
      have j0 := cell_of_row _ _ 0 _ _ _ hS.bz
      have j1 := cell_of_row _ _ 1 _ _ _ hS.bz
      have j2 := cell_of_row _ _ 2 _ _ _ hS.bz
      go_wp2_with (go_at_call 30; (with_reducible refine K30.mono ?_); rintro e5_ V5 ⟨rfl, hb5⟩; clear K30)
      go_meet
      case rel => exact ⟨rfl, hS.below hb5⟩
    · by_cases q1 : e1 = 0
      · subst q1
        go_wp2_with fail
        go_meet
        case rel => exact ⟨rfl, hS⟩
      · have q1b : (e1 == 0) = false := by simpa using q1
        go_wp2_with fail
        go_meet
        case rel => exact ⟨rfl, hS⟩
  case rest =>
  clear hS
  obtain ⟨rfl, hS⟩ := hcut
  go_upto_region 7 with fail
  obtain ⟨V5, hV5⟩ : ∃ V, wc = V := ⟨_, rfl⟩
  rw [hV5] at hS ⊢
  clear hV5
  obtain ⟨ysG, hsG⟩ := src_of (HG.out.below hS.bel).free
  obtain ⟨ysD, hsD⟩ := src_of (HD.out.below hS.bel).free
  obtain ⟨ysH, hsH⟩ := src_of (HH.out.below hS.bel).free
  have hL0 : Lk V5 dd x ax cx (some (.slice (some ⟨V5.heap.size, 0, none⟩) 0 0, [])) none none (V5.alloc (.cells #[] 24)) := (Lk.start (Below.refl _ _)).mkrow
  obtain ⟨xs0, ho0, hr0⟩ := hL0.fr _ _ rfl
  go_upto_region 8 with (at_builtin; first
    | (refine wpL_src V5 rfl (.tmp 61) (.tmp 62) rfl V5.heap.size _ _ xs0 rfl ho0 cG rfl hsG hL0.bel (by simp; omega) hL0.bel.size ?_; intro v1_ W1 ho_ hg_ hat_; have hL1 := hL0.app ho0 hr0 hsG.2.2.1 ho_ hg_ hat_; clear ho_ hg_ hat_; obtain ⟨xs1, ho1, hr1⟩ := hL1.fr _ _ rfl)
    | (refine wpL_src V5 rfl (.tmp 63) (.tmp 64) rfl V5.heap.size _ _ xs1 rfl ho1 cD rfl hsD hL1.bel (by simp; omega) hL1.bel.size ?_; intro v2_ W2 ho_ hg_ hat_; have hL2 := hL1.app ho1 hr1 hsD.2.2.1 ho_ hg_ hat_; clear ho_ hg_ hat_; obtain ⟨xs2, ho2, hr2⟩ := hL2.fr _ _ rfl)
    | (refine wpL_src V5 rfl (.tmp 65) (.tmp 66) rfl V5.heap.size _ _ xs2 rfl ho2 cH rfl hsH hL2.bel (by simp; omega) hL2.bel.size ?_; intro v3_ W3 ho_ hg_ hat_; have hL3 := hL2.app ho2 hr2 hsH.2.2.1 ho_ hg_ hat_; clear ho_ hg_ hat_; rw [HF3.out] at hL3; have hn3 : f3.length ≤ 100000000 := (by rw [← HF3.out]; simp; omega); obtain ⟨a3, c3, rfl, hr3, hT3⟩ := hL3.list (by omega)))
  replace hS := hS.below hL3.bel
  have HT3 : Hid (TyAt W3 (dd + 1) ⟨0, 0, f3⟩ a3 c3) := hT3
  have HR3C : Hid (f3.length ≤ c3) := hr3
  clear hT3 hr3 hL0 hL1 hL2 hL3 ho0 ho1 ho2 hr0 hr1 hr2 hsG hsD hsH hn3
  go_cut [79] from 68 to 79 (fun s wx => s = .bool rb ∧ wx = W3)
  case first =>
    have q1 : r1 = true → e1 = 0 := fun h => HE1.out.symm.trans (HR1.out.1 h).1
    have q2 : r2 = true → e2 = 0 := fun h => HE2.out.symm.trans (HR2.out.1 h).1
    obtain rfl | rfl : r1 = true ∨ r1 = false := by cases r1 <;> simp
    · have := q1 rfl
      subst this
      obtain rfl | rfl : r2 = true ∨ r2 = false := by cases r2 <;> simp
      · have := q2 rfl
        subst this
        clear q1 q2
        obtain rfl : rb = true := HRB.out.symm
        go_wp2_with fail
        go_meet
        case rel => exact ⟨rfl, rfl⟩
      · clear q1 q2
        by_cases q3 : e2 = 0
        · subst q3
          obtain rfl : rb = false := HRB.out.symm
          go_wp2_with fail
          go_meet
          case rel => exact ⟨rfl, rfl⟩
        · have q3b : (e2 == 0) = false := by simpa using q3
          obtain rfl : rb = false := HRB.out.symm
          go_wp2_with fail
          go_meet
          case rel => exact ⟨rfl, rfl⟩
    · clear q1 q2
      by_cases q3 : e1 = 0
      · subst q3
        by_cases q4 : e2 = 0
        · subst q4
          obtain rfl : rb = false := HRB.out.symm
          go_wp2_with fail
          go_meet
          case rel => exact ⟨rfl, rfl⟩
        · have q4b : (e2 == 0) = false := by simpa using q4
          obtain rfl : rb = false := HRB.out.symm
          go_wp2_with fail
          go_meet
          case rel => exact ⟨rfl, rfl⟩
      · have q3b : (e1 == 0) = false := by simpa using q3
        obtain rfl : rb = false := HRB.out.symm
        go_wp2_with fail
        go_meet
        case rel => exact ⟨rfl, rfl⟩
  case rest =>
  obtain ⟨rfl, rfl⟩ := hcut
  go_upto_if 79 with fail
  go_cut [18, 19, 20] from 80 to 105 (fun _ _ _ wx => Sx w x ax cx z az cz wx)
  case first =>
    obtain rfl | rfl : rb = false ∨ rb = true := by cases rb <;> simp
    · go_wp2_with fail
      go_meet
      case rel => exact hS
    · have hb := HRB.out
      rw [Bool.and_eq_true] at hb
      have z1 := HR1.out.1 hb.1
      have z2 := HR2.out.1 hb.2
      obtain ⟨s1, s2, s3, s4⟩ := cseq_small z1.1
      have c2 := z2
      rw [← HF2.out] at c2
      have hE3 : E f3 z := by rw [← HF3.out]; exact lam_cut s3 s4 z1.2 c2.2
      have h3 := lam_cseq z1.1 c2.1
      rw [HF3.out, HE3.out] at h3
      have q3 : e3 = 0 → r3 = true := fun h => HR3.out.2 ⟨HE3.out.trans h, hE3⟩
      have K20 := Prove_any f3 a3 c3 z az cz wc r3 HT3.out HR3C.out (HZ.out.below hS.bel) HR3.out
      rw [HE3.out] at K20
      unfold vty at K20
      have HQ3 : Hid (e3 = 0 → r3 = true) := q3
      clear z1 z2 s1 s2 s3 s4 c2 hE3 hb q3
      have i0 := cell_of_row _ _ 0 _ _ _ hS.bx
      have i1 := cell_of_row _ _ 1 _ _ _ hS.bx
      have i2 := cell_of_row _ _ 2 _ _ _ hS.bx
      have j0 := cell_of_row _ _ 0 _ _ _ hS.bz
      have j1 := cell_of_row _ _ 1 _ _ _ hS.bz
      have j2 := cell_of_row _ _ 2 _ _ _ hS.bz
      rcases h3 with rfl | rfl | rfl
      · have := HQ3.out rfl
        subst this
        go_wp2_with (go_at_call 20; (with_reducible refine K20.mono ?_); rintro e6_ V6 ⟨p6, y6, rfl, hb6, hq_, hq2_⟩; clear K20 hq_ hq2_; unfold vpf)
        go_meet
        case rel => exact (hS.below hb6).below ((Below.refl _ V6).alloc (Nat.le_refl _) _)
      · go_wp2_with (go_at_call 20; (with_reducible refine K20.mono ?_); rintro e6_ V6 ⟨p6, y6, rfl, hb6, hq_, hq2_⟩; clear K20 hq_ hq2_; unfold vpf)
        go_meet
        case rel => exact (hS.below hb6).below ((Below.refl _ V6).alloc (Nat.le_refl _) _)
      · go_wp2_with (go_at_call 20; (with_reducible refine K20.mono ?_); rintro e6_ V6 ⟨p6, y6, rfl, hb6, hq_, hq2_⟩; clear K20 hq_ hq2_; unfold vpf)
        go_meet
        case rel => exact (hS.below hb6).below ((Below.refl _ V6).alloc (Nat.le_refl _) _)
  case rest =>
  clear hS HT3 HR3C
  have hS := hcut
  clear hcut
  by_cases hD0 : D.length = 0
  · have hD0' : (D.length : Int) = 0 := by omega
    go_wp2_with fail
    go_ret
    exact ⟨rfl, hS.bel⟩
  have hD0' : ¬ (D.length : Int) = 0 := by omega
  have K31 := kover2 z x az cz ax cx wc (HZ.out.below hS.bel) (HX.out.below hS.bel)
  have i0 := cell_of_row _ _ 0 _ _ _ hS.bx
  have i1 := cell_of_row _ _ 1 _ _ _ hS.bx
  have i2 := cell_of_row _ _ 2 _ _ _ hS.bx
  have j0 := cell_of_row _ _ 0 _ _ _ hS.bz
  have j1 := cell_of_row _ _ 1 _ _ _ hS.bz
  have j2 := cell_of_row _ _ 2 _ _ _ hS.bz
  go_upto_region 15 with (first
    | (go_at_call 31; (with_reducible refine K31.mono ?_); rintro e7_ V7 ⟨a7, c7, rfl, hT7, hb7⟩; clear K31; replace hS := hS.below hb7; have K20 := kprove2 HE4.out (HD.out.below hS.bel) HRD.out hT7 HR4.out)
    | (go_at_call 20; (with_reducible refine K20.mono ?_); rintro e8_ V8 ⟨p4, y4, rfl, hb8, hpt, hpf⟩; clear K20; unfold vpf))
  have hn := heap_alloc_new V8 (.cells #[.int .i64 p4.step, .slice y4.la p4.left.length y4.lc, .int .i64 p4.goal.kind, .int .i64 p4.goal.n, .slice y4.ga p4.goal.kids.length y4.gc, .int .i64 p4.ix, .int .i64 p4.n, .slice y4.ka p4.kids.length y4.kc] 37)
  have hbn : Below V8.heap.size V8 (V8.alloc (.cells #[.int .i64 p4.step, .slice y4.la p4.left.length y4.lc, .int .i64 p4.goal.kind, .int .i64 p4.goal.n, .slice y4.ga p4.goal.kids.length y4.gc, .int .i64 p4.ix, .int .i64 p4.n, .slice y4.ka p4.kids.length y4.kc] 37)) := (Below.refl _ V8).alloc (Nat.le_refl _) _
  have HPT : Hid (r4 = true → ∃ d e0, PfAt (fun _ => True) (V8.alloc (.cells #[.int .i64 p4.step, .slice y4.la p4.left.length y4.lc, .int .i64 p4.goal.kind, .int .i64 p4.goal.n, .slice y4.ga p4.goal.kids.length y4.gc, .int .i64 p4.ix, .int .i64 p4.n, .slice y4.ka p4.kids.length y4.kc] 37)) d e0 p4 y4 ∧ Good D (ov z x) p4) := fun h => by
    obtain ⟨d, e0, h1, h2⟩ := hpt h
    exact ⟨d, e0, (h1.keep (Q := fun _ => True) (Nat.le_refl _) (fun _ _ _ => ⟨trivial, rfl⟩)).below hbn, h2⟩
  have HPF : Hid (r4 = false → p4 = pf0 ∧ y4 = pl0) := hpf
  replace hS := (hS.below hb8).below hbn
  clear hpt hpf hb7 hb8 hbn hT7
  clear i0 i1 i2 j0 j1 j2
  generalize hV : V8.alloc (.cells #[.int .i64 p4.step, .slice y4.la p4.left.length y4.lc, .int .i64 p4.goal.kind, .int .i64 p4.goal.n, .slice y4.ga p4.goal.kids.length y4.gc, .int .i64 p4.ix, .int .i64 p4.n, .slice y4.ka p4.kids.length y4.kc] 37) = V9 at *
  clear hV
  generalize V8.heap.size = B21 at *
  refine o8r15 (HD.out.below hS.bel) nD (HX.out.below hS.bel) (HZ.out.below hS.bel) hS.bx hS.bz HF5.out HE5.out HR5.out ?_
  intro v23 v117 v118 v119 v120 v121 v122 v123 v124 v125 v126 v127 v128 V10 hb10
  replace hS := hS.below hb10
  replace hn := (hb10.block _ (lt_of_get hn)).trans hn
  have HPT10 : Hid (r4 = true → ∃ d e0, PfAt (fun _ => True) V10 d e0 p4 y4 ∧ Good D (ov z x) p4) := fun h => by
    obtain ⟨d, e0, h1, h2⟩ := HPT.out h
    exact ⟨d, e0, h1.below hb10, h2⟩
  clear hb10 HPT
  go_upto_region 16 with fail
  go_cut [139] from 129 to 139 (fun s wx => s = .bool false ∧ V10 = wx)
  case first =>
    by_cases q1 : e4 = 0
    · by_cases q2 : e5 = 0
      · have hrr : r4 = r5 := HS45.out q1 q2
        subst q1 q2
        subst hrr
        cases r4
        · go_wp2_with fail
          go_meet
          case rel => exact ⟨rfl, rfl⟩
        · go_wp2_with fail
          go_meet
          case rel => exact ⟨rfl, rfl⟩
      · have q2b : (e5 == 0) = false := by simpa using q2
        subst q1
        go_wp2_with fail
        go_meet
        case rel => exact ⟨rfl, rfl⟩
    · have q1b : (e4 == 0) = false := by simpa using q1
      go_wp2_with fail
      go_meet
      case rel => exact ⟨rfl, rfl⟩
  case rest =>
  obtain ⟨rfl, rfl⟩ := hcut
  have K32 := kunder2 x z ax cx az cz V10 (HX.out.below hS.bel) (HZ.out.below hS.bel)
  have i0 := cell_of_row _ _ 0 _ _ _ hS.bx
  have i1 := cell_of_row _ _ 1 _ _ _ hS.bx
  have i2 := cell_of_row _ _ 2 _ _ _ hS.bx
  have j0 := cell_of_row _ _ 0 _ _ _ hS.bz
  have j1 := cell_of_row _ _ 1 _ _ _ hS.bz
  have j2 := cell_of_row _ _ 2 _ _ _ hS.bz
  go_upto_region 19 with (first
    | (go_at_call 32; (with_reducible refine K32.mono ?_); rintro e11_ V11 ⟨a11, c11, rfl, hT11, hb11⟩; clear K32; have hS11 := hS.below hb11; have K20 := kprove3 HE6.out (HD.out.below hS11.bel) HRD.out hT11 HR6.out)
    | (go_at_call 20; (with_reducible refine K20.mono ?_); rintro e12_ V12 ⟨p12, y12, rfl, hb12, hq_, hq2_⟩; clear K20 hq_ hq2_; unfold vpf))
  have hbb := hb11.trans (hb12.mono hb11.size)
  replace hS := hS.below hbb
  replace hn := (hbb.block _ (lt_of_get hn)).trans hn
  have HPT12 : Hid (r4 = true → ∃ d e0, PfAt (fun _ => True) V12 d e0 p4 y4 ∧ Good D (ov z x) p4) := fun h => by
    obtain ⟨d, e0, h1, h2⟩ := HPT10.out h
    exact ⟨d, e0, h1.below hbb, h2⟩
  clear hbb hb11 hb12 hS11 hT11 HPT10
  clear i0 i1 i2 j0 j1 j2
  refine o8r19 (HD.out.below hS.bel) nD (HX.out.below hS.bel) (HZ.out.below hS.bel) hS.bx hS.bz HF7.out HE7.out HR7.out ?_
  intro v149 v150 v151 v152 v153 v154 v155 v156 v157 v158 V13 hb13
  replace hS := hS.below hb13
  replace hn := (hb13.block _ (lt_of_get hn)).trans hn
  have HPT13 : Hid (r4 = true → ∃ d e0, PfAt (fun _ => True) V13 d e0 p4 y4 ∧ Good D (ov z x) p4) := fun h => by
    obtain ⟨d, e0, h1, h2⟩ := HPT12.out h
    exact ⟨d, e0, h1.below hb13, h2⟩
  clear hb13 HPT12
  go_upto_region 20 with fail
  go_cut [169] from 159 to 169 (fun s wx => s = .bool false ∧ V13 = wx)
  case first =>
    by_cases q1 : e6 = 0
    · by_cases q2 : e7 = 0
      · have hrr : r6 = r7 := HS67.out q1 q2
        subst q1 q2
        subst hrr
        cases r6
        · go_wp2_with fail
          go_meet
          case rel => exact ⟨rfl, rfl⟩
        · go_wp2_with fail
          go_meet
          case rel => exact ⟨rfl, rfl⟩
      · have q2b : (e7 == 0) = false := by simpa using q2
        subst q1
        go_wp2_with fail
        go_meet
        case rel => exact ⟨rfl, rfl⟩
    · have q1b : (e6 == 0) = false := by simpa using q1
      go_wp2_with fail
      go_meet
      case rel => exact ⟨rfl, rfl⟩
  case rest =>
  obtain ⟨rfl, rfl⟩ := hcut
  obtain rfl | rfl : r4 = false ∨ r4 = true := by cases r4 <;> simp
  · obtain ⟨rfl, rfl⟩ := HPF.out rfl
    have k0 := cell_of_row _ _ 0 _ _ _ hn
    have k0 : V13.cell? ⟨B21, 0, none⟩ = some (.int .i64 0) := k0
    go_wp2_with fail
    go_ret
    exact ⟨rfl, hS.bel⟩
  obtain ⟨dp, ep, hp4, hg4⟩ := HPT13.out rfl
  have hst := good_step hg4
  have hstb : (p4.step == 0) = false := by simpa using hst
  have hc4 := (HR4.out.1 rfl).1
  obtain ⟨f1, f2_, f3_, f4_, f5_⟩ := good_fine hc4 hg4
  have hrt : rtE p4 = 0 := by
    unfold rtE
    rw [if_neg (by rw [f5_]; simp; omega)]
    exact f4_
  have hct : ct p4 true = 0 := by
    unfold ct
    rw [if_pos hrt, if_pos rfl, hg4.1, hg4.2.1]
    exact hc4
  have K17 := fun W (hW : Below V13.heap.size V13 W) => Right_any p4 y4 W true (hp4.below hW) ⟨fun _ => hg4.2.2.1, fun _ => rfl⟩
  have K25 := fun W (hW : Below V13.heap.size V13 W) => cutless_any p4 y4 W true (hp4.below hW) ⟨fun _ => hg4.2.2.1, fun _ => rfl⟩
  unfold RightQ at K17
  rw [hrt, if_pos rfl] at K17
  rw [hct] at K25
  unfold vpf at K17 K25
  clear hp4 hg4 hst hc4 f1 f2_ f3_ f4_ f5_ hrt hct HPT13 HPF
  have k0 := cell_of_row _ _ 0 _ _ _ hn
  have k1 := cell_of_row _ _ 1 _ _ _ hn
  have k2 := cell_of_row _ _ 2 _ _ _ hn
  have k3 := cell_of_row _ _ 3 _ _ _ hn
  have k4 := cell_of_row _ _ 4 _ _ _ hn
  have k5 := cell_of_row _ _ 5 _ _ _ hn
  have k6 := cell_of_row _ _ 6 _ _ _ hn
  have k7 := cell_of_row _ _ 7 _ _ _ hn
  go_upto_region 25 with (go_at_call 17; (with_reducible refine (K17 _ (Below.refl _ _)).mono ?_); rintro e14_ V14 ⟨rfl, hb14⟩; clear K17)
  replace hS := hS.below hb14
  replace hn := (hb14.block _ (lt_of_get hn)).trans hn
  clear k0 k1 k2 k3 k4 k5 k6 k7
  have K25 := K25 _ hb14
  have k0 := cell_of_row _ _ 0 _ _ _ hn
  have k1 := cell_of_row _ _ 1 _ _ _ hn
  have k2 := cell_of_row _ _ 2 _ _ _ hn
  have k3 := cell_of_row _ _ 3 _ _ _ hn
  have k4 := cell_of_row _ _ 4 _ _ _ hn
  have k5 := cell_of_row _ _ 5 _ _ _ hn
  have k6 := cell_of_row _ _ 6 _ _ _ hn
  have k7 := cell_of_row _ _ 7 _ _ _ hn
  go_upto_region 26 with (go_at_call 25; (with_reducible refine K25.mono ?_); rintro e15_ V15 ⟨p5, y5, rfl, hb15, hp5, hq_⟩; clear K25 hq_; unfold vpf)
  obtain ⟨_, _, _, hg5, _⟩ := hp5 (by trivial)
  have hst5 := good_step hg5
  have hst5b : (p5.step != 0) = true := bne_iff_ne.2 hst5
  have hm := heap_alloc_new V15 (.cells #[.int .i64 p5.step, .slice y5.la p5.left.length y5.lc, .int .i64 p5.goal.kind, .int .i64 p5.goal.n, .slice y5.ga p5.goal.kids.length y5.gc, .int .i64 p5.ix, .int .i64 p5.n, .slice y5.ka p5.kids.length y5.kc] 37)
  replace hS := (hS.below hb15).below ((Below.refl _ V15).alloc (Nat.le_refl _) (.cells #[.int .i64 p5.step, .slice y5.la p5.left.length y5.lc, .int .i64 p5.goal.kind, .int .i64 p5.goal.n, .slice y5.ga p5.goal.kids.length y5.gc, .int .i64 p5.ix, .int .i64 p5.n, .slice y5.ka p5.kids.length y5.kc] 37))
  clear k0 k1 k2 k3 k4 k5 k6 k7 hg5 hp5 hn
  generalize hV : V15.alloc (.cells #[.int .i64 p5.step, .slice y5.la p5.left.length y5.lc, .int .i64 p5.goal.kind, .int .i64 p5.goal.n, .slice y5.ga p5.goal.kids.length y5.gc, .int .i64 p5.ix, .int .i64 p5.n, .slice y5.ka p5.kids.length y5.kc] 37) = V16 at *
  clear hV
  have m0 := cell_of_row _ _ 0 _ _ _ hm
  go_wp2_with fail
  go_ret
  exact ⟨rfl, hS.bel⟩
end Go.Proofs.Ytbmgkgoghgdbhaa.Te
