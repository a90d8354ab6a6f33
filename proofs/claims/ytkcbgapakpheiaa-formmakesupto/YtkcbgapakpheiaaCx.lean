/- The document's CheckLexicon: what the document says. No conditions beyond how the lexicon lies. -/
import Derived.Test.YtkcbgapakpheiaaMk
import Derived.Test.YtkcbgapakpheiaaCr
import Derived.Deep.DeepCutAuto
namespace Go.Proofs.Ytkcbgapakpheiaa.Cx
open Go.RowKit Go.Shelf Sd Md Sc Ap Aq Ls Lx Ly Lz Fo Mk

theorem many_iff (k : Int) (a : List St) (b : List Ce) (c : List Ch) : Lex.manyB ⟨k, a, b, c⟩ = decide (40 < a.length ∨ 20 < b.length ∨ 3 < c.length ∨ k < 1 ∨ 4 < k) := by
  unfold Lex.manyB
  dsimp only
  by_cases h : 40 < a.length ∨ 20 < b.length ∨ 3 < c.length ∨ k < 1 ∨ 4 < k
  · rw [decide_eq_true h]
    simp only [Bool.or_eq_true, decide_eq_true_eq]
    omega
  · rw [decide_eq_false h]
    simp only [Bool.or_eq_false_iff, decide_eq_false_iff_not]
    omega
theorem any_take {α : Type} (l : List α) (p : α → Bool) (j : Nat) (hj : j < l.length) : (l.take (j + 1)).any p = ((l.take j).any p || p l[j]) := by
  rw [List.take_add_one, List.getElem?_eq_getElem hj, List.any_append]
  simp
def sL (p : VSt) : Bool := stLong p.2
def sF (k : Int) (p : VSt) : Bool := stFar k p.2
def cL (p : VCe) : Bool := ceLong p.2
def cF (k : Int) (p : VCe) : Bool := ceFar k p.2
theorem check_of {k : Int} {vs vc vh : Value} {sts : List VSt} {ces : List VCe} {xs : List VC} (h : ¬ (40 < sts.length ∨ 20 < ces.length ∨ 3 < xs.length ∨ k < 1 ∨ 4 < k)) :
    checkX (VX.lex ⟨k, vs, vc, vh, sts, ces, xs⟩) = if (sts.any sL || ces.any cL) then 2 else if (sts.any (sF k) || ces.any (cF k)) then 3 else firstX k (chs xs) := by
  unfold checkX VX.lex
  rw [many_iff, List.length_map, List.length_map, chs_length, decide_eq_false h, if_neg (by simp)]
  simp only [Lex.longB, Lex.farB, List.any_map]
  rfl

set_option maxHeartbeats 8000000 in
set_option maxRecDepth 100000 in
theorem check_any (y : VX) (w : World) (h : IsX w y) : Calls Try.prog 6 #[y.val] w fun e w' => e = .returned (.int .i64 (checkX y.lex)) ∧ Below w.heap.size w w' := by
  have hb1 : ∀ (W : World) (o : Obj), Below W.heap.size W (W.alloc o) := fun W o => (Below.refl _ _).alloc (Nat.le_refl _) _
  obtain ⟨k, vs, vc, vh, sts, ces, xs⟩ := y
  have hS := h.s
  have hCe := h.c
  have hL := h.h
  dsimp only at hS hCe hL
  obtain ⟨aS, cs, hv, _, hmS⟩ := IsR.len hS
  subst hv
  obtain ⟨aC, cc, hv, _, hmC⟩ := IsR.len hCe
  subst hv
  obtain ⟨aH, cH, hv, _, hmH⟩ := hL.len
  subst hv
  have HS : Hid (IsSt w (.slice aS sts.length cs) sts) := hS
  have HC : Hid (IsCe w (.slice aC ces.length cc) ces) := hCe
  have HL : Hid (IsL w (.slice aH xs.length cH) xs) := hL
  have HM : Hid (sts.length ≤ 140737488355328 ∧ ces.length ≤ 140737488355328 ∧ xs.length ≤ 140737488355328) := ⟨hmS, hmC, hmH⟩
  simp only [VX.val]
  clear h hS hCe hL hmS hmC hmH
  have seven : (40 < sts.length ∨ 20 < ces.length ∨ 3 < xs.length ∨ k < 1 ∨ 4 < k) → checkX (VX.lex ⟨k, .slice aS sts.length cs, .slice aC ces.length cc, .slice aH xs.length cH, sts, ces, xs⟩) = 7 := by
    intro h
    unfold checkX VX.lex
    rw [many_iff, List.length_map, List.length_map, chs_length, decide_eq_true h]
    rfl
  by_cases m1 : (40 : Int) < (sts.length : Int)
  · rw [seven (by omega)]
    clear seven
    go_enter Try.func6, Try.ntmps6
    go_wp2
    go_ret
    exact ⟨rfl, hb1 _ _⟩
  have d1 : decide ((40 : Int) < (sts.length : Int)) = false := decide_eq_false m1
  by_cases m2 : (20 : Int) < (ces.length : Int)
  · rw [seven (by omega)]
    clear seven
    go_enter Try.func6, Try.ntmps6
    go_wp2
    go_ret
    exact ⟨rfl, hb1 _ _⟩
  have d2 : decide ((20 : Int) < (ces.length : Int)) = false := decide_eq_false m2
  by_cases m3 : (3 : Int) < (xs.length : Int)
  · rw [seven (by omega)]
    clear seven
    go_enter Try.func6, Try.ntmps6
    go_wp2
    go_ret
    exact ⟨rfl, hb1 _ _⟩
  have d3 : decide ((3 : Int) < (xs.length : Int)) = false := decide_eq_false m3
  by_cases m4 : k < 1
  · rw [seven (by omega)]
    clear seven
    go_enter Try.func6, Try.ntmps6
    go_wp2
    go_ret
    exact ⟨rfl, hb1 _ _⟩
  have d4 : decide (k < 1) = false := decide_eq_false m4
  by_cases m5 : 4 < k
  · rw [seven (by omega)]
    clear seven
    go_enter Try.func6, Try.ntmps6
    go_wp2
    go_ret
    exact ⟨rfl, hb1 _ _⟩
  have d5 : decide (4 < k) = false := decide_eq_false m5
  clear seven
  have hck := check_of (k := k) (vs := .slice aS sts.length cs) (vc := .slice aC ces.length cc) (vh := .slice aH xs.length cH) (sts := sts) (ces := ces) (xs := xs) (by omega)
  rw [hck]
  obtain ⟨R, hR⟩ : ∃ z, (if (sts.any sL || ces.any cL) then 2 else if (sts.any (sF k) || ces.any (cF k)) then 3 else firstX k (chs xs)) = z := ⟨_, rfl⟩
  have HR : Hid ((if (sts.any sL || ces.any cL) then 2 else if (sts.any (sF k) || ces.any (cF k)) then 3 else firstX k (chs xs)) = R) := hR
  rw [hR]
  clear hR hck m1 m2 m3 m4 m5
  have bx0 := Bx4.new w k (.slice aS sts.length cs) (.slice aC ces.length cc) (.slice aH xs.length cH)
  go_enter Try.func6, Try.ntmps6
  go_wp2
  obtain ⟨W1, hW1⟩ : ∃ W, w.alloc (.cells #[.int .i64 k, .slice aS sts.length cs, .slice aC ces.length cc, .slice aH xs.length cH] 26) = W := ⟨_, rfl⟩
  have B1 : Below w.heap.size w W1 := by rw [← hW1]; exact hb1 _ _
  rw [hW1] at bx0 ⊢
  clear hW1 d1 d2 d3 d4 d5
  go_loopw [3, 4, 5] (fun s3 s4 i wr => ∃ (j : Nat) (x z : Bool), s3 = .bool x ∧ s4 = .bool z ∧ i = .int .i64 j ∧ j ≤ sts.length ∧ Below W1.heap.size W1 wr ∧ Hid (x = (sts.take j).any sL) ∧ Hid (z = (sts.take j).any (sF k))) (fun _ _ i _ => sts.length - (intOf i).toNat)
  case atStart => exact ⟨0, false, false, rfl, rfl, rfl, Nat.zero_le _, Below.refl _ _, rfl, rfl⟩
  case round =>
    obtain ⟨j, x, z, rfl, rfl, rfl, hj, hbw, hx, hz⟩ := hrel
    have hmm := HM.out
    have xr := bx0.below hbw
    have g0 := xr.g0
    have g1 := xr.g1
    have BR := B1.trans (hbw.mono B1.size)
    by_cases hlt : j < sts.length
    · have hlti : (j : Int) < (sts.length : Int) := by omega
      obtain ⟨bS, oS, rfl⟩ := row_some HS.out (by omega)
      obtain ⟨_, hcell, hq⟩ := row_cells (f := stc) (k := 2) (fun _ => rfl) (IsR.below stQ_up HS.out BR) j hlt
      have t1 := any_take sts sL j hlt
      have t2 := any_take sts (sF k) j hlt
      obtain ⟨⟨vf, st⟩, hst⟩ : ∃ p, sts[j] = p := ⟨_, rfl⟩
      rw [hst] at hcell hq t1 t2
      have c0 := hcell 0 _ (by omega) rfl
      have c1 := hcell 1 _ (by omega) rfl
      rw [Nat.add_zero] at c0
      dsimp only at c0 c1
      have hI : IsI wr vf st.form := hq
      obtain ⟨af, cf, hv, _, hmf⟩ := hI.len
      subst hv
      have HX : Hid (∀ d, stLong st = d → (x || d) = (sts.take (j + 1)).any sL) := by
        intro d hd
        rw [t1, ← hx.out, ← hd]
        rfl
      have HZ : Hid (∀ d, stFar k st = d → (z || d) = (sts.take (j + 1)).any (sF k)) := by
        intro d hd
        rw [t2, ← hz.out, ← hd]
        rfl
      clear hcell hq t1 t2 hx hz hst
      go_upto_region 8 with fail
      obtain ⟨W2, hW2⟩ : ∃ W, wr.alloc (.cells #[.slice af st.form.length cf, .int .i64 st.cls] 51) = W := ⟨_, rfl⟩
      have bW2 : Below wr.heap.size wr W2 := by rw [← hW2]; exact hb1 _ _
      have e0 : W2.cell? ⟨wr.heap.size, 0, none⟩ = some (.slice af st.form.length cf) := by rw [← hW2]; simp
      have e1 : W2.cell? ⟨wr.heap.size, 1, none⟩ = some (.int .i64 st.cls) := by rw [← hW2]; simp
      have xr2 := xr.below bW2
      have f0 := xr2.g0
      have f1 := xr2.g1
      have hI2 := hI.below (Nat.le_refl _) bW2
      rw [hW2]
      clear hW2 c0 c1 g0 g1
      obtain ⟨X, hX⟩ : ∃ b, (x || stLong st) = b := ⟨_, rfl⟩
      obtain ⟨Z, hZ⟩ : ∃ b, (z || stFar k st) = b := ⟨_, rfl⟩
      have HXX : Hid (X = (sts.take (j + 1)).any sL) := by rw [← hX]; exact HX.out _ rfl
      have HZZ : Hid (Z = (sts.take (j + 1)).any (sF k)) := by rw [← hZ]; exact HZ.out _ rfl
      have HXE : Hid ((x || stLong st) = X) := hX
      have HZE : Hid ((z || stFar k st) = Z) := hZ
      clear hX hZ HX HZ
      go_cut [3] from 49 to 61 (fun s3 wx => s3 = .bool X ∧ wx = W2)
      case first =>
        cases x with
        | true =>
          go_wp2
          go_meet
          exact ⟨by rw [← HXE.out]; rfl, rfl⟩
        | false =>
          by_cases a0 : (st.form.length : Int) = 0
          · have d0 : ((st.form.length : Int) == 0) = true := by simpa using a0
            have hl : stLong st = true := by unfold stLong; rw [show decide (st.form.length < 1) = true from decide_eq_true (by omega)]; rfl
            go_wp2
            go_meet
            exact ⟨by rw [← HXE.out, hl]; rfl, rfl⟩
          · have d0 : ((st.form.length : Int) == 0) = false := by simpa using a0
            by_cases a8 : (8 : Int) < (st.form.length : Int)
            · have hl : stLong st = true := by unfold stLong; rw [show decide (8 < st.form.length) = true from decide_eq_true (by omega), Bool.or_true]
              go_wp2
              go_meet
              exact ⟨by rw [← HXE.out, hl]; rfl, rfl⟩
            · have d8 : decide ((8 : Int) < (st.form.length : Int)) = false := decide_eq_false a8
              have hl : stLong st = false := by unfold stLong; rw [show decide (8 < st.form.length) = false from decide_eq_false (by omega), show decide (st.form.length < 1) = false from decide_eq_false (by omega)]; rfl
              go_wp2
              go_meet
              exact ⟨by rw [← HXE.out, hl]; rfl, rfl⟩
      case rest =>
        obtain ⟨rfl, rfl⟩ := hcut
        have c16 := Wi.within_any _ st.form k wc hI2
        unfold okAll at c16
        obtain ⟨r, hr⟩ : ∃ r, st.form.any (bad k) = r := ⟨_, rfl⟩
        rw [hr] at c16
        have hfar : stFar k st = ((decide (st.cls < 0) || decide (99 < st.cls)) || r) := by rw [← hr]; rfl
        have HZF : Hid ((z || ((decide (st.cls < 0) || decide (99 < st.cls)) || r)) = Z) := by rw [← hfar]; exact HZE.out
        clear hfar hr HZE HXE hI2 hI
        generalize st.cls = cl at e1 HZF
        cases z with
        | true =>
          go_wp2
          go_roundw
          case rel => exact ⟨j + 1, X, Z, rfl, by rw [← HZF.out]; rfl, by go_num, by omega, hbw.trans (bW2.mono hbw.size), HXX, HZZ⟩
          case measure => simp [intOf]; omega
        | false =>
          by_cases a0 : cl < 0
          · have d0 : decide (cl < 0) = true := decide_eq_true a0
            go_wp2
            go_roundw
            case rel => exact ⟨j + 1, X, Z, rfl, by rw [← HZF.out, d0]; rfl, by go_num, by omega, hbw.trans (bW2.mono hbw.size), HXX, HZZ⟩
            case measure => simp [intOf]; omega
          · have d0 : decide (cl < 0) = false := decide_eq_false a0
            by_cases a9 : 99 < cl
            · have d9 : decide (99 < cl) = true := decide_eq_true a9
              go_wp2
              go_roundw
              case rel => exact ⟨j + 1, X, Z, rfl, by rw [← HZF.out, d0, d9]; rfl, by go_num, by omega, hbw.trans (bW2.mono hbw.size), HXX, HZZ⟩
              case measure => simp [intOf]; omega
            · have d9 : decide (99 < cl) = false := decide_eq_false a9
              go_wp2_with (go_at_call 16; with_reducible refine c16.mono ?_; rintro e w' ⟨rfl, rfl⟩)
              go_roundw
              case rel => exact ⟨j + 1, X, Z, rfl, by rw [← HZF.out, d0, d9]; simp, by go_num, by omega, hbw.trans (bW2.mono hbw.size), HXX, HZZ⟩
              case measure => simp [intOf]; omega
    · have e : j = sts.length := by omega
      subst e
      rw [List.take_length] at hx hz
      go_wp2
      go_loopw [3, 4, 7] (fun s3 s4 i wq => ∃ (j : Nat) (x z : Bool), s3 = .bool x ∧ s4 = .bool z ∧ i = .int .i64 j ∧ j ≤ ces.length ∧ Below W1.heap.size W1 wq ∧ Hid (x = (sts.any sL || (ces.take j).any cL)) ∧ Hid (z = (sts.any (sF k) || (ces.take j).any (cF k)))) (fun _ _ i _ => ces.length - (intOf i).toNat)
      case atStart => exact ⟨0, x, z, rfl, rfl, rfl, Nat.zero_le _, hbw, by simpa using hx, by simpa using hz⟩
      case round =>
        clear hx hz hbw xr g0 g1 BR hj hlt
        obtain ⟨j, x, z, rfl, rfl, rfl, hj, hbw, hx, hz⟩ := hrel
        have xr := bx0.below hbw
        have g0 := xr.g0
        have g2 := xr.g2
        have BR := B1.trans (hbw.mono B1.size)
        by_cases hlt : j < ces.length
        · have hlti : (j : Int) < (ces.length : Int) := by omega
          obtain ⟨bC, oC, rfl⟩ := row_some HC.out (by omega)
          obtain ⟨_, hcell, hq⟩ := row_cells (f := cec) (k := 3) (fun _ => rfl) (IsR.below ceQ_up HC.out BR) j hlt
          have t1 := any_take ces cL j hlt
          have t2 := any_take ces (cF k) j hlt
          obtain ⟨⟨⟨vb, ve⟩, ce⟩, hce⟩ : ∃ p, ces[j] = p := ⟨_, rfl⟩
          rw [hce] at hcell hq t1 t2
          have c0 := hcell 0 _ (by omega) rfl
          have c1 := hcell 1 _ (by omega) rfl
          have c2 := hcell 2 _ (by omega) rfl
          rw [Nat.add_zero] at c0
          dsimp only at c0 c1 c2
          have hI : IsI wr vb ce.bef := hq.1
          have hJ : IsI wr ve ce.beh := hq.2
          obtain ⟨ab, cb, hv, _, hmb⟩ := hI.len
          subst hv
          obtain ⟨ae, ce', hv, _, hme⟩ := hJ.len
          subst hv
          have HX : Hid (∀ d, ceLong ce = d → (x || d) = (sts.any sL || (ces.take (j + 1)).any cL)) := by
            intro d hd
            rw [t1, ← Bool.or_assoc, ← hx.out, ← hd]
            rfl
          have HZ : Hid (∀ d, ceFar k ce = d → (z || d) = (sts.any (sF k) || (ces.take (j + 1)).any (cF k))) := by
            intro d hd
            rw [t2, ← Bool.or_assoc, ← hz.out, ← hd]
            rfl
          clear hcell hq t1 t2 hx hz hce
          go_upto_region 14 with fail
          obtain ⟨W2, hW2⟩ : ∃ W, wr.alloc (.cells #[.int .i64 ce.cls, .slice ab ce.bef.length cb, .slice ae ce.beh.length ce'] 53) = W := ⟨_, rfl⟩
          have bW2 : Below wr.heap.size wr W2 := by rw [← hW2]; exact hb1 _ _
          have e0 : W2.cell? ⟨wr.heap.size, 0, none⟩ = some (.int .i64 ce.cls) := by rw [← hW2]; simp
          have e1 : W2.cell? ⟨wr.heap.size, 1, none⟩ = some (.slice ab ce.bef.length cb) := by rw [← hW2]; simp
          have e2 : W2.cell? ⟨wr.heap.size, 2, none⟩ = some (.slice ae ce.beh.length ce') := by rw [← hW2]; simp
          have xr2 := xr.below bW2
          have f0 := xr2.g0
          have f2 := xr2.g2
          have hI2 := hI.below (Nat.le_refl _) bW2
          have hJ2 := hJ.below (Nat.le_refl _) bW2
          rw [hW2]
          clear hW2 c0 c1 c2 g0 g2
          obtain ⟨X, hX⟩ : ∃ b, (x || ceLong ce) = b := ⟨_, rfl⟩
          obtain ⟨Z, hZ⟩ : ∃ b, (z || ceFar k ce) = b := ⟨_, rfl⟩
          have HXX : Hid (X = (sts.any sL || (ces.take (j + 1)).any cL)) := by rw [← hX]; exact HX.out _ rfl
          have HZZ : Hid (Z = (sts.any (sF k) || (ces.take (j + 1)).any (cF k))) := by rw [← hZ]; exact HZ.out _ rfl
          have HXE : Hid ((x || ceLong ce) = X) := hX
          have HZE : Hid ((z || ceFar k ce) = Z) := hZ
          clear hX hZ HX HZ
          go_cut [3] from 93 to 105 (fun s3 wx => s3 = .bool X ∧ wx = W2)
          case first =>
            cases x with
            | true =>
              go_wp2
              go_meet
              exact ⟨by rw [← HXE.out]; rfl, rfl⟩
            | false =>
              by_cases a4 : (4 : Int) < (ce.bef.length : Int)
              · have hl : ceLong ce = true := by unfold ceLong; rw [show decide (4 < ce.bef.length) = true from decide_eq_true (by omega)]; rfl
                go_wp2
                go_meet
                exact ⟨by rw [← HXE.out, hl]; rfl, rfl⟩
              · have d4 : decide ((4 : Int) < (ce.bef.length : Int)) = false := decide_eq_false a4
                by_cases a3 : (3 : Int) < (ce.beh.length : Int)
                · have hl : ceLong ce = true := by unfold ceLong; rw [show decide (3 < ce.beh.length) = true from decide_eq_true (by omega), Bool.or_true]
                  go_wp2
                  go_meet
                  exact ⟨by rw [← HXE.out, hl]; rfl, rfl⟩
                · have d3 : decide ((3 : Int) < (ce.beh.length : Int)) = false := decide_eq_false a3
                  have hl : ceLong ce = false := by unfold ceLong; rw [show decide (4 < ce.bef.length) = false from decide_eq_false (by omega), show decide (3 < ce.beh.length) = false from decide_eq_false (by omega)]; rfl
                  go_wp2
                  go_meet
                  exact ⟨by rw [← HXE.out, hl]; rfl, rfl⟩
          case rest =>
            obtain ⟨rfl, rfl⟩ := hcut
            have cA := Wi.within_any _ ce.bef k wc hI2
            have cB := Wi.within_any _ ce.beh k wc hJ2
            unfold okAll at cA cB
            obtain ⟨r, hr⟩ : ∃ r, ce.bef.any (bad k) = r := ⟨_, rfl⟩
            obtain ⟨t, ht⟩ : ∃ r, ce.beh.any (bad k) = r := ⟨_, rfl⟩
            rw [hr] at cA
            rw [ht] at cB
            have hfar : ceFar k ce = (((decide (ce.cls < 0) || decide (99 < ce.cls)) || r) || t) := by rw [← hr, ← ht]; rfl
            have HZF : Hid ((z || (((decide (ce.cls < 0) || decide (99 < ce.cls)) || r) || t)) = Z) := by rw [← hfar]; exact HZE.out
            clear hfar hr ht HZE HXE hI2 hI hJ2 hJ
            generalize ce.cls = cl at e0 HZF
            cases z with
            | true =>
              go_wp2
              go_roundw
              case rel => exact ⟨j + 1, X, Z, rfl, by rw [← HZF.out]; rfl, by go_num, by omega, hbw.trans (bW2.mono hbw.size), HXX, HZZ⟩
              case measure => simp [intOf]; omega
            | false =>
              by_cases a0 : cl < 0
              · have d0 : decide (cl < 0) = true := decide_eq_true a0
                go_wp2
                go_roundw
                case rel => exact ⟨j + 1, X, Z, rfl, by rw [← HZF.out, d0]; rfl, by go_num, by omega, hbw.trans (bW2.mono hbw.size), HXX, HZZ⟩
                case measure => simp [intOf]; omega
              · have d0 : decide (cl < 0) = false := decide_eq_false a0
                by_cases a9 : 99 < cl
                · have d9 : decide (99 < cl) = true := decide_eq_true a9
                  go_wp2
                  go_roundw
                  case rel => exact ⟨j + 1, X, Z, rfl, by rw [← HZF.out, d0, d9]; rfl, by go_num, by omega, hbw.trans (bW2.mono hbw.size), HXX, HZZ⟩
                  case measure => simp [intOf]; omega
                · have d9 : decide (99 < cl) = false := decide_eq_false a9
                  cases r with
                  | true =>
                    go_wp2_with (go_at_call 16; with_reducible refine cA.mono ?_; rintro e w' ⟨rfl, rfl⟩)
                    go_roundw
                    case rel => exact ⟨j + 1, X, Z, rfl, by rw [← HZF.out, d0, d9]; simp, by go_num, by omega, hbw.trans (bW2.mono hbw.size), HXX, HZZ⟩
                    case measure => simp [intOf]; omega
                  | false =>
                    go_wp2_with (first | (go_at_call 16; with_reducible refine cA.mono ?_; rintro e w' ⟨rfl, rfl⟩) | (go_at_call 16; with_reducible refine cB.mono ?_; rintro e w' ⟨rfl, rfl⟩))
                    go_roundw
                    case rel => exact ⟨j + 1, X, Z, rfl, by rw [← HZF.out, d0, d9]; simp, by go_num, by omega, hbw.trans (bW2.mono hbw.size), HXX, HZZ⟩
                    case measure => simp [intOf]; omega
        · have e : j = ces.length := by omega
          subst e
          rw [List.take_length] at hx hz
          have HRR : Hid ((if x then 2 else if z then 3 else firstX k (chs xs)) = R) := by
            show _ = _
            rw [hx.out, hz.out]
            exact HR.out
          clear hx hz HR
          cases x with
          | true =>
            go_wp2
            go_ret
            exact ⟨by rw [← HRR.out]; rfl, BR⟩
          | false =>
            cases z with
            | true =>
              go_wp2
              go_ret
              exact ⟨by rw [← HRR.out]; rfl, BR⟩
            | false =>
              have HF : Hid (firstX k (chs xs) = R) := by
                have := HRR.out
                simpa [Hid] using this
              clear HRR
              go_wp2
              go_loopw [9] (fun i wq => ∃ j : Nat, i = .int .i64 j ∧ j ≤ xs.length ∧ Below W1.heap.size W1 wq ∧ Hid (∀ i (hi : i < (chs xs).length), i < j → oneX k (chs xs)[i] = 0)) (fun i _ => xs.length - (intOf i).toNat)
              case atStart => exact ⟨0, rfl, Nat.zero_le _, hbw, fun j _ h => by omega⟩
              case round =>
                clear hbw xr g0 g2 BR hj hlt
                obtain ⟨j, rfl, hj, hbw, hall⟩ := hrel
                have xr := bx0.below hbw
                have g0 := xr.g0
                have g3 := xr.g3
                have BR := B1.trans (hbw.mono B1.size)
                by_cases hlt : j < xs.length
                · have hlti : (j : Int) < (xs.length : Int) := by omega
                  obtain ⟨b, off, rfl⟩ : ∃ b o, aH = some ⟨b, o, none⟩ := by
                    rcases HL.out.shape with ⟨_, _, _, e⟩ | ⟨b', o', c', hv, _⟩
                    · rw [e] at hlt
                      simp at hlt
                    · simp only [Value.slice.injEq] at hv
                      exact ⟨b', o', hv.1⟩
                  obtain ⟨hbl, q0, q1, q2, q3, q4, hC, hs⟩ := change_cells (HL.out.below (Nat.le_refl _) BR) j hlt
                  have hst := firstX_at (k0 := k) (l := chs xs) (k := j) (by rw [chs_length]; exact hlt)
                  rw [chs_at xs j hlt] at hst
                  have hcj := chs_at xs j hlt
                  obtain ⟨x, hx⟩ : ∃ x, xs[j] = x := ⟨_, rfl⟩
                  rw [hx] at q0 q1 q2 q3 q4 hC hs hst hcj
                  have c19 := Cr.check_any x wr hC hs
                  have HFF : Hid (R = if oneX k x.c = 0 then firstX k ((chs xs).drop (j + 1)) else oneX k x.c) := HF.out.symm.trans ((firstX_drop hall.out).trans hst)
                  have HN : Hid (oneX k x.c = 0 → ∀ i (hi : i < (chs xs).length), i < j + 1 → oneX k (chs xs)[i] = 0) := by
                    intro h0 i hi hij
                    by_cases e : i < j
                    · exact hall.out i hi e
                    · obtain rfl : i = j := by omega
                      rw [hcj]
                      exact h0
                  clear hst hcj hx hall hs hC
                  obtain ⟨⟨kk, frm, tt, left, right⟩, vf, vt, vl, vr, ls, rs⟩ := x
                  dsimp only at q0 q1 q2 q3 q4 c19 HFF HN
                  simp only [VC.val] at c19
                  have hone : oneX k ⟨kk, frm, tt, left, right⟩ = if check ⟨kk, frm, tt, left, right⟩ = 0 then (if kk = k then 0 else 1) else check ⟨kk, frm, tt, left, right⟩ := rfl
                  rw [hone] at HFF HN
                  clear hone
                  have K2 : ∀ w2 : World, Below wr.heap.size wr w2 → w2.cell? ⟨w.heap.size, 0, none⟩ = some (.int .i64 k) ∧ w2.cell? ⟨w.heap.size, 3, none⟩ = some (.slice (some ⟨b, off, none⟩) xs.length cH) ∧ w2.cell? ⟨b, off + j * 5, none⟩ = some (.int .i64 kk) := fun w2 hb2 => ⟨(hb2.cell (World.block_lt_of_cell? _ _ g0)).trans g0, (hb2.cell (World.block_lt_of_cell? _ _ g3)).trans g3, (hb2.cell (World.block_lt_of_cell? _ _ q0)).trans q0⟩
                  by_cases hc : check ⟨kk, frm, tt, left, right⟩ = 0
                  · rw [hc] at c19
                    rw [if_pos hc] at HFF HN
                    by_cases hk : kk = k
                    · have HN2 : Hid (∀ i (hi : i < (chs xs).length), i < j + 1 → oneX k (chs xs)[i] = 0) := HN.out (if_pos hk)
                      subst hk
                      clear HN HFF hc HF
                      have dk : (kk == kk) = true := by simp
                      go_wp2_with (go_at_call 19; refine c19.mono ?_; rintro e w2 ⟨rfl, hb2⟩; obtain ⟨u0, u1, u2⟩ := K2 _ hb2)
                      go_quiet (fail)
                      go_wp2
                      go_roundw
                      case rel => exact ⟨j + 1, by go_num, by omega, below_drewN' (hbw.trans (hb2.mono hbw.size)) _, HN2⟩
                      case measure => simp [intOf]; omega
                    · have HR2 : Hid (R = 1) := by
                        show _ = _
                        rw [HFF.out, if_neg hk, if_neg (by omega)]
                      have dk : (kk == k) = false := by simpa using hk
                      have dk2 : (kk != k) = true := by simpa using hk
                      clear HN HFF hc HF
                      go_wp2_with (go_at_call 19; refine c19.mono ?_; rintro e w2 ⟨rfl, hb2⟩; obtain ⟨u0, u1, u2⟩ := K2 _ hb2)
                      go_quiet (fail)
                      go_wp2
                      go_ret
                      exact ⟨by rw [HR2.out]; rfl, below_drewN' (BR.trans (hb2.mono BR.size)) _⟩
                  · rw [if_neg hc] at HFF
                    have HR2 : Hid (R = check ⟨kk, frm, tt, left, right⟩) := by
                      show _ = _
                      rw [HFF.out, if_neg hc]
                    have hne : (check ⟨kk, frm, tt, left, right⟩ == 0) = false := by simpa using hc
                    have hne2 : (check ⟨kk, frm, tt, left, right⟩ != 0) = true := by simpa using hc
                    generalize check ⟨kk, frm, tt, left, right⟩ = r at c19 hne hne2 HR2
                    clear HN HFF hc HF
                    go_wp2_with (go_at_call 19; refine c19.mono ?_; rintro e w2 ⟨rfl, hb2⟩)
                    go_ret
                    exact ⟨by rw [HR2.out]; rfl, BR.trans (hb2.mono BR.size)⟩
                · have HF0 : Hid (R = 0) := by
                    show _ = _
                    rw [← HF.out, firstX_drop hall.out, List.drop_of_length_le (by rw [chs_length]; omega)]
                    rfl
                  clear hall HF
                  go_wp2
                  go_ret
                  exact ⟨by rw [HF0.out]; rfl, BR⟩
end Go.Proofs.Ytkcbgapakpheiaa.Cx
