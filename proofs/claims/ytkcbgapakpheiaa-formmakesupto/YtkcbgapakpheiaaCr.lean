/- The document's CheckChange: what it says. Condition: the change's spots together are at most 2097152. -/
import Derived.Test.YtkcbgapakpheiaaCc
import Derived.Test.YtkcbgapakpheiaaWi
import Derived.Test.YtkcbgapakpheiaaBx
import Derived.Test.YtkcbgapakpheiaaCk
import Derived.Test.YtkcbgapakpheiaaTu
import Derived.Deep.CutRange
import Derived.Deep.DeepCutAuto
namespace Go.Proofs.Ytkcbgapakpheiaa.Cr
open Go.RowKit Go.Shelf Sd Md Sc Cc Wi Bx Ap Tu

theorem own_empty (w : World) : (w.alloc (.cells #[] 71)).ownsRow w.heap.size 71 2 (.slice (some ⟨w.heap.size, 0, none⟩) 0 0) 0 [] := World.ownsRow_lit (size := 2) w #[] 0 (Nat.le_refl _) (Nat.zero_le _) rfl
theorem below_own {w w' : World} {base e size n : Nat} {v : Value} {xs : List Value} (hg : w.grownBy w' v.ownBlock) (h : w.ownsRow base e size v n xs) (hB : base ≤ w.heap.size) : Below base w w' :=
  (Below.refl _ _).grown hg hB (fun j hj => (h.lt j hj).1)

theorem fin3 {w W3 : World} {base : Nat} {v3 : Value} {ls rs : List VS} (h : W3.ownsRow base 71 2 v3 (0 + ls.length + rs.length) ([] ++ vscs ls ++ vscs rs)) (hl : Each w ls) (hr : Each w rs) (hb : Below w.heap.size w W3) (hs : ls.length + rs.length ≤ 2097152) : IsS W3 v3 (ls ++ rs) := by
  refine ⟨?_, fun p hp => ?_⟩
  · have := row_of_own h (by omega)
    rw [List.nil_append, ← vscs_append, Nat.zero_add, ← List.length_append] at this
    exact this
  · rcases List.mem_append.1 hp with hp | hp
    · exact (hl p hp).below (Nat.le_refl _) hb
    · exact (hr p hp).below (Nat.le_refl _) hb
theorem sizeB_iff (k : Int) (frm tt : List Int) (ls rs : List VS) : Ch.sizeB ⟨k, frm, tt, sps ls, sps rs⟩ = decide (frm.length = 0 ∨ 2 < frm.length ∨ 2 < tt.length ∨ 2 < ls.length ∨ 1 < rs.length) := by
  unfold Ch.sizeB
  dsimp only
  rw [sps_length, sps_length]
  by_cases h : frm.length = 0 ∨ 2 < frm.length ∨ 2 < tt.length ∨ 2 < ls.length ∨ 1 < rs.length
  · rw [decide_eq_true h]
    simp only [Bool.or_eq_true, decide_eq_true_eq]
    omega
  · rw [decide_eq_false h]
    simp only [Bool.or_eq_false_iff, decide_eq_false_iff_not]
    omega
theorem anyS_take {l : List VS} {p : Sp → Bool} {j : Nat} (hj : j < l.length) : (sps (l.take (j + 1))).any p = ((sps (l.take j)).any p || p (l[j]).2) := by
  unfold sps
  rw [List.take_succ_eq_append_getElem hj, List.map_append, List.any_append, List.map_singleton, List.any_cons, List.any_nil, Bool.or_false]
theorem check_of {k : Int} {frm tt : List Int} {ls rs l : List VS} {B1 r1 r2 x y : Bool} (h1 : ¬ k < 1) (h2 : ¬ 4 < k) (hl : ls ++ rs = l) (hB : Ch.sizeB ⟨k, frm, tt, sps ls, sps rs⟩ = B1) (hr1 : frm.any (bad k) = r1) (hr2 : tt.any (bad k) = r2)
    (hx : x = (B1 || (sps l).any wide)) (hy : y = ((r1 || r2) || (sps l).any fun s => s.any.any (bad k))) :
    check ⟨k, frm, tt, sps ls, sps rs⟩ = if x then 2 else if y then 3 else if Ch.formB ⟨k, frm, tt, sps ls, sps rs⟩ then 1 else 0 := by
  have e : sps ls ++ sps rs = sps l := by rw [← hl]; simp [sps]
  unfold check Ch.manyB Ch.longB Ch.farB
  dsimp only
  rw [e, hB, hr1, hr2, ← hx, ← hy]
  rw [if_neg (by simp [h1, h2])]
theorem form_of {k : Int} {frm tt : List Int} {ls rs : List VS} (h : Ch.sizeB ⟨k, frm, tt, sps ls, sps rs⟩ = false) : ls.length ≤ 2 ∧ Ch.formB ⟨k, frm, tt, sps ls, sps rs⟩ = ((sps ls).drop 1).any Sp.edge := by
  rw [sizeB_iff, decide_eq_false_iff_not] at h
  refine ⟨by omega, ?_⟩
  unfold Ch.formB
  dsimp only
  rw [sps_length, show rs.length - 1 = 0 by omega]
  simp
theorem isS_drewN {w : World} {v : Value} {l : List VS} (h : IsS w v l) (q : Nat) : IsS (w.drewN q) v l := h.below (Nat.le_refl _) (below_drewN' (Below.refl _ _) q)

set_option maxHeartbeats 4000000 in
set_option maxRecDepth 100000 in
theorem ok_any (k : Int) (frm tt : List Int) (af at' al ar : Option Addr) (cf ct cl cr : Nat) (ls rs : List VS) (w : World) (hk1 : ¬ k < 1) (hk2 : ¬ 4 < k)
    (hf : IsI w (.slice af frm.length cf) frm) (ht : IsI w (.slice at' tt.length ct) tt) (hl : IsS w (.slice al ls.length cl) ls) (hr : IsS w (.slice ar rs.length cr) rs) (hs : ls.length + rs.length ≤ 2097152) :
    Calls Try.prog 19 #[.agg #[.int .i64 k, .slice af frm.length cf, .slice at' tt.length ct, .slice al ls.length cl, .slice ar rs.length cr]] w fun e w' => e = .returned (.int .i64 (check ⟨k, frm, tt, sps ls, sps rs⟩)) ∧ Below w.heap.size w w' := by
  have d1 : decide (k < 1) = false := decide_eq_false hk1
  have d2 : decide (4 < k) = false := decide_eq_false hk2
  obtain ⟨i0, hi, hz0, hz1, hz2⟩ := info_parts info40
  have HF : Hid (IsI w (.slice af frm.length cf) frm) := hf
  have HT : Hid (IsI w (.slice at' tt.length ct) tt) := ht
  have HL : Hid (IsS w (.slice al ls.length cl) ls) := hl
  have HR : Hid (IsS w (.slice ar rs.length cr) rs) := hr
  have HS : Hid (ls.length + rs.length ≤ 2097152) := hs
  have hbA : ∀ o1 o2, Below w.heap.size w ((w.alloc o1).alloc o2).drew := fun o1 o2 => (((Below.refl _ w).alloc (Nat.le_refl _) o1).alloc (by simp) o2).drew
  have bx1 := ((Box.new w k (.slice af frm.length cf) (.slice at' tt.length ct) (.slice al ls.length cl) (.slice ar rs.length cr)).below ((Below.refl _ _).alloc (Nat.le_refl _) (.cells #[] 71))).below (Below.refl _ _).drew
  have own1 : ((w.alloc (.cells #[.int .i64 k, .slice af frm.length cf, .slice at' tt.length ct, .slice al ls.length cl, .slice ar rs.length cr] 58)).alloc (.cells #[] 71)).drew.ownsRow (w.heap.size + 1) 71 2 (.slice (some ⟨w.heap.size + 1, 0, none⟩) 0 0) 0 [] := by
    have := (own_empty (w.alloc (.cells #[.int .i64 k, .slice af frm.length cf, .slice at' tt.length ct, .slice al ls.length cl, .slice ar rs.length cr] 58))).drew
    simpa using this
  have rowL := (hl.below (Nat.le_refl _) (hbA (.cells #[.int .i64 k, .slice af frm.length cf, .slice at' tt.length ct, .slice al ls.length cl, .slice ar rs.length cr] 58) (.cells #[] 71)))
  have lenb : ls.length ≤ 2097152 ∧ rs.length ≤ 2097152 := ⟨by omega, by omega⟩
  clear hf ht hl hr
  go_enter Try.func19, Try.ntmps19
  go_upto_region 3 with fail
  go_cut [3] from 15 to 21 (fun s3 wx => IsS wx s3 (ls ++ rs) ∧ Box w.heap.size k (.slice af frm.length cf) (.slice at' tt.length ct) (.slice al ls.length cl) (.slice ar rs.length cr) wx ∧ Below w.heap.size w wx)
  case first =>
    go_region_law (first
      | (refine step_app _ rfl (.tmp 15) (.tmp 17) 56 rfl (w.heap.size + 1) 71 i0 (.agg #[.slice none 0 0, .bool false]) 2 32 Try.underlying56 hi hz0 hz1 hz2 rfl (by decide) _ _ _ rfl own1 _ _ _ rfl rowL.1 (oneS (each_one rowL.2)) (by unfold maxLen; omega) (by omega) (by simp) ?_; intro v2 W2 hown2 hgrow2; have hB2 := below_own hgrow2 own1 (by simp); have c4 : W2.cell? ⟨w.heap.size, 4, none⟩ = some (.slice ar rs.length cr) := (hB2.cell (p := ⟨w.heap.size, 4, none⟩) (by show w.heap.size < w.heap.size + 1; omega)).trans bx1.g4; have hs2 := hB2.size)
      | (refine step_app _ rfl (.tmp 18) (.tmp 20) 56 rfl (w.heap.size + 1) 71 i0 (.agg #[.slice none 0 0, .bool false]) 2 32 Try.underlying56 hi hz0 hz1 hz2 rfl (by decide) _ _ _ rfl hown2 _ _ _ rfl (HR.out.below (Nat.le_refl _) ((hbA _ _).trans (hB2.mono (by omega)))).1 (oneS (each_one HR.out.2)) (by unfold maxLen; omega) (by omega) (by simp at hs2; omega) ?_; intro v3 W3 hown3 hgrow3))
    all_goals (try go_simp)
    all_goals go_wp2
    all_goals go_meet
    all_goals
      have hB3 := below_own hgrow3 hown2 (by simp at hs2; omega)
      have hB23 := hB2.trans hB3
      have hT := (hbA _ _).trans (hB23.mono (by omega))
      exact ⟨fin3 hown3 HL.out.2 HR.out.2 hT hs, ⟨by have := hB23.size; simp at this; omega, (hB23.cell (p := ⟨w.heap.size, 0, none⟩) (by show w.heap.size < w.heap.size + 1; omega)).trans bx1.g0, (hB23.cell (p := ⟨w.heap.size, 1, none⟩) (by show w.heap.size < w.heap.size + 1; omega)).trans bx1.g1, (hB23.cell (p := ⟨w.heap.size, 2, none⟩) (by show w.heap.size < w.heap.size + 1; omega)).trans bx1.g2, (hB23.cell (p := ⟨w.heap.size, 3, none⟩) (by show w.heap.size < w.heap.size + 1; omega)).trans bx1.g3, (hB23.cell (p := ⟨w.heap.size, 4, none⟩) (by show w.heap.size < w.heap.size + 1; omega)).trans bx1.g4⟩, hT⟩
  case rest =>
    obtain ⟨hs3, hbx, hbw⟩ := hcut
    obtain ⟨p3, n3, c3, rfl⟩ := hs3.form
    have HS3 : Hid (IsS wc (.slice p3 n3 c3) (ls ++ rs)) := hs3
    have e0 := hbx.g0
    have e1 := hbx.g1
    have e2 := hbx.g2
    have e3 := hbx.g3
    have e4 := hbx.g4
    clear hs3 bx1 own1 rowL hbA hs lenb d1 d2 hi hz0 hz1 hz2
    have HK : Hid (¬ k < 1 ∧ ¬ 4 < k) := ⟨hk1, hk2⟩
    clear hk1 hk2
    obtain ⟨B1, hB1⟩ : ∃ b, Ch.sizeB ⟨k, frm, tt, sps ls, sps rs⟩ = b := ⟨_, rfl⟩
    have HB1 : Hid (Ch.sizeB ⟨k, frm, tt, sps ls, sps rs⟩ = B1) := hB1
    clear hB1
    go_upto_region 4 with fail
    go_cut [4] from 22 to 49 (fun s4 wx => s4 = .bool B1 ∧ wx = wc)
    case first =>
      by_cases b0 : (frm.length : Int) = 0
      · have d0 : ((frm.length : Int) == 0) = true := by simpa using b0
        go_wp2
        go_meet
        exact ⟨by rw [← HB1.out, sizeB_iff, decide_eq_true (by omega)], rfl⟩
      have d0 : ((frm.length : Int) == 0) = false := by simpa using b0
      by_cases b1 : (2 : Int) < (frm.length : Int)
      · go_wp2
        go_meet
        exact ⟨by rw [← HB1.out, sizeB_iff, decide_eq_true (by omega)], rfl⟩
      have d1 : decide ((2 : Int) < (frm.length : Int)) = false := decide_eq_false b1
      by_cases b2 : (2 : Int) < (tt.length : Int)
      · go_wp2
        go_meet
        exact ⟨by rw [← HB1.out, sizeB_iff, decide_eq_true (by omega)], rfl⟩
      have d2 : decide ((2 : Int) < (tt.length : Int)) = false := decide_eq_false b2
      by_cases b3 : (2 : Int) < (ls.length : Int)
      · go_wp2
        go_meet
        exact ⟨by rw [← HB1.out, sizeB_iff, decide_eq_true (by omega)], rfl⟩
      have d3 : decide ((2 : Int) < (ls.length : Int)) = false := decide_eq_false b3
      by_cases b4 : (1 : Int) < (rs.length : Int)
      · go_wp2
        go_meet
        exact ⟨by rw [← HB1.out, sizeB_iff, decide_eq_true (by omega)], rfl⟩
      have d4 : decide ((1 : Int) < (rs.length : Int)) = false := decide_eq_false b4
      go_wp2
      go_meet
      exact ⟨by rw [← HB1.out, sizeB_iff, decide_eq_false (by omega)], rfl⟩
    case rest =>
      obtain ⟨rfl, rfl⟩ := hcut
      have cF := within_any _ frm k wc (HF.out.below (Nat.le_refl _) hbw)
      have cT := within_any _ tt k wc (HT.out.below (Nat.le_refl _) hbw)
      unfold okAll at cF cT
      obtain ⟨r1, hr1⟩ : ∃ r, frm.any (bad k) = r := ⟨_, rfl⟩
      obtain ⟨r2, hr2⟩ : ∃ r, tt.any (bad k) = r := ⟨_, rfl⟩
      rw [hr1] at cF
      rw [hr2] at cT
      have H12 : Hid (frm.any (bad k) = r1 ∧ tt.any (bad k) = r2) := ⟨hr1, hr2⟩
      clear hr1 hr2
      obtain ⟨B2, hB2⟩ : ∃ b, (r1 || r2) = b := ⟨_, rfl⟩
      have HB2 : Hid ((r1 || r2) = B2) := hB2
      clear hB2
      go_upto_region 5 with fail
      go_cut [5] from 50 to 63 (fun s5 wx => s5 = .bool B2 ∧ wx = wc)
      case first =>
        cases r1 with
        | true =>
          go_wp2_with (go_at_call 16; with_reducible refine cF.mono ?_; rintro e w' ⟨rfl, rfl⟩)
          go_meet
          exact ⟨by rw [← HB2.out]; rfl, rfl⟩
        | false =>
          go_wp2_with (first | (go_at_call 16; with_reducible refine cF.mono ?_; rintro e w' ⟨rfl, rfl⟩) | (go_at_call 16; with_reducible refine cT.mono ?_; rintro e w' ⟨rfl, rfl⟩))
          go_meet
          exact ⟨by rw [← HB2.out]; simp, rfl⟩
      case rest =>
        obtain ⟨rfl, rfl⟩ := hcut
        clear cF cT
        obtain ⟨l, hl⟩ : ∃ l, ls ++ rs = l := ⟨_, rfl⟩
        have HLL : Hid (ls ++ rs = l) := hl
        rw [hl] at HS3
        clear hl
        obtain ⟨a', c', hv, hn', hm'⟩ := HS3.out.len
        simp only [Value.slice.injEq] at hv
        obtain ⟨rfl, rfl, rfl⟩ := hv
        have HM : Hid (l.length ≤ 2097152) := by
          show _ ≤ _
          rw [← HLL.out, List.length_append]
          exact HS.out
        go_wp2
        go_loopw [4, 5, 6] (fun s4 s5 i wr => ∃ (j : Nat) (x y : Bool), s4 = .bool x ∧ s5 = .bool y ∧ i = .int .i64 j ∧ j ≤ l.length ∧ Below wc.heap.size wc wr ∧ Hid (x = (B1 || (sps (l.take j)).any wide)) ∧ Hid (y = (B2 || (sps (l.take j)).any fun s => s.any.any (bad k)))) (fun _ _ i _ => l.length - (intOf i).toNat)
        case atStart => exact ⟨0, B1, B2, rfl, rfl, rfl, by omega, Below.refl _ _, by simp [Hid, sps], by simp [Hid, sps]⟩
        case round =>
          obtain ⟨j, x, y, rfl, rfl, rfl, hj, hbr, hx, hy⟩ := hrel
          have hbxr := hbx.below hbr
          have f0 := hbxr.g0
          have f3 := hbxr.g3
          have hsr := HS3.out.below (Nat.le_refl _) hbr
          by_cases hlt : j < l.length
          · obtain ⟨b3, o3, rfl⟩ : ∃ b o, p3 = some ⟨b, o, none⟩ := by
              rcases HS3.out.shape with ⟨_, _, _, e⟩ | ⟨b', o', c', hv, _⟩
              · rw [e] at hlt
                simp at hlt
              · simp only [Value.slice.injEq] at hv
                exact ⟨b', o', hv.1⟩
            obtain ⟨hlb, t0, t1, hu⟩ := spot_cells hsr j hlt
            have w1 := anyS_take (p := wide) hlt
            have w2 := anyS_take (p := fun s => s.any.any (bad k)) hlt
            obtain ⟨⟨u, sp⟩, hus⟩ : ∃ p, l[j] = p := ⟨_, rfl⟩
            rw [hus] at t0 t1 hu w1 w2
            dsimp only at t0 t1 hu w1 w2
            have con15 := fun n => within_any u sp.any k (wr.drewN n) (hu.below (Nat.le_refl _) (below_drewN' (Below.refl _ _) n))
            unfold okAll at con15
            obtain ⟨r, hr⟩ : ∃ r, sp.any.any (bad k) = r := ⟨_, rfl⟩
            rw [hr] at con15 w2
            have HX : Hid (∀ d, wide sp = d → (x || d) = (B1 || (sps (l.take (j + 1))).any wide)) := by
              intro d hd
              rw [w1, hd, hx.out, Bool.or_assoc]
            have HY : Hid ((y || r) = (B2 || (sps (l.take (j + 1))).any fun s => s.any.any (bad k))) := by
              show _ = _
              rw [w2, hy.out, Bool.or_assoc]
            obtain ⟨au, cu, hv, _, _⟩ := hu.len
            subst hv
            have hl47 : l.length ≤ 140737488355328 := by
              have := HM.out
              omega
            clear w1 w2 hu hr hus hx hy hsr hbxr
            cases x with
            | true =>
              cases y with
              | true =>
                go_wp2
                go_quiet (fail)
                go_wp2
                go_roundw
                case rel => exact ⟨j + 1, true, true, rfl, by simp, by go_num, by omega, below_drewN' hbr _, (by have := HX.out _ rfl; simpa [Hid] using this), (by have := HY.out; simpa [Hid] using this)⟩
                case measure => simp [intOf]; omega
              | false =>
                go_wp2
                go_quiet ((go_at_call 16; refine Calls.quiet_of_same (con15 _)))
                go_wp2
                go_roundw
                case rel => exact ⟨j + 1, true, r, rfl, by simp, by go_num, by omega, below_drewN' hbr _, (by have := HX.out _ rfl; simpa [Hid] using this), (by have := HY.out; simpa [Hid] using this)⟩
                case measure => simp [intOf]; omega
            | false =>
              by_cases hw : (4 : Int) < (sp.any.length : Int)
              · have hwd : wide sp = true := decide_eq_true (by omega)
                have HX2 := HX.out _ hwd
                have HX3 : Hid (true = (B1 || (sps (l.take (j + 1))).any wide)) := HX2
                clear HX HX2 hwd
                cases y with
                | true =>
                  go_wp2
                  go_quiet (fail)
                  go_wp2
                  go_roundw
                  case rel => exact ⟨j + 1, true, true, rfl, by simp, by go_num, by omega, below_drewN' hbr _, HX3, (by have := HY.out; simpa [Hid] using this)⟩
                  case measure => simp [intOf]; omega
                | false =>
                  go_wp2
                  go_quiet ((go_at_call 16; refine Calls.quiet_of_same (con15 _)))
                  go_wp2
                  go_roundw
                  case rel => exact ⟨j + 1, true, r, rfl, by simp, by go_num, by omega, below_drewN' hbr _, HX3, (by have := HY.out; simpa [Hid] using this)⟩
                  case measure => simp [intOf]; omega
              · have hwd : wide sp = false := decide_eq_false (by omega)
                have HX2 := HX.out _ hwd
                have HX3 : Hid (false = (B1 || (sps (l.take (j + 1))).any wide)) := HX2
                have dw : decide ((4 : Int) < (sp.any.length : Int)) = false := decide_eq_false hw
                clear HX HX2 hwd
                cases y with
                | true =>
                  go_wp2
                  go_quiet (fail)
                  go_wp2
                  go_roundw
                  case rel => exact ⟨j + 1, false, true, rfl, by simp, by go_num, by omega, below_drewN' hbr _, HX3, (by have := HY.out; simpa [Hid] using this)⟩
                  case measure => simp [intOf]; omega
                | false =>
                  go_wp2
                  go_quiet ((go_at_call 16; refine Calls.quiet_of_same (con15 _)))
                  go_wp2
                  go_roundw
                  case rel => exact ⟨j + 1, false, r, rfl, by simp, by go_num, by omega, below_drewN' hbr _, HX3, (by have := HY.out; simpa [Hid] using this)⟩
                  case measure => simp [intOf]; omega
          · have hj2 : l.take j = l := List.take_of_length_le (by omega)
            have hck := check_of (x := x) (y := y) (show ¬ k < 1 by have := HK.out; omega) (show ¬ 4 < k by have := HK.out; omega) HLL.out HB1.out H12.out.1 H12.out.2 (by rw [hj2] at hx; exact hx.out) (by rw [hj2, ← HB2.out] at hy; exact hy.out)
            have HCK : Hid (check ⟨k, frm, tt, sps ls, sps rs⟩ = if x then 2 else if y then 3 else if Ch.formB ⟨k, frm, tt, sps ls, sps rs⟩ then 1 else 0) := hck
            have hbT : Below w.heap.size w wr := hbw.trans (hbr.mono hbw.size)
            clear hck hj2
            cases x with
            | true =>
              clear hy
              go_wp2
              go_ret
              exact ⟨by rw [HCK.out]; rfl, hbT⟩
            | false =>
              cases y with
              | true =>
                go_wp2
                go_ret
                exact ⟨by rw [HCK.out]; rfl, hbT⟩
              | false =>
                have hB1f : Ch.sizeB ⟨k, frm, tt, sps ls, sps rs⟩ = false := by
                  have := hx.out
                  rw [HB1.out]
                  cases B1 with
                  | true => simp at this
                  | false => rfl
                obtain ⟨hl2, hfo⟩ := form_of hB1f
                by_cases h2 : (ls.length : Int) = 2
                · have d2 : ((ls.length : Int) == 2) = true := by simpa using h2
                  have hlt1 : 1 < ls.length := by omega
                  obtain ⟨bl, ol, rfl⟩ : ∃ b o, al = some ⟨b, o, none⟩ := by
                    rcases HL.out.shape with ⟨_, _, _, e⟩ | ⟨b', o', c', hv, _⟩
                    · rw [e] at hlt1
                      simp at hlt1
                    · simp only [Value.slice.injEq] at hv
                      exact ⟨b', o', hv.1⟩
                  obtain ⟨_, _, t1, _⟩ := spot_cells (HL.out.below (Nat.le_refl _) hbT) 1 hlt1
                  have hform : Ch.formB ⟨k, frm, tt, sps ls, sps rs⟩ = (ls[1]).2.edge := by
                    rw [hfo, sps_drop ls 1 hlt1, List.drop_of_length_le (by rw [sps_length]; omega)]
                    simp
                  obtain ⟨ed, hed⟩ : ∃ b, (ls[1]).2.edge = b := ⟨_, rfl⟩
                  rw [hed] at hform t1
                  have t1' : wr.cell? ⟨bl, ol + 3, none⟩ = some (.bool ed) := t1
                  have HFO : Hid (Ch.formB ⟨k, frm, tt, sps ls, sps rs⟩ = ed) := hform
                  have hle2 : ls.length = 2 := by omega
                  clear hfo hform hed hB1f hx hy
                  cases ed with
                  | true =>
                    go_wp2
                    go_ret
                    exact ⟨by rw [HCK.out, HFO.out]; rfl, hbT⟩
                  | false =>
                    go_wp2
                    go_ret
                    exact ⟨by rw [HCK.out, HFO.out]; rfl, hbT⟩
                · have d2 : ((ls.length : Int) == 2) = false := by simpa using h2
                  have hform : Ch.formB ⟨k, frm, tt, sps ls, sps rs⟩ = false := by
                    rw [hfo, List.drop_of_length_le (by rw [sps_length]; omega)]
                    rfl
                  have HFO : Hid (Ch.formB ⟨k, frm, tt, sps ls, sps rs⟩ = false) := hform
                  clear hfo hform hB1f hx hy
                  go_wp2
                  go_ret
                  exact ⟨by rw [HCK.out, HFO.out]; rfl, hbT⟩

theorem check_any (x : VC) (w : World) (h : IsC w x) (hs : x.ls.length + x.rs.length ≤ 2097152) :
    Calls Try.prog 19 #[x.val] w fun e w' => e = .returned (.int .i64 (check x.c)) ∧ Below w.heap.size w w' := by
  obtain ⟨⟨k, frm, tt, left, right⟩, vf, vt, vl, vr, ls, rs⟩ := x
  obtain ⟨hl, hr, hf, ht, hls, hrs, _⟩ := h
  dsimp only at hl hr hf ht hls hrs hs
  subst hl hr
  obtain ⟨af, cf, hv, _, _⟩ := hf.len
  subst hv
  obtain ⟨at', ct, hv, _, _⟩ := ht.len
  subst hv
  obtain ⟨al, cl, hv, _, _⟩ := hls.len
  subst hv
  obtain ⟨ar, cr, hv, _, _⟩ := hrs.len
  subst hv
  simp only [VC.val]
  have hb : ∀ o, Below w.heap.size w (w.alloc o) := fun o => (Below.refl _ _).alloc (Nat.le_refl _) _
  by_cases hk1 : k < 1
  · rw [show check ⟨k, frm, tt, sps ls, sps rs⟩ = 7 from by simp [check, Ch.manyB, hk1]]
    clear hf ht hls hrs
    go_enter Try.func19, Try.ntmps19
    go_wp2
    go_ret
    exact ⟨rfl, hb _⟩
  by_cases hk2 : 4 < k
  · rw [show check ⟨k, frm, tt, sps ls, sps rs⟩ = 7 from by simp [check, Ch.manyB, hk2]]
    have d1 : decide (k < 1) = false := decide_eq_false hk1
    clear hf ht hls hrs
    go_enter Try.func19, Try.ntmps19
    go_wp2
    go_ret
    exact ⟨rfl, hb _⟩
  exact ok_any k frm tt af at' al ar cf ct cl cr ls rs w hk1 hk2 hf ht hls hrs hs
end Go.Proofs.Ytkcbgapakpheiaa.Cr
