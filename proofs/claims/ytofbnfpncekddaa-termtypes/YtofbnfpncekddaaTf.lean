/- The document's termWrong; nest.checkEach and nest.Check of terms, both Checks of a term. No conditions. -/
import Derived.Test.YtofbnfpncekddaaTd
namespace Go.Proofs.Ytofbnfpncekddaa.Te
open Go.RowKit

set_option maxHeartbeats 16000000 in
theorem wrongm_doc : ∀ (d : Nat) (t : Tm) (b : Option Addr) (e0 : Nat) (a : Option Addr) (c : Nat) (w : World), TmAt w d t b e0 a c → Calls Try.prog 22 #[vtm t b e0 a c] w fun e w' => e = .returned (.int .i64 (wtm t)) ∧ Below w.heap.size w w' := by
  intro d
  induction d with
  | zero => intro t b e0 a c w h; exact h.elim
  | succ d ih =>
    intro t b e0 a c w h
    have hfew := h.few.1
    obtain ⟨d', hy⟩ := h.few.2.2.2
    obtain ⟨R, hR⟩ : ∃ R, wtm t = R := ⟨_, rfl⟩
    rw [hR]
    have HB : Hid (∀ x, wt1 t = x → x ≠ 0 → R = x) := fun x hx h0 => by rw [← hR, wtm_bad (by rw [hx]; exact h0)]; exact hx
    have HG : Hid (wt1 t = 0 → fz (t.kids.map wtm) = R) := fun h => by rw [← hR, wtm_ok h]
    obtain ⟨k, n, y, ks⟩ := t
    have K11 : ∀ W', Below w.heap.size w W' → Calls Try.prog 11 #[vty y b e0] W' fun e w' => e = .returned (.int .i64 (ck y)) ∧ Below W'.heap.size W' w' := fun W' hW => check_doc d' y b e0 W' (hy.below hW)
    unfold vty at K11
    unfold vtm
    dsimp only at hfew ⊢
    obtain ⟨yk, hyk⟩ : ∃ yk, y.kind = yk := ⟨_, rfl⟩
    obtain ⟨yn, hyn⟩ : ∃ yn, y.n = yn := ⟨_, rfl⟩
    obtain ⟨yl, hyl⟩ : ∃ yl, y.kids.length = yl := ⟨_, rfl⟩
    rw [hyk, hyn, hyl] at K11 ⊢
    obtain ⟨W0, hW0⟩ : ∃ W0, w.alloc (.cells #[.int .i64 k, .int .i64 n, .int .i64 yk, .int .i64 yn, .slice b yl e0, .slice a ks.length c] 27) = W0 := ⟨_, rfl⟩
    have hb0 : Below w.heap.size w W0 := hW0 ▸ (Below.refl w.heap.size w).alloc (Nat.le_refl _) _
    have hbx : W0.heap[w.heap.size]? = some (.cells #[.int .i64 k, .int .i64 n, .int .i64 yk, .int .i64 yn, .slice b yl e0, .slice a ks.length c] 27 (0, 0)) := hW0 ▸ heap_alloc_new _ _
    have hsz : w.heap.size < W0.heap.size := hW0 ▸ (by simp)
    have HW0 : Hid (w.alloc (.cells #[.int .i64 k, .int .i64 n, .int .i64 yk, .int .i64 yn, .slice b yl e0, .slice a ks.length c] 27) = W0) := hW0
    have HT : Hid (TmAt W0 (d + 1) ⟨k, n, y, ks⟩ b e0 a c) := h.below hb0
    have hbA : ∀ o, Below w.heap.size w (w.alloc o) := fun o => (Below.refl _ w).alloc (Nat.le_refl _) o
    have HNF : Hid (noB y = false → yk ≠ 0 ∨ (yk = 0 ∧ yn ≠ 0) ∨ (yk = 0 ∧ yn = 0 ∧ yl ≠ 0)) := fun h => by rw [← hyk, ← hyn, ← hyl]; exact noB_false h
    have HNT : Hid (noB y = true → yk = 0 ∧ yn = 0 ∧ yl = 0) := fun h => by rw [← hyk, ← hyn, ← hyl]; exact noB_true h
    clear hW0 hR h hy hyk hyn hyl
    by_cases hk : k < 1 ∨ 4 < k
    · have HR : Hid (R = 4) := HB.out 4 (wt_kind hk) (by decide)
      clear K11
      by_cases hk1 : k < 1
      · clear hk
        go_enter Try.func22, Try.ntmps22
        go_wp2
        go_ret
        exact ⟨by rw [HR.out]; rfl, by rw [HW0.out]; exact hb0⟩
      · have hk4 : 4 < k := by omega
        clear hk
        go_enter Try.func22, Try.ntmps22
        go_wp2
        go_ret
        exact ⟨by rw [HR.out]; rfl, by rw [HW0.out]; exact hb0⟩
    have hk4 : k = 1 ∨ k = 2 ∨ k = 3 ∨ k = 4 := by omega
    clear hk
    rcases hk4 with rfl | rfl | rfl | rfl
    · by_cases hl : ks.length = 0
      · by_cases h2 : n < 0
        · have HR : Hid (R = 3) := HB.out 3 (wt_range (by dsimp only; omega) (by rw [hl]; rfl) (.inl h2)) (by decide)
          have bl : (((ks.length : Nat) : Int) != 0) = false := by rw [hl]; rfl
          clear hl K11
          go_enter Try.func22, Try.ntmps22
          go_wp2
          go_ret
          exact ⟨by rw [HR.out]; rfl, by rw [HW0.out]; exact hb0⟩
        cases hnb : noB y
        · have HR : Hid (R = 3) := HB.out 3 (wt_range (by dsimp only; omega) (by rw [hl]; rfl) (.inr (.inr ⟨by dsimp only; omega, hnb⟩))) (by decide)
          have bl : (((ks.length : Nat) : Int) != 0) = false := by rw [hl]; rfl
          rcases HNF.out hnb with hq | ⟨rfl, hq⟩ | ⟨rfl, rfl, hq⟩
          · have bq : (yk != 0) = true := bne_iff_ne.2 hq
            clear hl K11 hq
            go_enter Try.func22, Try.ntmps22
            go_wp2
            go_ret
            exact ⟨by rw [HR.out]; rfl, by rw [HW0.out]; exact hb0⟩
          · have bq : (yn != 0) = true := bne_iff_ne.2 hq
            clear hl K11 hq
            go_enter Try.func22, Try.ntmps22
            go_wp2
            go_ret
            exact ⟨by rw [HR.out]; rfl, by rw [HW0.out]; exact hb0⟩
          · have bq : (0 : Int) < (yl : Int) := by omega
            have bq2 : 0 < yl := by omega
            clear hl K11 hq
            go_enter Try.func22, Try.ntmps22
            go_wp2
            go_ret
            exact ⟨by rw [HR.out]; rfl, by rw [HW0.out]; exact hb0⟩
        · have HOK : Hid (fz (ks.map wtm) = R) := HG.out (wt_fine (by dsimp only; omega) (by dsimp only; omega) (by rw [hl]; rfl) (by dsimp only; omega) (by dsimp only; omega) hnb)
          have bl : (((ks.length : Nat) : Int) != 0) = false := by rw [hl]; rfl
          obtain ⟨rfl, rfl, rfl⟩ := HNT.out hnb
          clear hl K11
          go_enter Try.func22, Try.ntmps22
          go_wp2
          rw [HW0.out]
          go_loopw [5, 6] (fun iv _ wr => ∃ j : Nat, iv = .int .i64 (j : Int) ∧ j ≤ ks.length ∧ (∀ i (hi : i < ks.length), i < j → wtm ks[i] = 0) ∧ Below W0.heap.size W0 wr) (fun iv _ _ => ks.length - (intOf iv).toNat)
          case atStart => exact ⟨0, rfl, by omega, fun i _ h => by omega, Below.refl _ _⟩
          case round =>
            obtain ⟨j, rfl, hj, hz, hB⟩ := hrel
            have HZ : Hid (∀ i (hi : i < ks.length), i < j → wtm ks[i] = 0) := hz
            have cB := (hB.cell (p := ⟨w.heap.size, 5, none⟩) hsz).trans (cell_of_row _ _ 5 _ 27 (0, 0) hbx)
            have hfin : Below w.heap.size w wr := hb0.trans (hB.mono hb0.size)
            clear hz
            by_cases hjl : j < ks.length
            · have hjl' : (j : Int) < (ks.length : Int) := by omega
              obtain ⟨g, off, b', e', a', c', rfl, hg, c0, c1, c2, c3, c4, c5, ht⟩ := (HT.out.below hB).kid hjl
              dsimp only at c0 c1 c2 c3 c4 c5 ht
              have K22 := ih ks[j] b' e' a' c' wr ht
              unfold vtm at K22
              obtain ⟨x, hx⟩ : ∃ x, wtm ks[j] = x := ⟨_, rfl⟩
              rw [hx] at K22
              have HX : Hid (wtm ks[j] = x) := hx
              clear ht hx
              by_cases hx0 : x = 0
              · subst hx0
                go_wp2_with (go_at_call 22; (with_reducible refine K22.mono ?_); rintro e w2 ⟨rfl, hb2⟩)
                go_roundw
                case rel => exact ⟨j + 1, by go_num, by omega, fun i hi h => by (by_cases e : i = j; (subst e; exact HX.out); exact HZ.out i hi (by omega)), hB.trans (hb2.mono hB.size)⟩
                case measure => simp [intOf]; omega
              · have bx : (x != 0) = true := by simp [hx0]
                have HR : Hid (R = x) := by
                  show R = x
                  have hjl2 : j < (ks.map wtm).length := by simp; exact hjl
                  rw [← HOK.out, fz_at hjl2 (fun i hi h => by rw [List.getElem_map]; exact HZ.out i (by simpa using hi) h) (by rw [List.getElem_map, HX.out]; exact hx0), List.getElem_map, HX.out]
                go_wp2_with (go_at_call 22; (with_reducible refine K22.mono ?_); rintro e w2 ⟨rfl, hb2⟩)
                go_ret
                exact ⟨by rw [HR.out]; rfl, hfin.trans (hb2.mono hfin.size)⟩
            · have hjl' : ¬ (j : Int) < (ks.length : Int) := by omega
              have HR : Hid (R = 0) := by
                show R = 0
                rw [← HOK.out]
                refine fz_zero (fun x hx => ?_)
                obtain ⟨t', ht', rfl⟩ := List.mem_map.1 hx
                obtain ⟨i, hi, rfl⟩ := List.getElem_of_mem ht'
                exact HZ.out i hi (by omega)
              go_wp2
              go_ret
              exact ⟨by rw [HR.out]; rfl, hfin⟩
      · have HR : Hid (R = 1) := HB.out 1 (wt_form (by dsimp only; omega) (by dsimp only; exact hl)) (by decide)
        have bl : (((ks.length : Nat) : Int) != 0) = true := bne_iff_ne.2 (by omega)
        clear hl K11
        go_enter Try.func22, Try.ntmps22
        go_wp2
        go_ret
        exact ⟨by rw [HR.out]; rfl, by rw [HW0.out]; exact hb0⟩
    · by_cases hl : ks.length = 0
      · by_cases h2 : n < 0
        · have HR : Hid (R = 3) := HB.out 3 (wt_range (by dsimp only; omega) (by rw [hl]; rfl) (.inl h2)) (by decide)
          have bl : (((ks.length : Nat) : Int) != 0) = false := by rw [hl]; rfl
          clear hl K11
          go_enter Try.func22, Try.ntmps22
          go_wp2
          go_ret
          exact ⟨by rw [HR.out]; rfl, by rw [HW0.out]; exact hb0⟩
        cases hnb : noB y
        · have HR : Hid (R = 3) := HB.out 3 (wt_range (by dsimp only; omega) (by rw [hl]; rfl) (.inr (.inr ⟨by dsimp only; omega, hnb⟩))) (by decide)
          have bl : (((ks.length : Nat) : Int) != 0) = false := by rw [hl]; rfl
          rcases HNF.out hnb with hq | ⟨rfl, hq⟩ | ⟨rfl, rfl, hq⟩
          · have bq : (yk != 0) = true := bne_iff_ne.2 hq
            clear hl K11 hq
            go_enter Try.func22, Try.ntmps22
            go_wp2
            go_ret
            exact ⟨by rw [HR.out]; rfl, by rw [HW0.out]; exact hb0⟩
          · have bq : (yn != 0) = true := bne_iff_ne.2 hq
            clear hl K11 hq
            go_enter Try.func22, Try.ntmps22
            go_wp2
            go_ret
            exact ⟨by rw [HR.out]; rfl, by rw [HW0.out]; exact hb0⟩
          · have bq : (0 : Int) < (yl : Int) := by omega
            have bq2 : 0 < yl := by omega
            clear hl K11 hq
            go_enter Try.func22, Try.ntmps22
            go_wp2
            go_ret
            exact ⟨by rw [HR.out]; rfl, by rw [HW0.out]; exact hb0⟩
        · have HOK : Hid (fz (ks.map wtm) = R) := HG.out (wt_fine (by dsimp only; omega) (by dsimp only; omega) (by rw [hl]; rfl) (by dsimp only; omega) (by dsimp only; omega) hnb)
          have bl : (((ks.length : Nat) : Int) != 0) = false := by rw [hl]; rfl
          obtain ⟨rfl, rfl, rfl⟩ := HNT.out hnb
          clear hl K11
          go_enter Try.func22, Try.ntmps22
          go_wp2
          rw [HW0.out]
          go_loopw [5, 6] (fun iv _ wr => ∃ j : Nat, iv = .int .i64 (j : Int) ∧ j ≤ ks.length ∧ (∀ i (hi : i < ks.length), i < j → wtm ks[i] = 0) ∧ Below W0.heap.size W0 wr) (fun iv _ _ => ks.length - (intOf iv).toNat)
          case atStart => exact ⟨0, rfl, by omega, fun i _ h => by omega, Below.refl _ _⟩
          case round =>
            obtain ⟨j, rfl, hj, hz, hB⟩ := hrel
            have HZ : Hid (∀ i (hi : i < ks.length), i < j → wtm ks[i] = 0) := hz
            have cB := (hB.cell (p := ⟨w.heap.size, 5, none⟩) hsz).trans (cell_of_row _ _ 5 _ 27 (0, 0) hbx)
            have hfin : Below w.heap.size w wr := hb0.trans (hB.mono hb0.size)
            clear hz
            by_cases hjl : j < ks.length
            · have hjl' : (j : Int) < (ks.length : Int) := by omega
              obtain ⟨g, off, b', e', a', c', rfl, hg, c0, c1, c2, c3, c4, c5, ht⟩ := (HT.out.below hB).kid hjl
              dsimp only at c0 c1 c2 c3 c4 c5 ht
              have K22 := ih ks[j] b' e' a' c' wr ht
              unfold vtm at K22
              obtain ⟨x, hx⟩ : ∃ x, wtm ks[j] = x := ⟨_, rfl⟩
              rw [hx] at K22
              have HX : Hid (wtm ks[j] = x) := hx
              clear ht hx
              by_cases hx0 : x = 0
              · subst hx0
                go_wp2_with (go_at_call 22; (with_reducible refine K22.mono ?_); rintro e w2 ⟨rfl, hb2⟩)
                go_roundw
                case rel => exact ⟨j + 1, by go_num, by omega, fun i hi h => by (by_cases e : i = j; (subst e; exact HX.out); exact HZ.out i hi (by omega)), hB.trans (hb2.mono hB.size)⟩
                case measure => simp [intOf]; omega
              · have bx : (x != 0) = true := by simp [hx0]
                have HR : Hid (R = x) := by
                  show R = x
                  have hjl2 : j < (ks.map wtm).length := by simp; exact hjl
                  rw [← HOK.out, fz_at hjl2 (fun i hi h => by rw [List.getElem_map]; exact HZ.out i (by simpa using hi) h) (by rw [List.getElem_map, HX.out]; exact hx0), List.getElem_map, HX.out]
                go_wp2_with (go_at_call 22; (with_reducible refine K22.mono ?_); rintro e w2 ⟨rfl, hb2⟩)
                go_ret
                exact ⟨by rw [HR.out]; rfl, hfin.trans (hb2.mono hfin.size)⟩
            · have hjl' : ¬ (j : Int) < (ks.length : Int) := by omega
              have HR : Hid (R = 0) := by
                show R = 0
                rw [← HOK.out]
                refine fz_zero (fun x hx => ?_)
                obtain ⟨t', ht', rfl⟩ := List.mem_map.1 hx
                obtain ⟨i, hi, rfl⟩ := List.getElem_of_mem ht'
                exact HZ.out i hi (by omega)
              go_wp2
              go_ret
              exact ⟨by rw [HR.out]; rfl, hfin⟩
      · have HR : Hid (R = 1) := HB.out 1 (wt_form (by dsimp only; omega) (by dsimp only; exact hl)) (by decide)
        have bl : (((ks.length : Nat) : Int) != 0) = true := bne_iff_ne.2 (by omega)
        clear hl K11
        go_enter Try.func22, Try.ntmps22
        go_wp2
        go_ret
        exact ⟨by rw [HR.out]; rfl, by rw [HW0.out]; exact hb0⟩
    · by_cases hl : ks.length = 1
      · by_cases h2 : n < 0
        · have HR : Hid (R = 3) := HB.out 3 (wt_range (by dsimp only; omega) (by rw [hl]; rfl) (.inl h2)) (by decide)
          have bl : (((ks.length : Nat) : Int) != 1) = false := by rw [hl]; rfl
          clear hl K11
          go_enter Try.func22, Try.ntmps22
          go_wp2
          go_ret
          exact ⟨by rw [HR.out]; rfl, by rw [HW0.out]; exact hb0⟩
        by_cases h3 : 0 < n
        · have HR : Hid (R = 3) := HB.out 3 (wt_range (by dsimp only; omega) (by rw [hl]; rfl) (.inr (.inl ⟨by dsimp only; omega, h3⟩))) (by decide)
          have bl : (((ks.length : Nat) : Int) != 1) = false := by rw [hl]; rfl
          have bn : (n != 0) = true := bne_iff_ne.2 (by omega)
          clear hl K11 h3
          go_enter Try.func22, Try.ntmps22
          go_wp2
          go_ret
          exact ⟨by rw [HR.out]; rfl, by rw [HW0.out]; exact hb0⟩
        have e0n : n = 0 := by omega
        subst e0n
        have bl : (((ks.length : Nat) : Int) != 1) = false := by rw [hl]; rfl
        have hw1 := wt_fn (t := ⟨3, 0, y, ks⟩) rfl hl rfl
        dsimp only at hw1
        have HCK : Hid (wt1 ⟨3, 0, y, ks⟩ = ck y) := hw1
        obtain ⟨x, hx⟩ : ∃ x, ck y = x := ⟨_, rfl⟩
        have HXX : Hid (ck y = x) := hx
        rw [hx] at K11
        clear hl hw1 hx
        by_cases hx0 : x = 0
        · have HOK : Hid (fz (ks.map wtm) = R) := HG.out (by rw [HCK.out, HXX.out]; exact hx0)
          subst hx0
          go_enter Try.func22, Try.ntmps22
          go_wp2_with (go_at_call 11; (with_reducible refine (K11 _ (hbA _)).mono ?_); rintro e w1 ⟨rfl, hb1⟩; rw [HW0.out] at hb1; have z5 := (hb1.cell (p := ⟨w.heap.size, 5, none⟩) hsz).trans (cell_of_row _ _ 5 _ 27 (0, 0) hbx))
          go_loopw [5, 6] (fun iv _ wr => ∃ j : Nat, iv = .int .i64 (j : Int) ∧ j ≤ ks.length ∧ (∀ i (hi : i < ks.length), i < j → wtm ks[i] = 0) ∧ Below W0.heap.size W0 wr) (fun iv _ _ => ks.length - (intOf iv).toNat)
          case atStart => exact ⟨0, rfl, by omega, fun i _ h => by omega, hb1⟩
          case round =>
            clear hb1 z5
            obtain ⟨j, rfl, hj, hz, hB⟩ := hrel
            have HZ : Hid (∀ i (hi : i < ks.length), i < j → wtm ks[i] = 0) := hz
            have cB := (hB.cell (p := ⟨w.heap.size, 5, none⟩) hsz).trans (cell_of_row _ _ 5 _ 27 (0, 0) hbx)
            have hfin : Below w.heap.size w wr := hb0.trans (hB.mono hb0.size)
            clear hz
            by_cases hjl : j < ks.length
            · have hjl' : (j : Int) < (ks.length : Int) := by omega
              obtain ⟨g, off, b', e', a', c', rfl, hg, c0, c1, c2, c3, c4, c5, ht⟩ := (HT.out.below hB).kid hjl
              dsimp only at c0 c1 c2 c3 c4 c5 ht
              have K22 := ih ks[j] b' e' a' c' wr ht
              unfold vtm at K22
              obtain ⟨x, hx⟩ : ∃ x, wtm ks[j] = x := ⟨_, rfl⟩
              rw [hx] at K22
              have HX : Hid (wtm ks[j] = x) := hx
              clear ht hx
              by_cases hx0 : x = 0
              · subst hx0
                go_wp2_with (go_at_call 22; (with_reducible refine K22.mono ?_); rintro e w2 ⟨rfl, hb2⟩)
                go_roundw
                case rel => exact ⟨j + 1, by go_num, by omega, fun i hi h => by (by_cases e : i = j; (subst e; exact HX.out); exact HZ.out i hi (by omega)), hB.trans (hb2.mono hB.size)⟩
                case measure => simp [intOf]; omega
              · have bx : (x != 0) = true := by simp [hx0]
                have HR : Hid (R = x) := by
                  show R = x
                  have hjl2 : j < (ks.map wtm).length := by simp; exact hjl
                  rw [← HOK.out, fz_at hjl2 (fun i hi h => by rw [List.getElem_map]; exact HZ.out i (by simpa using hi) h) (by rw [List.getElem_map, HX.out]; exact hx0), List.getElem_map, HX.out]
                go_wp2_with (go_at_call 22; (with_reducible refine K22.mono ?_); rintro e w2 ⟨rfl, hb2⟩)
                go_ret
                exact ⟨by rw [HR.out]; rfl, hfin.trans (hb2.mono hfin.size)⟩
            · have hjl' : ¬ (j : Int) < (ks.length : Int) := by omega
              have HR : Hid (R = 0) := by
                show R = 0
                rw [← HOK.out]
                refine fz_zero (fun x hx => ?_)
                obtain ⟨t', ht', rfl⟩ := List.mem_map.1 hx
                obtain ⟨i, hi, rfl⟩ := List.getElem_of_mem ht'
                exact HZ.out i hi (by omega)
              go_wp2
              go_ret
              exact ⟨by rw [HR.out]; rfl, hfin⟩
        · have HR : Hid (R = x) := HB.out x (by rw [HCK.out, HXX.out]) hx0
          have bx : (x != 0) = true := bne_iff_ne.2 hx0
          go_enter Try.func22, Try.ntmps22
          go_wp2_with (go_at_call 11; (with_reducible refine (K11 _ (hbA _)).mono ?_); rintro e w1 ⟨rfl, hb1⟩; rw [HW0.out] at hb1)
          go_ret
          exact ⟨by rw [HR.out]; rfl, hb0.trans (hb1.mono hb0.size)⟩
      · have HR : Hid (R = 1) := HB.out 1 (wt_form (by dsimp only; omega) (by dsimp only; exact hl)) (by decide)
        have bl : (((ks.length : Nat) : Int) != 1) = true := bne_iff_ne.2 (by omega)
        clear hl K11
        go_enter Try.func22, Try.ntmps22
        go_wp2
        go_ret
        exact ⟨by rw [HR.out]; rfl, by rw [HW0.out]; exact hb0⟩
    · by_cases hl : ks.length = 2
      · by_cases h2 : n < 0
        · have HR : Hid (R = 3) := HB.out 3 (wt_range (by dsimp only; omega) (by rw [hl]; rfl) (.inl h2)) (by decide)
          have bl : (((ks.length : Nat) : Int) != 2) = false := by rw [hl]; rfl
          clear hl K11
          go_enter Try.func22, Try.ntmps22
          go_wp2
          go_ret
          exact ⟨by rw [HR.out]; rfl, by rw [HW0.out]; exact hb0⟩
        by_cases h3 : 0 < n
        · have HR : Hid (R = 3) := HB.out 3 (wt_range (by dsimp only; omega) (by rw [hl]; rfl) (.inr (.inl ⟨by dsimp only; omega, h3⟩))) (by decide)
          have bl : (((ks.length : Nat) : Int) != 2) = false := by rw [hl]; rfl
          have bn : (n != 0) = true := bne_iff_ne.2 (by omega)
          clear hl K11 h3
          go_enter Try.func22, Try.ntmps22
          go_wp2
          go_ret
          exact ⟨by rw [HR.out]; rfl, by rw [HW0.out]; exact hb0⟩
        have e0n : n = 0 := by omega
        subst e0n
        cases hnb : noB y
        · have HR : Hid (R = 3) := HB.out 3 (wt_range (by dsimp only; omega) (by rw [hl]; rfl) (.inr (.inr ⟨by dsimp only; omega, hnb⟩))) (by decide)
          have bl : (((ks.length : Nat) : Int) != 2) = false := by rw [hl]; rfl
          rcases HNF.out hnb with hq | ⟨rfl, hq⟩ | ⟨rfl, rfl, hq⟩
          · have bq : (yk != 0) = true := bne_iff_ne.2 hq
            clear hl K11 hq
            go_enter Try.func22, Try.ntmps22
            go_wp2
            go_ret
            exact ⟨by rw [HR.out]; rfl, by rw [HW0.out]; exact hb0⟩
          · have bq : (yn != 0) = true := bne_iff_ne.2 hq
            clear hl K11 hq
            go_enter Try.func22, Try.ntmps22
            go_wp2
            go_ret
            exact ⟨by rw [HR.out]; rfl, by rw [HW0.out]; exact hb0⟩
          · have bq : (0 : Int) < (yl : Int) := by omega
            have bq2 : 0 < yl := by omega
            clear hl K11 hq
            go_enter Try.func22, Try.ntmps22
            go_wp2
            go_ret
            exact ⟨by rw [HR.out]; rfl, by rw [HW0.out]; exact hb0⟩
        · have HOK : Hid (fz (ks.map wtm) = R) := HG.out (wt_fine (by dsimp only; omega) (by dsimp only; omega) (by rw [hl]; rfl) (by dsimp only; omega) (by dsimp only; omega) hnb)
          have bl : (((ks.length : Nat) : Int) != 2) = false := by rw [hl]; rfl
          obtain ⟨rfl, rfl, rfl⟩ := HNT.out hnb
          clear hl K11
          go_enter Try.func22, Try.ntmps22
          go_wp2
          rw [HW0.out]
          go_loopw [5, 6] (fun iv _ wr => ∃ j : Nat, iv = .int .i64 (j : Int) ∧ j ≤ ks.length ∧ (∀ i (hi : i < ks.length), i < j → wtm ks[i] = 0) ∧ Below W0.heap.size W0 wr) (fun iv _ _ => ks.length - (intOf iv).toNat)
          case atStart => exact ⟨0, rfl, by omega, fun i _ h => by omega, Below.refl _ _⟩
          case round =>
            obtain ⟨j, rfl, hj, hz, hB⟩ := hrel
            have HZ : Hid (∀ i (hi : i < ks.length), i < j → wtm ks[i] = 0) := hz
            have cB := (hB.cell (p := ⟨w.heap.size, 5, none⟩) hsz).trans (cell_of_row _ _ 5 _ 27 (0, 0) hbx)
            have hfin : Below w.heap.size w wr := hb0.trans (hB.mono hb0.size)
            clear hz
            by_cases hjl : j < ks.length
            · have hjl' : (j : Int) < (ks.length : Int) := by omega
              obtain ⟨g, off, b', e', a', c', rfl, hg, c0, c1, c2, c3, c4, c5, ht⟩ := (HT.out.below hB).kid hjl
              dsimp only at c0 c1 c2 c3 c4 c5 ht
              have K22 := ih ks[j] b' e' a' c' wr ht
              unfold vtm at K22
              obtain ⟨x, hx⟩ : ∃ x, wtm ks[j] = x := ⟨_, rfl⟩
              rw [hx] at K22
              have HX : Hid (wtm ks[j] = x) := hx
              clear ht hx
              by_cases hx0 : x = 0
              · subst hx0
                go_wp2_with (go_at_call 22; (with_reducible refine K22.mono ?_); rintro e w2 ⟨rfl, hb2⟩)
                go_roundw
                case rel => exact ⟨j + 1, by go_num, by omega, fun i hi h => by (by_cases e : i = j; (subst e; exact HX.out); exact HZ.out i hi (by omega)), hB.trans (hb2.mono hB.size)⟩
                case measure => simp [intOf]; omega
              · have bx : (x != 0) = true := by simp [hx0]
                have HR : Hid (R = x) := by
                  show R = x
                  have hjl2 : j < (ks.map wtm).length := by simp; exact hjl
                  rw [← HOK.out, fz_at hjl2 (fun i hi h => by rw [List.getElem_map]; exact HZ.out i (by simpa using hi) h) (by rw [List.getElem_map, HX.out]; exact hx0), List.getElem_map, HX.out]
                go_wp2_with (go_at_call 22; (with_reducible refine K22.mono ?_); rintro e w2 ⟨rfl, hb2⟩)
                go_ret
                exact ⟨by rw [HR.out]; rfl, hfin.trans (hb2.mono hfin.size)⟩
            · have hjl' : ¬ (j : Int) < (ks.length : Int) := by omega
              have HR : Hid (R = 0) := by
                show R = 0
                rw [← HOK.out]
                refine fz_zero (fun x hx => ?_)
                obtain ⟨t', ht', rfl⟩ := List.mem_map.1 hx
                obtain ⟨i, hi, rfl⟩ := List.getElem_of_mem ht'
                exact HZ.out i hi (by omega)
              go_wp2
              go_ret
              exact ⟨by rw [HR.out]; rfl, hfin⟩
      · have HR : Hid (R = 1) := HB.out 1 (wt_form (by dsimp only; omega) (by dsimp only; exact hl)) (by decide)
        have bl : (((ks.length : Nat) : Int) != 2) = true := bne_iff_ne.2 (by omega)
        clear hl K11
        go_enter Try.func22, Try.ntmps22
        go_wp2
        go_ret
        exact ⟨by rw [HR.out]; rfl, by rw [HW0.out]; exact hb0⟩
/-- nest.checkEach of terms -/
theorem eachm_any : ∀ (d : Nat) (t : Tm) (b : Option Addr) (e0 : Nat) (a : Option Addr) (c : Nat) (w : World), TmAt w d t b e0 a c → Calls Try.prog 35 #[vtm t b e0 a c, .func (.func 19) #[] #[], .func (.func 20) #[] #[]] w fun e w' => e = .returned (.int .i64 (wtm t)) ∧ Below w.heap.size w w' := by
  intro d
  induction d with
  | zero => intro t b e0 a c w h; exact h.elim
  | succ d ih =>
    intro t b e0 a c w h
    have hfew := h.few.1
    have HY : Hid (∀ W', Below w.heap.size w W' → ∃ d, TyAt W' d t.ty b e0) := fun W' hW => by
      obtain ⟨d', hy⟩ := h.few.2.2.2
      exact ⟨d', hy.below hW⟩
    obtain ⟨k, n, y, ks⟩ := t
    have K24 := kidsm_any ⟨k, n, y, ks⟩ b e0 a c
    have K25 := fun W' (hW : Below w.heap.size w W') => wrong1m_any ⟨k, n, y, ks⟩ b e0 a c W' hfew (HY.out W' hW)
    have hbA : ∀ o, Below w.heap.size w (w.alloc o) := fun o => (Below.refl _ w).alloc (Nat.le_refl _) o
    unfold vtm at K24 K25
    unfold vtm
    dsimp only at hfew K24 K25 ⊢
    obtain ⟨W0, hW0⟩ : ∃ W0, w.alloc (.cells #[.int .i64 k, .int .i64 n, .int .i64 y.kind, .int .i64 y.n, .slice b y.kids.length e0, .slice a ks.length c] 27) = W0 := ⟨_, rfl⟩
    have hb0 : Below w.heap.size w W0 := hW0 ▸ (Below.refl w.heap.size w).alloc (Nat.le_refl _) _
    have hbx : W0.heap[w.heap.size]? = some (.cells #[.int .i64 k, .int .i64 n, .int .i64 y.kind, .int .i64 y.n, .slice b y.kids.length e0, .slice a ks.length c] 27 (0, 0)) := hW0 ▸ heap_alloc_new _ _
    have hsz : w.heap.size < W0.heap.size := hW0 ▸ (by simp)
    have HT : Hid (TmAt W0 (d + 1) ⟨k, n, y, ks⟩ b e0 a c) := h.below hb0
    have HW0 : Hid (w.alloc (.cells #[.int .i64 k, .int .i64 n, .int .i64 y.kind, .int .i64 y.n, .slice b y.kids.length e0, .slice a ks.length c] 27) = W0) := hW0
    obtain ⟨R, hR⟩ : ∃ R, wtm ⟨k, n, y, ks⟩ = R := ⟨_, rfl⟩
    rw [hR]
    have HR0 : Hid (wtm ⟨k, n, y, ks⟩ = R) := hR
    clear hW0 h hR
    obtain ⟨v1, hv1⟩ : ∃ v1, wt1 ⟨k, n, y, ks⟩ = v1 := ⟨_, rfl⟩
    rw [hv1] at K25
    by_cases hy0 : v1 = 0
    · have HOK : Hid (fz (ks.map wtm) = R) := by (show fz (ks.map wtm) = R; rw [← HR0.out, wtm_ok (t := ⟨k, n, y, ks⟩) (hv1.trans hy0)])
      subst hy0
      clear hv1 HR0
      have RB : Hid (∀ W', Below W0.heap.size W0 W' → W'.cell? ⟨w.heap.size, 0, none⟩ = some (.int .i64 k) ∧ W'.cell? ⟨w.heap.size, 1, none⟩ = some (.int .i64 n) ∧ W'.cell? ⟨w.heap.size, 2, none⟩ = some (.int .i64 y.kind) ∧ W'.cell? ⟨w.heap.size, 3, none⟩ = some (.int .i64 y.n) ∧ W'.cell? ⟨w.heap.size, 4, none⟩ = some (.slice b y.kids.length e0) ∧ W'.cell? ⟨w.heap.size, 5, none⟩ = some (.slice a ks.length c)) := fun W' hW => ⟨(hW.cell (p := ⟨w.heap.size, 0, none⟩) hsz).trans (cell_of_row _ _ 0 _ 27 (0, 0) hbx), (hW.cell (p := ⟨w.heap.size, 1, none⟩) hsz).trans (cell_of_row _ _ 1 _ 27 (0, 0) hbx), (hW.cell (p := ⟨w.heap.size, 2, none⟩) hsz).trans (cell_of_row _ _ 2 _ 27 (0, 0) hbx), (hW.cell (p := ⟨w.heap.size, 3, none⟩) hsz).trans (cell_of_row _ _ 3 _ 27 (0, 0) hbx), (hW.cell (p := ⟨w.heap.size, 4, none⟩) hsz).trans (cell_of_row _ _ 4 _ 27 (0, 0) hbx), (hW.cell (p := ⟨w.heap.size, 5, none⟩) hsz).trans (cell_of_row _ _ 5 _ 27 (0, 0) hbx)⟩
      go_enter Try.func35, Try.ntmps35
      go_wp2_with (first
        | (go_at_call 20; (with_reducible refine (K25 _ (hbA _)).mono ?_); rintro e w1 ⟨rfl, hb1⟩; rw [HW0.out] at hb1; have z := RB.out _ hb1; obtain ⟨z0, z1, z2, z3, z4, z5⟩ := z)
        | (go_at_call 19; (with_reducible refine (K24 _).mono ?_); rintro e w2 ⟨rfl, hb2⟩))
      have hb12 : Below W0.heap.size W0 w2 := hb1.trans (hb2.mono hb1.size)
      clear K24 K25 z0 z1 z2 z3 z4 z5 hb1 hb2
      go_loopw [9, 10, 21] (fun _ _ iv wr => ∃ j : Nat, iv = .int .i64 (j : Int) ∧ j ≤ ks.length ∧ (∀ i (hi : i < ks.length), i < j → wtm ks[i] = 0) ∧ Below W0.heap.size W0 wr) (fun _ _ iv _ => ks.length - (intOf iv).toNat)
      case atStart => exact ⟨0, rfl, by omega, fun i _ h => by omega, hb12⟩
      case round =>
        clear hb12
        obtain ⟨j, rfl, hj, hz, hB⟩ := hrel
        have HZ : Hid (∀ i (hi : i < ks.length), i < j → wtm ks[i] = 0) := hz
        have hfin : Below w.heap.size w wr := hb0.trans (hB.mono hb0.size)
        clear hz
        by_cases hjl : j < ks.length
        · have hjl' : (j : Int) < (ks.length : Int) := by omega
          obtain ⟨g, off, b', e', a', c', rfl, hg, c0, c1, c2, c3, c4, c5, ht⟩ := (HT.out.below hB).kid hjl
          dsimp only at c0 c1 c2 c3 c4 c5 ht
          have hbA : ∀ o, Below wr.heap.size wr (wr.alloc o) := fun o => (Below.refl _ wr).alloc (Nat.le_refl _) o
          have K38 := fun W' (hW : Below wr.heap.size wr W') => ih ks[j] b' e' a' c' W' (ht.below hW)
          unfold vtm at K38
          obtain ⟨x, hx⟩ : ∃ x, wtm ks[j] = x := ⟨_, rfl⟩
          rw [hx] at K38
          have HX : Hid (wtm ks[j] = x) := hx
          clear ht hx
          by_cases hx0 : x = 0
          · subst hx0
            go_wp2_with (go_at_call 35; (with_reducible refine (K38 _ (hbA _)).mono ?_); rintro e w2 ⟨rfl, hb2⟩)
            go_roundw
            case rel => exact ⟨j + 1, by go_num, by omega, fun i hi h => by (by_cases e : i = j; (subst e; exact HX.out); exact HZ.out i hi (by omega)), hB.trans (((hbA _).trans (hb2.mono (hbA _).size)).mono hB.size)⟩
            case measure => simp [intOf]; omega
          · have bx : (x != 0) = true := by simp [hx0]
            have HR : Hid (R = x) := by
              show R = x
              have hjl2 : j < (ks.map wtm).length := by simp; exact hjl
              rw [← HOK.out, fz_at hjl2 (fun i hi h => by rw [List.getElem_map]; exact HZ.out i (by simpa using hi) h) (by rw [List.getElem_map, HX.out]; exact hx0), List.getElem_map, HX.out]
            go_wp2_with (go_at_call 35; (with_reducible refine (K38 _ (hbA _)).mono ?_); rintro e w2 ⟨rfl, hb2⟩)
            go_ret
            exact ⟨by rw [HR.out]; rfl, hfin.trans (((hbA _).trans (hb2.mono (hbA _).size)).mono hfin.size)⟩
        · have hjl' : ¬ (j : Int) < (ks.length : Int) := by omega
          have HR : Hid (R = 0) := by
            show R = 0
            rw [← HOK.out]
            refine fz_zero (fun x hx => ?_)
            obtain ⟨t', ht', rfl⟩ := List.mem_map.1 hx
            obtain ⟨i, hi, rfl⟩ := List.getElem_of_mem ht'
            exact HZ.out i hi (by omega)
          go_wp2
          go_ret
          exact ⟨by rw [HR.out]; rfl, hfin⟩
    · have HR : Hid (R = v1) := by (show R = v1; rw [← HR0.out, wtm_bad (t := ⟨k, n, y, ks⟩) (by rw [hv1]; exact hy0)]; exact hv1)
      have by0 : (v1 != 0) = true := by simp [hy0]
      clear hv1
      go_enter Try.func35, Try.ntmps35
      go_wp2_with (go_at_call 20; (with_reducible refine (K25 _ (hbA _)).mono ?_); rintro e w1 ⟨rfl, hb1⟩; rw [HW0.out] at hb1)
      go_ret
      exact ⟨by rw [HR.out]; rfl, hb0.trans (hb1.mono hb0.size)⟩
theorem nestm_any (d : Nat) (t : Tm) (b : Option Addr) (e0 : Nat) (a : Option Addr) (c : Nat) (w : World) (h : TmAt w d t b e0 a c) : Calls Try.prog 18 #[vtm t b e0 a c, .func (.func 19) #[] #[], .int .i64 400, .func (.func 20) #[] #[]] w fun e w' => e = .returned (.int .i64 (ckm t)) ∧ Below w.heap.size w w' := by
  have hgt := cap_gt (szm t) 400
  have K37 : ∀ W', Below w.heap.size w W' → Calls Try.prog 34 #[vtm t b e0 a c, .func (.func 19) #[] #[], .int .i64 400] W' fun e w' => e = .returned (.int .i64 (cap (szm t) 400 : Nat)) ∧ Below W'.heap.size W' w' := fun W' hW => countm_any d t b e0 a c W' 400 (h.below hW) (by omega)
  have K38 := fun W' (hW : Below w.heap.size w W') => eachm_any d t b e0 a c W' (h.below hW)
  unfold ckm
  obtain ⟨k, n, y, ks⟩ := t
  unfold vtm at K37 K38
  unfold vtm
  dsimp only at K37 K38 ⊢
  obtain ⟨W0, hW0⟩ : ∃ W0, w.alloc (.cells #[.int .i64 k, .int .i64 n, .int .i64 y.kind, .int .i64 y.n, .slice b y.kids.length e0, .slice a ks.length c] 27) = W0 := ⟨_, rfl⟩
  have hb0 : Below w.heap.size w W0 := hW0 ▸ (Below.refl w.heap.size w).alloc (Nat.le_refl _) _
  have hbx : W0.heap[w.heap.size]? = some (.cells #[.int .i64 k, .int .i64 n, .int .i64 y.kind, .int .i64 y.n, .slice b y.kids.length e0, .slice a ks.length c] 27 (0, 0)) := hW0 ▸ heap_alloc_new _ _
  have hsz : w.heap.size < W0.heap.size := hW0 ▸ (by simp)
  have HW0 : Hid (w.alloc (.cells #[.int .i64 k, .int .i64 n, .int .i64 y.kind, .int .i64 y.n, .slice b y.kids.length e0, .slice a ks.length c] 27) = W0) := hW0
  have RB : Hid (∀ W', Below W0.heap.size W0 W' → W'.cell? ⟨w.heap.size, 0, none⟩ = some (.int .i64 k) ∧ W'.cell? ⟨w.heap.size, 1, none⟩ = some (.int .i64 n) ∧ W'.cell? ⟨w.heap.size, 2, none⟩ = some (.int .i64 y.kind) ∧ W'.cell? ⟨w.heap.size, 3, none⟩ = some (.int .i64 y.n) ∧ W'.cell? ⟨w.heap.size, 4, none⟩ = some (.slice b y.kids.length e0) ∧ W'.cell? ⟨w.heap.size, 5, none⟩ = some (.slice a ks.length c)) := fun W' hW => ⟨(hW.cell (p := ⟨w.heap.size, 0, none⟩) hsz).trans (cell_of_row _ _ 0 _ 27 (0, 0) hbx), (hW.cell (p := ⟨w.heap.size, 1, none⟩) hsz).trans (cell_of_row _ _ 1 _ 27 (0, 0) hbx), (hW.cell (p := ⟨w.heap.size, 2, none⟩) hsz).trans (cell_of_row _ _ 2 _ 27 (0, 0) hbx), (hW.cell (p := ⟨w.heap.size, 3, none⟩) hsz).trans (cell_of_row _ _ 3 _ 27 (0, 0) hbx), (hW.cell (p := ⟨w.heap.size, 4, none⟩) hsz).trans (cell_of_row _ _ 4 _ 27 (0, 0) hbx), (hW.cell (p := ⟨w.heap.size, 5, none⟩) hsz).trans (cell_of_row _ _ 5 _ 27 (0, 0) hbx)⟩
  obtain ⟨s, hs⟩ : ∃ s, cap (szm ⟨k, n, y, ks⟩) 400 = s := ⟨_, rfl⟩
  rw [hs] at K37 hgt
  obtain ⟨r, hr⟩ : ∃ r, wtm ⟨k, n, y, ks⟩ = r := ⟨_, rfl⟩
  rw [hr] at K38 ⊢
  have hbA : ∀ o, Below w.heap.size w (w.alloc o) := fun o => (Below.refl _ w).alloc (Nat.le_refl _) o
  clear hs hr hW0 h
  by_cases h400 : 400 < szm ⟨k, n, y, ks⟩
  · rw [if_pos h400]
    have h400' : (400 : Int) < (s : Int) := by (have : 400 < s := by (rw [hgt]; exact h400)); omega
    clear hgt h400
    go_enter Try.func18, Try.ntmps18
    go_wp2_with (go_at_call 34; (with_reducible refine (K37 _ (hbA _)).mono ?_); rintro e w1 ⟨rfl, hb1⟩; rw [HW0.out] at hb1)
    go_ret
    exact ⟨rfl, hb0.trans (hb1.mono hb0.size)⟩
  · rw [if_neg h400]
    have h400' : ¬ (400 : Int) < (s : Int) := by (have : ¬ 400 < s := by (rw [hgt]; exact h400)); omega
    clear hgt h400
    go_enter Try.func18, Try.ntmps18
    go_wp2_with (first
      | (go_at_call 34; (with_reducible refine (K37 _ (hbA _)).mono ?_); rintro e w1 ⟨rfl, hb1⟩; rw [HW0.out] at hb1; have z := RB.out _ hb1; obtain ⟨z0, z1, z2, z3, z4, z5⟩ := z)
      | (go_at_call 35; (with_reducible refine (K38 _ (hb0.trans (hb1.mono hb0.size))).mono ?_); rintro e w2 ⟨rfl, hb2⟩))
    go_ret
    have hb01 := hb0.trans (hb1.mono hb0.size)
    exact ⟨rfl, hb01.trans (hb2.mono hb01.size)⟩
/-- Check of a term -/
theorem checkm_any (d : Nat) (t : Tm) (b : Option Addr) (e0 : Nat) (a : Option Addr) (c : Nat) (w : World) (h : TmAt w d t b e0 a c) : Calls Try.prog 7 #[vtm t b e0 a c] w fun e w' => e = .returned (.int .i64 (ckm t)) ∧ Below w.heap.size w w' := by
  have K23 := fun W' (hW : Below w.heap.size w W') => nestm_any d t b e0 a c W' (h.below hW)
  obtain ⟨r, hr⟩ : ∃ r, ckm t = r := ⟨_, rfl⟩
  rw [hr] at K23 ⊢
  obtain ⟨k, n, y, ks⟩ := t
  unfold vtm at K23
  unfold vtm
  dsimp only at K23 ⊢
  have hbA : ∀ o, Below w.heap.size w (w.alloc o) := fun o => (Below.refl _ w).alloc (Nat.le_refl _) o
  clear h hr
  go_enter Try.func7, Try.ntmps7
  go_wp2_with (go_at_call 18; (with_reducible refine (K23 _ (hbA _)).mono ?_); rintro e w1 ⟨rfl, hb1⟩)
  go_ret
  exact ⟨rfl, (hbA _).trans (hb1.mono (hbA _).size)⟩
/-- the document's Check of a term -/
theorem checkm_doc (d : Nat) (t : Tm) (b : Option Addr) (e0 : Nat) (a : Option Addr) (c : Nat) (w : World) (h : TmAt w d t b e0 a c) : Calls Try.prog 8 #[vtm t b e0 a c] w fun e w' => e = .returned (.int .i64 (ckm t)) ∧ Below w.heap.size w w' := by
  have hgt := cap_gt (szm t) 400
  have K26 : ∀ W', Below w.heap.size w W' → Calls Try.prog 21 #[vtm t b e0 a c, .int .i64 400] W' fun e w' => e = .returned (.int .i64 (cap (szm t) 400 : Nat)) ∧ Below W'.heap.size W' w' := fun W' hW => sizem_any d t b e0 a c W' 400 (h.below hW) (by omega)
  have K27 := fun W' (hW : Below w.heap.size w W') => wrongm_doc d t b e0 a c W' (h.below hW)
  unfold ckm
  obtain ⟨k, n, y, ks⟩ := t
  unfold vtm at K26 K27
  unfold vtm
  dsimp only at K26 K27 ⊢
  obtain ⟨W0, hW0⟩ : ∃ W0, w.alloc (.cells #[.int .i64 k, .int .i64 n, .int .i64 y.kind, .int .i64 y.n, .slice b y.kids.length e0, .slice a ks.length c] 27) = W0 := ⟨_, rfl⟩
  have hb0 : Below w.heap.size w W0 := hW0 ▸ (Below.refl w.heap.size w).alloc (Nat.le_refl _) _
  have hbx : W0.heap[w.heap.size]? = some (.cells #[.int .i64 k, .int .i64 n, .int .i64 y.kind, .int .i64 y.n, .slice b y.kids.length e0, .slice a ks.length c] 27 (0, 0)) := hW0 ▸ heap_alloc_new _ _
  have hsz : w.heap.size < W0.heap.size := hW0 ▸ (by simp)
  have HW0 : Hid (w.alloc (.cells #[.int .i64 k, .int .i64 n, .int .i64 y.kind, .int .i64 y.n, .slice b y.kids.length e0, .slice a ks.length c] 27) = W0) := hW0
  have RB : Hid (∀ W', Below W0.heap.size W0 W' → W'.cell? ⟨w.heap.size, 0, none⟩ = some (.int .i64 k) ∧ W'.cell? ⟨w.heap.size, 1, none⟩ = some (.int .i64 n) ∧ W'.cell? ⟨w.heap.size, 2, none⟩ = some (.int .i64 y.kind) ∧ W'.cell? ⟨w.heap.size, 3, none⟩ = some (.int .i64 y.n) ∧ W'.cell? ⟨w.heap.size, 4, none⟩ = some (.slice b y.kids.length e0) ∧ W'.cell? ⟨w.heap.size, 5, none⟩ = some (.slice a ks.length c)) := fun W' hW => ⟨(hW.cell (p := ⟨w.heap.size, 0, none⟩) hsz).trans (cell_of_row _ _ 0 _ 27 (0, 0) hbx), (hW.cell (p := ⟨w.heap.size, 1, none⟩) hsz).trans (cell_of_row _ _ 1 _ 27 (0, 0) hbx), (hW.cell (p := ⟨w.heap.size, 2, none⟩) hsz).trans (cell_of_row _ _ 2 _ 27 (0, 0) hbx), (hW.cell (p := ⟨w.heap.size, 3, none⟩) hsz).trans (cell_of_row _ _ 3 _ 27 (0, 0) hbx), (hW.cell (p := ⟨w.heap.size, 4, none⟩) hsz).trans (cell_of_row _ _ 4 _ 27 (0, 0) hbx), (hW.cell (p := ⟨w.heap.size, 5, none⟩) hsz).trans (cell_of_row _ _ 5 _ 27 (0, 0) hbx)⟩
  obtain ⟨s, hs⟩ : ∃ s, cap (szm ⟨k, n, y, ks⟩) 400 = s := ⟨_, rfl⟩
  rw [hs] at K26 hgt
  obtain ⟨r, hr⟩ : ∃ r, wtm ⟨k, n, y, ks⟩ = r := ⟨_, rfl⟩
  rw [hr] at K27 ⊢
  have hbA : ∀ o, Below w.heap.size w (w.alloc o) := fun o => (Below.refl _ w).alloc (Nat.le_refl _) o
  clear hs hr hW0 h
  by_cases h400 : 400 < szm ⟨k, n, y, ks⟩
  · rw [if_pos h400]
    have h400' : (400 : Int) < (s : Int) := by (have : 400 < s := by (rw [hgt]; exact h400)); omega
    clear hgt h400
    go_enter Try.func8, Try.ntmps8
    go_wp2_with (go_at_call 21; (with_reducible refine (K26 _ (hbA _)).mono ?_); rintro e w1 ⟨rfl, hb1⟩; rw [HW0.out] at hb1)
    go_ret
    exact ⟨rfl, hb0.trans (hb1.mono hb0.size)⟩
  · rw [if_neg h400]
    have h400' : ¬ (400 : Int) < (s : Int) := by (have : ¬ 400 < s := by (rw [hgt]; exact h400)); omega
    clear hgt h400
    go_enter Try.func8, Try.ntmps8
    go_wp2_with (first
      | (go_at_call 21; (with_reducible refine (K26 _ (hbA _)).mono ?_); rintro e w1 ⟨rfl, hb1⟩; rw [HW0.out] at hb1; have z := RB.out _ hb1; obtain ⟨z0, z1, z2, z3, z4, z5⟩ := z)
      | (go_at_call 22; (with_reducible refine (K27 _ (hb0.trans (hb1.mono hb0.size))).mono ?_); rintro e w2 ⟨rfl, hb2⟩))
    go_ret
    have hb01 := hb0.trans (hb1.mono hb0.size)
    exact ⟨rfl, hb01.trans (hb2.mono hb01.size)⟩
end Go.Proofs.Ytofbnfpncekddaa.Te
