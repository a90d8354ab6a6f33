/- What is wrong with a type: wrongWithType, typeWrong, nest.checkEach and nest.Check of types, both CheckTypes. No conditions. -/
import Derived.Test.YtofbnfpncekddaaTa
namespace Go.Proofs.Ytofbnfpncekddaa.Te
open Go.RowKit

/-- the first that is not nought -/
def fz (l : List Int) : Int := (l.find? (fun x => decide (x ≠ 0))).getD 0
theorem fz_zero {l : List Int} (h : ∀ x ∈ l, x = 0) : fz l = 0 := by
  unfold fz
  rw [List.find?_eq_none.2 (fun x hx => by simp [h x hx])]
  rfl
theorem fz_at {l : List Int} {j : Nat} (hj : j < l.length) (h : ∀ i (hi : i < l.length), i < j → l[i] = 0) (hn : l[j] ≠ 0) : fz l = l[j] := by
  unfold fz
  have : l.find? (fun x => decide (x ≠ 0)) = some l[j] := by
    rw [List.find?_eq_some_iff_getElem]
    refine ⟨by simpa using hn, j, hj, rfl, fun i hi => by simpa using h i (by omega) hi⟩
  rw [this]
  rfl
/-- what is wrong with a type, but for those in it -/
def w1 (k n : Int) (len : Nat) : Int := if k = 1 then (if len ≠ 0 then 1 else if n < 0 ∨ 9 < n then 3 else 0) else if k = 2 then (if len ≠ 2 then 1 else if n < 0 ∨ 0 < n then 3 else 0) else 4
/-- what is wrong with a type -/
def wr (t : Ty) : Int := if w1 t.kind t.n t.kids.length ≠ 0 then w1 t.kind t.n t.kids.length else fz (t.kids.map wr)
termination_by SizeOf.sizeOf t
decreasing_by exact Ty.lt_kids ‹_›
theorem wr_bad {t : Ty} (h : w1 t.kind t.n t.kids.length ≠ 0) : wr t = w1 t.kind t.n t.kids.length := by rw [wr, if_pos h]
theorem wr_ok {t : Ty} (h : w1 t.kind t.n t.kids.length = 0) : wr t = fz (t.kids.map wr) := by rw [wr, if_neg (by simp [h])]
def ck (t : Ty) : Int := if 60 < sz t then 7 else wr t

theorem wrong1_any (t : Ty) (a : Option Addr) (c : Nat) (w : World) (hf : t.kids.length ≤ 140737488355328) : Calls Try.prog 25 #[vty t a c] w fun e w' => e = .returned (.int .i64 (w1 t.kind t.n t.kids.length)) ∧ Below w.heap.size w w' := by
  obtain ⟨k, n, ks⟩ := t
  unfold vty w1
  dsimp only at hf ⊢
  obtain ⟨l, hl⟩ : ∃ l, ks.length = l := ⟨_, rfl⟩
  rw [hl] at hf ⊢
  have hfin : ∀ o, Below w.heap.size w (w.alloc o) := fun o => (Below.refl w.heap.size w).alloc (Nat.le_refl _) o
  clear hl
  by_cases h1 : k = 1
  · subst h1
    rw [if_pos rfl]
    by_cases hl : l = 0
    · subst hl
      rw [if_neg (by simp)]
      by_cases h2 : n < 0
      · rw [if_pos (.inl h2)]
        go_enter Try.func25, Try.ntmps25
        go_wp2
        go_ret
        exact ⟨rfl, hfin _⟩
      · by_cases h3 : 9 < n
        · rw [if_pos (.inr h3)]
          go_enter Try.func25, Try.ntmps25
          go_wp2
          go_ret
          exact ⟨rfl, hfin _⟩
        · rw [if_neg (by omega)]
          go_enter Try.func25, Try.ntmps25
          go_wp2
          go_ret
          exact ⟨rfl, hfin _⟩
    · rw [if_pos hl]
      have bl : ((l : Int) != 0) = true := by simp; omega
      go_enter Try.func25, Try.ntmps25
      go_wp2
      go_ret
      exact ⟨rfl, hfin _⟩
  · rw [if_neg h1]
    have b1 : (k == 1) = false := by simp [h1]
    by_cases h2 : k = 2
    · subst h2
      rw [if_pos rfl]
      by_cases hl : l = 2
      · subst hl
        rw [if_neg (by simp)]
        by_cases h3 : n < 0
        · rw [if_pos (.inl h3)]
          go_enter Try.func25, Try.ntmps25
          go_wp2
          go_ret
          exact ⟨rfl, hfin _⟩
        · by_cases h4 : 0 < n
          · rw [if_pos (.inr h4)]
            go_enter Try.func25, Try.ntmps25
            go_wp2
            go_ret
            exact ⟨rfl, hfin _⟩
          · rw [if_neg (by omega)]
            go_enter Try.func25, Try.ntmps25
            go_wp2
            go_ret
            exact ⟨rfl, hfin _⟩
      · rw [if_pos hl]
        have bl : ((l : Int) != 2) = true := by simp; omega
        go_enter Try.func25, Try.ntmps25
        go_wp2
        go_ret
        exact ⟨rfl, hfin _⟩
    · rw [if_neg h2]
      have b2 : (k == 2) = false := by simp [h2]
      clear h1 h2
      go_enter Try.func25, Try.ntmps25
      go_wp2
      go_ret
      exact ⟨rfl, hfin _⟩
/-- the document's typeWrong -/
theorem wrong_doc : ∀ (d : Nat) (t : Ty) (a : Option Addr) (c : Nat) (w : World), TyAt w d t a c → Calls Try.prog 27 #[vty t a c] w fun e w' => e = .returned (.int .i64 (Te.wr t)) ∧ Below w.heap.size w w' := by
  intro d
  induction d with
  | zero => intro t a c w h; exact h.elim
  | succ d ih =>
    intro t a c w h
    have hfew := h.few.1
    obtain ⟨k, n, ks⟩ := t
    unfold vty
    dsimp only at hfew ⊢
    obtain ⟨W0, hW0⟩ : ∃ W0, w.alloc (.cells #[.int .i64 k, .int .i64 n, .slice a ks.length c] 24) = W0 := ⟨_, rfl⟩
    have hb0 : Below w.heap.size w W0 := hW0 ▸ (Below.refl w.heap.size w).alloc (Nat.le_refl _) _
    have hbx : W0.heap[w.heap.size]? = some (.cells #[.int .i64 k, .int .i64 n, .slice a ks.length c] 24 (0, 0)) := hW0 ▸ heap_alloc_new _ _
    have hsz : w.heap.size < W0.heap.size := hW0 ▸ (by simp)
    have HT : Hid (TyAt W0 (d + 1) ⟨k, n, ks⟩ a c) := h.below hb0
    have HW0 : Hid (w.alloc (.cells #[.int .i64 k, .int .i64 n, .slice a ks.length c] 24) = W0) := hW0
    obtain ⟨R, hR⟩ : ∃ R, Te.wr ⟨k, n, ks⟩ = R := ⟨_, rfl⟩
    rw [hR]
    have HR0 : Hid (Te.wr ⟨k, n, ks⟩ = R) := hR
    clear hW0 h hR
    have bad : ∀ x, w1 k n ks.length = x → x ≠ 0 → R = x := fun x hx h0 => by rw [← HR0.out, wr_bad (t := ⟨k, n, ks⟩) (by dsimp only; rw [hx]; exact h0)]; exact hx
    have HB : Hid (∀ x, w1 k n ks.length = x → x ≠ 0 → R = x) := bad
    have HG : Hid (w1 k n ks.length = 0 → fz (ks.map Te.wr) = R) := fun h => by rw [← HR0.out, wr_ok (t := ⟨k, n, ks⟩) h]
    clear bad
    by_cases h1 : k = 1
    · subst h1
      by_cases hl : ks.length = 0
      · by_cases h2 : n < 0 ∨ 9 < n
        · have HR : Hid (R = 3) := HB.out 3 (by unfold w1; rw [if_pos rfl, if_neg (by simp [hl]), if_pos h2]) (by decide)
          rw [hl]
          rcases h2 with h2 | h2
          · go_enter Try.func27, Try.ntmps27
            go_wp2
            go_ret
            exact ⟨by rw [HR.out]; rfl, by rw [hl] at HW0; rw [HW0.out]; exact hb0⟩
          · by_cases h3 : n < 0
            · omega
            · go_enter Try.func27, Try.ntmps27
              go_wp2
              go_ret
              exact ⟨by rw [HR.out]; rfl, by rw [hl] at HW0; rw [HW0.out]; exact hb0⟩
        · have HOK : Hid (fz (ks.map Te.wr) = R) := HG.out (by unfold w1; rw [if_pos rfl, if_neg (by simp [hl]), if_neg h2])
          have h2a : ¬ n < 0 := by omega
          have h2b : ¬ 9 < n := by omega
          obtain rfl : ks = [] := List.length_eq_zero_iff.1 hl
          have HR : Hid (R = 0) := HOK.out.symm
          simp only [List.length_nil] at *
          clear h2 hl
          go_enter Try.func27, Try.ntmps27
          go_wp2
          rw [HW0.out]
          go_loopw [3, 4] (fun iv _ wr => iv = .int .i64 0 ∧ wr = W0) (fun _ _ _ => 0)
          case atStart => exact ⟨rfl, rfl⟩
          case round =>
            obtain ⟨rfl, rfl⟩ := hrel
            have cB := cell_of_row _ _ 2 _ 24 (0, 0) hbx
            go_wp2
            go_ret
            exact ⟨by rw [HR.out]; rfl, hb0⟩
      · have HR : Hid (R = 1) := HB.out 1 (by unfold w1; rw [if_pos rfl, if_pos hl]) (by decide)
        have h2c : (0 : Int) < (ks.length : Int) := by omega
        have h2d : 0 < ks.length := by omega
        go_enter Try.func27, Try.ntmps27
        go_wp2
        go_ret
        exact ⟨by rw [HR.out]; rfl, by rw [HW0.out]; exact hb0⟩
    · by_cases h2 : k = 2
      · subst h2
        by_cases hl : ks.length = 2
        · by_cases h3 : n < 0 ∨ 0 < n
          · have HR : Hid (R = 3) := HB.out 3 (by unfold w1; rw [if_neg (by decide), if_pos rfl, if_neg (by simp [hl]), if_pos h3]) (by decide)
            have bl : (((ks.length : Nat) : Int) != 2) = false := by simp; omega
            clear hl
            by_cases h4 : n < 0
            · go_enter Try.func27, Try.ntmps27
              go_wp2
              go_ret
              exact ⟨by rw [HR.out]; rfl, by rw [HW0.out]; exact hb0⟩
            · by_cases h5 : 9 < n
              · go_enter Try.func27, Try.ntmps27
                go_wp2
                go_ret
                exact ⟨by rw [HR.out]; rfl, by rw [HW0.out]; exact hb0⟩
              · have h6 : 0 < n := by omega
                go_enter Try.func27, Try.ntmps27
                go_wp2
                go_ret
                exact ⟨by rw [HR.out]; rfl, by rw [HW0.out]; exact hb0⟩
          · have HOK : Hid (fz (ks.map Te.wr) = R) := HG.out (by unfold w1; rw [if_neg (by decide), if_pos rfl, if_neg (by simp [hl]), if_neg h3])
            have bl : (((ks.length : Nat) : Int) != 2) = false := by simp; omega
            have e0 : n = 0 := by omega
            subst e0
            clear hl h3
            go_enter Try.func27, Try.ntmps27
            go_wp2
            rw [HW0.out]
            go_loopw [3, 4] (fun iv _ wr => ∃ j : Nat, iv = .int .i64 (j : Int) ∧ j ≤ ks.length ∧ (∀ i (hi : i < ks.length), i < j → Te.wr ks[i] = 0) ∧ Below W0.heap.size W0 wr) (fun iv _ _ => ks.length - (intOf iv).toNat)
            case atStart => exact ⟨0, rfl, by omega, fun i _ h => by omega, Below.refl _ _⟩
            case round =>
              obtain ⟨j, rfl, hj, hz, hB⟩ := hrel
              have HZ : Hid (∀ i (hi : i < ks.length), i < j → Te.wr ks[i] = 0) := hz
              have cB := (hB.cell (p := ⟨w.heap.size, 2, none⟩) hsz).trans (cell_of_row _ _ 2 _ 24 (0, 0) hbx)
              have hfin : Below w.heap.size w wr := hb0.trans (hB.mono hb0.size)
              clear hz
              by_cases hjl : j < ks.length
              · have hjl' : (j : Int) < (ks.length : Int) := by omega
                obtain ⟨g, off, a', c', rfl, hg, c0, c1, c2, ht⟩ := (HT.out.below hB).kid hjl
                dsimp only at c0 c1 c2 ht
                have K27 := ih ks[j] a' c' wr ht
                unfold vty at K27
                obtain ⟨x, hx⟩ : ∃ x, Te.wr ks[j] = x := ⟨_, rfl⟩
                rw [hx] at K27
                have HX : Hid (Te.wr ks[j] = x) := hx
                clear ht hx
                by_cases hx0 : x = 0
                · subst hx0
                  go_wp2_with (go_at_call 27; (with_reducible refine K27.mono ?_); rintro e w2 ⟨rfl, hb2⟩)
                  go_roundw
                  case rel => exact ⟨j + 1, by go_num, by omega, fun i hi h => by (by_cases e : i = j; (subst e; exact HX.out); exact HZ.out i hi (by omega)), hB.trans (hb2.mono hB.size)⟩
                  case measure => simp [intOf]; omega
                · have bx : (x != 0) = true := by simp [hx0]
                  have HR : Hid (R = x) := by
                    show R = x
                    have hjl2 : j < (ks.map Te.wr).length := by simp; exact hjl
                    rw [← HOK.out, fz_at hjl2 (fun i hi h => by rw [List.getElem_map]; exact HZ.out i (by simpa using hi) h) (by rw [List.getElem_map, HX.out]; exact hx0), List.getElem_map, HX.out]
                  go_wp2_with (go_at_call 27; (with_reducible refine K27.mono ?_); rintro e w2 ⟨rfl, hb2⟩)
                  go_ret
                  exact ⟨by rw [HR.out]; rfl, hfin.trans (hb2.mono hfin.size)⟩
              · have hjl' : ¬ (j : Int) < (ks.length : Int) := by omega
                have HR : Hid (R = 0) := by
                  show R = 0
                  rw [← HOK.out]
                  refine fz_zero (fun x hx => ?_)
                  obtain ⟨t', ht', rfl⟩ := List.mem_map.1 hx
                  obtain ⟨i, hi, rfl⟩ := List.getElem_of_mem ht'
                  exact HZ.out i hi (by omega)
                go_wp2
                go_ret
                exact ⟨by rw [HR.out]; rfl, hfin⟩
        · have HR : Hid (R = 1) := HB.out 1 (by unfold w1; rw [if_neg (by decide), if_pos rfl, if_pos hl]) (by decide)
          have bl : (((ks.length : Nat) : Int) != 2) = true := by simp; omega
          go_enter Try.func27, Try.ntmps27
          go_wp2
          go_ret
          exact ⟨by rw [HR.out]; rfl, by rw [HW0.out]; exact hb0⟩
      · have HR : Hid (R = 4) := HB.out 4 (by unfold w1; rw [if_neg h1, if_neg h2]) (by decide)
        have b1 : (k != 1) = true := by simp [h1]
        have b2 : (k != 2) = true := by simp [h2]
        clear h1 h2
        go_enter Try.func27, Try.ntmps27
        go_wp2
        go_ret
        exact ⟨by rw [HR.out]; rfl, by rw [HW0.out]; exact hb0⟩
/-- nest.checkEach of types -/
theorem each_any : ∀ (d : Nat) (t : Ty) (a : Option Addr) (c : Nat) (w : World), TyAt w d t a c → Calls Try.prog 38 #[vty t a c, .func (.func 24) #[] #[], .func (.func 25) #[] #[]] w fun e w' => e = .returned (.int .i64 (Te.wr t)) ∧ Below w.heap.size w w' := by
  intro d
  induction d with
  | zero => intro t a c w h; exact h.elim
  | succ d ih =>
    intro t a c w h
    have hfew := h.few.1
    obtain ⟨k, n, ks⟩ := t
    have K24 := kids_any ⟨k, n, ks⟩ a c
    have K25 := fun w => wrong1_any ⟨k, n, ks⟩ a c w hfew
    unfold vty at K24 K25
    unfold vty
    dsimp only at hfew K24 K25 ⊢
    obtain ⟨W0, hW0⟩ : ∃ W0, w.alloc (.cells #[.int .i64 k, .int .i64 n, .slice a ks.length c] 24) = W0 := ⟨_, rfl⟩
    have hb0 : Below w.heap.size w W0 := hW0 ▸ (Below.refl w.heap.size w).alloc (Nat.le_refl _) _
    have hbx : W0.heap[w.heap.size]? = some (.cells #[.int .i64 k, .int .i64 n, .slice a ks.length c] 24 (0, 0)) := hW0 ▸ heap_alloc_new _ _
    have hsz : w.heap.size < W0.heap.size := hW0 ▸ (by simp)
    have HT : Hid (TyAt W0 (d + 1) ⟨k, n, ks⟩ a c) := h.below hb0
    have HW0 : Hid (w.alloc (.cells #[.int .i64 k, .int .i64 n, .slice a ks.length c] 24) = W0) := hW0
    obtain ⟨R, hR⟩ : ∃ R, Te.wr ⟨k, n, ks⟩ = R := ⟨_, rfl⟩
    rw [hR]
    have HR0 : Hid (Te.wr ⟨k, n, ks⟩ = R) := hR
    clear hW0 h hR
    obtain ⟨y, hy⟩ : ∃ y, w1 k n ks.length = y := ⟨_, rfl⟩
    rw [hy] at K25
    have q0 := cell_of_row _ _ 0 _ 24 (0, 0) hbx
    have q1 := cell_of_row _ _ 1 _ 24 (0, 0) hbx
    have q2 := cell_of_row _ _ 2 _ 24 (0, 0) hbx
    by_cases hy0 : y = 0
    · have HOK : Hid (fz (ks.map Te.wr) = R) := by (show fz (ks.map Te.wr) = R; rw [← HR0.out, wr_ok (t := ⟨k, n, ks⟩) (hy.trans hy0)])
      subst hy0
      clear hy HR0
      have RB : Hid (∀ W', Below W0.heap.size W0 W' → W'.cell? ⟨w.heap.size, 0, none⟩ = some (.int .i64 k) ∧ W'.cell? ⟨w.heap.size, 1, none⟩ = some (.int .i64 n) ∧ W'.cell? ⟨w.heap.size, 2, none⟩ = some (.slice a ks.length c)) := fun W' hW => ⟨(hW.cell (p := ⟨w.heap.size, 0, none⟩) hsz).trans q0, (hW.cell (p := ⟨w.heap.size, 1, none⟩) hsz).trans q1, (hW.cell (p := ⟨w.heap.size, 2, none⟩) hsz).trans q2⟩
      go_enter Try.func38, Try.ntmps38
      go_wp2_with (first
        | (go_at_call 25; (with_reducible refine (K25 _).mono ?_); rintro e w1 ⟨rfl, hb1⟩; rw [HW0.out] at hb1; have z := RB.out _ hb1; obtain ⟨z0, z1, z2⟩ := z)
        | (go_at_call 24; (with_reducible refine (K24 _).mono ?_); rintro e w2 ⟨rfl, hb2⟩))
      have hb12 : Below W0.heap.size W0 w2 := hb1.trans (hb2.mono hb1.size)
      clear K24 K25 z0 z1 z2 q0 q1 q2 hb1 hb2
      go_loopw [9, 10, 21] (fun _ _ iv wr => ∃ j : Nat, iv = .int .i64 (j : Int) ∧ j ≤ ks.length ∧ (∀ i (hi : i < ks.length), i < j → Te.wr ks[i] = 0) ∧ Below W0.heap.size W0 wr) (fun _ _ iv _ => ks.length - (intOf iv).toNat)
      case atStart => exact ⟨0, rfl, by omega, fun i _ h => by omega, hb12⟩
      case round =>
        clear hb12
        obtain ⟨j, rfl, hj, hz, hB⟩ := hrel
        have HZ : Hid (∀ i (hi : i < ks.length), i < j → Te.wr ks[i] = 0) := hz
        have hfin : Below w.heap.size w wr := hb0.trans (hB.mono hb0.size)
        clear hz
        by_cases hjl : j < ks.length
        · have hjl' : (j : Int) < (ks.length : Int) := by omega
          obtain ⟨g, off, a', c', rfl, hg, c0, c1, c2, ht⟩ := (HT.out.below hB).kid hjl
          dsimp only at c0 c1 c2 ht
          have hbA : ∀ o, Below wr.heap.size wr (wr.alloc o) := fun o => (Below.refl _ wr).alloc (Nat.le_refl _) o
          have K38 := fun W' (hW : Below wr.heap.size wr W') => ih ks[j] a' c' W' (ht.below hW)
          unfold vty at K38
          obtain ⟨x, hx⟩ : ∃ x, Te.wr ks[j] = x := ⟨_, rfl⟩
          rw [hx] at K38
          have HX : Hid (Te.wr ks[j] = x) := hx
          clear ht hx
          by_cases hx0 : x = 0
          · subst hx0
            go_wp2_with (go_at_call 38; (with_reducible refine (K38 _ (hbA _)).mono ?_); rintro e w2 ⟨rfl, hb2⟩)
            go_roundw
            case rel => exact ⟨j + 1, by go_num, by omega, fun i hi h => by (by_cases e : i = j; (subst e; exact HX.out); exact HZ.out i hi (by omega)), hB.trans (((hbA _).trans (hb2.mono (hbA _).size)).mono hB.size)⟩
            case measure => simp [intOf]; omega
          · have bx : (x != 0) = true := by simp [hx0]
            have HR : Hid (R = x) := by
              show R = x
              have hjl2 : j < (ks.map Te.wr).length := by simp; exact hjl
              rw [← HOK.out, fz_at hjl2 (fun i hi h => by rw [List.getElem_map]; exact HZ.out i (by simpa using hi) h) (by rw [List.getElem_map, HX.out]; exact hx0), List.getElem_map, HX.out]
            go_wp2_with (go_at_call 38; (with_reducible refine (K38 _ (hbA _)).mono ?_); rintro e w2 ⟨rfl, hb2⟩)
            go_ret
            exact ⟨by rw [HR.out]; rfl, hfin.trans (((hbA _).trans (hb2.mono (hbA _).size)).mono hfin.size)⟩
        · have hjl' : ¬ (j : Int) < (ks.length : Int) := by omega
          have HR : Hid (R = 0) := by
            show R = 0
            rw [← HOK.out]
            refine fz_zero (fun x hx => ?_)
            obtain ⟨t', ht', rfl⟩ := List.mem_map.1 hx
            obtain ⟨i, hi, rfl⟩ := List.getElem_of_mem ht'
            exact HZ.out i hi (by omega)
          go_wp2
          go_ret
          exact ⟨by rw [HR.out]; rfl, hfin⟩
    · have HR : Hid (R = y) := by (show R = y; rw [← HR0.out, wr_bad (t := ⟨k, n, ks⟩) (by dsimp only; rw [hy]; exact hy0)]; exact hy)
      have by0 : (y != 0) = true := by simp [hy0]
      clear hy
      go_enter Try.func38, Try.ntmps38
      go_wp2_with (go_at_call 25; (with_reducible refine (K25 _).mono ?_); rintro e w1 ⟨rfl, hb1⟩; rw [HW0.out] at hb1)
      go_ret
      exact ⟨by rw [HR.out]; rfl, hb0.trans (hb1.mono hb0.size)⟩
theorem cap_gt (s m : Nat) : (m < cap s m) = (m < s) := by unfold cap; split <;> simp <;> omega
theorem nest_any (d : Nat) (t : Ty) (a : Option Addr) (c : Nat) (w : World) (h : TyAt w d t a c) : Calls Try.prog 23 #[vty t a c, .func (.func 24) #[] #[], .int .i64 60, .func (.func 25) #[] #[]] w fun e w' => e = .returned (.int .i64 (ck t)) ∧ Below w.heap.size w w' := by
  have hgt := cap_gt (sz t) 60
  have K37 : ∀ W', Below w.heap.size w W' → Calls Try.prog 37 #[vty t a c, .func (.func 24) #[] #[], .int .i64 60] W' fun e w' => e = .returned (.int .i64 (cap (sz t) 60 : Nat)) ∧ Below W'.heap.size W' w' := fun W' hW => count_any d t a c W' 60 (h.below hW) (by omega)
  have K38 := fun W' (hW : Below w.heap.size w W') => each_any d t a c W' (h.below hW)
  unfold ck
  obtain ⟨k, n, ks⟩ := t
  unfold vty at K37 K38
  unfold vty
  dsimp only at K37 K38 ⊢
  obtain ⟨W0, hW0⟩ : ∃ W0, w.alloc (.cells #[.int .i64 k, .int .i64 n, .slice a ks.length c] 24) = W0 := ⟨_, rfl⟩
  have hb0 : Below w.heap.size w W0 := hW0 ▸ (Below.refl w.heap.size w).alloc (Nat.le_refl _) _
  have hbx : W0.heap[w.heap.size]? = some (.cells #[.int .i64 k, .int .i64 n, .slice a ks.length c] 24 (0, 0)) := hW0 ▸ heap_alloc_new _ _
  have hsz : w.heap.size < W0.heap.size := hW0 ▸ (by simp)
  have HW0 : Hid (w.alloc (.cells #[.int .i64 k, .int .i64 n, .slice a ks.length c] 24) = W0) := hW0
  have q0 := cell_of_row _ _ 0 _ 24 (0, 0) hbx
  have q1 := cell_of_row _ _ 1 _ 24 (0, 0) hbx
  have q2 := cell_of_row _ _ 2 _ 24 (0, 0) hbx
  have RB : Hid (∀ W', Below W0.heap.size W0 W' → W'.cell? ⟨w.heap.size, 0, none⟩ = some (.int .i64 k) ∧ W'.cell? ⟨w.heap.size, 1, none⟩ = some (.int .i64 n) ∧ W'.cell? ⟨w.heap.size, 2, none⟩ = some (.slice a ks.length c)) := fun W' hW => ⟨(hW.cell (p := ⟨w.heap.size, 0, none⟩) hsz).trans q0, (hW.cell (p := ⟨w.heap.size, 1, none⟩) hsz).trans q1, (hW.cell (p := ⟨w.heap.size, 2, none⟩) hsz).trans q2⟩
  obtain ⟨s, hs⟩ : ∃ s, cap (sz ⟨k, n, ks⟩) 60 = s := ⟨_, rfl⟩
  rw [hs] at K37 hgt
  obtain ⟨r, hr⟩ : ∃ r, Te.wr ⟨k, n, ks⟩ = r := ⟨_, rfl⟩
  rw [hr] at K38 ⊢
  have hbA : ∀ o, Below w.heap.size w (w.alloc o) := fun o => (Below.refl _ w).alloc (Nat.le_refl _) o
  clear hs hr hW0 h
  by_cases h60 : 60 < sz ⟨k, n, ks⟩
  · rw [if_pos h60]
    have h60' : (60 : Int) < (s : Int) := by (have : 60 < s := by (rw [hgt]; exact h60)); omega
    clear hgt h60
    go_enter Try.func23, Try.ntmps23
    go_wp2_with (go_at_call 37; (with_reducible refine (K37 _ (hbA _)).mono ?_); rintro e w1 ⟨rfl, hb1⟩; rw [HW0.out] at hb1)
    go_ret
    exact ⟨rfl, hb0.trans (hb1.mono hb0.size)⟩
  · rw [if_neg h60]
    have h60' : ¬ (60 : Int) < (s : Int) := by (have : ¬ 60 < s := by (rw [hgt]; exact h60)); omega
    clear hgt h60
    go_enter Try.func23, Try.ntmps23
    go_wp2_with (first
      | (go_at_call 37; (with_reducible refine (K37 _ (hbA _)).mono ?_); rintro e w1 ⟨rfl, hb1⟩; rw [HW0.out] at hb1; have z := RB.out _ hb1; obtain ⟨z0, z1, z2⟩ := z)
      | (go_at_call 38; (with_reducible refine (K38 _ (hb0.trans (hb1.mono hb0.size))).mono ?_); rintro e w2 ⟨rfl, hb2⟩))
    go_ret
    have hb01 := hb0.trans (hb1.mono hb0.size)
    exact ⟨rfl, hb01.trans (hb2.mono hb01.size)⟩
/-- CheckType -/
theorem check_any (d : Nat) (t : Ty) (a : Option Addr) (c : Nat) (w : World) (h : TyAt w d t a c) : Calls Try.prog 10 #[vty t a c] w fun e w' => e = .returned (.int .i64 (ck t)) ∧ Below w.heap.size w w' := by
  have K23 := fun W' (hW : Below w.heap.size w W') => nest_any d t a c W' (h.below hW)
  obtain ⟨r, hr⟩ : ∃ r, ck t = r := ⟨_, rfl⟩
  rw [hr] at K23 ⊢
  obtain ⟨k, n, ks⟩ := t
  unfold vty at K23
  unfold vty
  dsimp only at K23 ⊢
  have hbA : ∀ o, Below w.heap.size w (w.alloc o) := fun o => (Below.refl _ w).alloc (Nat.le_refl _) o
  clear h hr
  go_enter Try.func10, Try.ntmps10
  go_wp2_with (go_at_call 23; (with_reducible refine (K23 _ (hbA _)).mono ?_); rintro e w1 ⟨rfl, hb1⟩)
  go_ret
  exact ⟨rfl, (hbA _).trans (hb1.mono (hbA _).size)⟩
/-- the document's CheckType -/
theorem check_doc (d : Nat) (t : Ty) (a : Option Addr) (c : Nat) (w : World) (h : TyAt w d t a c) : Calls Try.prog 11 #[vty t a c] w fun e w' => e = .returned (.int .i64 (ck t)) ∧ Below w.heap.size w w' := by
  have hgt := cap_gt (sz t) 60
  have K26 : ∀ W', Below w.heap.size w W' → Calls Try.prog 26 #[vty t a c, .int .i64 60] W' fun e w' => e = .returned (.int .i64 (cap (sz t) 60 : Nat)) ∧ Below W'.heap.size W' w' := fun W' hW => size_any d t a c W' 60 (h.below hW) (by omega)
  have K27 := fun W' (hW : Below w.heap.size w W') => wrong_doc d t a c W' (h.below hW)
  unfold ck
  obtain ⟨k, n, ks⟩ := t
  unfold vty at K26 K27
  unfold vty
  dsimp only at K26 K27 ⊢
  obtain ⟨W0, hW0⟩ : ∃ W0, w.alloc (.cells #[.int .i64 k, .int .i64 n, .slice a ks.length c] 24) = W0 := ⟨_, rfl⟩
  have hb0 : Below w.heap.size w W0 := hW0 ▸ (Below.refl w.heap.size w).alloc (Nat.le_refl _) _
  have hbx : W0.heap[w.heap.size]? = some (.cells #[.int .i64 k, .int .i64 n, .slice a ks.length c] 24 (0, 0)) := hW0 ▸ heap_alloc_new _ _
  have hsz : w.heap.size < W0.heap.size := hW0 ▸ (by simp)
  have HW0 : Hid (w.alloc (.cells #[.int .i64 k, .int .i64 n, .slice a ks.length c] 24) = W0) := hW0
  have q0 := cell_of_row _ _ 0 _ 24 (0, 0) hbx
  have q1 := cell_of_row _ _ 1 _ 24 (0, 0) hbx
  have q2 := cell_of_row _ _ 2 _ 24 (0, 0) hbx
  have RB : Hid (∀ W', Below W0.heap.size W0 W' → W'.cell? ⟨w.heap.size, 0, none⟩ = some (.int .i64 k) ∧ W'.cell? ⟨w.heap.size, 1, none⟩ = some (.int .i64 n) ∧ W'.cell? ⟨w.heap.size, 2, none⟩ = some (.slice a ks.length c)) := fun W' hW => ⟨(hW.cell (p := ⟨w.heap.size, 0, none⟩) hsz).trans q0, (hW.cell (p := ⟨w.heap.size, 1, none⟩) hsz).trans q1, (hW.cell (p := ⟨w.heap.size, 2, none⟩) hsz).trans q2⟩
  obtain ⟨s, hs⟩ : ∃ s, cap (sz ⟨k, n, ks⟩) 60 = s := ⟨_, rfl⟩
  rw [hs] at K26 hgt
  obtain ⟨r, hr⟩ : ∃ r, Te.wr ⟨k, n, ks⟩ = r := ⟨_, rfl⟩
  rw [hr] at K27 ⊢
  have hbA : ∀ o, Below w.heap.size w (w.alloc o) := fun o => (Below.refl _ w).alloc (Nat.le_refl _) o
  clear hs hr hW0 h
  by_cases h60 : 60 < sz ⟨k, n, ks⟩
  · rw [if_pos h60]
    have h60' : (60 : Int) < (s : Int) := by (have : 60 < s := by (rw [hgt]; exact h60)); omega
    clear hgt h60
    go_enter Try.func11, Try.ntmps11
    go_wp2_with (go_at_call 26; (with_reducible refine (K26 _ (hbA _)).mono ?_); rintro e w1 ⟨rfl, hb1⟩; rw [HW0.out] at hb1)
    go_ret
    exact ⟨rfl, hb0.trans (hb1.mono hb0.size)⟩
  · rw [if_neg h60]
    have h60' : ¬ (60 : Int) < (s : Int) := by (have : ¬ 60 < s := by (rw [hgt]; exact h60)); omega
    clear hgt h60
    go_enter Try.func11, Try.ntmps11
    go_wp2_with (first
      | (go_at_call 26; (with_reducible refine (K26 _ (hbA _)).mono ?_); rintro e w1 ⟨rfl, hb1⟩; rw [HW0.out] at hb1; have z := RB.out _ hb1; obtain ⟨z0, z1, z2⟩ := z)
      | (go_at_call 27; (with_reducible refine (K27 _ (hb0.trans (hb1.mono hb0.size))).mono ?_); rintro e w2 ⟨rfl, hb2⟩))
    go_ret
    have hb01 := hb0.trans (hb1.mono hb0.size)
    exact ⟨rfl, hb01.trans (hb2.mono hb01.size)⟩
end Go.Proofs.Ytofbnfpncekddaa.Te
