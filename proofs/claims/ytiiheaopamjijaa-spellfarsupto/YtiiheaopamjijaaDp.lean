/- The program's Do is the document's. Condition: at most 1048576 edits. -/
import Derived.Test.YtiiheaopamjijaaEd
namespace Go.Proofs.Ytiiheaopamjijaa.Dp
open Go.RowKit Uni UnitsP Rw Un Rv Wf Dr Ed

/-- how many units come of edits -/
def gv : List (Int × ByteArray) → Nat
  | [] => 0
  | e :: es => (if e.1 = 3 then 0 else 1) + gv es
def allWell : List (Int × ByteArray) → Bool
  | [] => true
  | e :: es => well e.1 e.2 && allWell es
theorem well_kind (k : Int) (t : ByteArray) (h : well k t = true) : k = 1 ∨ k = 2 ∨ k = 3 ∨ k = 4 := by
  unfold well at h
  split at h
  · omega
  · split at h
    · omega
    · cases h
theorem well3 (t : ByteArray) (h : well 3 t = true) : t = ByteArray.empty := by simpa [well] using h
theorem cat_empty (a : ByteArray) : a ++ ByteArray.empty = a := by simp
theorem run_plain (p : List ByteArray) : ∀ (L : List (Int × ByteArray)) (out : ByteArray) (i n : Nat), i ≤ p.length →
    runE p L out i n = if allWell L = true ∧ tk L + i = p.length then (if 200 < n + gv L then (ByteArray.empty, 2) else (edR p L out i, 0)) else (ByteArray.empty, 1) := by
  intro L
  induction L with
  | nil =>
    intro out i n hi
    simp only [runE, allWell, tk, gv, edR, true_and, Nat.zero_add, Nat.add_zero]
    by_cases h : i = p.length
    · by_cases h5 : 200 < n <;> simp [h, h5]
    · simp [h]
  | cons e es ih =>
    obtain ⟨k, t⟩ := e
    intro out i n hi
    simp only [runE, allWell, tk, gv, edR]
    by_cases hw : well k t = true
    · simp only [hw, Bool.true_and]
      rw [if_neg (by simp)]
      have hk := well_kind k t hw
      by_cases h4 : k = 4
      · subst h4
        rw [if_neg (by simp), if_neg (by decide), if_neg (by decide), if_neg (by decide), ih _ _ _ hi]
        simp only [if_true, Nat.zero_add]
        have e1 : (if (4 : Int) = 3 then 0 else 1) = 1 := by decide
        have e2 : (if (4 : Int) = 1 then p[i]?.getD ByteArray.empty else t) = t := if_neg (by decide)
        rw [e1, e2, show n + 1 + gv es = n + (1 + gv es) by omega]
      · simp only [if_neg h4]
        by_cases hat : i = p.length
        · rw [if_pos ⟨h4, hat⟩, if_neg (by omega)]
        · rw [if_neg (fun hh => hat hh.2)]
          have et : 1 + tk es + i = tk es + (i + 1) := by omega
          rcases hk with rfl | rfl | rfl | rfl
          · rw [if_pos rfl, ih _ _ _ (by omega), et]
            simp only [if_true]
            have e1 : (if (1 : Int) = 3 then 0 else 1) = 1 := by decide
            rw [e1, show n + 1 + gv es = n + (1 + gv es) by omega]
          · rw [if_neg (by decide), if_pos rfl, ih _ _ _ (by omega), et]
            have e1 : (if (2 : Int) = 3 then 0 else 1) = 1 := by decide
            have e2 : (if (2 : Int) = 1 then p[i]?.getD ByteArray.empty else t) = t := if_neg (by decide)
            rw [e1, e2, show n + 1 + gv es = n + (1 + gv es) by omega]
          · rw [if_neg (by decide), if_neg (by decide), if_pos rfl, ih _ _ _ (by omega), et]
            have e2 : (if (3 : Int) = 1 then p[i]?.getD ByteArray.empty else t) = t := if_neg (by decide)
            rw [e2, well3 t hw, cat_empty]
            simp
          · exact absurd rfl h4
    · simp [hw]
theorem do_plain (a : ByteArray) (L : List (Int × ByteArray)) (h : (tx a).length ≤ 200) :
    doE a L = if allWell L = true ∧ tk L = (tx a).length then (if 200 < gv L then (ByteArray.empty, 2) else (edR (tx a) L ByteArray.empty 0, 0)) else (ByteArray.empty, 1) := by
  unfold doE
  rw [if_neg (by omega), run_plain _ _ _ _ _ (Nat.zero_le _)]
  simp
theorem all_drop (L : List (Int × ByteArray)) (m : Nat) (h : m < L.length) (hb : well L[m].1 L[m].2 = false) : allWell L = false := by
  induction L generalizing m with
  | nil => simp at h
  | cons e es ih =>
    cases m with
    | zero => simp only [List.getElem_cons_zero] at hb; simp [allWell, hb]
    | succ m => simp only [List.getElem_cons_succ] at hb; simp [allWell, ih m (by simpa using h) hb]
theorem all_take (L : List (Int × ByteArray)) (h : ∀ m (hm : m < L.length), well L[m].1 L[m].2 = true) : allWell L = true ∧ ∀ e ∈ L, well e.1 e.2 = true := by
  induction L with
  | nil => simp [allWell]
  | cons e es ih =>
    have h0 := h 0 (by simp)
    have h1 := ih (fun m hm => h (m + 1) (by simp; omega))
    simp only [List.getElem_cons_zero] at h0
    refine ⟨by simp [allWell, h0, h1.1], ?_⟩
    intro e' he'
    rcases List.mem_cons.1 he' with rfl | he'
    · exact h0
    · exact h1.2 e' he'
theorem bx3 {wr w2 w3 : World} {x y : Value} (hb : Below (wr.alloc (.cells #[x, y] 34)).heap.size (wr.alloc (.cells #[x, y] 34)) w2) (hb3 : Below w2.heap.size w2 w3) : w3.cell? ⟨wr.heap.size, 0, none⟩ = some x ∧ w3.cell? ⟨wr.heap.size, 1, none⟩ = some y := by
  have hs := hb.size
  simp at hs
  have q := bx2 hb
  exact ⟨(hb3.cell (p := ⟨wr.heap.size, 0, none⟩) hs).trans q.1, (hb3.cell (p := ⟨wr.heap.size, 1, none⟩) hs).trans q.2⟩

set_option maxHeartbeats 4000000 in
set_option maxRecDepth 100000 in
theorem do_any (a : ByteArray) (v : Value) (L : List (Int × ByteArray)) (w : World) (h : Row w v 2 L.length (ecs L)) (hL : L.length ≤ 1048576) :
    Calls Try.prog 7 #[.string a, v] w fun e w' => e = .returned (.tuple #[.string (doE a L).1, .int .i64 (doE a L).2]) ∧ Below w.heap.size w w' := by
  have hrow := h
  obtain ⟨_, av, cv, rfl, hn1, hn2, hn3, hcell⟩ := h
  have c := fun W => Un.units_any a W
  by_cases h2 : (tx a).length ≤ 200
  · obtain ⟨D, hD⟩ : ∃ D, doE a L = D := ⟨_, rfl⟩
    have hpl := do_plain a L h2
    rw [hD]
    rw [hD] at hpl
    have hdt : decide ((tx a).length ≤ 200) = true := decide_eq_true h2
    simp only [hdt] at c
    go_enter Try.func7, Try.ntmps7
    go_wp2_with (go_at_call 16; refine (c _).mono ?_; rintro e w1 ⟨z, rfl, hz, _, hb1⟩; replace hz := hz h2; obtain ⟨za, zc, rfl, hzc⟩ := hz.len)
    go_loopw [8, 9, 21] (fun s8 s9 s21 wr => ∃ (t g m : Nat), s8 = .int .i64 t ∧ s9 = .int .i64 g ∧ s21 = .int .i64 m ∧ m ≤ L.length ∧ t ≤ m ∧ g ≤ m ∧ tk (L.drop m) + t = tk L ∧ gv (L.drop m) + g = gv L ∧ (∀ j (hj : j < L.length), j < m → well L[j].1 L[j].2 = true) ∧ Below w1.heap.size w1 wr) (fun _ _ s21 _ => L.length - (intOf s21).toNat)
    case atStart => exact ⟨0, 0, 0, rfl, rfl, rfl, by omega, by omega, by omega, by simp, by simp, fun _ _ hj => by omega, Below.refl _ _⟩
    case round =>
      obtain ⟨t, g, m, rfl, rfl, rfl, hm, htm, hgm, htk, hgv, hall, RB⟩ := hrel
      have RW := hb1.trans (RB.mono hb1.size)
      by_cases hlt : m < L.length
      · obtain ⟨b, off, rfl, hbl, hcs⟩ : ∃ b off, av = some ⟨b, off, none⟩ ∧ b < w.heap.size ∧ ∀ j u, (ecs L)[j]? = some u → w.cell? ⟨b, off + j, none⟩ = some u := by
          rcases hcell with hc0 | ⟨b, off, h1, h2, h3⟩
          · omega
          · exact ⟨b, off, h1, h2, h3⟩
        have gg := ecs_at L m hlt
        have p0 := (RW.cell (p := ⟨b, off + m * 2, none⟩) hbl).trans (hcs _ _ gg.1)
        have p1 := (RW.cell (p := ⟨b, off + (m * 2 + 1), none⟩) hbl).trans (hcs _ _ gg.2)
        rw [← Nat.add_assoc] at p1
        have hbad := all_drop L m hlt
        have hnext : well L[m].1 L[m].2 = true → ∀ j (hj : j < L.length), j < m + 1 → well L[j].1 L[j].2 = true := by
          intro hw j hj hjm
          by_cases e : j = m
          · subst e; exact hw
          · exact hall j hj (by omega)
        rw [List.drop_eq_getElem_cons hlt] at htk hgv
        obtain ⟨⟨k, s⟩, hks⟩ : ∃ e, L[m] = e := ⟨_, rfl⟩
        rw [hks] at p0 p1 hbad htk hgv hnext
        simp only [tk, gv] at p0 p1 hbad htk hgv hnext
        have cwl := fun W => well_any k s W
        have ctk := fun W => takes_any k s W
        have cgv := fun W => gives_any k s W
        have hsw := hb1.size
        have hs1 := RB.size
        clear hks gg hcs hall hrow
        by_cases hw : well k s = true
        · have hnx := hnext hw
          have hk := well_kind k s hw
          simp only [hw] at cwl
          clear hbad hnext hpl
          by_cases h4 : k = 4
          · subst h4
            simp only [if_true] at htk
            rw [if_neg (by decide)] at hgv
            go_wp2_with (first | (go_at_call 17; with_reducible refine (cwl _).mono ?_; rintro e w2 ⟨rfl, hb2⟩; obtain ⟨q0, q1⟩ := bx2 hb2) | (go_at_call 18; with_reducible refine (ctk _).mono ?_; rintro e w3 ⟨rfl, hb3⟩; obtain ⟨r0, r1⟩ := bx3 hb2 hb3) | (go_at_call 19; with_reducible refine (cgv _).mono ?_; rintro e w4 ⟨rfl, hb4⟩))
            have hb34 := hb3.trans (hb4.mono hb3.size)
            exact ⟨⟨t, g + 1, m + 1, by simp, by simp, by simp, by omega, by omega, by omega, by omega, by omega, hnx, (RB.alloc RB.size _).trans ((hb2.trans (hb34.mono hb2.size)).mono (by simp; omega))⟩, by simp [intOf]; omega⟩
          · rw [if_neg h4] at htk
            have d4 : (k != 4) = true := by simpa using h4
            simp only [d4] at ctk
            by_cases h3 : k = 3
            · subst h3
              simp only [if_true] at hgv
              go_wp2_with (first | (go_at_call 17; with_reducible refine (cwl _).mono ?_; rintro e w2 ⟨rfl, hb2⟩; obtain ⟨q0, q1⟩ := bx2 hb2) | (go_at_call 18; with_reducible refine (ctk _).mono ?_; rintro e w3 ⟨rfl, hb3⟩; obtain ⟨r0, r1⟩ := bx3 hb2 hb3) | (go_at_call 19; with_reducible refine (cgv _).mono ?_; rintro e w4 ⟨rfl, hb4⟩))
              have hb34 := hb3.trans (hb4.mono hb3.size)
              exact ⟨⟨t + 1, g, m + 1, by simp, by simp, by simp, by omega, by omega, by omega, by omega, by omega, hnx, (RB.alloc RB.size _).trans ((hb2.trans (hb34.mono hb2.size)).mono (by simp; omega))⟩, by simp [intOf]; omega⟩
            · rw [if_neg h3] at hgv
              have d3 : (k != 3) = true := by simpa using h3
              simp only [d3] at cgv
              go_wp2_with (first | (go_at_call 17; with_reducible refine (cwl _).mono ?_; rintro e w2 ⟨rfl, hb2⟩; obtain ⟨q0, q1⟩ := bx2 hb2) | (go_at_call 18; with_reducible refine (ctk _).mono ?_; rintro e w3 ⟨rfl, hb3⟩; obtain ⟨r0, r1⟩ := bx3 hb2 hb3) | (go_at_call 19; with_reducible refine (cgv _).mono ?_; rintro e w4 ⟨rfl, hb4⟩))
              have hb34 := hb3.trans (hb4.mono hb3.size)
              exact ⟨⟨t + 1, g + 1, m + 1, by simp, by simp, by simp, by omega, by omega, by omega, by omega, by omega, hnx, (RB.alloc RB.size _).trans ((hb2.trans (hb34.mono hb2.size)).mono (by simp; omega))⟩, by simp [intOf]; omega⟩
        · have hw' : well k s = false := by simpa using hw
          have ha := hbad hw'
          rw [ha] at hpl
          simp at hpl
          subst hpl
          simp only [hw'] at cwl
          clear hnext hbad hD
          go_wp2_with (go_at_call 17; with_reducible refine (cwl _).mono ?_; rintro e w2 ⟨rfl, hb2⟩)
          go_ret2
          exact ⟨rfl, (RW.alloc RW.size _).trans (hb2.mono (by simp; omega))⟩
      · have hme : m = L.length := by omega
        subst hme
        have hA := all_take L (fun j hj => hall j hj hj)
        rw [List.drop_length] at htk hgv
        simp only [tk, gv, Nat.zero_add] at htk hgv
        rw [hA.1] at hpl
        simp only [true_and] at hpl
        have hd : decide ((L.length : Int) < (L.length : Int)) = false := decide_eq_false (by omega)
        have ce := fun W (hzz : IsZ W (.slice za (tx a).length zc) (tx a)) (hrr : Row W (.slice av L.length cv) 2 L.length (ecs L)) (ht : tk L = (tx a).length) => edited_any a _ _ L W hzz hrr hA.2 hL ht h2
        subst htk
        subst hgv
        have hzr := hz.below RB
        have hrr := hrow.below (Nat.le_refl _) RW
        clear hA hall hcell hrow hz hD
        by_cases ht : tk L = (tx a).length
        · rw [if_pos ht] at hpl
          have ce' := ce wr hzr hrr ht
          have bt : (((tk L : Nat) : Int) != ((tx a).length : Int)) = false := by simp [ht]
          clear ce
          by_cases hg : 200 < gv L
          · rw [if_pos hg] at hpl
            subst hpl
            have bg : decide ((200 : Int) < ((gv L : Nat) : Int)) = true := decide_eq_true (by omega)
            go_wp2
            go_ret2
            exact ⟨rfl, RW⟩
          · rw [if_neg hg] at hpl
            subst hpl
            have bg : decide ((200 : Int) < ((gv L : Nat) : Int)) = false := decide_eq_false (by omega)
            go_wp2_with (go_at_call 20; with_reducible refine ce'.mono ?_; rintro e w2 ⟨rfl, hb2⟩)
            go_ret2
            exact ⟨rfl, RW.trans (hb2.mono RW.size)⟩
        · rw [if_neg ht] at hpl
          subst hpl
          have bt : (((tk L : Nat) : Int) != ((tx a).length : Int)) = true := by
            have : ¬ ((tk L : Nat) : Int) = ((tx a).length : Int) := by omega
            simpa using this
          go_wp2
          go_ret2
          exact ⟨rfl, RW⟩
  · have hdE : doE a L = (ByteArray.empty, 2) := by unfold doE; rw [if_pos (by omega)]
    rw [hdE]
    have hdt : decide ((tx a).length ≤ 200) = false := decide_eq_false h2
    simp only [hdt] at c
    go_enter Try.func7, Try.ntmps7
    go_wp2_with (go_at_call 16; refine (c _).mono ?_; rintro e w1 ⟨z, rfl, _, hz, hb1⟩; replace hz := hz h2; subst hz)
    go_ret2
    exact ⟨rfl, hb1⟩
end Go.Proofs.Ytiiheaopamjijaa.Dp
