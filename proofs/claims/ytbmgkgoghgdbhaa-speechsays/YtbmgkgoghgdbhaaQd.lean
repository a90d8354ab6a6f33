/- chosen: the parts that a choice takes, in a new list. Condition: there are at most 6 words, and the choice fits them. -/
import Derived.Test.YtbmgkgoghgdbhaaQb
import Derived.Laws.MakeOwn
namespace Go.Proofs.Ytbmgkgoghgdbhaa.Te
open Go.RowKit

theorem run_mkp (n : Nat) (hn : n ≤ 6) (W : World) : (Instr.makeSlice 22 (.int .i64 (n : Int)) (.int .i64 (n : Int))).run Try.prog W = .ok (.slice (some ⟨W.heap.size, 0, none⟩) n n) (W.alloc (.cells (madeCells #[.int .i64 0, .int .i64 0, .slice none 0 0] (n * 3)) 24)) := by
  obtain ⟨i0, hi, hz0, hz1, hz2⟩ := info_parts info24
  have hr := run_make (P := Try.prog) W 22 24 i0 _ Try.underlying22 hi hz0 .i64 .i64 (n : Int) (n : Int) (by omega) (Int.le_refl _) (by rw [hz2]; omega) (by omega)
  simp only [Int.toNat_natCast, hz1] at hr
  exact hr
theorem pk_at : ∀ (ws : List (List Ty)) (cs : List Nat), Fits ws cs → (pk ws cs).length = ws.length ∧ ∀ j (h : j < ws.length), ∃ (h1 : j < cs.length) (h2 : cs[j] < (ws[j]).length) (h3 : j < (pk ws cs).length), (pk ws cs)[j] = ws[j][cs[j]]
  | [], [], _ => ⟨rfl, fun j h => by simp at h⟩
  | w :: ws, c :: cs, hf => by
    have hcl : c < w.length := hf.1
    have hc : w[c]? = some w[c] := List.getElem?_eq_getElem hcl
    obtain ⟨i1, i2⟩ := pk_at ws cs hf.2
    have e : pk (w :: ws) (c :: cs) = w[c] :: pk ws cs := by simp only [pk, hc]
    rw [e]
    refine ⟨by simp [i1], fun j hj => ?_⟩
    cases j with
    | zero => exact ⟨by simp, hcl, by simp, rfl⟩
    | succ j =>
      obtain ⟨a, b, c', d⟩ := i2 j (by simpa using hj)
      exact ⟨by simpa using a, by simpa using b, by simpa using c', by simpa using d⟩
  | [], _ :: _, h => h.elim
  | _ :: _, [], h => h.elim
/-- the numbers of a choice as they lie -/
def nums (cs : List Nat) : Array Value := (cs.map fun c : Nat => Value.int .i64 (c : Int)).toArray
theorem nums_at (cs : List Nat) (j : Nat) (h : j < cs.length) : (nums cs)[j]? = some (.int .i64 (cs[j] : Int)) := by
  simp [nums, h]
/-- what is chosen so far -/
structure Ch (w : World) (d : Nat) (l : List Ty) (k : Nat) (wr : World) : Prop where
  bel : Below w.heap.size w wr
  row : ∃ A, wr.heap[w.heap.size]? = some (.cells A 24 (0, 0)) ∧ A.size = l.length * 3 ∧ ∀ q (h : q < l.length), q < k → ∃ a c, A[q * 3]? = some (.int .i64 l[q].kind) ∧ A[q * 3 + 1]? = some (.int .i64 l[q].n) ∧ A[q * 3 + 2]? = some (.slice a l[q].kids.length c) ∧ TyQ w d l[q] a c
theorem Ch.push {w : World} {d : Nat} {l : List Ty} {k : Nat} {wr : World} (h : Ch w d l k wr) (hk : k < l.length) {a : Option Addr} {c : Nat} (ht : TyQ w d l[k] a c) :
    Ch w d l (k + 1) (((wr.setCell ⟨w.heap.size, k * 3, none⟩ (.int .i64 l[k].kind)).setCell ⟨w.heap.size, k * 3 + 1, none⟩ (.int .i64 l[k].n)).setCell ⟨w.heap.size, k * 3 + 2, none⟩ (.slice a l[k].kids.length c)) := by
  obtain ⟨hb, A, hA, hs, hr⟩ := h
  refine ⟨((hb.setCell (Nat.le_refl _) _).setCell (Nat.le_refl _) _).setCell (Nat.le_refl _) _, _, heap_setCell_same _ _ _ _ _ _ (heap_setCell_same _ _ _ _ _ _ (heap_setCell_same _ _ _ _ _ _ hA)), by simp [hs], fun q hq hqk => ?_⟩
  by_cases e : q = k
  · subst e
    refine ⟨a, c, ?_, ?_, ?_, ht⟩
    · rw [Array.getElem?_setIfInBounds_ne (by omega), Array.getElem?_setIfInBounds_ne (by omega), Array.getElem?_setIfInBounds_self_of_lt (by omega)]
    · rw [Array.getElem?_setIfInBounds_ne (by omega), Array.getElem?_setIfInBounds_self_of_lt (by simp; omega)]
    · rw [Array.getElem?_setIfInBounds_self_of_lt (by simp; omega)]
  · obtain ⟨a', c', h0, h1, h2, h3⟩ := hr q hq (by omega)
    refine ⟨a', c', ?_, ?_, ?_, h3⟩
    · rw [Array.getElem?_setIfInBounds_ne (by omega), Array.getElem?_setIfInBounds_ne (by omega), Array.getElem?_setIfInBounds_ne (by omega)]; exact h0
    · rw [Array.getElem?_setIfInBounds_ne (by omega), Array.getElem?_setIfInBounds_ne (by omega), Array.getElem?_setIfInBounds_ne (by omega)]; exact h1
    · rw [Array.getElem?_setIfInBounds_ne (by omega), Array.getElem?_setIfInBounds_ne (by omega), Array.getElem?_setIfInBounds_ne (by omega)]; exact h2
theorem Ch.done {w : World} {d : Nat} {l : List Ty} {wr : World} (h : Ch w d l l.length wr) (hl : l.length ≤ 1000) : LsQ wr d l (some ⟨w.heap.size, 0, none⟩) l.length := by
  obtain ⟨hb, A, hA, hs, hr⟩ := h
  have hlt := lt_of_get hA
  refine ⟨Nat.le_refl _, zi, zi, by dsimp only; omega, .inr ⟨w.heap.size, 0, rfl, hlt, fun j hj => ?_⟩⟩
  obtain ⟨a, c, h0, h1, h2, h3⟩ := hr j hj hj
  refine ⟨a, c, ?_, ?_, ?_, h3.below hb⟩
  · rw [cell_of_row _ _ _ _ _ _ hA, Nat.zero_add]; exact h0
  · rw [cell_of_row _ _ _ _ _ _ hA, Nat.zero_add]; exact h1
  · rw [cell_of_row _ _ _ _ _ _ hA, Nat.zero_add]; exact h2
set_option maxRecDepth 100000 in
set_option maxHeartbeats 2000000 in
theorem chosen_any {d : Nat} (ws : List (List Ty)) (ka : Option Addr) (kc : Nat) (cs : List Nat) (cb : Nat) (w : World) (hn : ws.length ≤ 6) (h : WsAt w d ws ka) (hf : Fits ws cs) (hc : w.heap[cb]? = some (.cells (nums cs) 3 (0, 0))) :
    Calls Try.prog 59 #[.slice ka ws.length kc, .slice (some ⟨cb, 0, none⟩) ws.length ws.length] w fun e w' => e = .returned (.slice (some ⟨w.heap.size, 0, none⟩) ws.length ws.length) ∧ LsQ w' d (pk ws cs) (some ⟨w.heap.size, 0, none⟩) ws.length ∧ Below w.heap.size w w' := by
  have HK : Hid (WsAt w d ws ka) := h
  obtain ⟨hpl, hpk⟩ := pk_at ws cs hf
  obtain ⟨l, hl⟩ : ∃ l, pk ws cs = l := ⟨_, rfl⟩
  simp only [hl] at hpl hpk ⊢
  have HP : Hid (∀ j (h : j < ws.length), ∃ (h1 : j < cs.length) (h2 : cs[j] < (ws[j]).length) (h3 : j < l.length), l[j] = ws[j][cs[j]]) := hpk
  have hcb := lt_of_get hc
  have hmk := run_mkp ws.length hn
  have HCC : Hid (w.heap[cb]? = some (.cells (nums cs) 3 (0, 0))) := hc
  have HPL : Hid (l.length = ws.length) := hpl
  clear h hpk hl hf hc hpl
  go_enter Try.func59, Try.ntmps59
  go_wp2
  obtain ⟨W, hW⟩ : ∃ W, w.alloc (.cells (madeCells #[.int .i64 0, .int .i64 0, .slice none 0 0] (ws.length * 3)) 24) = W := ⟨_, rfl⟩
  have hCh : Ch w d l 0 W := by
    rw [← hW]
    exact ⟨(Below.refl _ w).alloc (Nat.le_refl _) _, _, heap_alloc_new _ _, by rw [size_madeCells, HPL.out], fun _ _ h => by omega⟩
  rw [hW]
  clear hW hmk
  go_loopw [13] (fun iv wr => ∃ k : Nat, iv = .int .i64 (k : Int) ∧ k ≤ ws.length ∧ Ch w d l k wr) (fun iv _ => ws.length - (intOf iv).toNat)
  case atStart => exact ⟨0, rfl, by omega, hCh⟩
  case round =>
    obtain ⟨k, rfl, hkl', hC⟩ := hrel
    by_cases hkl : k < ws.length
    · have hkl2 : (k : Int) < (ws.length : Int) := by omega
      obtain ⟨hB, A, hA, hAs, hAr⟩ := hC
      have HCH : Hid (Ch w d l k wr) := ⟨hB, A, hA, hAs, hAr⟩
      obtain ⟨kg, ko, rfl, hkg, hkk⟩ : ∃ B off, ka = some ⟨B, off, none⟩ ∧ B < w.heap.size ∧ ∀ i (h : i < ws.length), ∃ a' c', w.cell? ⟨B, off + i, none⟩ = some (.slice a' ws[i].length c') ∧ LsQ w d ws[i] a' c' := by
        rcases HK.out with h | h
        · omega
        · exact h
      obtain ⟨a1, c1, q0, hq⟩ := hkk k hkl
      have q0 := (hB.cell (p := ⟨kg, _, none⟩) hkg).trans q0
      obtain ⟨k1, k2, k3, k4⟩ := HP.out k hkl
      have hcell : wr.cell? ⟨cb, 0 + k, none⟩ = some (.int .i64 (cs[k] : Int)) := by
        rw [hB.cell (p := ⟨cb, _, none⟩) hcb, cell_of_row _ _ _ _ _ _ HCC.out, Nat.zero_add]
        exact nums_at cs k k1
      obtain ⟨tg, tof, a2, c2, ha, htg, y0, y1, y2, hty⟩ := hq.kid (j := cs[k]) k2
      dsimp only at y0 y1 y2 hty
      rw [← k4] at y0 y1 y2 hty
      subst ha
      have y0 := (hB.cell (p := ⟨tg, _, none⟩) htg).trans y0
      have y1 := (hB.cell (p := ⟨tg, _, none⟩) htg).trans y1
      have y2 := (hB.cell (p := ⟨tg, _, none⟩) htg).trans y2
      have HTY : Hid (TyQ w d l[k] a2 c2) := hty
      obtain ⟨cn, hcn⟩ : ∃ n, cs[k] = n := ⟨_, rfl⟩
      rw [hcn] at hcell y0 y1 y2 k2
      have k2' : (cn : Int) < ((ws[k]).length : Int) := by omega
      have z0 := frozen_of_row _ _ (0 + k * 3) _ 24 hA
      have z1 := frozen_of_row _ _ (0 + k * 3 + 1) _ 24 hA
      have z2 := frozen_of_row _ _ (0 + k * 3 + 2) _ 24 hA
      have hAl := HPL.out
      obtain ⟨u0, hu0⟩ : ∃ u, wr.cell? ⟨w.heap.size, 0 + k * 3, none⟩ = some u := by
        rw [cell_of_row _ _ _ _ _ _ hA]; exact ⟨_, Array.getElem?_eq_getElem (by omega)⟩
      obtain ⟨u1, hu1⟩ : ∃ u, wr.cell? ⟨w.heap.size, 0 + k * 3 + 1, none⟩ = some u := by
        rw [cell_of_row _ _ _ _ _ _ hA]; exact ⟨_, Array.getElem?_eq_getElem (by omega)⟩
      obtain ⟨u2, hu2⟩ : ∃ u, wr.cell? ⟨w.heap.size, 0 + k * 3 + 2, none⟩ = some u := by
        rw [cell_of_row _ _ _ _ _ _ hA]; exact ⟨_, Array.getElem?_eq_getElem (by omega)⟩
      simp only [Nat.zero_add] at z0 z1 z2 hu0 hu1 hu2 hcell
      clear hkk hq hty hA hAs hAr k4 hcn
      go_wp2
      go_roundw
      case rel => exact ⟨k + 1, by go_num, by omega, HCH.out.push k3 HTY.out⟩
      case measure => simp [intOf]; omega
    · have hkl2 : ¬ (k : Int) < (ws.length : Int) := by omega
      obtain rfl : k = ws.length := by omega
      have hD : LsQ wr d l (some ⟨w.heap.size, 0, none⟩) ws.length := by
        have := HPL.out
        rw [← this] at hC
        rw [← this]
        exact hC.done (by omega)
      have HD : Hid (LsQ wr d l (some ⟨w.heap.size, 0, none⟩) ws.length) := hD
      have hB := hC.bel
      clear hD hC
      go_wp2
      go_ret
      exact ⟨rfl, HD.out, hB⟩
end Go.Proofs.Ytbmgkgoghgdbhaa.Te
