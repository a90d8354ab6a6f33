/- ring (32): a word from which one comes back to it, or none. Condition: each word hangs on a word or on 0; at most 1200000 words. -/
import Derived.Test.YtpolnkdbebjpnaaMb
import Derived.Deep.LoopGhost
import Derived.WalkMore
namespace Go.Proofs.Ytpolnkdbebjpnaa.Hd
open Go.RowKit

/-- what ring tells -/
def RingP (n : Nat) (u : Nat → Nat) (r : Nat) : Prop := (r = 0 ∧ ∀ x, 1 ≤ x → x ≤ n → Rch u x) ∨ (1 ≤ r ∧ r ≤ n ∧ ∃ k, 0 < k ∧ it u k r = r)
/-- behind some rounds -/
structure Rout (n : Nat) (u : Nat → Nat) (ml : List Nat) (i : Nat) : Prop where
  len : ml.length = n + 1
  le : ∀ x, x ≤ n → ml.getD x 0 ≤ i
  met : ∀ x, x ≤ n → ml.getD x 0 ≠ 0 → Rch u x
  all : ∀ x, 1 ≤ x → x ≤ i → Rch u x
/-- within a round -/
structure Rin (n : Nat) (u : Nat → Nat) (ml : List Nat) (i k at_ : Nat) : Prop where
  len : ml.length = n + 1
  le : ∀ x, x ≤ n → ml.getD x 0 ≤ i + 1
  met : ∀ x, x ≤ n → ml.getD x 0 ≠ 0 → ml.getD x 0 ≠ i + 1 → Rch u x
  all : ∀ x, 1 ≤ x → x ≤ i → Rch u x
  here : ∀ x, x ≤ n → ml.getD x 0 = i + 1 → ∃ j, j < k ∧ it u j (i + 1) = x
  at_k : it u k (i + 1) = at_
  at_n : at_ ≤ n
theorem Rout.enter {n : Nat} {u : Nat → Nat} {ml : List Nat} {i : Nat} (h : Rout n u ml i) (hi : i < n) : Rin n u ml i 0 (i + 1) :=
  ⟨h.len, fun x hx => by have := h.le x hx; omega, fun x hx h1 _ => h.met x hx h1, h.all, fun x hx e => by have := h.le x hx; omega, rfl, by omega⟩
theorem Rch.of_it {u : Nat → Nat} {k w : Nat} (h : Rch u (it u k w)) : Rch u w := by
  obtain ⟨j, hj⟩ := h
  exact ⟨k + j, by rw [it_add]; exact hj⟩
theorem Rch.it_of {u : Nat → Nat} (h0 : u 0 = 0) {w : Nat} (h : Rch u w) : ∀ k, Rch u (it u k w)
  | 0 => h
  | k + 1 => Rch.it_of h0 (h.down h0) k
/-- out of a round, where one comes to 0 from there -/
theorem Rin.leave {n : Nat} {u : Nat → Nat} {ml : List Nat} {i k at_ : Nat} (h0 : u 0 = 0) (h : Rin n u ml i k at_) (hr : Rch u at_) : Rout n u ml (i + 1) := by
  have hf : Rch u (i + 1) := Rch.of_it (k := k) (by rw [h.at_k]; exact hr)
  refine ⟨h.len, h.le, fun x hx h1 => ?_, fun x h1 h2 => ?_⟩
  · by_cases e : ml.getD x 0 = i + 1
    · obtain ⟨j, _, rfl⟩ := h.here x hx e
      exact hf.it_of h0 j
    · exact h.met x hx h1 e
  · by_cases e : x ≤ i
    · exact h.all x h1 e
    · obtain rfl : x = i + 1 := by omega
      exact hf
theorem set_getD {l : List Nat} {i x j : Nat} (h : i < l.length) : (l.set i x).getD j 0 = if j = i then x else l.getD j 0 := by
  rw [List.getD_eq_getElem?_getD, List.getD_eq_getElem?_getD, List.getElem?_set]
  by_cases e : i = j
  · subst e; rw [if_pos rfl, if_pos h, if_pos rfl]; rfl
  · rw [if_neg e, if_neg (fun e2 => e e2.symm)]
theorem Rin.mark {n : Nat} {u : Nat → Nat} {ml : List Nat} {i k at_ : Nat} (h : Rin n u ml i k at_) (hu : ∀ x, 1 ≤ x → x ≤ n → u x ≤ n) (h1 : 1 ≤ at_) : Rin n u (ml.set at_ (i + 1)) i (k + 1) (u at_) := by
  have hl : at_ < ml.length := by rw [h.len]; have := h.at_n; omega
  refine ⟨by rw [List.length_set]; exact h.len, fun x hx => ?_, fun x hx h2 h3 => ?_, h.all, fun x hx e => ?_, by rw [it_succ, h.at_k], hu _ h1 h.at_n⟩
  · rw [set_getD hl]
    split
    · exact Nat.le_refl _
    · exact h.le x hx
  · rw [set_getD hl] at h2 h3
    by_cases e : x = at_
    · rw [if_pos e] at h3; exact absurd rfl h3
    · rw [if_neg e] at h2 h3; exact h.met x hx h2 h3
  · rw [set_getD hl] at e
    by_cases e2 : x = at_
    · exact ⟨k, Nat.lt_succ_self k, by rw [h.at_k, e2]⟩
    · rw [if_neg e2] at e
      obtain ⟨j, hj, hx2⟩ := h.here x hx e
      exact ⟨j, by omega, hx2⟩
theorem count_set : ∀ (l : List Nat) (i x : Nat), i < l.length → l.getD i 0 = 0 → x ≠ 0 → (l.set i x).count 0 < l.count 0
  | [], i, x, h, _, _ => by cases h
  | y :: l, 0, x, _, h2, h3 => by
    have h2 : y = 0 := h2
    subst h2
    show (x :: l).count 0 < (0 :: l).count 0
    rw [List.count_cons, List.count_cons, if_neg (by simpa using h3), if_pos (by simp)]
    omega
  | y :: l, i + 1, x, h, h2, h3 => by
    have h4 := count_set l i x (by simpa using h) h2 h3
    show (y :: l.set i x).count 0 < (y :: l).count 0
    rw [List.count_cons, List.count_cons]
    omega
/-- the slice of marks -/
structure Ml (w wr : World) (g m : Nat) (ml : List Nat) : Prop where
  row : wr.ownsRow w.heap.size 3 1 (.slice (some ⟨g, 0, none⟩) m m) m (ns ml)
  len : ml.length = m
  below : Below w.heap.size w wr
theorem Ml.set {w wr : World} {g m : Nat} {ml : List Nat} (h : Ml w wr g m ml) (i x : Nat) : Ml w (wr.setCell ⟨g, i, none⟩ (.int .i64 (x : Int))) g m (ml.set i x) :=
  ⟨(Ul.set ⟨h.row, h.len, h.below⟩ i x).row, (Ul.set ⟨h.row, h.len, h.below⟩ i x).len, (Ul.set ⟨h.row, h.len, h.below⟩ i x).below⟩
theorem Ml.cell {w wr : World} {g m : Nat} {ml : List Nat} (h : Ml w wr g m ml) {i : Nat} (hi : i < m) : wr.cell? ⟨g, i, none⟩ = some (.int .i64 (ml.getD i 0 : Int)) :=
  (h.row.cellAt i (by omega)).trans (ns_at (by rw [List.getD_eq_getElem?_getD, List.getElem?_eq_getElem (by rw [h.len]; exact hi)]; rfl))
set_option maxHeartbeats 4000000 in
set_option maxRecDepth 100000 in
theorem ring_any (n : Nat) (ul : List Nat) (v : Value) (w : World) (hR : Row w v 1 n (ns ul)) (hl : ul.length = n) (hu : ∀ x, 1 ≤ x → x ≤ n → uv ul x ≤ n) (hn : n ≤ 1200000) :
    Calls Try.prog 32 #[v] w fun e w' => ∃ r : Nat, e = .returned (.int .i64 (r : Int)) ∧ Below w.heap.size w w' ∧ RingP n (uv ul) r := by
  obtain ⟨hx1, a, cap, rfl, hx2, hc⟩ := hR
  clear hx1 hx2
  obtain ⟨m, hm⟩ : ∃ m, n + 1 = m := ⟨_, rfl⟩
  have hmk := run_mk26n m (by omega)
  have HM : Hid (n + 1 = m ∧ n ≤ 1200000) := ⟨hm, hn⟩
  have HU : Hid (uv ul 0 = 0 ∧ (∀ x, 1 ≤ x → x ≤ n → uv ul x ≤ n) ∧ ul.length = n) := ⟨rfl, hu, hl⟩
  have HC : Hid (n = 0 ∨ ∃ b off, a = some ⟨b, off, none⟩ ∧ ∀ W, Below w.heap.size w W → ∀ j, j < n → W.cell? ⟨b, off + j, none⟩ = some (.int .i64 (uv ul (j + 1) : Int))) := by
    rcases hc with h | ⟨b, off, e, hb, h⟩
    · exact .inl h
    · exact .inr ⟨b, off, e, fun W hW j hj => (hW.cell (p := ⟨b, off + j, none⟩) hb).trans (h j _ (ns_uv (by rw [hl]; exact hj)))⟩
  have HL0 : Hid (Ml w (w.alloc (.cells (madeCells #[.int .i64 0] m) 3)) w.heap.size m (List.replicate m 0) ∧ Rout n (uv ul) (List.replicate m 0) 0) := by
    refine ⟨⟨own_mk26n _ _ _ (Nat.le_refl _) (by omega), List.length_replicate, below_al _ _⟩, by rw [List.length_replicate]; exact hm.symm, ?_, ?_, fun x h1 h2 => by omega⟩
    · intro x _
      rw [List.getD_eq_getElem?_getD, List.getElem?_replicate]
      split <;> exact Nat.le_refl _
    · intro x _ h
      rw [List.getD_eq_getElem?_getD, List.getElem?_replicate] at h
      split at h <;> exact absurd rfl h
  have hw1 : wrap64 ((n : Int) + 1) = (m : Int) := by unfold wrap64; omega
  clear hc hl hu hm hn
  go_enter Try.func32, Try.ntmps32
  go_wp2
  go_step3
  go_wp2
  go_step3
  clear hmk hw1
  obtain ⟨g, hg⟩ : ∃ g, w.heap.size = g := ⟨_, rfl⟩
  have HL1 : Hid (Ml w (w.alloc (.cells (madeCells #[.int .i64 0] m) 3)) g m (List.replicate m 0) ∧ Rout n (uv ul) (List.replicate m 0) 0) := by have h := HL0.out; rw [hg] at h; exact h
  try rw [hg]
  clear HL0 hg
  generalize w.alloc (.cells (madeCells #[.int .i64 0] m) 3) = W0 at *
  go_upto_region 3 with fail
  go_loopw [13] (fun a wr => ∃ (i : Nat) (ml : List Nat), a = .int .i64 (i : Int) ∧ i ≤ n ∧ Ml w wr g m ml ∧ Rout n (uv ul) ml i) (fun a _ => n - (intOf a).toNat)
  case atStart => exact ⟨0, _, rfl, Nat.zero_le _, HL1.out.1, HL1.out.2⟩
  case round =>
    clear HL1
    obtain ⟨i, ml, rfl, hi, hml, hro⟩ := hrel
    by_cases hlt : i < n
    · obtain ⟨b, off, rfl, hcc⟩ := HC.out.resolve_left (by omega)
      have HCC : Hid (∀ W, Below w.heap.size w W → ∀ j, j < n → W.cell? ⟨b, off + j, none⟩ = some (.int .i64 (uv ul (j + 1) : Int))) := hcc
      have HI : Hid (Ml w wr g m ml ∧ Rin n (uv ul) ml i 0 (i + 1)) := ⟨hml, hro.enter hlt⟩
      have hii : (i : Int) < (n : Int) := by omega
      have HNB : Hid (n ≤ 1200000) := HM.out.2
      obtain ⟨fr, hfr⟩ : ∃ f, i + 1 = f := ⟨_, rfl⟩
      have HFR : Hid (i + 1 = fr) := hfr
      have hw2 : wrap64 ((i : Int) + 1) = (fr : Int) := by unfold wrap64; have := HNB.out; omega
      rw [hfr] at HI
      clear hml hro hcc HC hfr
      go_upto_region 7 with fail
      go_loopg [6] (ml.count 0) (fun gk a wr => ∃ (ml : List Nat) (k x : Nat), a = .int .i64 (x : Int) ∧ Ml w wr g m ml ∧ Rin n (uv ul) ml i k x ∧ gk = ml.count 0)
      case atStart => exact ⟨ml, 0, fr, by rw [hw2], HI.out.1, HI.out.2, rfl⟩
      case round =>
        clear HI
        obtain ⟨ml, k, x, rfl, hml, hri, hgk⟩ := hrel
        have HI : Hid (Ml w wr g m ml ∧ Rin n (uv ul) ml i k x ∧ gk = ml.count 0) := ⟨hml, hri, hgk⟩
        have hxn : x ≤ n := hri.at_n
        clear hml hri hgk
        by_cases hx0 : x = 0
        · subst hx0
          have HO : Hid (Rout n (uv ul) ml (i + 1)) := HI.out.2.1.leave HU.out.1 (Rch.zero _)
          have hNB := HNB.out
          go_wp2
          go_roundw
          case rel => exact ⟨fr, ml, by rw [show ((fr : Nat) : Int) = (i : Int) + 1 by have := HFR.out; omega], by have := HFR.out; omega, HI.out.1, by rw [← HFR.out]; exact HO.out⟩
          case measure => have := HFR.out; simp [intOf]; omega
        · have hxm : (x : Int) < (m : Int) := by have := HM.out.1; omega
          have hx1 : (0 : Int) < (x : Int) := by omega
          have hxne : ¬ (x : Int) = 0 := by omega
          obtain ⟨z, hz⟩ : ∃ z, ml.getD x 0 = z := ⟨_, rfl⟩
          have HZ : Hid (ml.getD x 0 = z) := hz
          have c0 := HI.out.1.cell (i := x) (by have := HM.out.1; omega)
          rw [hz] at c0
          clear hz
          by_cases hz0 : z = 0
          · subst hz0
            have y0 := HI.out.1.row.frozenAt x
            have hx2 : (x : Int) - 1 < (n : Int) := by omega
            have hNB := HNB.out
            obtain ⟨y, hy⟩ : ∃ y, x = y + 1 := ⟨x - 1, by omega⟩
            have hw3 : wrap64 ((x : Int) - 1) = (y : Int) := by unfold wrap64; omega
            have hyn : (y : Int) < (n : Int) := by omega
            have HS : Hid (Ml w (wr.setCell ⟨g, x, none⟩ (.int .i64 (fr : Int))) g m (ml.set x fr) ∧ Rin n (uv ul) (ml.set x fr) i (k + 1) (uv ul x) ∧ (ml.set x fr).count 0 < ml.count 0) := ⟨HI.out.1.set x fr, by rw [← HFR.out]; exact HI.out.2.1.mark HU.out.2.1 (by omega), count_set ml x fr (by rw [HI.out.2.1.len]; omega) HZ.out (by have := HFR.out; omega)⟩
            have c1 : (wr.setCell ⟨g, x, none⟩ (.int .i64 (fr : Int))).cell? ⟨b, off + y, none⟩ = some (.int .i64 (uv ul x : Int)) := by have h := HCC.out _ HS.out.1.below y (by omega); rw [← hy] at h; exact h
            obtain ⟨x', hx'⟩ : ∃ x', uv ul x = x' := ⟨_, rfl⟩
            rw [hx'] at c1 HS
            clear hx' hy hNB hx2
            go_wp2
            go_roundg ((ml.set x fr).count 0)
            case measure => rw [HI.out.2.2]; exact HS.out.2.2
            case rel => exact ⟨_, k + 1, x', rfl, HS.out.1, HS.out.2.1, rfl⟩
          · have q0 : ((z : Int) == 0) = false := by simp; omega
            have q0' : ¬ (z : Int) = 0 := by omega
            by_cases hzf : z = fr
            · subst hzf
              have HE : Hid (RingP n (uv ul) x) := by
                obtain ⟨j, hj, e⟩ := HI.out.2.1.here x hxn (by rw [HZ.out, HFR.out])
                refine .inr ⟨by omega, hxn, k - j, by omega, ?_⟩
                have h := HI.out.2.1.at_k
                rw [show k = j + (k - j) by omega, it_add, e] at h
                exact h
              go_wp2
              rw [Exit.noGoto_ret]
              go_ret
              exact ⟨x, rfl, HI.out.1.below, HE.out⟩
            · have q1 : ((z : Int) == (fr : Int)) = false := by simp; omega
              have q1' : ¬ (z : Int) = (fr : Int) := by omega
              have HO : Hid (Rout n (uv ul) ml (i + 1)) := HI.out.2.1.leave HU.out.1 (HI.out.2.1.met x hxn (by rw [HZ.out]; exact hz0) (by rw [HZ.out, HFR.out]; exact hzf))
              have hNB := HNB.out
              go_wp2
              go_roundw
              case rel => exact ⟨fr, ml, by rw [show ((fr : Nat) : Int) = (i : Int) + 1 by have := HFR.out; omega], by have := HFR.out; omega, HI.out.1, by rw [← HFR.out]; exact HO.out⟩
              case measure => have := HFR.out; simp [intOf]; omega
    · obtain rfl : i = n := by omega
      have HI : Hid (Ml w wr g m ml ∧ Rout i (uv ul) ml i) := ⟨hml, hro⟩
      clear hml hro
      go_wp2
      rw [Exit.noGoto_ret]
      go_ret
      exact ⟨0, rfl, HI.out.1.below, .inl ⟨rfl, fun x h1 h2 => HI.out.2.all x h1 h2⟩⟩
end Go.Proofs.Ytpolnkdbebjpnaa.Hd
