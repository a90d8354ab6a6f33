/- Clone (42, 43), fewOnRoot (25), One's closure (24): the best tree when hanging on 0 costs. Conditions: at most 12 words, scores of no great size. -/
import Derived.Test.YtpolnkdbebjpnaaNf
import Derived.Test.YtpolnkdbebjpnaaMj
import Derived.Test.YtpolnkdbebjpnaaPc
namespace Go.Proofs.Ytpolnkdbebjpnaa.Hd
open Go.RowKit

theorem nil26 (w : World) (a : Option Addr) (n c : Nat) : (binOp .eql 26 (.slice a n c) (.slice none 0 0)).run Try.prog w = .ok (.bool a.isNone) w := by
  simp only [binOp]
  simp [Op.equal, Op.maxDepth, Lib.run_equalIn_slice_nil w 9999 26 3 a n c 0 0 Try.underlying26]
theorem nil22 (w : World) (a : Option Addr) (n c : Nat) : (binOp .eql 22 (.slice a n c) (.slice none 0 0)).run Try.prog w = .ok (.bool a.isNone) w := by
  simp only [binOp]
  simp [Op.equal, Op.maxDepth, Lib.run_equalIn_slice_nil w 9999 22 26 a n c 0 0 Try.underlying22]
theorem grown_below {w w1 : World} {e : TypeId} (hg : (w.alloc (.cells #[] e)).grownBy w1 (some w.heap.size)) : Below w.heap.size w w1 :=
  ⟨hg.os, hg.tape, hg.output, Nat.le_trans (by simp) hg.size, fun k hk => (hg.block k (by simp; omega) (fun e => by injection e with e; omega)).trans (heap_alloc_old _ _ hk)⟩
set_option maxHeartbeats 1000000 in
set_option maxRecDepth 100000 in
theorem clone26 (a : Option Addr) (n cap : Nat) (xs : List Value) (w : World) (hl : xs.length = n) (hn : n ≤ 100000) (h1 : ∀ u ∈ xs, u.oneCell' = true) (ha : a = none → n = 0) (hc : ∀ ad, a = some ad → ∀ j u, xs[j]? = some u → w.cell? (ad.add j) = some u) :
    Calls Try.prog 43 #[.slice a n cap] w fun e w' => ∃ v', e = .returned v' ∧ w'.ownsRow w.heap.size 3 1 v' n xs ∧ Below w.heap.size w w' := by
  obtain ⟨i0, hi, hz0, hz1, hz2⟩ := info_parts inf3
  have hnil := nil26
  cases a with
  | none =>
    obtain rfl := ha rfl
    have hx : xs = [] := List.eq_nil_of_length_eq_zero hl
    subst hx
    clear hc ha h1 hl hi hz0 hz1 hz2
    go_enter Try.func43, Try.ntmps43
    go_wp2
    go_ret
    exact ⟨_, rfl, World.ownsRow_nil _ _ _ _, Below.refl _ _⟩
  | some ad =>
    have h0 : (w.alloc (.cells #[] 3)).ownsRow w.heap.size 3 1 (.slice (some ⟨w.heap.size, 0, none⟩) 0 0) 0 [] := World.ownsRow_lit w #[] 0 (Nat.le_refl _) (Nat.zero_le _) rfl
    have hnn : ∀ j u, xs[j]? = some u → (w.alloc (.cells #[] 3)).cell? (ad.add j) = some u := fun j u hu => by
      have hcc := hc ad rfl j u hu
      exact ((below_al w (.cells #[] 3)).cell (World.block_lt_of_cell? _ _ hcc)).trans hcc
    have HH : Hid ((w.alloc (.cells #[] 3)).ownsRow w.heap.size 3 1 (.slice (some ⟨w.heap.size, 0, none⟩) 0 0) 0 []) := h0
    have HN : Hid _ := hnn
    have HL : Hid (xs.length = n ∧ ∀ u ∈ xs, u.oneCell' = true) := ⟨hl, h1⟩
    clear h0 hnn hc ha h1 hl
    go_enter Try.func43, Try.ntmps43
    go_wp2_with (refine wpList_append_own_at _ rfl _ _ 26 rfl w.heap.size 3 i0 (.int .i64 0) 1 8 Try.underlying26 hi hz0 hz1 hz2 rfl (by decide) _ _ _ rfl HH.out ad n cap xs rfl (by rw [HL.out.1, Nat.mul_one]) HN.out HL.out.2 (by unfold maxLen; omega) (by omega) (by simp) ?_; intro v1 w1 ho1 hg1 _ _)
    go_ret
    refine ⟨_, rfl, ?_, grown_below hg1⟩
    rw [Nat.zero_add] at ho1
    exact ho1
set_option maxHeartbeats 1000000 in
set_option maxRecDepth 100000 in
theorem clone22 (a : Option Addr) (n cap : Nat) (xs : List Value) (w : World) (hl : xs.length = n) (hn : n ≤ 100000) (h1 : ∀ u ∈ xs, u.oneCell' = true) (ha : a = none → n = 0) (hc : ∀ ad, a = some ad → ∀ j u, xs[j]? = some u → w.cell? (ad.add j) = some u) :
    Calls Try.prog 42 #[.slice a n cap] w fun e w' => ∃ v', e = .returned v' ∧ w'.ownsRow w.heap.size 26 1 v' n xs ∧ Below w.heap.size w w' := by
  obtain ⟨i0, hi, hz0, hz1, hz2⟩ := info_parts inf26
  have hnil := nil22
  cases a with
  | none =>
    obtain rfl := ha rfl
    have hx : xs = [] := List.eq_nil_of_length_eq_zero hl
    subst hx
    clear hc ha h1 hl hi hz0 hz1 hz2
    go_enter Try.func42, Try.ntmps42
    go_wp2
    go_ret
    exact ⟨_, rfl, World.ownsRow_nil _ _ _ _, Below.refl _ _⟩
  | some ad =>
    have h0 : (w.alloc (.cells #[] 26)).ownsRow w.heap.size 26 1 (.slice (some ⟨w.heap.size, 0, none⟩) 0 0) 0 [] := World.ownsRow_lit w #[] 0 (Nat.le_refl _) (Nat.zero_le _) rfl
    have hnn : ∀ j u, xs[j]? = some u → (w.alloc (.cells #[] 26)).cell? (ad.add j) = some u := fun j u hu => by
      have hcc := hc ad rfl j u hu
      exact ((below_al w (.cells #[] 26)).cell (World.block_lt_of_cell? _ _ hcc)).trans hcc
    have HH : Hid ((w.alloc (.cells #[] 26)).ownsRow w.heap.size 26 1 (.slice (some ⟨w.heap.size, 0, none⟩) 0 0) 0 []) := h0
    have HN : Hid _ := hnn
    have HL : Hid (xs.length = n ∧ ∀ u ∈ xs, u.oneCell' = true) := ⟨hl, h1⟩
    clear h0 hnn hc ha h1 hl
    go_enter Try.func42, Try.ntmps42
    go_wp2_with (refine wpList_append_own_at _ rfl _ _ 22 rfl w.heap.size 26 i0 (.slice none 0 0) 1 24 Try.underlying22 hi hz0 hz1 hz2 rfl (by decide) _ _ _ rfl HH.out ad n cap xs rfl (by rw [HL.out.1, Nat.mul_one]) HN.out HL.out.2 (by unfold maxLen; omega) (by omega) (by simp) ?_; intro v1 w1 ho1 hg1 _ _)
    go_ret
    refine ⟨_, rfl, ?_, grown_below hg1⟩
    rw [Nat.zero_add] at ho1
    exact ho1
/-- the scores as they lie, as rows -/
def rws (n : Nat) (ra : Nat → Option Addr) (rc : Nat → Nat) : List Value := (List.range (n + 1)).map fun h => .slice (ra h) n (rc h)
theorem rws_at {n : Nat} {ra : Nat → Option Addr} {rc : Nat → Nat} {h : Nat} (hh : h ≤ n) : (rws n ra rc)[h]? = some (.slice (ra h) n (rc h)) := by
  unfold rws
  rw [List.getElem?_map, List.getElem?_range (by omega)]
  rfl
/-- the numbers of row 0, the first i of them made less -/
def lw (L : Int) (s : Nat → Nat → Int) (n i : Nat) : List Int := (List.range n).map fun j => if j < i then s 0 (j + 1) - L else s 0 (j + 1)
theorem lw_len (L : Int) (s : Nat → Nat → Int) (n i : Nat) : (lw L s n i).length = n := by simp [lw]
theorem lw_at {L : Int} {s : Nat → Nat → Int} {n i j : Nat} (hj : j < n) : (ints (lw L s n i))[j]? = some (.int .i64 (if j < i then s 0 (j + 1) - L else s 0 (j + 1))) := by
  unfold ints lw
  rw [List.getElem?_map, List.getElem?_map, List.getElem?_range hj]
  rfl
theorem lw_set {L : Int} {s : Nat → Nat → Int} {n i : Nat} (hi : i < n) : (ints (lw L s n i)).set i (.int .i64 (s 0 (i + 1) - L)) = ints (lw L s n (i + 1)) := by
  refine List.ext_getElem? fun j => ?_
  rw [List.getElem?_set]
  rcases Nat.lt_or_ge j n with hj | hj
  · by_cases e : i = j
    · subst e
      rw [if_pos rfl, if_pos (by rw [ints_len, lw_len]; exact hj), lw_at hj, if_pos (by omega)]
    · rw [if_neg e, lw_at hj, lw_at hj]
      by_cases e2 : j < i
      · rw [if_pos e2, if_pos (by omega)]
      · rw [if_neg e2, if_neg (by omega)]
  · rw [if_neg (by omega), List.getElem?_eq_none (by rw [ints_len, lw_len]; exact hj), List.getElem?_eq_none (by rw [ints_len, lw_len]; exact hj)]
/-- the copy that is turned -/
structure Fe (w W : World) (g c n : Nat) (ra : Nat → Option Addr) (rc : Nat → Nat) (v0 : Value) (xs : List Value) : Prop where
  row : W.ownsRow w.heap.size 26 1 (.slice (some ⟨g, 0, none⟩) (n + 1) c) (n + 1) ((rws n ra rc).set 0 v0)
  r0 : W.ownsRow w.heap.size 3 1 v0 n xs
  below : Below w.heap.size w W
theorem Fe.at0 {w W : World} {g c n : Nat} {ra : Nat → Option Addr} {rc : Nat → Nat} {v0 : Value} {xs : List Value} (h : Fe w W g c n ra rc v0 xs) : W.cell? ⟨g, 0, none⟩ = some v0 := by
  rw [h.row.cellAt 0 (by omega), List.getElem?_set_self (by simp [rws])]
theorem Fe.set {w W : World} {g c n g0 c0 : Nat} {ra : Nat → Option Addr} {rc : Nat → Nat} {xs : List Value} (h : Fe w W g c n ra rc (.slice (some ⟨g0, 0, none⟩) n c0) xs) (i : Nat) (x : Int) : Fe w (W.setCell ⟨g0, i, none⟩ (.int .i64 x)) g c n ra rc (.slice (some ⟨g0, 0, none⟩) n c0) (xs.set i (.int .i64 x)) := by
  have hk : Kp (fun b => b = g0) W (W.setCell ⟨g0, i, none⟩ (.int .i64 x)) := (Kp.refl _ W).setCell _ _ _ (fun _ => rfl)
  refine ⟨own_kp2 h.row hk (fun b hb e => ?_), (h.r0.stored i (.int .i64 x)).1, below_kp h.below hk (fun b _ e => by have e2 : b = g0 := e; have := (h.r0.lt g0 rfl).1; omega)⟩
  have e2 : b = g0 := e
  subst e2
  obtain ⟨d, hd⟩ := own_ty h.row hb
  obtain ⟨d', hd'⟩ := own_ty h.r0 (k := b) rfl
  exact ty_ne hd hd' (by decide)
/-- the turned scores, as they lie -/
theorem Fe.sc {w W : World} {g c n : Nat} {ra : Nat → Option Addr} {rc : Nat → Nat} {v0 : Value} {L : Int} {s : Nat → Nat → Int} {b off : Nat} (h : Fe w W g c n ra rc v0 (ints (lw L s n n))) (hS : Sc w b off n ra rc s) : Sc W g 0 n (fun k => if k = 0 then sad v0 else ra k) (fun k => if k = 0 then scp v0 else rc k) (fw L s) := by
  obtain ⟨a0, c0, rfl⟩ := oslice h.r0
  refine ⟨(h.row.lt g rfl).2, fun k hk => ?_, fun k hk h0 => ?_⟩
  · rw [Nat.zero_add, h.row.cellAt k (by omega)]
    by_cases e : k = 0
    · subst e
      rw [List.getElem?_set_self (by simp [rws])]
      rfl
    · rw [List.getElem?_set_ne (fun e2 => e e2.symm), rws_at hk, if_neg e, if_neg e]
  · by_cases e : k = 0
    · subst e
      obtain ⟨g0, e1, e2, e3, e4, e5⟩ := own_full h.r0 h0
      refine ⟨g0, 0, by rw [if_pos rfl]; exact e1, e4, fun i hi => ?_⟩
      rw [Nat.zero_add, e5 i hi, lw_at hi, if_pos hi]
      rfl
    · obtain ⟨rb, ro, e1, e2, e3⟩ := hS.num k hk h0
      refine ⟨rb, ro, by rw [if_neg e]; exact e1, Nat.lt_of_lt_of_le e2 h.below.size, fun i hi => ?_⟩
      rw [(h.below.cell (p := ⟨rb, ro + i, none⟩) e2), e3 i hi]
      unfold fw
      rw [if_neg e]
theorem sl_ints (l : List Int) : ∀ u ∈ ints l, u.oneCell' = true := fun u hu => by
  obtain ⟨x, _, rfl⟩ := List.mem_map.1 hu
  rfl
theorem sl_rws (n : Nat) (ra : Nat → Option Addr) (rc : Nat → Nat) : ∀ u ∈ rws n ra rc, u.oneCell' = true := fun u hu => by
  obtain ⟨x, _, rfl⟩ := List.mem_map.1 hu
  rfl
theorem add_at (b off j : Nat) : (⟨b, off, none⟩ : Addr).add j = ⟨b, off + j, none⟩ := by unfold Addr.add; split <;> simp_all
set_option maxHeartbeats 4000000 in
set_option maxRecDepth 100000 in
theorem fewOnRoot_any (n b off cap : Nat) (ra : Nat → Option Addr) (rc : Nat → Nat) (s : Nat → Nat → Int) (w : World) (hS : Sc w b off n ra rc s) (hn : n ≤ 12) (hs : ∀ h x, h ≤ n → 1 ≤ x → x ≤ n → -1000000 ≤ s h x ∧ s h x ≤ 1000000) :
    Calls Try.prog 25 #[.slice (some ⟨b, off, none⟩) (n + 1) cap] w fun e w' => ∃ g c ra' rc', e = .returned (.slice (some ⟨g, 0, none⟩) (n + 1) c) ∧ Sc w' g 0 n ra' rc' (fw 24000001 s) ∧ Below w.heap.size w w' := by
  have K42 := clone22 (some ⟨b, off, none⟩) (n + 1) cap (rws n ra rc) w (by simp [rws]) (by omega) (sl_rws n ra rc) (fun h => by cases h) (fun ad had j u hu => by
    injection had with had
    subst had
    have hj : j ≤ n := by have := (List.getElem?_eq_some_iff.1 hu).1; simp [rws] at this; omega
    rw [rws_at hj] at hu
    injection hu with hu
    rw [add_at, ← hu]
    exact hS.row j hj)
  have HS : Hid (Sc w b off n ra rc s) := hS
  have HB : Hid (∀ x, 1 ≤ x → x ≤ n → -1000000 ≤ s 0 x ∧ s 0 x ≤ 1000000) := fun x h1 h2 => hs 0 x (Nat.zero_le _) h1 h2
  have K43 : Hid (∀ W, Below w.heap.size w W → Calls Try.prog 43 #[.slice (ra 0) n (rc 0)] W fun e w' => ∃ v', e = .returned v' ∧ w'.ownsRow W.heap.size 3 1 v' n (ints (lw 24000001 s n 0)) ∧ Below W.heap.size W w') := fun W hW => by
    refine clone26 (ra 0) n (rc 0) (ints (lw 24000001 s n 0)) W (by rw [ints_len, lw_len]) (by omega) (sl_ints _) (fun h => ?_) (fun ad had j u hu => ?_)
    · rcases Nat.eq_zero_or_pos n with e | e
      · exact e
      · obtain ⟨rb, ro, e1, _⟩ := hS.num 0 (Nat.zero_le _) e
        rw [h] at e1; cases e1
    · have hj : j < n := by have := (List.getElem?_eq_some_iff.1 hu).1; rw [ints_len, lw_len] at this; exact this
      obtain ⟨rb, ro, e1, e2, e3⟩ := hS.num 0 (Nat.zero_le _) (by omega)
      rw [had] at e1
      injection e1 with e1
      subst e1
      rw [lw_at hj, if_neg (Nat.not_lt_zero _)] at hu
      injection hu with hu
      rw [add_at, ← hu]
      exact (hW.cell (p := ⟨rb, ro + j, none⟩) e2).trans (e3 j hj)
  obtain ⟨m1, hm1⟩ : ∃ m, n + 1 = m := ⟨_, rfl⟩
  have HM : Hid (n + 1 = m1) := hm1
  rw [hm1] at K42
  rw [hm1]
  obtain ⟨a0, ha0⟩ : ∃ a, ra 0 = a := ⟨_, rfl⟩
  obtain ⟨q0, hq0⟩ : ∃ a, rc 0 = a := ⟨_, rfl⟩
  have HA : Hid (ra 0 = a0 ∧ rc 0 = q0) := ⟨ha0, hq0⟩
  rw [ha0, hq0] at K43
  have h1m : (0 : Int) < (m1 : Int) := by omega
  clear hS hs hm1 ha0 hq0
  go_enter Try.func25, Try.ntmps25
  go_upto_region 2 with (go_at_call 42; (with_reducible refine K42.mono ?_); clear K42; rintro e w1 ⟨v1, rfl, ho1, hb1⟩; obtain ⟨g, c, rfl, hg1, hg2⟩ := own_some ho1 (by have := HM.out; omega); have HO : Hid (w1.ownsRow w.heap.size 26 1 (.slice (some ⟨g, 0, none⟩) m1 c) m1 (rws n ra rc) ∧ Below w.heap.size w w1) := ⟨ho1, hb1⟩; clear ho1 hg1 hg2 hb1)
  have c0 : w1.cell? ⟨b, off, none⟩ = some (.slice a0 n q0) := by
    have h := (HS.out.below HO.out.2).row 0 (Nat.zero_le _)
    rw [HA.out.1, HA.out.2] at h
    exact h
  have K := K43.out w1 HO.out.2
  go_upto_region 3 with (go_at_call 43; (with_reducible refine K.mono ?_); clear K; rintro e w2 ⟨v0, rfl, ho2, hb2⟩; obtain ⟨za, zc, rfl⟩ := oslice ho2; have HF : Hid (w2.ownsRow w.heap.size 3 1 (.slice za n zc) n (ints (lw 24000001 s n 0)) ∧ w2.ownsRow w.heap.size 26 1 (.slice (some ⟨g, 0, none⟩) m1 c) m1 (rws n ra rc) ∧ Below w.heap.size w w2) := ⟨own_le ho2 HO.out.2.size, own_kp2 HO.out.1 (kp_below hb2 (fun _ => False)) (fun _ _ => id), HO.out.2.trans (hb2.mono HO.out.2.size)⟩; have y0 := HF.out.2.1.cellAt 0 (by have := HM.out; omega); have f0 := HF.out.2.1.frozenAt 0; rw [rws_at (Nat.zero_le _), HA.out.1, HA.out.2] at y0; clear ho2 hb2)
  clear y0 f0
  have HE0 : Hid (Fe w (w2.setCell ⟨g, 0, none⟩ (.slice za n zc)) g c n ra rc (.slice za n zc) (ints (lw 24000001 s n 0))) := by
    have hk : Kp (fun b => b = g) w2 (w2.setCell ⟨g, 0, none⟩ (.slice za n zc)) := (Kp.refl _ w2).setCell _ _ _ (fun _ => rfl)
    refine ⟨?_, own_kp2 HF.out.1 hk (fun b hb e => ?_), below_kp HF.out.2.2 hk (fun b _ e => by have e2 : b = g := e; have := (HF.out.2.1.lt g rfl).1; omega)⟩
    · have h := (HF.out.2.1.stored 0 (.slice za n zc)).1
      rw [← HM.out] at h
      exact h
    · have e2 : b = g := e
      subst e2
      obtain ⟨d, hd⟩ := own_ty HF.out.1 hb
      obtain ⟨d', hd'⟩ := own_ty HF.out.2.1 (k := b) rfl
      exact ty_ne hd hd' (by decide)
  generalize w2.setCell ⟨g, 0, none⟩ (.slice za n zc) = W3 at *
  have c0 := HE0.out.at0
  have HZA : Hid (0 < n → ∃ g0, za = some ⟨g0, 0, none⟩) := fun h => by
    obtain ⟨g0, e1, e2, _⟩ := own_full HE0.out.r0 h
    exact ⟨g0, e1⟩
  go_upto_region 4 with fail
  clear c0
  go_loopw [17] (fun a wr => ∃ i : Nat, a = .int .i64 (i : Int) ∧ i ≤ n ∧ Fe w wr g c n ra rc (.slice za n zc) (ints (lw 24000001 s n i))) (fun a _ => n - (intOf a).toNat)
  case atStart => exact ⟨0, rfl, Nat.zero_le _, HE0.out⟩
  case round =>
    clear HE0
    obtain ⟨i, rfl, hi, hf⟩ := hrel
    have HE : Hid (Fe w wr g c n ra rc (.slice za n zc) (ints (lw 24000001 s n i))) := hf
    clear hf
    by_cases hlt : i < n
    · obtain ⟨g0, hza⟩ := HZA.out (by omega)
      subst hza
      have hii : (i : Int) < (n : Int) := by omega
      have c0 := HE.out.at0
      have y0 := HE.out.r0.cellAt i (by omega)
      have f0 := HE.out.r0.frozenAt i
      rw [lw_at hlt, if_neg (Nat.lt_irrefl _)] at y0
      obtain ⟨x, hx⟩ : ∃ x, s 0 (i + 1) = x := ⟨_, rfl⟩
      have hxb := HB.out (i + 1) (by omega) (by omega)
      rw [hx] at y0 hxb
      have wx : wrap64 (x - 24000001) = x - 24000001 := by unfold wrap64; omega
      have HN : Hid (Fe w (wr.setCell ⟨g0, i, none⟩ (.int .i64 (x - 24000001))) g c n ra rc (.slice (some ⟨g0, 0, none⟩) n zc) (ints (lw 24000001 s n (i + 1)))) := by
        have h := HE.out.set i (x - 24000001)
        rw [← hx, lw_set hlt, hx] at h
        exact h
      clear hx hxb
      go_wp2
      clear c0 y0 f0
      go_roundw
      case rel => exact ⟨i + 1, by go_num, by omega, HN.out⟩
      case measure => simp [intOf]; omega
    · obtain rfl : i = n := by omega
      go_wp2
      go_ret
      exact ⟨g, c, _, _, rfl, HE.out.sc HS.out, HE.out.below⟩
theorem few_bk {n : Nat} {s : Nat → Nat → Int} (hs : ∀ h x, h ≤ n → 1 ≤ x → x ≤ n → -1000000 ≤ s h x ∧ s h x ≤ 1000000) : Bk 12 n (fw 24000001 s) := fun a b h1 h2 h3 => by
  have h := hs a b h1 h2 h3
  have e : (2 : Int) ^ (12 - 12) = 1 := rfl
  rw [e]
  unfold fw
  split <;> omega
set_option maxRecDepth 100000 in
theorem one_any (n b off cap : Nat) (ra : Nat → Option Addr) (rc : Nat → Nat) (s : Nat → Nat → Int) (w : World) (hS : Sc w b off n ra rc s) (hn : n ≤ 12) (hs : ∀ h x, h ≤ n → 1 ≤ x → x ≤ n → -1000000 ≤ s h x ∧ s h x ≤ 1000000) :
    Calls Try.prog 24 #[.slice (some ⟨b, off, none⟩) (n + 1) cap] w (UpQ n (fun ul => Opt n (fw 24000001 s) (uv ul)) w) := by
  have K25 := fewOnRoot_any n b off cap ra rc s w hS hn hs
  have HK : Hid (∀ (g c : Nat) (ra' : Nat → Option Addr) (rc' : Nat → Nat) (W : World), Sc W g 0 n ra' rc' (fw 24000001 s) → Calls Try.prog 22 #[.slice (some ⟨g, 0, none⟩) (n + 1) c] W (UpQ n (fun ul => Opt n (fw 24000001 s) (uv ul)) W)) := fun g c ra' rc' W h => best_any 12 (Nat.le_refl _) n g 0 c ra' rc' _ W hn h (few_bk hs)
  clear hS hs
  go_enter Try.func24, Try.ntmps24
  go_wp2_with (first
    | (go_at_call 25; (with_reducible refine K25.mono ?_); clear K25; rintro e w1 ⟨g, c, ra', rc', rfl, hs1, hb1⟩; have HB1 : Hid (Below w.heap.size w w1) := hb1; have K22 := HK.out g c ra' rc' w1 hs1; clear hs1 hb1)
    | (go_at_call 22; (with_reducible refine K22.mono ?_); clear K22; rintro e w2 ⟨g2, ul, rfl, hu, ho⟩; have HU : Hid (Ul w1 w2 g2 n ul ∧ Opt n (fw 24000001 s) (uv ul)) := ⟨hu, ho⟩; clear hu ho))
  go_ret
  exact ⟨g2, ul, rfl, ⟨own_le HU.out.1.row HB1.out.size, HU.out.1.len, HB1.out.trans (HU.out.1.below.mono HB1.out.size)⟩, HU.out.2⟩
end Go.Proofs.Ytpolnkdbebjpnaa.Hd
