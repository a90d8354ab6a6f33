/- HeadsMore (4) returns true. Conditions: how the rows lie, and how many they are; the two numbers are of 64 bits. -/
import Derived.Test.YtpolnkdbebjpnaaNl
namespace Go.Proofs.Ytpolnkdbebjpnaa.Hd
open Go.RowKit

theorem nonone_ints (l : List Int) : ∀ u ∈ ints l, u.oneCell' = true := sl_ints l
/-- a row of scores -/
def rwl (s : Nat → Nat → Int) (n h : Nat) : List Int := (List.range n).map fun i => s h (i + 1)
theorem rwl_len (s : Nat → Nat → Int) (n h : Nat) : (rwl s n h).length = n := by simp [rwl]
theorem rwl_at {s : Nat → Nat → Int} {n h j : Nat} (hj : j < n) : (ints (rwl s n h))[j]? = some (.int .i64 (s h (j + 1))) := by
  rw [ints_getD (by rw [rwl_len]; exact hj)]
  unfold rwl
  rw [map_getD_lt _ _ _ hj]
theorem rwl_set {s s' : Nat → Nat → Int} {n h j : Nat} {x : Int} (hj : j < n) (h1 : s' h (j + 1) = x) (h2 : ∀ i, i < n → i ≠ j → s' h (i + 1) = s h (i + 1)) : (ints (rwl s n h)).set j (.int .i64 x) = ints (rwl s' n h) := by
  refine List.ext_getElem? fun i => ?_
  rw [List.getElem?_set]
  rcases Nat.lt_or_ge i n with hi | hi
  · by_cases e : j = i
    · subst e
      rw [if_pos rfl, if_pos (by rw [ints_len, rwl_len]; exact hi), rwl_at hi, h1]
    · rw [if_neg e, rwl_at hi, rwl_at hi, h2 i hi (fun e2 => e e2.symm)]
  · rw [if_neg (by omega), List.getElem?_eq_none (by rw [ints_len, rwl_len]; exact hi), List.getElem?_eq_none (by rw [ints_len, rwl_len]; exact hi)]
set_option maxHeartbeats 2000000 in
set_option maxRecDepth 100000 in
theorem more_bad (rows : List (List Int)) (a : Option Addr) (b off cap : Nat) (ra : Nat → Option Addr) (rc : Nat → Nat) (p q : Int) (w : World) (hR : Rw w a b off ra rc rows) (hN : rows.length ≤ 140737488355328) (hc : chk rows ≠ 0) :
    Calls Try.prog 4 #[.slice a rows.length cap, .int .i64 p, .int .i64 q] w fun e w' => e = .returned (.bool true) ∧ Below w.heap.size w w' := by
  have K5 := begun_any w
  have H7 : Hid (∀ W, Below w.heap.size w W → Calls Try.prog 7 #[.slice a rows.length cap] W fun e w' => e = .returned (.tuple #[.slice none 0 0, .int .i64 0, .int .i64 (chk rows)]) ∧ Below W.heap.size W w') := fun W hW => best7_bad rows a b off cap ra rc W (hR.below hW) hN hc
  have H8 : Hid (∀ W, Below w.heap.size w W → Calls Try.prog 8 #[.slice a rows.length cap] W fun e w' => e = .returned (.tuple #[.slice none 0 0, .int .i64 0, .int .i64 (chk rows)]) ∧ Below W.heap.size W w') := fun W hW => flat8_bad rows a b off cap ra rc W (hR.below hW) hN hc
  have H9 : Hid (∀ W, Below w.heap.size w W → Calls Try.prog 9 #[.slice a rows.length cap] W fun e w' => e = .returned (.tuple #[.slice none 0 0, .int .i64 0, .int .i64 (chk rows)]) ∧ Below W.heap.size W w') := fun W hW => one9_bad rows a b off cap ra rc W (hR.below hW) hN hc
  obtain ⟨N, hn⟩ : ∃ n, rows.length = n := ⟨_, rfl⟩
  obtain ⟨x, hx⟩ : ∃ x, chk rows = x := ⟨_, rfl⟩
  rw [hn, hx] at H7 H8 H9
  rw [hx] at hc
  rw [hn]
  have q0 : (x != 0) = true := by simp [hc]
  have q1 : (x == 0) = false := by simp [hc]
  clear hR hN hn hx
  go_enter Try.func4, Try.ntmps4
  go_upto_region 3 with (go_at_call 5; (with_reducible refine K5.mono ?_); clear K5; rintro e w1 ⟨rfl, hb⟩; have HB1 : Hid (Below w.heap.size w w1) := hb; clear hb)
  have K7 := H7.out w1 HB1.out
  go_upto_region 4 with (go_at_call 7; (with_reducible refine K7.mono ?_); clear K7; rintro e w2 ⟨rfl, hb⟩; have HB2 : Hid (Below w.heap.size w w2) := HB1.out.trans (hb.mono HB1.out.size); clear hb)
  have K8 := H8.out w2 HB2.out
  go_upto_region 5 with (go_at_call 8; (with_reducible refine K8.mono ?_); clear K8; rintro e w3 ⟨rfl, hb⟩; have HB3 : Hid (Below w.heap.size w w3) := HB2.out.trans (hb.mono HB2.out.size); clear hb)
  have K9 := H9.out w3 HB3.out
  go_upto_region 6 with (go_at_call 9; (with_reducible refine K9.mono ?_); clear K9; rintro e w4 ⟨rfl, hb⟩; have HB4 : Hid (Below w.heap.size w w4) := HB3.out.trans (hb.mono HB3.out.size); clear hb)
  go_wp2
  go_ret
  exact ⟨rfl, HB4.out⟩
set_option maxHeartbeats 8000000 in
set_option maxRecDepth 100000 in
theorem more_ok (rows : List (List Int)) (n b off cap : Nat) (ra : Nat → Option Addr) (rc : Nat → Nat) (p q : Int) (w : World) (hR : Rw w (some ⟨b, off, none⟩) b off ra rc rows) (hF : Fit rows n) (hp1 : -9223372036854775808 ≤ p) (hp2 : p ≤ 9223372036854775807) (hq1 : -9223372036854775808 ≤ q) (hq2 : q ≤ 9223372036854775807) :
    Calls Try.prog 4 #[.slice (some ⟨b, off, none⟩) (n + 1) cap, .int .i64 p, .int .i64 q] w fun e w' => e = .returned (.bool true) ∧ Below w.heap.size w w' := by
  have K5 := begun_any w
  have HF : Hid (Fit rows n) := hF
  have HR : Hid (∀ W, Below w.heap.size w W → Rw W (some ⟨b, off, none⟩) b off ra rc rows) := fun W hW => hR.below hW
  have H7 : Hid (∀ W, Below w.heap.size w W → Calls Try.prog 7 #[.slice (some ⟨b, off, none⟩) (n + 1) cap] W (ToldQ n (sr rows) (fun ul => Opt n (sr rows) (uv ul)) W)) := fun W hW => best7_ok rows n b off cap ra rc W (hR.below hW) (chk_of_fit hF) hF
  have H8 : Hid (∀ W, Below w.heap.size w W → Calls Try.prog 8 #[.slice (some ⟨b, off, none⟩) (n + 1) cap] W (ToldQ n (sr rows) (fun ul => FlatP n (sr rows) (uv ul)) W)) := fun W hW => flat8_ok rows n b off cap ra rc W (hR.below hW) (chk_of_fit hF) hF
  have H9 : Hid (∀ W, Below w.heap.size w W → Calls Try.prog 9 #[.slice (some ⟨b, off, none⟩) (n + 1) cap] W (ToldQ n (sr rows) (fun ul => Opt n (fw 24000001 (sr rows)) (uv ul)) W)) := fun W hW => one9_ok rows n b off cap ra rc W (hR.below hW) (chk_of_fit hF) hF
  have HPQ : Hid ((-9223372036854775808 ≤ p ∧ p ≤ 9223372036854775807) ∧ -9223372036854775808 ≤ q ∧ q ≤ 9223372036854775807) := ⟨⟨hp1, hp2⟩, hq1, hq2⟩
  obtain ⟨m1, hm1⟩ : ∃ m, n + 1 = m := ⟨_, rfl⟩
  have HM : Hid (n + 1 = m1 ∧ n ≤ 12) := ⟨hm1, hF.few⟩
  rw [hm1] at H7 H8 H9
  rw [hm1]
  clear hR hF hm1 hp1 hp2 hq1 hq2
  go_enter Try.func4, Try.ntmps4
  go_upto_region 3 with (go_at_call 5; (with_reducible refine K5.mono ?_); clear K5; rintro e w1 ⟨rfl, hb⟩; have HB1 : Hid (Below w.heap.size w w1) := hb; clear hb)
  have K7 := H7.out w1 HB1.out
  go_upto_region 4 with (go_at_call 7; (with_reducible refine K7.mono ?_); clear K7; rintro e w2 ⟨g, ul, rfl, hu, ho⟩; have HU2 : Hid (Ul w w2 g n ul ∧ Opt n (sr rows) (uv ul)) := ⟨⟨own_le hu.row HB1.out.size, hu.len, HB1.out.trans (hu.below.mono HB1.out.size)⟩, ho⟩; clear hu ho)
  have K8 := H8.out w2 HU2.out.1.below
  go_upto_region 5 with (go_at_call 8; (with_reducible refine K8.mono ?_); clear K8; rintro e w3 ⟨g8, ul8, rfl, hu, ho⟩; have HU3 : Hid (Ul w w3 g n ul ∧ wo (sr rows) n (uv ul8) ≤ wo (sr rows) n (uv ul)) := ⟨HU2.out.1.laid (hu.below), HU2.out.2.best _ ho.1.1⟩; clear hu ho)
  have K9 := H9.out w3 HU3.out.1.below
  go_upto_region 6 with (go_at_call 9; (with_reducible refine K9.mono ?_); clear K9; rintro e w4 ⟨g9, ul9, rfl, hu, ho⟩; have HU4 : Hid (Ul w w4 g n ul ∧ wo (sr rows) n (uv ul9) ≤ wo (sr rows) n (uv ul)) := ⟨HU3.out.1.laid (hu.below), HU2.out.2.best _ ho.tr⟩; clear hu ho)
  obtain ⟨V, hV⟩ : ∃ V, wo (sr rows) n (uv ul) = V := ⟨_, rfl⟩
  obtain ⟨V8, hV8⟩ : ∃ V, wo (sr rows) n (uv ul8) = V := ⟨_, rfl⟩
  obtain ⟨V9, hV9⟩ : ∃ V, wo (sr rows) n (uv ul9) = V := ⟨_, rfl⟩
  have HO : Hid (Opt n (sr rows) (uv ul) ∧ wo (sr rows) n (uv ul) = V ∧ -(1000000 * (n : Int)) ≤ V ∧ V ≤ 1000000 * (n : Int)) := ⟨HU2.out.2, hV, by have h := sg_bound HF.out.num (HU2.out.2.tr.le) n (Nat.le_refl _); rw [← hV]; exact h⟩
  have k8 : V8 ≤ V := by rw [← hV8, ← hV]; exact HU3.out.2
  have k9 : V9 ≤ V := by rw [← hV9, ← hV]; exact HU4.out.2
  have HU : Hid (Ul w w4 g n ul) := HU4.out.1
  rw [hV, hV8, hV9]
  clear hV hV8 hV9 HU2 HU3 HU4 HB1 H8 H9 H7
  have k8' : ¬ V < V8 := by omega
  have k9' : ¬ V < V9 := by omega
  have wn : wrap64 ((m1 : Int) - 1) = (n : Int) := by have := HM.out; unfold wrap64; omega
  by_cases hn0 : n = 0
  · have q0 : ((n : Int) == 0) = true := by simp [hn0]
    have q0' : (n : Int) = 0 := by omega
    clear hn0
    go_wp2
    go_ret
    exact ⟨rfl, HU.out.below⟩
  · have q0 : ((n : Int) == 0) = false := by simp [hn0]
    have q0' : ¬ (n : Int) = 0 := by omega
    have HN1 : Hid (1 ≤ n) := by show _ ≤ _; omega
    have K19 := choose_any p n w4 (by omega) (by have := HM.out; omega) HPQ.out.1.1 HPQ.out.1.2
    clear hn0
    go_upto_region 12 with (go_at_call 19; (with_reducible refine K19.mono ?_); clear K19; rintro e w5 ⟨x, hx, rfl, hb⟩; have HX : Hid (x < n) := hx; have HU5 : Hid (Ul w w5 g n ul) := HU.out.laid hb; clear hx hb)
    have K19 := choose_any q 1000 w5 (by decide) (by decide) HPQ.out.2.1 HPQ.out.2.2
    rw [show ((1000 : Nat) : Int) = 1000 from rfl] at K19
    go_upto_region 13 with (go_at_call 19; (with_reducible refine K19.mono ?_); clear K19; rintro e w6 ⟨d, hd, rfl, hb⟩; have HD : Hid (d < 1000) := hd; have HU6 : Hid (Ul w w6 g n ul) := HU5.out.laid hb; clear hd hb)
    clear HU HU5
    obtain ⟨i3, hi3, hx0, hx1, hx2⟩ := info_parts inf3
    obtain ⟨i26, hi26, hv0, hv1, hv2⟩ := info_parts inf26
    have HUW : Hid (∀ W, Below w6.heap.size w6 W → Ul w W g n ul) := fun W hW => HU6.out.laid hW
    go_upto_region 15 with fail
    go_loopw [19, 20] (fun a c wr => ∃ (k : Nat) (vm : Value) (T : Tm), a = vm ∧ c = .int .i64 (k : Int) ∧ k ≤ m1 ∧ Mo w6 wr vm T k ∧ T 0 = (.slice none 0 0, []) ∧ (∀ h, h < k → (T (1 + h)).2 = ints (rwl (ls (sr rows) (x + 1) (d : Int)) n h)) ∧ ∀ h, h < k → -1000000 ≤ sr rows h (x + 1) - (d : Int)) (fun _ c _ => m1 - (intOf c).toNat)
    case atStart => exact ⟨0, .slice none 0 0, _, rfl, rfl, Nat.zero_le _, mo_start w6, rfl, fun h hh => absurd hh (Nat.not_lt_zero _), fun h hh => absurd hh (Nat.not_lt_zero _)⟩
    case round =>
      obtain ⟨k, vm, T, ha, rfl, hk, hmo, ht0, hT, hlo⟩ := hrel
      have ha2 := ha.symm
      subst ha2
      have HQ : Hid (Mo w6 wr vm T k ∧ T 0 = (.slice none 0 0, []) ∧ (∀ h, h < k → (T (1 + h)).2 = ints (rwl (ls (sr rows) (x + 1) (d : Int)) n h)) ∧ ∀ h, h < k → -1000000 ≤ sr rows h (x + 1) - (d : Int)) := ⟨hmo, ht0, hT, hlo⟩
      clear hmo ht0 hT hlo
      obtain ⟨va, vc, hvm⟩ := oslice HQ.out.1.sc
      subst hvm
      have HBW : Hid (Below w.heap.size w wr) := HU6.out.below.trans (HQ.out.1.below.mono HU6.out.below.size)
      by_cases hlt : k < m1
      · have hii : (k : Int) < (m1 : Int) := by omega
        have hkn : k ≤ n := by have := HM.out; omega
        have hn12 : n ≤ 12 := HM.out.2
        have hsc := ((HF.out.sc (HR.out wr HBW.out)).2)
        obtain ⟨rb, ro, e1, e2, hcc⟩ := hsc.num k hkn (by have := HN1.out; omega)
        have c0 := hsc.row k hkn
        rw [e1] at c0
        obtain ⟨qc, hqc⟩ : ∃ y, rc k = y := ⟨_, rfl⟩
        rw [hqc] at c0
        have c0' : (wr.alloc (.cells #[] 3)).cell? ⟨b, off + k, none⟩ = some (.slice (some ⟨rb, ro, none⟩) n qc) := ((below_al wr _).cell (World.block_lt_of_cell? _ _ c0)).trans c0
        have HNS : Hid (∀ j u, (ints (rwl (sr rows) n k))[j]? = some u → (wr.alloc (.cells #[] 3)).cell? ((⟨rb, ro, none⟩ : Addr).add j) = some u) := fun j u hu => by
          have hj : j < n := by have := (List.getElem?_eq_some_iff.1 hu).1; rw [ints_len, rwl_len] at this; exact this
          rw [rwl_at hj] at hu
          injection hu with hu
          rw [add_at, ← hu]
          exact ((below_al wr _).cell (p := ⟨rb, ro + j, none⟩) e2).trans (hcc j hj)
        have HH : Hid ((wr.alloc (.cells #[] 3)).ownsRow w6.heap.size 3 1 (.slice (some ⟨wr.heap.size, 0, none⟩) 0 0) 0 []) := World.ownsRow_lit wr #[] 0 HQ.out.1.below.size (Nat.zero_le _) rfl
        have HSZ : Hid (w6.heap.size ≤ wr.heap.size) := HQ.out.1.below.size
        clear hsc e1 hqc hcc e2
        go_upto_region 18 with (refine wpList_append_own_at _ rfl _ _ 26 rfl w6.heap.size 3 i3 (.int .i64 0) 1 8 Try.underlying26 hi3 hx0 hx1 hx2 rfl (by decide) (.slice (some ⟨wr.heap.size, 0, none⟩) 0 0) 0 [] rfl HH.out ⟨rb, ro, none⟩ n qc (ints (rwl (sr rows) n k)) rfl (by rw [ints_len, rwl_len, Nat.mul_one]) HNS.out (sl_ints _) (by unfold maxLen; omega) (by omega) (by have := HSZ.out; simp; omega) ?_; intro v7 w7 ho7 hg7 _ hl7; rw [Nat.zero_add] at ho7; obtain ⟨g7, c7, rfl, _, _⟩ := own_some ho7 (by have := HN1.out; omega); have HM7 : Hid (Mo w6 w7 (.slice va k vc) (upT T 0 (.slice (some ⟨g7, 0, none⟩) n c7, ints (rwl (sr rows) n k))) k ∧ w7.ownsRow w6.heap.size 3 1 (.slice (some ⟨g7, 0, none⟩) n c7) n (ints (rwl (sr rows) n k))) := ⟨HQ.out.1.copy ho7 (by rw [ints_len, rwl_len]) hg7 hl7, ho7⟩; clear ho7 hg7 hl7)
        clear c0 c0' HNS HH HSZ
        have hxn := HX.out
        have y0 := (HM7.out.2.cellAt x (by omega)).trans (rwl_at hxn)
        have f0 := HM7.out.2.frozenAt x
        obtain ⟨z, hz⟩ : ∃ z, sr rows k (x + 1) = z := ⟨_, rfl⟩
        have hzb := HF.out.num k (x + 1) hkn (by omega) (by omega)
        rw [hz] at y0 hzb
        have hdb := HD.out
        have wz2 : wrap64 (z - (d : Int)) = z - (d : Int) := by unfold wrap64; omega
        have hxi : (x : Int) < (n : Int) := by omega
        have HZ : Hid (sr rows k (x + 1) = z ∧ z ≤ 1000000) := ⟨hz, hzb.2⟩
        have HM8 : Hid (Mo w6 (w7.setCell ⟨g7, x, none⟩ (.int .i64 (z - (d : Int)))) (.slice va k vc) (upT (upT T 0 (.slice (some ⟨g7, 0, none⟩) n c7, ints (rwl (sr rows) n k))) 0 (.slice (some ⟨g7, 0, none⟩) n c7, ints (rwl (ls (sr rows) (x + 1) (d : Int)) n k))) k) := by
          have h := HM7.out.1.store (j := 0) (upT_same _ _ _) x (.int .i64 (z - (d : Int))) (by rw [ints_len, rwl_len])
          rw [rwl_set (s' := ls (sr rows) (x + 1) (d : Int)) hxn (by unfold ls; rw [if_pos rfl, hz]) (fun i hi hne => by unfold ls; rw [if_neg (by omega)])] at h
          exact h
        clear hz hzb hdb
        by_cases hlow : z - (d : Int) < -1000000
        · go_wp2
          try rw [Exit.noGoto_ret]
          go_ret
          exact ⟨rfl, HU6.out.below.trans (HM8.out.below.mono HU6.out.below.size)⟩
        · have HLW : Hid (¬ z - (d : Int) < -1000000) := hlow
          go_upto_region 21 with fail
          clear y0 f0 wz2 hlow
          generalize w7.setCell ⟨g7, x, none⟩ (.int .i64 (z - (d : Int))) = W8 at *
          have hrow : Hid (W8.ownsRow w6.heap.size 26 1 (.slice va k vc) k ((List.range k).map fun h => (upT (upT T 0 (.slice (some ⟨g7, 0, none⟩) n c7, ints (rwl (sr rows) n k))) 0 (.slice (some ⟨g7, 0, none⟩) n c7, ints (rwl (ls (sr rows) (x + 1) (d : Int)) n k)) (1 + h)).1) ∧ w6.heap.size ≤ W8.heap.size) := ⟨HM8.out.sc, HM8.out.below.size⟩
          have hk13 : k ≤ 12 := by omega
          go_wp2_with (refine wpList_append_own_at _ rfl _ _ 22 rfl w6.heap.size 26 i26 (.slice none 0 0) 1 24 Try.underlying22 hi26 hv0 hv1 hv2 rfl (by decide) _ _ _ rfl (hrow.out.1.alloc _) ⟨_, 0, none⟩ 1 1 [.slice (some ⟨g7, 0, none⟩) n c7] rfl rfl (cell_one_new _ _ _) (sl_one _ rfl) (by unfold maxLen; omega) (by omega) (by have := hrow.out.2; simp; omega) ?_; intro v9 w9 ho9 hg9 _ hl9; have HM9 : Hid _ := HM8.out.push (upT_same _ _ _) (below_al W8 (.cells #[.slice (some ⟨g7, 0, none⟩) n c7] 26)) ho9 hg9; clear ho9 hg9 hl9)
          go_roundw
          case rel => exact ⟨k + 1, v9, _, rfl, by go_num, hlt, HM9.out, upT_same _ _ _, fun h hh => by
            rw [upT_ne _ _ (by omega)]
            by_cases e : h = k
            · subst e; rw [upT_same, upT_same]
            · rw [upT_ne _ _ (by omega), upT_ne _ _ (by omega), upT_ne _ _ (by omega)]; exact HQ.out.2.2.1 h (by omega), fun h hh => by
            by_cases e : h = k
            · subst e; rw [HZ.out.1]; have := HLW.out; omega
            · exact HQ.out.2.2.2 h (by omega)⟩
          case measure => simp [intOf]; omega
      · have e9 : k = m1 := by omega
        subst e9
        have hnk : n + 1 = k := HM.out.1
        have hmo2 := HQ.out.1
        rw [← hnk] at hmo2
        obtain ⟨bm, cm, hvm, hRm⟩ := hmo2.rw (f := ls (sr rows) (x + 1) (d : Int)) (fun h hh => HQ.out.2.2.1 h (by omega))
        have hfit : Fit (nr n (ls (sr rows) (x + 1) (d : Int))) n := nr_fit HM.out.2 (fun h y hh h1 h2 => by
          have hb := HF.out.num h y hh h1 h2
          unfold ls
          by_cases e : y = x + 1
          · subst e
            rw [if_pos rfl]
            have := HQ.out.2.2.2 h (by omega)
            omega
          · rw [if_neg e]; exact hb)
        injection hvm with e1 e2 e3
        subst e1
        subst e3
        have K7 := best7_ok _ n bm 0 vc _ _ wr hRm (chk_of_fit hfit) hfit
        rw [hnk] at K7
        have HMO : Hid (Mo w6 wr (.slice (some ⟨bm, 0, none⟩) k vc) T k) := HQ.out.1
        clear hfit hRm hmo2 hnk e2
        go_upto_region 23 with (go_at_call 7; (with_reducible refine K7.mono ?_); clear K7; rintro e w7 ⟨g2, u2, rfl, hu, ho⟩; have HU7 : Hid (Ul wr w7 g2 n u2 ∧ Opt n (ls (sr rows) (x + 1) (d : Int)) (uv u2)) := ⟨hu, opt_congr ho (fun h y h1 h2 h3 => nr_sr _ h1 h2 h3)⟩; clear hu ho)
        have HV : Hid (wo (sr (nr n (ls (sr rows) (x + 1) (d : Int)))) n (uv u2) = V - (d : Int) ∧ wo (sr rows) n (uv u2) = V) := by
          have h := ls_opt (by omega) (by have := HX.out; omega) HO.out.1 HU7.out.2
          rw [HO.out.2.1] at h
          refine ⟨?_, h.2⟩
          rw [wo_congr HU7.out.2.tr (fun h y h1 h2 h3 => nr_sr _ h1 h2 h3)]
          exact h.1
        rw [HV.out.1]
        have HB7 : Hid (Below w.heap.size w w7 ∧ Below w6.heap.size w6 w7) := by
          have h6 : Below w6.heap.size w6 w7 := HMO.out.below.trans (HU7.out.1.below.mono HMO.out.below.size)
          exact ⟨HU6.out.below.trans (h6.mono HU6.out.below.size), h6⟩
        have HM7 : Hid (Mo w6 w7 (.slice (some ⟨bm, 0, none⟩) k vc) T k) := HMO.out.laid HU7.out.1.below
        have K16 := worth_any n b off cap g2 ra rc (sr rows) u2 w7 (HF.out.sc (HR.out w7 HB7.out.1)).2 HM.out.2 HF.out.num (own_rowN HU7.out.1.row (by have := HM.out.2; omega)) HU7.out.1.len (HU7.out.2.tr.le)
        rw [HV.out.2, HM.out.1] at K16
        have hvb := HO.out.2.2
        have hdb := HD.out
        have hn12 := HM.out.2
        have wvd : wrap64 (V - (d : Int)) = V - (d : Int) := by unfold wrap64; omega
        clear hvb hdb
        go_upto_region 25 with (go_at_call 16; (with_reducible refine K16.mono ?_); clear K16; rintro e w8 ⟨rfl, hb⟩; have HB8 : Hid (Below w7.heap.size w7 w8) := hb; clear hb)
        clear wvd
        have HM8 : Hid (Mo w6 w8 (.slice (some ⟨bm, 0, none⟩) k vc) T k) := HM7.out.laid HB8.out
        have HB9 : Hid (Below w.heap.size w w8 ∧ Below w6.heap.size w6 w8) := ⟨HB7.out.1.trans (HB8.out.mono HB7.out.1.size), HB7.out.2.trans (HB8.out.mono HB7.out.2.size)⟩
        obtain ⟨h0, hh0⟩ : ∃ h, uv ul (x + 1) = h := ⟨_, rfl⟩
        have hul := HUW.out w8 HB9.out.2
        have hxn := HX.out
        have c0 := (hul.row.cellAt x (by omega)).trans (ns_uv (by rw [hul.len]; exact hxn))
        rw [hh0] at c0
        have hh0n : h0 ≤ n := by rw [← hh0]; exact HO.out.1.tr.le (x + 1) (by omega) (by omega)
        have HH0 : Hid (uv ul (x + 1) = h0) := hh0
        have hk1 : n + 1 = k := HM.out.1
        have hTl : (T (1 + h0)).2 = ints (rwl (ls (sr rows) (x + 1) (d : Int)) n h0) := HQ.out.2.2.1 h0 (by omega)
        have hown := HM8.out.ths.own (1 + h0)
        rw [hTl, ints_len, rwl_len] at hown
        obtain ⟨gr, cr, hvr, _, _⟩ := own_some hown (by have := HN1.out; omega)
        rw [hvr] at hown
        have HTE : Hid (T (1 + h0) = (.slice (some ⟨gr, 0, none⟩) n cr, ints (rwl (ls (sr rows) (x + 1) (d : Int)) n h0))) := by
          show _ = _
          rw [← hvr, ← hTl]
        have c1 : w8.cell? ⟨bm, h0, none⟩ = some (.slice (some ⟨gr, 0, none⟩) n cr) := by
          rw [HM8.out.sc.cellAt h0 (by omega), List.getElem?_map, List.getElem?_range (by omega)]
          show some (T (1 + h0)).1 = _
          rw [hvr]
        obtain ⟨z, hz⟩ : ∃ z, sr rows h0 (x + 1) = z := ⟨_, rfl⟩
        have hzb := HF.out.num h0 (x + 1) hh0n (by omega) (by omega)
        rw [hz] at hzb
        have y0 := (hown.cellAt x (by omega)).trans (rwl_at hxn)
        rw [show ls (sr rows) (x + 1) (d : Int) h0 (x + 1) = z - (d : Int) by unfold ls; rw [if_pos rfl, hz]] at y0
        have f0 := hown.frozenAt x
        have hdb := HD.out
        have wz : wrap64 z = z := by unfold wrap64; omega
        have hxi : (x : Int) < (n : Int) := by omega
        have hhk : (h0 : Int) < (k : Int) := by omega
        have HMS : Hid (Mo w6 (w8.setCell ⟨gr, x, none⟩ (.int .i64 z)) (.slice (some ⟨bm, 0, none⟩) k vc) (upT T (1 + h0) (.slice (some ⟨gr, 0, none⟩) n cr, ints (rwl (lt1 (sr rows) (x + 1) h0 (d : Int)) n h0))) k) := by
          have h := HM8.out.store HTE.out x (.int .i64 z) (by rw [ints_len, rwl_len])
          rw [rwl_set (s' := lt1 (sr rows) (x + 1) h0 (d : Int)) hxn (by unfold lt1; rw [if_neg (fun h => h.2 rfl), hz]) (fun i hi hne => by unfold lt1 ls; rw [if_neg (fun h => hne (by omega)), if_neg (by omega)])] at h
          exact h
        clear hh0 hul hTl hown hvr hz hzb hdb hk1
        go_upto_region 26 with fail
        clear c0 c1 y0 f0 wz
        generalize w8.setCell ⟨gr, x, none⟩ (.int .i64 z) = W9 at *
        have hnk : n + 1 = k := HM.out.1
        have hmo2 := HMS.out
        rw [← hnk] at hmo2
        obtain ⟨bm2, cm2, hvm2, hRm⟩ := hmo2.rw (f := lt1 (sr rows) (x + 1) h0 (d : Int)) (fun h hh => by
          by_cases e : h = h0
          · subst e; rw [upT_same]; rfl
          · rw [upT_ne _ _ (by omega), HQ.out.2.2.1 h (by omega)]
            congr 1
            unfold rwl
            exact List.map_congr_left fun i _ => by
              unfold lt1 ls
              by_cases e2 : i + 1 = x + 1
              · rw [if_pos e2, if_pos ⟨e2, e⟩]
              · rw [if_neg e2, if_neg (fun h => e2 h.1)])
        have hfit : Fit (nr n (lt1 (sr rows) (x + 1) h0 (d : Int))) n := nr_fit HM.out.2 (fun h y hh h1 h2 => by
          have hb := HF.out.num h y hh h1 h2
          unfold lt1
          by_cases e : y = x + 1 ∧ h ≠ h0
          · obtain ⟨rfl, e2⟩ := e
            rw [if_pos ⟨rfl, e2⟩]
            have := HQ.out.2.2.2 h (by omega)
            omega
          · rw [if_neg e]; exact hb)
        injection hvm2 with e1 e2 e3
        injection e1 with e1
        injection e1 with e1
        subst e1
        subst e3
        have K7 := best7_ok _ n bm 0 vc _ _ W9 hRm (chk_of_fit hfit) hfit
        rw [hnk] at K7
        clear hfit hRm hmo2 hnk e2
        go_upto_region 27 with (go_at_call 7; (with_reducible refine K7.mono ?_); clear K7; rintro e w10 ⟨g3, u3, rfl, hu, ho⟩; have HU10 : Hid (Ul W9 w10 g3 n u3 ∧ Opt n (lt1 (sr rows) (x + 1) h0 (d : Int)) (uv u3)) := ⟨hu, opt_congr ho (fun h y h1 h2 h3 => nr_sr _ h1 h2 h3)⟩; clear hu ho)
        have HV3 : Hid (wo (sr (nr n (lt1 (sr rows) (x + 1) h0 (d : Int)))) n (uv u3) = V) := by
          show _ = _
          rw [wo_congr HU10.out.2.tr (fun h y h1 h2 h3 => nr_sr _ h1 h2 h3), ← HO.out.2.1]
          have h := HU10.out.2
          rw [← HH0.out] at h ⊢
          exact lt1_opt (by omega) HO.out.1 h
        rw [HV3.out]
        go_wp2
        try rw [Exit.noGoto_ret]
        go_ret
        exact ⟨rfl, HU6.out.below.trans ((HMS.out.below.trans (HU10.out.1.below.mono HMS.out.below.size)).mono HU6.out.below.size)⟩
end Go.Proofs.Ytpolnkdbebjpnaa.Hd
