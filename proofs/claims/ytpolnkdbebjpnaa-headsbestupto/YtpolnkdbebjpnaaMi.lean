/- joinedOf (37): the smaller scores, the ring taken for one word. Conditions: each word hangs best, the ring is one; at most 1000 words; scores of no great size. -/
import Derived.Test.YtpolnkdbebjpnaaMh
namespace Go.Proofs.Ytpolnkdbebjpnaa.Hd
open Go.RowKit Zz
set_option maxHeartbeats 8000000 in
set_option maxRecDepth 100000 in
theorem joinedOf_any (n b off cap g gr rcap : Nat) (ra : Nat → Option Addr) (rc : Nat → Nat) (s : Nat → Nat → Int) (ul R : List Nat) (w : World) (hS : Sc w b off n ra rc s) (hn : n ≤ 1000) (hz : Sz n s) (hH : Hi n s (uv ul)) (hR : Rg n (uv ul) R)
    (hU : w.ownsRow 0 3 1 (.slice (some ⟨g, 0, none⟩) n n) n (ns ul)) (hul : ul.length = n) (hRR : Row w (.slice (some ⟨gr, 0, none⟩) R.length rcap) 1 R.length (ns R)) :
    Calls Try.prog 37 #[.slice (some ⟨b, off, none⟩) (n + 1) cap, .slice (some ⟨g, 0, none⟩) n n, .slice (some ⟨gr, 0, none⟩) R.length rcap] w (JoQ n s (uv ul) R w) := by
  obtain ⟨i3, hi3, hx0, hx1, hx2⟩ := info_parts inf3
  obtain ⟨i26, hi26, hv0, hv1, hv2⟩ := info_parts inf26
  obtain ⟨m1, hm1⟩ : ∃ m, n + 1 = m := ⟨_, rfl⟩
  obtain ⟨rl, hrl⟩ : ∃ m, R.length = m := ⟨_, rfl⟩
  have HN : Hid (n + 1 = m1 ∧ n ≤ 1000 ∧ R.length = rl) := ⟨hm1, hn, hrl⟩
  have HS : Hid (∀ W, Below w.heap.size w W → Sc W b off n ra rc s) := fun W hW => hS.below hW
  have HR : Hid (∀ W, Below w.heap.size w W → Row W (.slice (some ⟨gr, 0, none⟩) rl rcap) 1 R.length (ns R)) := fun W hW => by have h := hRR.below hW; rw [hrl] at h ⊢; exact h
  have HG : Hid (Rg n (uv ul) R ∧ Hi n s (uv ul) ∧ Sz n s ∧ R ≠ [] ∧ R.length ≤ 1001) := ⟨hR, hH, hz, hR.some, by
    have := inj_len (n + 1) _ hR.nodup fun y hy => by have := hR.pos y hy; omega
    omega⟩
  have HU : Hid (∀ W, Below w.heap.size w W → ∀ i, i < n → W.cell? ⟨g, i, none⟩ = some (.int .i64 (uv ul (i + 1) : Int))) := fun W hW i hi => (hW.cell (p := ⟨g, i, none⟩) (hU.lt g rfl).2).trans ((hU.cellAt i (by omega)).trans (ns_uv (by rw [hul]; exact hi)))
  have HGL : Hid (g < w.heap.size) := (hU.lt g rfl).2
  obtain ⟨W0, hW0, HJ0⟩ := jn_start w (.slice (some ⟨b, off, none⟩) m1 cap) (.slice (some ⟨g, 0, none⟩) n n)
  rw [hm1, hrl]
  clear hS hn hz hH hR hU hul hRR hm1 hrl
  go_enter Try.func37, Try.ntmps37
  go_upto_region 2 with fail
  try rw [hW0]
  clear hW0
  obtain ⟨p3, hp3⟩ : ∃ p, w.heap.size = p := ⟨_, rfl⟩
  obtain ⟨p4, hp4⟩ : ∃ p, w.heap.size + 1 = p := ⟨_, rfl⟩
  obtain ⟨p6, hp6⟩ : ∃ p, w.heap.size + 1 + 1 = p := ⟨_, rfl⟩
  obtain ⟨p7, hp7⟩ : ∃ p, w.heap.size + 1 + 1 + 1 = p := ⟨_, rfl⟩
  have HJ1 : Hid (Jn w W0 p3 p4 p6 p7 (.slice (some ⟨b, off, none⟩) m1 cap) (.slice (some ⟨g, 0, none⟩) n n) (.slice none 0 0) (fun _ => nilT) 0) := by rw [← hp3, ← hp4, ← hp6, ← hp7]; exact HJ0
  have HP : Hid (w.heap.size ≤ p3) := by show _ ≤ _; omega
  rw [hp7, hp6, hp4, hp3]
  clear HJ0 hp3 hp4 hp6 hp7
  have b3 := cell_of_row _ _ 0 _ _ _ HJ1.out.b3
  go_upto_region 3 with fail
  clear b3
  -- the words outside
  go_loopw [22] (fun a wr => ∃ (i : Nat) (vo : Value), a = .int .i64 (i : Int) ∧ i ≤ m1 ∧ Jn w wr p3 p4 p6 p7 (.slice (some ⟨b, off, none⟩) m1 cap) (.slice (some ⟨g, 0, none⟩) n n) (.slice none 0 0) (upT (fun _ => nilT) 0 (vo, ns (fO R i))) 0) (fun a _ => m1 - (intOf a).toNat)
  case atStart => exact ⟨0, .slice none 0 0, rfl, Nat.zero_le _, by
    have e : upT (fun _ => nilT) 0 (.slice none 0 0, ns (fO R 0)) = fun _ => nilT := by
      funext j
      by_cases h : j = 0
      · subst h; rw [upT_same]; rfl
      · rw [upT_ne _ _ h]
    rw [e]
    exact HJ1.out⟩
  case round =>
    clear HJ1
    obtain ⟨i, vo, rfl, hi, hj⟩ := hrel
    have HJ : Hid (Jn w wr p3 p4 p6 p7 (.slice (some ⟨b, off, none⟩) m1 cap) (.slice (some ⟨g, 0, none⟩) n n) (.slice none 0 0) (upT (fun _ => nilT) 0 (vo, ns (fO R i))) 0) := hj
    clear hj
    by_cases hlt : i < m1
    · have hii : (i : Int) < (m1 : Int) := by omega
      have hib : i ≤ 1001 := by have := HN.out; omega
      have K47 := contains_any R i (.slice (some ⟨gr, 0, none⟩) rl rcap) wr (by have h := HR.out wr HJ.out.below; exact h) (by have := HG.out.2.2.2.2; omega)
      by_cases hm : i ∈ R
      · go_wp2_with (go_at_call 47; (with_reducible refine K47.mono ?_); clear K47; rintro e w5 ⟨z, rfl, hz, hb⟩; obtain rfl : z = true := hz.2 hm; have HJ2 : Hid (Jn w w5 p3 p4 p6 p7 (.slice (some ⟨b, off, none⟩) m1 cap) (.slice (some ⟨g, 0, none⟩) n n) (.slice none 0 0) (upT (fun _ => nilT) 0 (vo, ns (fO R i))) 0) := HJ.out.laid hb; clear hb hz)
        go_roundw
        case rel => exact ⟨i + 1, vo, by go_num, hlt, by rw [fO_in hm]; exact HJ2.out⟩
        case measure => simp [intOf]; omega
      · obtain ⟨ln, hln⟩ : ∃ k, (fO R i).length = k := ⟨_, rfl⟩
        have HLN : Hid ((fO R i).length = ln ∧ ln ≤ 1001) := ⟨hln, by have := fO_len R i; omega⟩
        obtain ⟨va, vc, rfl⟩ : ∃ a c, vo = .slice a ln c := by
          have h := HJ.out.ths.own 0
          rw [upT_same] at h
          obtain ⟨a, c, e⟩ := oslice h
          exact ⟨a, c, by rw [← hln, ← ns_length]; exact e⟩
        clear hln
        go_upto_region 6 with (go_at_call 47; (with_reducible refine K47.mono ?_); clear K47; rintro e w5 ⟨z, rfl, hz, hb⟩; obtain rfl : z = false := (by cases z with | false => rfl | true => exact absurd (hz.1 rfl) hm); have HJ2 : Hid (Jn w w5 p3 p4 p6 p7 (.slice (some ⟨b, off, none⟩) m1 cap) (.slice (some ⟨g, 0, none⟩) n n) (.slice none 0 0) (upT (fun _ => nilT) 0 (.slice va ln vc, ns (fO R i))) 0) := HJ.out.laid hb; clear hb hz)
        clear HJ
        have hrow : Hid (w5.ownsRow w.heap.size 3 1 (.slice va ln vc) ln (ns (fO R i))) := by
          have h := HJ2.out.ths.own 0
          rw [upT_same, ns_length, HLN.out.1] at h
          exact h
        have HSZ : Hid (w.heap.size ≤ w5.heap.size) := HJ2.out.below.size
        have b7 : w5.cell? ⟨p7, 1, none⟩ = some (.slice va ln vc) := cell_of_row _ _ 1 _ _ _ HJ2.out.b7
        go_wp2_with (refine wpList_append_own_at _ rfl _ _ 26 rfl w.heap.size 3 i3 (.int .i64 0) 1 8 Try.underlying26 hi3 hx0 hx1 hx2 rfl (by decide) _ _ _ rfl (hrow.out.alloc _) ⟨_, 0, none⟩ 1 1 [.int .i64 (i : Int)] rfl rfl (cell_one_new _ _ _) (sl_one _ rfl) (by unfold maxLen; (have := HLN.out.2; omega)) (by (have := HLN.out.2; omega)) (by have := HSZ.out; simp; omega) ?_; intro v7 w7 ho7 hg7 _ hl7; obtain ⟨g7, c7, rfl, _, _⟩ := own_some ho7 (Nat.succ_pos _); have hJL := HJ2.out.list (j := 0) (by decide) (below_al w5 (.cells #[.int .i64 (i : Int)] 3)) ho7 (by rw [List.length_append, ns_length, HLN.out.1]; rfl) hg7 hl7; have y7 := cell_of_row _ _ 1 _ _ _ hJL.1; have z7 := frozen_of_row _ _ 1 _ _ hJL.1; have HN7 : Hid (Jn w (w7.setCell ⟨p7, 1, none⟩ (.slice (some ⟨g7, 0, none⟩) (ln + 1) c7)) p3 p4 p6 p7 (.slice (some ⟨b, off, none⟩) m1 cap) (.slice (some ⟨g, 0, none⟩) n n) (.slice none 0 0) (upT (upT (fun _ => nilT) 0 (.slice va ln vc, ns (fO R i))) 0 (.slice (some ⟨g7, 0, none⟩) (ln + 1) c7, ns (fO R i) ++ [.int .i64 (i : Int)])) 0) := hJL.2; clear hJL; clear ho7 hg7 hl7)
        go_roundw
        case rel => exact ⟨i + 1, .slice (some ⟨g7, 0, none⟩) (ln + 1) c7, by go_num, hlt, by
          have e : upT (upT (fun _ => nilT) 0 (.slice va ln vc, ns (fO R i))) 0 (.slice (some ⟨g7, 0, none⟩) (ln + 1) c7, ns (fO R i) ++ [.int .i64 (i : Int)]) = upT (fun _ => nilT) 0 (.slice (some ⟨g7, 0, none⟩) (ln + 1) c7, ns (fO R (i + 1))) := by
            funext j
            by_cases h : j = 0
            · subst h; rw [upT_same, upT_same, fO_out hm, ns_snoc]; rfl
            · rw [upT_ne _ _ h, upT_ne _ _ h, upT_ne _ _ h]
          rw [← e]
          exact HN7.out⟩
        case measure => simp [intOf]; omega
    · have e9 : m1 = i := by omega
      subst e9
      have HO : Hid (Os n R (fO R m1)) := by have h := fO_os HG.out.1; rw [HN.out.1] at h; exact h
      obtain ⟨O, hO⟩ : ∃ O, fO R m1 = O := ⟨_, rfl⟩
      rw [hO] at HJ HO
      obtain ⟨m, hm⟩ : ∃ m, O.length = m + 1 := ⟨O.length - 1, by have h := HO.out.head; have := (List.getElem?_eq_some_iff.1 h).1; omega⟩
      have HM : Hid (O.length = m + 1 ∧ m + R.length = n) := ⟨hm, by
        have h := (words_perm HO.out HG.out.1 hm).length_eq
        rw [List.length_range', List.length_append, List.length_map, List.length_range'] at h
        omega⟩
      have hmb : m ≤ 1000 := by have := HM.out.2; have := HN.out; omega
      obtain ⟨bo, co, rfl⟩ : ∃ bo co, vo = .slice (some ⟨bo, 0, none⟩) (m + 1) co := by
        have h := HJ.out.ths.own 0
        rw [upT_same] at h
        obtain ⟨bo, co, e, _, _⟩ := own_some h (by rw [ns_length, hm]; omega)
        exact ⟨bo, co, by rw [← hm, ← ns_length]; exact e⟩
      have hco : m + 1 ≤ co := by
        have h := HJ.out.ths.own 0
        rw [upT_same, ns_length, hm] at h
        exact (own_cap h (by omega)).1
      clear hO hm hi
      obtain ⟨k, hk⟩ : ∃ k, m + 1 = k := ⟨_, rfl⟩
      have HK : Hid (m + 1 = k ∧ k ≤ co) := ⟨hk, by omega⟩
      rw [hk] at HJ
      have b7 : wr.cell? ⟨p7, 1, none⟩ = some (.slice (some ⟨bo, 0, none⟩) k co) := cell_of_row _ _ 1 _ _ _ HJ.out.b7
      obtain ⟨aq, haq⟩ : ∃ aq : Option Addr, (co = 1 → aq = some ⟨bo, 0, none⟩) ∧ (co ≠ 1 → aq = some ⟨bo, 1, none⟩) := by
        by_cases h : co = 1
        · exact ⟨some ⟨bo, 0, none⟩, fun _ => rfl, fun h2 => absurd h h2⟩
        · exact ⟨some ⟨bo, 1, none⟩, fun h2 => absurd h2 h, fun _ => rfl⟩
      have HAQ : Hid (((co = 1 → aq = some ⟨bo, 0, none⟩) ∧ (co ≠ 1 → aq = some ⟨bo, 1, none⟩)) ∧ (0 < m → aq = some ⟨bo, 1, none⟩)) := ⟨haq, fun h0 => haq.2 (by omega)⟩
      have HT0 : Hid (Jn w wr p3 p4 p6 p7 (.slice (some ⟨b, off, none⟩) m1 cap) (.slice (some ⟨g, 0, none⟩) n n) (.slice none 0 0) (upT (fun _ => nilT) 0 (.slice (some ⟨bo, 0, none⟩) k co, ns O)) 0) := HJ.out
      clear hk hco HJ haq
      go_upto_region 9 with fail
      clear b7
      -- the rows of scores
      go_loopw [39] (fun a wr => ∃ (hi : Nat) (vin vsc : Value) (I : List Nat) (T : Tm), a = .int .i64 (hi : Int) ∧ hi ≤ k ∧ Jn w wr p3 p4 p6 p7 (.slice (some ⟨b, off, none⟩) m1 cap) (.slice (some ⟨g, 0, none⟩) n n) vsc T hi ∧ T 0 = (.slice (some ⟨bo, 0, none⟩) k co, ns O) ∧ T 1 = (vin, ns I) ∧ I.length = hi ∧ T 2 = nilT ∧ T 3 = nilT ∧ Rb s (uv ul) R O m I T hi) (fun a _ => k - (intOf a).toNat)
      case atStart => exact ⟨0, .slice none 0 0, .slice none 0 0, [], _, rfl, Nat.zero_le _, HT0.out, upT_same _ _ _, upT_ne _ _ (by decide), rfl, upT_ne _ _ (by decide), upT_ne _ _ (by decide), fun h hh => absurd hh (Nat.not_lt_zero _)⟩
      case round =>
        clear HT0
        obtain ⟨hi, vin, vsc, I, TA, rfl, hik, hj, t0, t1, hil, t2, t3, hrb⟩ := hrel
        have HJ : Hid (Jn w wr p3 p4 p6 p7 (.slice (some ⟨b, off, none⟩) m1 cap) (.slice (some ⟨g, 0, none⟩) n n) vsc TA hi ∧ TA 0 = (.slice (some ⟨bo, 0, none⟩) k co, ns O) ∧ TA 1 = (vin, ns I) ∧ I.length = hi ∧ TA 2 = nilT ∧ TA 3 = nilT ∧ Rb s (uv ul) R O m I TA hi) := ⟨hj, t0, t1, hil, t2, t3, hrb⟩
        clear hj t0 t1 hil t2 t3 hrb
        by_cases hlt : hi < k
        · have hii : (hi : Int) < (k : Int) := by omega
          have hkb : k ≤ 1001 := by have := HK.out; omega
          obtain ⟨r, hr⟩ : ∃ r, O.getD hi 0 = r := ⟨_, rfl⟩
          have hrn : r ≤ n := by have := (HO.out.get (i := hi) (by have := HK.out; have := HM.out; omega)).1; omega
          have hOk : (ns O).length = k := by rw [ns_length]; have := HK.out; have := HM.out; omega
          have c0 : wr.cell? ⟨bo, hi, none⟩ = some (.int .i64 (r : Int)) := by
            rw [(HJ.out.1.o HJ.out.2.1 hOk).cellAt hi (by omega), ns_getD (by rw [ns_length] at hOk; omega), hr]
          have HRO : Hid (O.getD hi 0 = r) := hr
          have HJB : Hid _ := HJ.out.1.box (.int .i64 (r : Int))
          obtain ⟨T1, hT1⟩ : ∃ T1, upT TA 4 (.slice (some ⟨wr.heap.size, 0, none⟩) 1 1, [.int .i64 (r : Int)]) = T1 := ⟨_, rfl⟩
          obtain ⟨p10, hp10⟩ : ∃ p, wr.heap.size = p := ⟨_, rfl⟩
          have HT1 : Hid (Jn w (wr.alloc (.cells #[.int .i64 (r : Int)] 3)) p3 p4 p6 p7 (.slice (some ⟨b, off, none⟩) m1 cap) (.slice (some ⟨g, 0, none⟩) n n) vsc T1 hi ∧ T1 4 = (.slice (some ⟨p10, 0, none⟩) 1 1, [.int .i64 (r : Int)]) ∧ ∀ q, q ≠ 4 → T1 q = TA q) := ⟨hT1 ▸ HJB.out, by rw [← hT1, upT_same, hp10], fun q hq => by rw [← hT1, upT_ne _ _ hq]⟩
          clear HJB hT1 hr
          go_upto_region 12 with fail
          clear c0
          try rw [hp10]
          clear hp10
          generalize wr.alloc (.cells #[.int .i64 (r : Int)] 3) = W1 at *
          have b7 : W1.cell? ⟨p7, 1, none⟩ = some (.slice (some ⟨bo, 0, none⟩) k co) := by have h := cell_of_row _ _ 1 _ _ _ HT1.out.1.b7; rw [HT1.out.2.2 0 (by decide), HJ.out.2.1] at h; exact h
          have hk1 : (1 : Int) ≤ (k : Int) := by omega
          have hkm : k - 1 = m := by have := HK.out; omega
          have hkco : (k : Int) ≤ (co : Int) := by have := HK.out; omega
          go_cut [45, 46, 47] from 43 to 47 (fun a c d wx => a = .slice aq m (co - 1) ∧ c = .int .i64 (m : Int) ∧ d = .int .i64 0 ∧ wx = W1)
          case first =>
            by_cases hc1 : co = 1
            · obtain rfl := HAQ.out.1.1 hc1
              subst hc1
              have hm0 : m = 0 := by have := HK.out; omega
              go_wp2
              all_goals go_meet
              all_goals (case rel => simp_all)
            · obtain rfl := HAQ.out.1.2 hc1
              go_wp2
              all_goals go_meet
              all_goals (case rel => simp_all)
          case rest =>
            have h45 := hcut.1.symm
            have h46 := hcut.2.1.symm
            have h47 := hcut.2.2.1.symm
            have hwc := hcut.2.2.2.symm
            subst h45
            subst h46
            subst h47
            subst hwc
            clear hcut
            go_upto_region 13 with fail
            -- one row
            go_loopw [11, 47] (fun a c wr => ∃ (j : Nat) (vr : Value) (T : Tm), a = vr ∧ c = .int .i64 (j : Int) ∧ j ≤ m ∧ Jn w wr p3 p4 p6 p7 (.slice (some ⟨b, off, none⟩) m1 cap) (.slice (some ⟨g, 0, none⟩) n n) vsc T hi ∧ T 3 = (vr, ints (rw1 s O r j)) ∧ ∀ q, q ≠ 3 → T q = T1 q) (fun _ c _ => m - (intOf c).toNat)
            case atStart => exact ⟨0, .slice none 0 0, T1, rfl, rfl, Nat.zero_le _, HT1.out.1, by rw [HT1.out.2.2 3 (by decide), HJ.out.2.2.2.2.2.1]; rfl, fun q _ => rfl⟩
            case round =>
              obtain ⟨j, vr, T, ha, rfl, hjm, hj, t3, tq⟩ := hrel
              have ha2 := ha.symm
              subst ha2
              have HQ : Hid (Jn w wr p3 p4 p6 p7 (.slice (some ⟨b, off, none⟩) m1 cap) (.slice (some ⟨g, 0, none⟩) n n) vsc T hi ∧ T 3 = (vr, ints (rw1 s O r j)) ∧ ∀ q, q ≠ 3 → T q = T1 q) := ⟨hj, t3, tq⟩
              clear hj t3 tq
              have HT0 : Hid (T 0 = (.slice (some ⟨bo, 0, none⟩) k co, ns O)) := by show _ = _; rw [HQ.out.2.2 0 (by decide), HT1.out.2.2 0 (by decide), HJ.out.2.1]
              have HT4 : Hid (T 4 = (.slice (some ⟨p10, 0, none⟩) 1 1, [.int .i64 (r : Int)])) := by show _ = _; rw [HQ.out.2.2 4 (by decide)]; exact HT1.out.2.1
              have c4 : wr.cell? ⟨p10, 0, none⟩ = some (.int .i64 (r : Int)) := HQ.out.1.at4 HT4.out
              have b3 := cell_of_row _ _ 0 _ _ _ HQ.out.1.b3
              have hrow : Hid (wr.ownsRow w.heap.size 3 1 vr j (ints (rw1 s O r j))) := HQ.out.1.o HQ.out.2.1 (by rw [ints_len, rw1_len])
              obtain ⟨va, vc, rfl⟩ := oslice hrow.out
              have HSZ : Hid (w.heap.size ≤ wr.heap.size) := HQ.out.1.below.size
              by_cases hlj : j < m
              · obtain rfl := HAQ.out.2 (by omega)
                have hjj : (j : Int) < (m : Int) := by omega
                obtain ⟨x, hx⟩ : ∃ x, O.getD (j + 1) 0 = x := ⟨_, rfl⟩
                have hxp : 1 ≤ x := by have := HO.out.pos (i := j + 1) (by omega) (by have := HM.out; omega); omega
                have hxn : x ≤ n := by have := (HO.out.get (i := j + 1) (by have := HM.out; omega)).1; omega
                have c0 : wr.cell? ⟨bo, 1 + j, none⟩ = some (.int .i64 (x : Int)) := by
                  rw [Nat.add_comm 1 j, (HQ.out.1.o HT0.out hOk).cellAt (j + 1) (by have := HK.out; omega), ns_getD (by rw [ns_length] at hOk; have := HK.out; omega), hx]
                obtain ⟨x', hx'⟩ : ∃ y, x = y + 1 := ⟨x - 1, by omega⟩
                have HX : Hid (O.getD (j + 1) 0 = x ∧ x = x' + 1) := ⟨hx, hx'⟩
                have hnb : n ≤ 1000 := HN.out.2.1
                have wx : wrap64 ((x : Int) - 1) = (x' : Int) := by unfold wrap64; omega
                have hxi : (x' : Int) < (n : Int) := by omega
                have hrm : (r : Int) < (m1 : Int) := by have := HN.out; omega
                have hsc := HS.out wr HQ.out.1.below
                obtain ⟨rb, ro, e1, _, hcc⟩ := hsc.num r hrn (by omega)
                have c5 := hsc.row r hrn
                rw [e1] at c5
                have c6 := hcc x' (by omega)
                rw [← hx'] at c6
                obtain ⟨sx, hsx⟩ : ∃ y, s r x = y := ⟨_, rfl⟩
                rw [hsx] at c6
                have HSX : Hid (s r (O.getD (j + 1) 0) = sx) := by show _ = _; rw [hx, hsx]
                clear hsc e1 hcc hx hx' hsx hnb
                go_wp2_with (refine wpList_append_own_at _ rfl _ _ 26 rfl w.heap.size 3 i3 (.int .i64 0) 1 8 Try.underlying26 hi3 hx0 hx1 hx2 rfl (by decide) _ _ _ rfl (hrow.out.alloc _) ⟨_, 0, none⟩ 1 1 [.int .i64 sx] rfl rfl (cell_one_new _ _ _) (sl_one _ rfl) (by unfold maxLen; omega) (by omega) (by have := HSZ.out; simp; omega) ?_; intro v7 w7 ho7 hg7 _ hl7; obtain ⟨g7, c7, rfl, _, _⟩ := own_some ho7 (Nat.succ_pos _); have HN7 : Hid _ := HQ.out.1.row (below_al wr (.cells #[.int .i64 sx] 3)) ho7 (by rw [List.length_append, ints_len, rw1_len]; rfl) (by rw [HQ.out.2.1]; exact hg7) (by rw [HQ.out.2.1]; exact hl7); clear ho7 hg7 hl7)
                go_roundw
                case rel => exact ⟨j + 1, _, _, rfl, by go_num, hlj, HN7.out, by rw [upT_same, rw1_up, ints_snoc, HSX.out], fun q hq => by rw [upT_ne _ _ hq, HQ.out.2.2 q hq]⟩
                case measure => simp [intOf]; omega
              · have e9 : m = j := by omega
                subst e9
                clear c4 b3
                have HTW : Hid (Jn w wr p3 p4 p6 p7 (.slice (some ⟨b, off, none⟩) m1 cap) (.slice (some ⟨g, 0, none⟩) n n) vsc T hi ∧ T 0 = (.slice (some ⟨bo, 0, none⟩) k co, ns O) ∧ T 1 = (vin, ns I) ∧ T 2 = nilT ∧ T 4 = (.slice (some ⟨p10, 0, none⟩) 1 1, [.int .i64 (r : Int)]) ∧ T 3 = (.slice va m vc, ints (rw1 s O r m)) ∧ ∀ h, h < hi → T (5 + h) = TA (5 + h)) := ⟨HQ.out.1, HT0.out, by rw [HQ.out.2.2 1 (by decide), HT1.out.2.2 1 (by decide), HJ.out.2.2.1], by rw [HQ.out.2.2 2 (by decide), HT1.out.2.2 2 (by decide), HJ.out.2.2.2.2.1], HT4.out, HQ.out.2.1, fun h _ => by rw [HQ.out.2.2 _ (by omega), HT1.out.2.2 _ (by omega)]⟩
                clear HQ HT0 HT4 hrow HSZ
                have HM48 : Hid (∀ (W : World) (vsc : Value) (T : Tm) (q : Nat), Jn w W p3 p4 p6 p7 (.slice (some ⟨b, off, none⟩) m1 cap) (.slice (some ⟨g, 0, none⟩) n n) vsc T q → T 4 = (.slice (some ⟨p10, 0, none⟩) 1 1, [.int .i64 (r : Int)]) → ∀ x ∈ R, Calls Try.prog 48 #[.int .i64 (x : Int), .pointer (some ⟨p3, 0, none⟩), .pointer (some ⟨p10, 0, none⟩), .pointer (some ⟨p4, 0, none⟩)] W fun e W' => e = .returned (.int .i64 (gn s (uv ul) r x)) ∧ Below W.heap.size W W') := fun W vsc T q hj ht x hx => by
                  have hp := HG.out.1.pos x hx
                  refine more_any (ra := ra) (rc := rc) (b := b) (off := off) (n := n) (cap := cap) (s := s) (g := g) (ul := ul) r x W ⟨?_, hj.b4, HS.out W hj.below, HU.out W hj.below, Nat.lt_of_lt_of_le HGL.out hj.below.size⟩ (hj.at4 ht) hrn hp.1 hp.2 (HG.out.2.1.le x hp.1 hp.2) HG.out.2.2.1 HN.out.2.1
                  rw [HN.out.1]; exact hj.b3
                have K49 := first_more (gn s (uv ul) r) R (.slice (some ⟨gr, 0, none⟩) rl rcap) p3 p10 p4 wr (by have h := HR.out wr HTW.out.1.below; exact h) HG.out.2.2.2.1 (by have := HG.out.2.2.2.2; omega) (fun x hx W hW => HM48.out W _ _ _ (HTW.out.1.laid hW) HTW.out.2.2.2.2.1 x hx)
                go_upto_region 19 with (go_at_call 49; (with_reducible refine K49.mono ?_); clear K49; rintro e w5 ⟨x, rfl, hxm, hmx, hb⟩; have HX : Hid (x ∈ R ∧ ∀ y ∈ R, gn s (uv ul) r y ≤ gn s (uv ul) r x) := ⟨hxm, hmx⟩; have HJ5 : Hid (Jn w w5 p3 p4 p6 p7 (.slice (some ⟨b, off, none⟩) m1 cap) (.slice (some ⟨g, 0, none⟩) n n) vsc T hi) := HTW.out.1.laid hb; clear hxm hmx hb)
                obtain ⟨ia, ic, hvin⟩ := oslice (HJ5.out.o (n := hi) HTW.out.2.2.1 ((ns_length I).trans HJ.out.2.2.2.1))
                subst hvin
                have hrow : Hid (w5.ownsRow w.heap.size 3 1 (.slice ia hi ic) hi (ns I)) := HJ5.out.o HTW.out.2.2.1 ((ns_length I).trans HJ.out.2.2.2.1)
                have HSZ : Hid (w.heap.size ≤ w5.heap.size) := HJ5.out.below.size
                have b7 : w5.cell? ⟨p7, 2, none⟩ = some (.slice ia hi ic) := by have h := cell_of_row _ _ 2 _ _ _ HJ5.out.b7; rw [HTW.out.2.2.1] at h; exact h
                go_upto_region 20 with (refine wpList_append_own_at _ rfl _ _ 26 rfl w.heap.size 3 i3 (.int .i64 0) 1 8 Try.underlying26 hi3 hx0 hx1 hx2 rfl (by decide) _ _ _ rfl (hrow.out.alloc _) ⟨_, 0, none⟩ 1 1 [.int .i64 (x : Int)] rfl rfl (cell_one_new _ _ _) (sl_one _ rfl) (by unfold maxLen; omega) (by omega) (by have := HSZ.out; simp; omega) ?_; intro v7 w7 ho7 hg7 _ hl7; obtain ⟨g7, c7, rfl, _, _⟩ := own_some ho7 (Nat.succ_pos _); have hJL := HJ5.out.list (j := 1) (by decide) (below_al w5 (.cells #[.int .i64 (x : Int)] 3)) ho7 (by rw [List.length_append, ns_length, HJ.out.2.2.2.1]; rfl) (by rw [HTW.out.2.2.1]; exact hg7) (by rw [HTW.out.2.2.1]; exact hl7); have y7 := cell_of_row _ _ 2 _ _ _ hJL.1; have z7 := frozen_of_row _ _ 2 _ _ hJL.1; have HN7 : Hid (Jn w (w7.setCell ⟨p7, 2, none⟩ (.slice (some ⟨g7, 0, none⟩) (hi + 1) c7)) p3 p4 p6 p7 (.slice (some ⟨b, off, none⟩) m1 cap) (.slice (some ⟨g, 0, none⟩) n n) vsc (upT T 1 (.slice (some ⟨g7, 0, none⟩) (hi + 1) c7, ns I ++ [.int .i64 (x : Int)])) hi) := hJL.2; clear hJL ho7 hg7 hl7)
                clear b7 y7 z7 hrow HSZ HJ5
                generalize w7.setCell ⟨p7, 2, none⟩ (.slice (some ⟨g7, 0, none⟩) (hi + 1) c7) = W8 at *
                obtain ⟨T8, hT8⟩ : ∃ T8, upT T 1 (.slice (some ⟨g7, 0, none⟩) (hi + 1) c7, ns I ++ [.int .i64 (x : Int)]) = T8 := ⟨_, rfl⟩
                have HT8 : Hid (Jn w W8 p3 p4 p6 p7 (.slice (some ⟨b, off, none⟩) m1 cap) (.slice (some ⟨g, 0, none⟩) n n) vsc T8 hi ∧ T8 0 = (.slice (some ⟨bo, 0, none⟩) k co, ns O) ∧ T8 1 = (.slice (some ⟨g7, 0, none⟩) (hi + 1) c7, ns (I ++ [x])) ∧ T8 2 = nilT ∧ T8 4 = (.slice (some ⟨p10, 0, none⟩) 1 1, [.int .i64 (r : Int)]) ∧ T8 3 = (.slice va m vc, ints (rw1 s O r m)) ∧ ∀ h, h < hi → T8 (5 + h) = TA (5 + h)) := ⟨hT8 ▸ HN7.out, by rw [← hT8, upT_ne _ _ (by decide)]; exact HTW.out.2.1, by rw [← hT8, upT_same, ns_snoc]; rfl, by rw [← hT8, upT_ne _ _ (by decide)]; exact HTW.out.2.2.2.1, by rw [← hT8, upT_ne _ _ (by decide)]; exact HTW.out.2.2.2.2.1, by rw [← hT8, upT_ne _ _ (by decide)]; exact HTW.out.2.2.2.2.2.1, fun h hh => by rw [← hT8, upT_ne _ _ (by omega)]; exact HTW.out.2.2.2.2.2.2 h hh⟩
                clear HN7 hT8 HTW
                obtain ⟨gx, hgx⟩ : ∃ y, gn s (uv ul) r x = y := ⟨_, rfl⟩
                have HGX : Hid (gn s (uv ul) r x = gx) := hgx
                obtain ⟨sa, sc, hvs⟩ := oslice HT8.out.1.sc
                subst hvs
                have K48 := HM48.out
                clear hgx K48
                refine region_z (S := fun W => W.cell? ⟨p7, 0, none⟩ = some (.slice sa hi sc)) 11 (by kernel_rfl) (by exact cell_of_row _ _ 0 _ _ _ HT8.out.1.b7) (fun hHeld => ?_)
                have hS0 : W8.drew.cell? ⟨p7, 0, none⟩ = some (.slice sa hi sc) := hHeld
                have HJ0 : Hid (Jn w W8.drew p3 p4 p6 p7 (.slice (some ⟨b, off, none⟩) m1 cap) (.slice (some ⟨g, 0, none⟩) n n) (.slice sa hi sc) T8 hi) := HT8.out.1.laid (below_drewN (Below.refl _ _) 1)
                generalize hV0 : W8.drew = V0 at *
                clear hV0
                refine take_z (z := 11) (i := 0) (oi := { dst := some 73, op := Op.fieldAddr 47 (Operand.tmp 7) 0, type := 0, pos := "best.go:60", after := #[], guard := none }) (v := ?_) (by kernel_rfl) (by decide) rfl (by kernel_rfl) (by kernel_rfl) (by kernel_rfl) (fun _ _ _ h => h) (Or.inl ⟨by rfl, ?_⟩) (by assumption) ?_
                case refine_2 => intro w hSw; (try dsimp only at hSw); go_simp; (try with_reducible rfl)
                simp only [Act.put, List.setIfInBounds_toArray, List.set_cons_zero, List.set_cons_succ]
                refine take_z (z := 11) (i := 1) (oi := { dst := some 74, op := Op.load 22 (Operand.tmp 73), type := 22, pos := "best.go:60", after := #[{ on := 0, ground := Ground.data }], guard := none }) (v := ?_) (by kernel_rfl) (by decide) rfl (by kernel_rfl) (by kernel_rfl) (by kernel_rfl) (fun _ _ _ h => h) (Or.inl ⟨by rfl, ?_⟩) (by assumption) ?_
                case refine_2 => intro w hSw; (try dsimp only at hSw); go_simp; (try with_reducible rfl)
                simp only [Act.put, List.setIfInBounds_toArray, List.set_cons_zero, List.set_cons_succ]
                refine take_z (z := 11) (i := 2) (oi := { dst := some 75, op := Op.move (Operand.tmp 11), type := 26, pos := "best.go:60", after := #[], guard := none }) (v := ?_) (by kernel_rfl) (by decide) rfl (by kernel_rfl) (by kernel_rfl) (by kernel_rfl) (fun _ _ _ h => h) (Or.inl ⟨by rfl, ?_⟩) (by assumption) ?_
                case refine_2 => intro w hSw; (try dsimp only at hSw); go_simp; (try with_reducible rfl)
                simp only [Act.put, List.setIfInBounds_toArray, List.set_cons_zero, List.set_cons_succ]
                refine take_z (z := 11) (i := 3) (oi := { dst := some 76, op := Op.move (Operand.tmp 14), type := 69, pos := "best.go:60", after := #[], guard := none }) (v := ?_) (by kernel_rfl) (by decide) rfl (by kernel_rfl) (by kernel_rfl) (by kernel_rfl) (fun _ _ _ h => h) (Or.inl ⟨by rfl, ?_⟩) (by assumption) ?_
                case refine_2 => intro w hSw; (try dsimp only at hSw); go_simp; (try with_reducible rfl)
                simp only [Act.put, List.setIfInBounds_toArray, List.set_cons_zero, List.set_cons_succ]
                refine take_z (z := 11) (i := 4) (oi := { dst := some 77, op := Op.move (Operand.tmp 15), type := 3, pos := "best.go:60", after := #[], guard := none }) (v := ?_) (by kernel_rfl) (by decide) rfl (by kernel_rfl) (by kernel_rfl) (by kernel_rfl) (fun _ _ _ h => h) (Or.inl ⟨by rfl, ?_⟩) (by assumption) ?_
                case refine_2 => intro w hSw; (try dsimp only at hSw); go_simp; (try with_reducible rfl)
                simp only [Act.put, List.setIfInBounds_toArray, List.set_cons_zero, List.set_cons_succ]
                refine ready_z (rs := [5]) (by kernel_rfl) (by simp) ?_
                refine (AllZ.cons (o := { dst := some 78, op := Op.call { callee := Callee.value (Operand.tmp 76), args := #[Operand.tmp 77], argTypes := #[3] }, type := 3, pos := "best.go:60", after := #[{ on := 3, ground := Ground.data }, { on := 4, ground := Ground.data }], guard := none }) rfl (fun K hK => ?_) AllZ.nil)
                have K48 := HM48.out V0 _ _ _ HJ0.out HT8.out.2.2.2.2.1 x HX.out.1
                rw [HGX.out] at K48
                go_simp
                (with_reducible refine K48.mono ?_)
                clear K48
                rintro e1 V1 ⟨rfl, hb1⟩
                dsimp only
                have HJ1 : Hid (Jn w V1 p3 p4 p6 p7 (.slice (some ⟨b, off, none⟩) m1 cap) (.slice (some ⟨g, 0, none⟩) n n) (.slice sa hi sc) T8 hi) := HJ0.out.laid hb1
                have hS1 := (hb1.cell (World.block_lt_of_cell? _ _ hS0)).trans hS0
                clear hb1
                refine hK.out _ _ ?_ (fun hHeld => ?_)
                · first | exact hS4 | exact hS3 | exact hS2 | exact hS1
                clear hK K
                try simp only [Act.put, List.setIfInBounds_toArray, List.set_cons_zero, List.set_cons_succ]
                refine ready_z (rs := [6]) (by kernel_rfl) (by simp) ?_
                refine (AllZ.cons (o := { dst := some 79, op := Op.buildSlice 26 1 #[(0, Operand.tmp 78)], type := 26, pos := "best.go:60", after := #[{ on := 5, ground := Ground.data }], guard := none }) rfl (fun K hK => ?_) AllZ.nil)
                go_simp
                have HR2 : Hid ((V1.alloc (.cells #[.int .i64 gx] 3)).ownsRow w.heap.size 3 1 (.slice va m vc) m (ints (rw1 s O r m)) ∧ w.heap.size ≤ (V1.alloc (.cells #[.int .i64 gx] 3)).heap.size) := ⟨(HJ1.out.o HT8.out.2.2.2.2.2.1 (by rw [ints_len, rw1_len])).alloc _, by have := HJ1.out.below.size; simp; omega⟩
                have hS2 := ((below_al V1 (.cells #[.int .i64 gx] 3)).cell (World.block_lt_of_cell? _ _ hS1)).trans hS1
                refine hK.out _ _ ?_ (fun hHeld => ?_)
                · first | exact hS4 | exact hS3 | exact hS2 | exact hS1
                clear hK K
                try simp only [Act.put, List.setIfInBounds_toArray, List.set_cons_zero, List.set_cons_succ]
                refine ready_z (rs := [7]) (by kernel_rfl) (by simp) ?_
                refine (AllZ.cons (o := { dst := some 80, op := Op.call { callee := Callee.builtin Builtin.append, args := #[Operand.tmp 75, Operand.tmp 79], argTypes := #[26, 26] }, type := 26, pos := "best.go:60", after := #[{ on := 2, ground := Ground.data }, { on := 6, ground := Ground.data }, { on := 5, ground := Ground.chain }], guard := none }) rfl (fun K hK => ?_) AllZ.nil)
                refine step_append_at rfl (.tmp 75) (.tmp 79) 26 rfl w.heap.size 3 i3 (.int .i64 0) 1 8 Try.underlying26 hi3 hx0 hx1 hx2 rfl (by decide) (.slice va m vc) m _ rfl HR2.out.1 ⟨V1.heap.size, 0, none⟩ 1 1 [.int .i64 gx] rfl rfl (cell_one_new _ _ _) (sl_one _ rfl) (by unfold maxLen; omega) (by omega) HR2.out.2 ?_
                intro v8 w8 ho8 hg8 hl8
                obtain ⟨g8, c8, rfl, _, _⟩ := own_some ho8 (Nat.succ_pos _)
                have HJ3 : Hid (Jn w w8 p3 p4 p6 p7 (.slice (some ⟨b, off, none⟩) m1 cap) (.slice (some ⟨g, 0, none⟩) n n) (.slice sa hi sc) (upT T8 3 ((.slice (some ⟨g8, 0, none⟩) (m + 1) c8), ints (rw1 s O r m) ++ [.int .i64 gx])) hi) := HJ1.out.row (below_al V1 (.cells #[.int .i64 gx] 3)) ho8 (by rw [List.length_append, ints_len, rw1_len]; rfl) (by rw [HT8.out.2.2.2.2.2.1]; exact hg8) (by rw [HT8.out.2.2.2.2.2.1]; exact hl8)
                have hS3 : w8.cell? ⟨p7, 0, none⟩ = some (.slice sa hi sc) := cell_of_row _ _ 0 _ _ _ HJ3.out.b7
                clear ho8 hg8 hl8
                refine hK.out _ _ ?_ (fun hHeld => ?_)
                · first | exact hS4 | exact hS3 | exact hS2 | exact hS1
                clear hK K
                try simp only [Act.put, List.setIfInBounds_toArray, List.set_cons_zero, List.set_cons_succ]
                refine ready_z (rs := [8]) (by kernel_rfl) (by simp) ?_
                refine (AllZ.cons (o := { dst := some 81, op := Op.buildSlice 22 1 #[(0, Operand.tmp 80)], type := 22, pos := "best.go:60", after := #[{ on := 7, ground := Ground.data }], guard := none }) rfl (fun K hK => ?_) AllZ.nil)
                go_simp
                have HR4 : Hid ((w8.alloc (.cells #[(.slice (some ⟨g8, 0, none⟩) (m + 1) c8)] 26)).ownsRow w.heap.size 26 1 (.slice sa hi sc) hi ((List.range hi).map fun h => (upT T8 3 ((.slice (some ⟨g8, 0, none⟩) (m + 1) c8), ints (rw1 s O r m) ++ [.int .i64 gx]) (5 + h)).1) ∧ w.heap.size ≤ (w8.alloc (.cells #[(.slice (some ⟨g8, 0, none⟩) (m + 1) c8)] 26)).heap.size) := ⟨HJ3.out.sc.alloc _, by have := HJ3.out.below.size; simp; omega⟩
                have hS4 := ((below_al w8 (.cells #[(.slice (some ⟨g8, 0, none⟩) (m + 1) c8)] 26)).cell (World.block_lt_of_cell? _ _ hS3)).trans hS3
                refine hK.out _ _ ?_ (fun hHeld => ?_)
                · first | exact hS4 | exact hS3 | exact hS2 | exact hS1
                clear hK K
                try simp only [Act.put, List.setIfInBounds_toArray, List.set_cons_zero, List.set_cons_succ]
                refine ready_z (rs := [9]) (by kernel_rfl) (by simp) ?_
                refine (AllZ.cons (o := { dst := some 82, op := Op.call { callee := Callee.builtin Builtin.append, args := #[Operand.tmp 74, Operand.tmp 81], argTypes := #[22, 22] }, type := 22, pos := "best.go:60", after := #[{ on := 1, ground := Ground.data }, { on := 8, ground := Ground.data }, { on := 7, ground := Ground.chain }], guard := none }) rfl (fun K hK => ?_) AllZ.nil)
                refine step_append_at rfl (.tmp 74) (.tmp 81) 22 rfl w.heap.size 26 i26 (.slice none 0 0) 1 24 Try.underlying22 hi26 hv0 hv1 hv2 rfl (by decide) (.slice sa hi sc) hi _ rfl HR4.out.1 ⟨w8.heap.size, 0, none⟩ 1 1 [(.slice (some ⟨g8, 0, none⟩) (m + 1) c8)] rfl rfl (cell_one_new _ _ _) (sl_one _ rfl) (by unfold maxLen; omega) (by omega) HR4.out.2 ?_
                intro v9 w9 ho9 hg9 hl9
                obtain ⟨g9, c9, rfl, _, _⟩ := own_some ho9 (Nat.succ_pos _)
                have hJP := HJ3.out.push (upT_same _ _ _) (below_al w8 (.cells #[(.slice (some ⟨g8, 0, none⟩) (m + 1) c8)] 26)) ho9 hg9 hl9
                have y9 := cell_of_row _ _ 0 _ _ _ hJP.1
                have f9 := frozen_of_row _ _ 0 _ _ hJP.1
                have HN9 : Hid (Jn w (w9.setCell ⟨p7, 0, none⟩ (.slice (some ⟨g9, 0, none⟩) (hi + 1) c9)) p3 p4 p6 p7 (.slice (some ⟨b, off, none⟩) m1 cap) (.slice (some ⟨g, 0, none⟩) n n) (.slice (some ⟨g9, 0, none⟩) (hi + 1) c9) (upT (upT (upT T8 3 ((.slice (some ⟨g8, 0, none⟩) (m + 1) c8), ints (rw1 s O r m) ++ [.int .i64 gx])) (5 + hi) (upT T8 3 ((.slice (some ⟨g8, 0, none⟩) (m + 1) c8), ints (rw1 s O r m) ++ [.int .i64 gx]) 3)) 3 (.slice none 0 0, [])) (hi + 1)) := hJP.2
                clear ho9 hg9 hl9 hJP
                refine hK.out _ _ ?_ (fun hHeld => ?_)
                · exact y9
                clear hK K
                try simp only [Act.put, List.setIfInBounds_toArray, List.set_cons_zero, List.set_cons_succ]
                refine take_z (z := 11) (i := 10) (oi := { dst := some 83, op := Op.fieldAddr 47 (Operand.tmp 7) 0, type := 0, pos := "best.go:60", after := #[{ on := 0, ground := Ground.phase }, { on := 1, ground := Ground.phase }, { on := 2, ground := Ground.phase }, { on := 3, ground := Ground.phase }, { on := 4, ground := Ground.phase }, { on := 5, ground := Ground.phase }, { on := 6, ground := Ground.phase }, { on := 7, ground := Ground.phase }, { on := 8, ground := Ground.phase }, { on := 9, ground := Ground.phase }], guard := none }) (v := ?_) (by kernel_rfl) (by decide) rfl (by kernel_rfl) (by kernel_rfl) (by kernel_rfl) (fun _ _ _ h => h) (Or.inl ⟨by rfl, ?_⟩) (by assumption) ?_
                case refine_2 => intro w hSw; (try dsimp only at hSw); go_simp; (try with_reducible rfl)
                simp only [Act.put, List.setIfInBounds_toArray, List.set_cons_zero, List.set_cons_succ]
                refine ready_z (rs := [11]) (by kernel_rfl) (by simp) ?_
                refine (AllZ.last (o := { dst := none, op := Op.store 22 (Operand.tmp 83) (Operand.tmp 82), type := 0, pos := "best.go:60", after := #[{ on := 10, ground := Ground.data }, { on := 9, ground := Ground.data }, { on := 9, ground := Ground.chain }, { on := 0, ground := Ground.phase }, { on := 1, ground := Ground.phase }, { on := 2, ground := Ground.phase }, { on := 3, ground := Ground.phase }, { on := 4, ground := Ground.phase }, { on := 5, ground := Ground.phase }, { on := 6, ground := Ground.phase }, { on := 7, ground := Ground.phase }, { on := 8, ground := Ground.phase }, { on := 9, ground := Ground.phase }], guard := none }) rfl (fun K hK => ?_) AllZ.nil)
                go_simp
                clear y9 f9
                refine hK.out _ _ ?_
                clear hK K
                try simp only [Act.put, List.setIfInBounds_toArray, List.set_cons_zero, List.set_cons_succ]
                refine done_z (by kernel_rfl) ?_ _
                clear hS0 hS1 hS2 hS3 hS4
                go_wp2
                go_roundw
                case rel =>
                  refine ⟨hi + 1, (.slice (some ⟨g7, 0, none⟩) (hi + 1) c7), (.slice (some ⟨g9, 0, none⟩) (hi + 1) c9), I ++ [x], _, by go_num, hlt, HN9.out, ?_, ?_, by rw [List.length_append, HJ.out.2.2.2.1]; rfl, ?_, upT_same _ _ _, fun h hh => ?_⟩
                  · rw [upT_ne _ _ (by decide), upT_ne _ _ (by omega), upT_ne _ _ (by decide)]; exact HT8.out.2.1
                  · rw [upT_ne _ _ (by decide), upT_ne _ _ (by omega), upT_ne _ _ (by decide)]; exact HT8.out.2.2.1
                  · rw [upT_ne _ _ (by decide), upT_ne _ _ (by omega), upT_ne _ _ (by decide)]; exact HT8.out.2.2.2.1
                  · by_cases e : h = hi
                    · subst e
                      rw [upT_ne _ _ (by omega), upT_same, upT_same, getD_snoc HJ.out.2.2.2.1, HRO.out, HGX.out]
                      exact ⟨HX.out.1, by rw [← HGX.out]; exact HX.out.2, (ints_snoc _ _).symm⟩
                    · have hlh : h < hi := by omega
                      have hb := HJ.out.2.2.2.2.2.2 h hlh
                      rw [upT_ne _ _ (by omega), upT_ne _ _ (by omega), upT_ne _ _ (by omega), HT8.out.2.2.2.2.2.2 h hlh, getD_app (by rw [HJ.out.2.2.2.1]; exact hlh)]
                      exact hb
                case measure => simp [intOf]; omega
        · have e9 : k = hi := by omega
          subst e9
          have hkb : k ≤ 1001 := by have := HK.out; omega
          have hk1 : (1 : Int) ≤ (k : Int) := by have := HK.out; omega
          have hkm : k - 1 = m := by have := HK.out; omega
          have hkco : (k : Int) ≤ (co : Int) := by have := HK.out; omega
          have hOk : (ns O).length = k := by rw [ns_length]; have := HK.out; have := HM.out; omega
          have b7 : wr.cell? ⟨p7, 1, none⟩ = some (.slice (some ⟨bo, 0, none⟩) k co) := by have h := cell_of_row _ _ 1 _ _ _ HJ.out.1.b7; rw [HJ.out.2.1] at h; exact h
          go_upto_region 23 with fail
          go_cut [87, 88, 89] from 85 to 89 (fun a c d wx => a = .slice aq m (co - 1) ∧ c = .int .i64 (m : Int) ∧ d = .int .i64 0 ∧ wx = wr)
          case first =>
            by_cases hc1 : co = 1
            · obtain rfl := HAQ.out.1.1 hc1
              subst hc1
              have hm0 : m = 0 := by have := HK.out; omega
              go_wp2
              all_goals go_meet
              all_goals (case rel => simp_all)
            · obtain rfl := HAQ.out.1.2 hc1
              go_wp2
              all_goals go_meet
              all_goals (case rel => simp_all)
          case rest =>
            have h45 := hcut.1.symm
            have h46 := hcut.2.1.symm
            have h47 := hcut.2.2.1.symm
            have hwc := hcut.2.2.2.symm
            subst h45
            subst h46
            subst h47
            subst hwc
            clear hcut b7 hk1 hkco
            go_upto_region 24 with fail
            go_loopw [16, 89] (fun a c wr => ∃ (j : Nat) (vr vx : Value) (X : List Nat) (T : Tm), a = vr ∧ c = .int .i64 (j : Int) ∧ j ≤ m ∧ Jn w wr p3 p4 p6 p7 (.slice (some ⟨b, off, none⟩) m1 cap) (.slice (some ⟨g, 0, none⟩) n n) vsc T k ∧ T 3 = (vr, ints (rw2 s O X j)) ∧ T 2 = (vx, ns X) ∧ X.length = j ∧ (∀ q, q ≠ 2 → q ≠ 3 → q ≠ 4 → T q = TA q) ∧ Xb s R O X j) (fun _ c _ => m - (intOf c).toNat)
            case atStart => exact ⟨0, .slice none 0 0, .slice none 0 0, [], TA, rfl, rfl, Nat.zero_le _, HJ.out.1, HJ.out.2.2.2.2.2.1, HJ.out.2.2.2.2.1, rfl, fun q _ _ _ => rfl, fun i hi => absurd hi (Nat.not_lt_zero _)⟩
            case round =>
              obtain ⟨j, vr, vx, X, T, ha, rfl, hjm, hj, t3, t2, hxl, tq, hxb⟩ := hrel
              have ha2 := ha.symm
              subst ha2
              have HQ : Hid (Jn w wr p3 p4 p6 p7 (.slice (some ⟨b, off, none⟩) m1 cap) (.slice (some ⟨g, 0, none⟩) n n) vsc T k ∧ T 3 = (vr, ints (rw2 s O X j)) ∧ T 2 = (vx, ns X) ∧ X.length = j ∧ (∀ q, q ≠ 2 → q ≠ 3 → q ≠ 4 → T q = TA q) ∧ Xb s R O X j) := ⟨hj, t3, t2, hxl, tq, hxb⟩
              clear hj t3 t2 hxl tq hxb
              have HT0 : Hid (T 0 = (.slice (some ⟨bo, 0, none⟩) k co, ns O)) := by show _ = _; rw [HQ.out.2.2.2.2.1 0 (by decide) (by decide) (by decide), HJ.out.2.1]
              obtain ⟨va, vc, hva⟩ := oslice (HQ.out.1.o (n := j) HQ.out.2.1 (by rw [ints_len, rw2_len]))
              subst hva
              obtain ⟨xa, xc, hxa⟩ := oslice (HQ.out.1.o (n := j) HQ.out.2.2.1 ((ns_length X).trans HQ.out.2.2.2.1))
              subst hxa
              by_cases hlj : j < m
              · obtain rfl := HAQ.out.2 (by omega)
                have hjj : (j : Int) < (m : Int) := by omega
                obtain ⟨x, hx⟩ : ∃ x, O.getD (j + 1) 0 = x := ⟨_, rfl⟩
                have hxp : 1 ≤ x := by have := HO.out.pos (i := j + 1) (by omega) (by have := HM.out; omega); omega
                have hxn : x ≤ n := by have := (HO.out.get (i := j + 1) (by have := HM.out; omega)).1; omega
                have c0 : wr.cell? ⟨bo, 1 + j, none⟩ = some (.int .i64 (x : Int)) := by
                  rw [Nat.add_comm 1 j, (HQ.out.1.o HT0.out hOk).cellAt (j + 1) (by have := HK.out; omega), ns_getD (by rw [ns_length] at hOk; have := HK.out; omega), hx]
                have HXX : Hid (O.getD (j + 1) 0 = x) := hx
                have HJB : Hid _ := HQ.out.1.box (.int .i64 (x : Int))
                obtain ⟨T1, hT1⟩ : ∃ T1, upT T 4 (.slice (some ⟨wr.heap.size, 0, none⟩) 1 1, [.int .i64 (x : Int)]) = T1 := ⟨_, rfl⟩
                obtain ⟨p18, hp18⟩ : ∃ p, wr.heap.size = p := ⟨_, rfl⟩
                have HT1 : Hid (Jn w (wr.alloc (.cells #[.int .i64 (x : Int)] 3)) p3 p4 p6 p7 (.slice (some ⟨b, off, none⟩) m1 cap) (.slice (some ⟨g, 0, none⟩) n n) vsc T1 k ∧ T1 4 = (.slice (some ⟨p18, 0, none⟩) 1 1, [.int .i64 (x : Int)]) ∧ ∀ q, q ≠ 4 → T1 q = T q) := ⟨hT1 ▸ HJB.out, by rw [← hT1, upT_same, hp18], fun q hq => by rw [← hT1, upT_ne _ _ hq]⟩
                clear HJB hT1 hx
                go_upto_region 26 with fail
                clear c0
                try rw [hp18]
                clear hp18
                generalize wr.alloc (.cells #[.int .i64 (x : Int)] 3) = W1 at *
                have HM50 : Hid (∀ (W : World) (vsc : Value) (T : Tm) (q : Nat), Jn w W p3 p4 p6 p7 (.slice (some ⟨b, off, none⟩) m1 cap) (.slice (some ⟨g, 0, none⟩) n n) vsc T q → T 4 = (.slice (some ⟨p18, 0, none⟩) 1 1, [.int .i64 (x : Int)]) → ∀ r ∈ R, Calls Try.prog 50 #[.int .i64 (r : Int), .pointer (some ⟨p3, 0, none⟩), .pointer (some ⟨p18, 0, none⟩)] W fun e W' => e = .returned (.int .i64 (s r x)) ∧ Below W.heap.size W W') := fun W vsc T q hj ht r hr => by
                  have hp := HG.out.1.pos r hr
                  refine from_any (ra := ra) (rc := rc) (b := b) (off := off) (n := n) (cap := cap) (s := s) (g := g) (ul := ul) (pu := p4) r x W ⟨?_, hj.b4, HS.out W hj.below, HU.out W hj.below, Nat.lt_of_lt_of_le HGL.out hj.below.size⟩ (hj.at4 ht) hp.2 hxp hxn HN.out.2.1
                  rw [HN.out.1]; exact hj.b3
                have K49 := first_from (fun r => s r x) R (.slice (some ⟨gr, 0, none⟩) rl rcap) p3 p18 W1 (by have h := HR.out W1 HT1.out.1.below; exact h) HG.out.2.2.2.1 (by have := HG.out.2.2.2.2; omega) (fun r hr W hW => HM50.out W _ _ _ (HT1.out.1.laid hW) HT1.out.2.1 r hr)
                go_upto_region 27 with (go_at_call 49; (with_reducible refine K49.mono ?_); clear K49; rintro e w5 ⟨r, rfl, hrm, hmx, hb⟩; have HX : Hid (r ∈ R ∧ ∀ y ∈ R, s y x ≤ s r x) := ⟨hrm, hmx⟩; have HJ5 : Hid (Jn w w5 p3 p4 p6 p7 (.slice (some ⟨b, off, none⟩) m1 cap) (.slice (some ⟨g, 0, none⟩) n n) vsc T1 k) := HT1.out.1.laid hb; clear hrm hmx hb)
                clear HM50
                have HTX : Hid (T1 2 = (.slice xa j xc, ns X)) := by show _ = _; rw [HT1.out.2.2 2 (by decide)]; exact HQ.out.2.2.1
                have hrow : Hid (w5.ownsRow w.heap.size 3 1 (.slice xa j xc) j (ns X)) := HJ5.out.o HTX.out ((ns_length X).trans HQ.out.2.2.2.1)
                have HSZ : Hid (w.heap.size ≤ w5.heap.size) := HJ5.out.below.size
                have b7 : w5.cell? ⟨p7, 3, none⟩ = some (.slice xa j xc) := by have h := cell_of_row _ _ 3 _ _ _ HJ5.out.b7; rw [HTX.out] at h; exact h
                go_upto_region 28 with (refine wpList_append_own_at _ rfl _ _ 26 rfl w.heap.size 3 i3 (.int .i64 0) 1 8 Try.underlying26 hi3 hx0 hx1 hx2 rfl (by decide) _ _ _ rfl (hrow.out.alloc _) ⟨_, 0, none⟩ 1 1 [.int .i64 (r : Int)] rfl rfl (cell_one_new _ _ _) (sl_one _ rfl) (by unfold maxLen; omega) (by omega) (by have := HSZ.out; simp; omega) ?_; intro v7 w7 ho7 hg7 _ hl7; obtain ⟨g7, c7, rfl, _, _⟩ := own_some ho7 (Nat.succ_pos _); have hJL := HJ5.out.list (j := 2) (by decide) (below_al w5 (.cells #[.int .i64 (r : Int)] 3)) ho7 (by rw [List.length_append, ns_length, HQ.out.2.2.2.1]; rfl) (by rw [HTX.out]; exact hg7) (by rw [HTX.out]; exact hl7); have y7 := cell_of_row _ _ 3 _ _ _ hJL.1; have z7 := frozen_of_row _ _ 3 _ _ hJL.1; have HN7 : Hid (Jn w (w7.setCell ⟨p7, 3, none⟩ (.slice (some ⟨g7, 0, none⟩) (j + 1) c7)) p3 p4 p6 p7 (.slice (some ⟨b, off, none⟩) m1 cap) (.slice (some ⟨g, 0, none⟩) n n) vsc (upT T1 2 (.slice (some ⟨g7, 0, none⟩) (j + 1) c7, ns X ++ [.int .i64 (r : Int)])) k) := hJL.2; clear hJL ho7 hg7 hl7)
                clear b7 y7 z7 hrow HSZ HJ5
                generalize w7.setCell ⟨p7, 3, none⟩ (.slice (some ⟨g7, 0, none⟩) (j + 1) c7) = W8 at *
                obtain ⟨T8, hT8⟩ : ∃ T8, upT T1 2 (.slice (some ⟨g7, 0, none⟩) (j + 1) c7, ns X ++ [.int .i64 (r : Int)]) = T8 := ⟨_, rfl⟩
                have HT8 : Hid (Jn w W8 p3 p4 p6 p7 (.slice (some ⟨b, off, none⟩) m1 cap) (.slice (some ⟨g, 0, none⟩) n n) vsc T8 k ∧ T8 2 = (.slice (some ⟨g7, 0, none⟩) (j + 1) c7, ns (X ++ [r])) ∧ T8 4 = (.slice (some ⟨p18, 0, none⟩) 1 1, [.int .i64 (x : Int)]) ∧ T8 3 = (.slice va j vc, ints (rw2 s O X j)) ∧ ∀ q, q ≠ 2 → q ≠ 3 → q ≠ 4 → T8 q = TA q) := ⟨hT8 ▸ HN7.out, by rw [← hT8, upT_same, ns_snoc]; rfl, by rw [← hT8, upT_ne _ _ (by decide)]; exact HT1.out.2.1, by rw [← hT8, upT_ne _ _ (by decide), HT1.out.2.2 3 (by decide)]; exact HQ.out.2.1, fun q h2 h3 h4 => by rw [← hT8, upT_ne _ _ h2, HT1.out.2.2 q h4]; exact HQ.out.2.2.2.2.1 q h2 h3 h4⟩
                clear HN7 hT8 HT1 HTX
                have hrp := HG.out.1.pos r HX.out.1
                obtain ⟨x', hx'⟩ : ∃ y, x = y + 1 := ⟨x - 1, by omega⟩
                have hnb : n ≤ 1000 := HN.out.2.1
                have wx : IntKind.i64.wrap ((x : Int) - 1) = (x' : Int) := by rw [IntKind.wrap_i64]; omega
                have hxi : (x' : Int) < (n : Int) := by omega
                have hrm : (r : Int) < (m1 : Int) := by have := HN.out; omega
                obtain ⟨rb, ro, e1, _, _⟩ := (HS.out W8 HT8.out.1.below).num r hrp.2 (by omega)
                obtain ⟨sx, hsx⟩ : ∃ y, s r x = y := ⟨_, rfl⟩
                obtain ⟨qc, hqc⟩ : ∃ y, rc r = y := ⟨_, rfl⟩
                have HSX : Hid (s r x = sx) := hsx
                have hne4 : ∀ b, (T8 3).1.ownBlock = some b → b ≠ p18 := fun b hb e => HT8.out.1.ths.sep 3 4 b (by decide) hb (by rw [HT8.out.2.2.1, e]; rfl)
                have HBX : Hid (∀ W, Kp (fun b => (T8 3).1.ownBlock = some b) W8 W → W.cell? ⟨p3, 0, none⟩ = some (.slice (some ⟨b, off, none⟩) m1 cap) ∧ W.cell? ⟨b, off + r, none⟩ = some (.slice (some ⟨rb, ro, none⟩) n qc) ∧ W.cell? ⟨p18, 0, none⟩ = some (.int .i64 (x : Int)) ∧ W.cell? ⟨rb, ro + x', none⟩ = some (.int .i64 sx)) := fun W hW => by
                  have hbW : Below w.heap.size w W := below_kp HT8.out.1.below hW (fun b hb e => by have := ((HT8.out.1.ths.own 3).lt b e).1; omega)
                  have hs := HS.out W hbW
                  obtain ⟨rb2, ro2, f1, _, hcc⟩ := hs.num r hrp.2 (by omega)
                  rw [e1] at f1
                  cases f1
                  have h1 := hs.row r hrp.2
                  rw [e1, hqc] at h1
                  have h2 := hcc x' (by omega)
                  rw [← hx', hsx] at h2
                  have h3 := HT8.out.1.at4 HT8.out.2.2.1
                  refine ⟨cell_of_row _ _ 0 _ _ _ ((hW.block _ (lt_at HT8.out.1.b3) (fun e => ?_)).trans HT8.out.1.b3), h1, (Kp.cell hW (World.block_lt_of_cell? _ _ h3) (fun e => hne4 _ e rfl)).trans h3, h2⟩
                  obtain ⟨d, hd⟩ := own_ty (HT8.out.1.ths.own 3) e
                  exact ty_ne hd HT8.out.1.b3 (by decide)
                clear e1 hsx hqc hne4 hx' hnb
                have HCE : Hid _ := fun (W : World) (hSw : Kp (fun b => (T8 3).1.ownBlock = some b) W8 W) => (And.intro ((HBX.out W hSw).1) (And.intro ((HBX.out W hSw).2.1) (And.intro ((HBX.out W hSw).2.2.1) ((HBX.out W hSw).2.2.2))))
                refine wp_region_held_drew (S := fun W => Kp (fun b => (T8 3).1.ownBlock = some b) W8 W) (by kernel_rfl) (by exact (Kp.refl _ W8).drewN 1) (fun hHeld => ?_)
                have hS0 := hHeld
                have HJ0 : Hid (Jn w W8.drew p3 p4 p6 p7 (.slice (some ⟨b, off, none⟩) m1 cap) (.slice (some ⟨g, 0, none⟩) n n) vsc T8 k) := HT8.out.1.laid (below_drewN (Below.refl _ _) 1)
                generalize hV0 : W8.drew = V0 at *
                clear hV0
                refine wpAnyH_take (i := 0) (oi := { dst := some 102, op := Op.move (Operand.tmp 16), type := 26, pos := "best.go:66", after := #[], guard := none }) (v := ?_) rfl (by kernel_rfl) (by kernel_rfl) (by kernel_rfl) (fun _ _ _ h => h) (Or.inl ⟨by rfl, ?_⟩) (by assumption) ?_
                case refine_2 => intro w hSw; (try dsimp only at hSw); obtain ⟨z0, z1, z2, z3⟩ := HCE.out _ hSw; go_simp; (try with_reducible rfl)
                simp only [Act.put, List.setIfInBounds_toArray, List.set_cons_zero, List.set_cons_succ]
                refine wpAnyH_take (i := 1) (oi := { dst := some 103, op := Op.load 22 (Operand.tmp 3), type := 22, pos := "best.go:66", after := #[], guard := none }) (v := ?_) rfl (by kernel_rfl) (by kernel_rfl) (by kernel_rfl) (fun _ _ _ h => h) (Or.inl ⟨by rfl, ?_⟩) (by assumption) ?_
                case refine_2 => intro w hSw; (try dsimp only at hSw); obtain ⟨z0, z1, z2, z3⟩ := HCE.out _ hSw; go_simp; (try with_reducible rfl)
                simp only [Act.put, List.setIfInBounds_toArray, List.set_cons_zero, List.set_cons_succ]
                refine wpAnyH_take (i := 2) (oi := { dst := some 104, op := Op.move (Operand.tmp 19), type := 3, pos := "best.go:66", after := #[], guard := none }) (v := ?_) rfl (by kernel_rfl) (by kernel_rfl) (by kernel_rfl) (fun _ _ _ h => h) (Or.inl ⟨by rfl, ?_⟩) (by assumption) ?_
                case refine_2 => intro w hSw; (try dsimp only at hSw); obtain ⟨z0, z1, z2, z3⟩ := HCE.out _ hSw; go_simp; (try with_reducible rfl)
                simp only [Act.put, List.setIfInBounds_toArray, List.set_cons_zero, List.set_cons_succ]
                refine wpAnyH_take (i := 3) (oi := { dst := some 105, op := Op.indexAddr 22 (Operand.tmp 103) (Operand.tmp 104), type := 0, pos := "best.go:66", after := #[{ on := 1, ground := Ground.data }, { on := 2, ground := Ground.data }], guard := none }) (v := ?_) rfl (by kernel_rfl) (by kernel_rfl) (by kernel_rfl) (fun _ _ _ h => h) (Or.inl ⟨by rfl, ?_⟩) (by assumption) ?_
                case refine_2 => intro w hSw; (try dsimp only at hSw); obtain ⟨z0, z1, z2, z3⟩ := HCE.out _ hSw; go_simp; (try with_reducible rfl)
                simp only [Act.put, List.setIfInBounds_toArray, List.set_cons_zero, List.set_cons_succ]
                refine wpAnyH_take (i := 4) (oi := { dst := some 106, op := Op.load 26 (Operand.tmp 105), type := 26, pos := "best.go:66", after := #[{ on := 3, ground := Ground.data }], guard := none }) (v := ?_) rfl (by kernel_rfl) (by kernel_rfl) (by kernel_rfl) (fun _ _ _ h => h) (Or.inl ⟨by rfl, ?_⟩) (by assumption) ?_
                case refine_2 => intro w hSw; (try dsimp only at hSw); obtain ⟨z0, z1, z2, z3⟩ := HCE.out _ hSw; go_simp; (try with_reducible rfl)
                simp only [Act.put, List.setIfInBounds_toArray, List.set_cons_zero, List.set_cons_succ]
                refine wpAnyH_take (i := 5) (oi := { dst := some 107, op := Op.load 3 (Operand.tmp 18), type := 3, pos := "best.go:66", after := #[], guard := none }) (v := ?_) rfl (by kernel_rfl) (by kernel_rfl) (by kernel_rfl) (fun _ _ _ h => h) (Or.inl ⟨by rfl, ?_⟩) (by assumption) ?_
                case refine_2 => intro w hSw; (try dsimp only at hSw); obtain ⟨z0, z1, z2, z3⟩ := HCE.out _ hSw; go_simp; (try with_reducible rfl)
                simp only [Act.put, List.setIfInBounds_toArray, List.set_cons_zero, List.set_cons_succ]
                refine wpAnyH_take (i := 6) (oi := { dst := some 108, op := Op.binOp BinOp.sub 3 (Operand.tmp 107) (Operand.const (Value.int IntKind.i64 1)) 3, type := 3, pos := "best.go:66", after := #[{ on := 5, ground := Ground.data }], guard := none }) (v := ?_) rfl (by kernel_rfl) (by kernel_rfl) (by kernel_rfl) (fun _ _ _ h => h) (Or.inl ⟨by rfl, ?_⟩) (by assumption) ?_
                case refine_2 => intro w hSw; (try dsimp only at hSw); obtain ⟨z0, z1, z2, z3⟩ := HCE.out _ hSw; go_simp; (try with_reducible rfl)
                simp only [Act.put, List.setIfInBounds_toArray, List.set_cons_zero, List.set_cons_succ]
                refine wpAnyH_take (i := 7) (oi := { dst := some 109, op := Op.indexAddr 26 (Operand.tmp 106) (Operand.tmp 108), type := 0, pos := "best.go:66", after := #[{ on := 4, ground := Ground.data }, { on := 6, ground := Ground.data }], guard := none }) (v := ?_) rfl (by kernel_rfl) (by kernel_rfl) (by kernel_rfl) (fun _ _ _ h => h) (Or.inl ⟨by rfl, ?_⟩) (by assumption) ?_
                case refine_2 => intro w hSw; (try dsimp only at hSw); obtain ⟨z0, z1, z2, z3⟩ := HCE.out _ hSw; go_simp; (try with_reducible rfl)
                simp only [Act.put, List.setIfInBounds_toArray, List.set_cons_zero, List.set_cons_succ]
                refine wpAnyH_take (i := 8) (oi := { dst := some 110, op := Op.load 3 (Operand.tmp 109), type := 3, pos := "best.go:66", after := #[{ on := 7, ground := Ground.data }], guard := none }) (v := ?_) rfl (by kernel_rfl) (by kernel_rfl) (by kernel_rfl) (fun _ _ _ h => h) (Or.inl ⟨by rfl, ?_⟩) (by assumption) ?_
                case refine_2 => intro w hSw; (try dsimp only at hSw); obtain ⟨z0, z1, z2, z3⟩ := HCE.out _ hSw; go_simp; (try with_reducible rfl)
                simp only [Act.put, List.setIfInBounds_toArray, List.set_cons_zero, List.set_cons_succ]
                refine wpAnyH_ready (rs := [9]) (by kernel_rfl) (by simp) ?_
                refine (AllReadyH.cons (o := { dst := some 111, op := Op.buildSlice 26 1 #[(0, Operand.tmp 110)], type := 26, pos := "best.go:66", after := #[{ on := 8, ground := Ground.data }], guard := none }) rfl (fun K hK => ?_) AllReadyH.nil)
                go_simp
                have HR2 : Hid ((V0.alloc (.cells #[.int .i64 sx] 3)).ownsRow w.heap.size 3 1 (.slice va j vc) j (ints (rw2 s O X j)) ∧ w.heap.size ≤ (V0.alloc (.cells #[.int .i64 sx] 3)).heap.size) := ⟨(HJ0.out.o HT8.out.2.2.2.1 (by rw [ints_len, rw2_len])).alloc _, by have := HJ0.out.below.size; simp; omega⟩
                have hS1 : Kp (fun b => (T8 3).1.ownBlock = some b) W8 (V0.alloc (.cells #[.int .i64 sx] 3)) := hS0.alloc _
                refine hK.out _ _ ?_ (fun hHeld => ?_)
                · first | exact hS2 | exact hS1
                clear hK K
                try simp only [Act.put, List.setIfInBounds_toArray, List.set_cons_zero, List.set_cons_succ]
                refine wpAnyH_ready (rs := [10]) (by kernel_rfl) (by simp) ?_
                refine (AllReadyH.cons (o := { dst := some 112, op := Op.call { callee := Callee.builtin Builtin.append, args := #[Operand.tmp 102, Operand.tmp 111], argTypes := #[26, 26] }, type := 26, pos := "best.go:66", after := #[{ on := 0, ground := Ground.data }, { on := 9, ground := Ground.data }], guard := none }) rfl (fun K hK => ?_) AllReadyH.nil)
                refine step_append_at rfl (.tmp 102) (.tmp 111) 26 rfl w.heap.size 3 i3 (.int .i64 0) 1 8 Try.underlying26 hi3 hx0 hx1 hx2 rfl (by decide) (.slice va j vc) j _ rfl HR2.out.1 ⟨V0.heap.size, 0, none⟩ 1 1 [.int .i64 sx] rfl rfl (cell_one_new _ _ _) (sl_one _ rfl) (by unfold maxLen; omega) (by omega) HR2.out.2 ?_
                intro v8 w8 ho8 hg8 hl8
                obtain ⟨g8, c8, rfl, _, _⟩ := own_some ho8 (Nat.succ_pos _)
                have HJ3 : Hid (Jn w w8 p3 p4 p6 p7 (.slice (some ⟨b, off, none⟩) m1 cap) (.slice (some ⟨g, 0, none⟩) n n) vsc (upT T8 3 ((.slice (some ⟨g8, 0, none⟩) (j + 1) c8), ints (rw2 s O X j) ++ [.int .i64 sx])) k) := HJ0.out.row (below_al V0 (.cells #[.int .i64 sx] 3)) ho8 (by rw [List.length_append, ints_len, rw2_len]; rfl) (by rw [HT8.out.2.2.2.1]; exact hg8) (by rw [HT8.out.2.2.2.1]; exact hl8)
                have hS2 : Kp (fun b => (T8 3).1.ownBlock = some b) W8 w8 := hS1.grown hg8 (fun b hb _ => by rw [HT8.out.2.2.2.1]; exact hb)
                clear ho8 hg8 hl8
                refine hK.out _ _ ?_ (fun hHeld => ?_)
                · first | exact hS2 | exact hS1
                clear hK K
                try simp only [Act.put, List.setIfInBounds_toArray, List.set_cons_zero, List.set_cons_succ]
                refine wpAnyH_take (i := 11) (oi := { dst := some 16, op := Op.assign (Operand.tmp 112), type := 26, pos := "best.go:66", after := #[{ on := 10, ground := Ground.data }, { on := 10, ground := Ground.chain }, { on := 0, ground := Ground.phase }, { on := 1, ground := Ground.phase }, { on := 2, ground := Ground.phase }, { on := 3, ground := Ground.phase }, { on := 4, ground := Ground.phase }, { on := 5, ground := Ground.phase }, { on := 6, ground := Ground.phase }, { on := 7, ground := Ground.phase }, { on := 8, ground := Ground.phase }, { on := 9, ground := Ground.phase }, { on := 10, ground := Ground.phase }], guard := none }) (v := ?_) rfl (by kernel_rfl) (by kernel_rfl) (by kernel_rfl) (fun _ _ _ h => h) (Or.inl ⟨by rfl, ?_⟩) (by assumption) ?_
                case refine_2 => intro w hSw; (try dsimp only at hSw); obtain ⟨z0, z1, z2, z3⟩ := HCE.out _ hSw; go_simp; (try with_reducible rfl)
                simp only [Act.put, List.setIfInBounds_toArray, List.set_cons_zero, List.set_cons_succ]
                refine wpAnyH_done (by kernel_rfl) ?_ _
                clear hS0 hS1 hS2
                go_wp2
                go_roundw
                case rel =>
                  refine ⟨j + 1, (.slice (some ⟨g8, 0, none⟩) (j + 1) c8), (.slice (some ⟨g7, 0, none⟩) (j + 1) c7), X ++ [r], _, rfl, by go_num, hlj, HJ3.out, ?_, ?_, by rw [List.length_append, HQ.out.2.2.2.1]; rfl, fun q h2 h3 h4 => by rw [upT_ne _ _ h3]; exact HT8.out.2.2.2.2 q h2 h3 h4, fun i hi => ?_⟩
                  · rw [upT_same]
                    have h := rw2_up s O X r
                    rw [HQ.out.2.2.2.1, HXX.out, HSX.out] at h
                    rw [h, ints_snoc]
                  · rw [upT_ne _ _ (by decide)]; exact HT8.out.2.1
                  · by_cases e : i = j
                    · subst e
                      rw [getD_snoc HQ.out.2.2.2.1, HXX.out]
                      exact HX.out
                    · have hb := HQ.out.2.2.2.2.2 i (by omega)
                      rw [getD_app (by rw [HQ.out.2.2.2.1]; omega)]
                      exact hb
                case measure => simp [intOf]; omega
              · have e9 : m = j := by omega
                subst e9
                obtain ⟨sa, sc, hvs⟩ := oslice HQ.out.1.sc
                subst hvs
                go_upto_region 30 with fail
                refine region_z (S := fun W => W.cell? ⟨p7, 0, none⟩ = some (.slice sa k sc)) 8 (by kernel_rfl) (by exact cell_of_row _ _ 0 _ _ _ HQ.out.1.b7) (fun hHeld => ?_)
                have hS0 : wr.drew.cell? ⟨p7, 0, none⟩ = some (.slice sa k sc) := hHeld
                have HJ0 : Hid (Jn w wr.drew p3 p4 p6 p7 (.slice (some ⟨b, off, none⟩) m1 cap) (.slice (some ⟨g, 0, none⟩) n n) (.slice sa k sc) T k) := HQ.out.1.laid (below_drewN (Below.refl _ _) 1)
                generalize hV0 : wr.drew = V0 at *
                clear hV0
                refine take_z (z := 8) (i := 0) (oi := { dst := some 114, op := Op.fieldAddr 47 (Operand.tmp 7) 0, type := 0, pos := "best.go:68", after := #[], guard := none }) (v := ?_) (by kernel_rfl) (by decide) rfl (by kernel_rfl) (by kernel_rfl) (by kernel_rfl) (fun _ _ _ h => h) (Or.inl ⟨by rfl, ?_⟩) (by assumption) ?_
                case refine_2 => intro w hSw; (try dsimp only at hSw); go_simp; (try with_reducible rfl)
                simp only [Act.put, List.setIfInBounds_toArray, List.set_cons_zero, List.set_cons_succ]
                refine take_z (z := 8) (i := 1) (oi := { dst := some 115, op := Op.load 22 (Operand.tmp 114), type := 22, pos := "best.go:68", after := #[{ on := 0, ground := Ground.data }], guard := none }) (v := ?_) (by kernel_rfl) (by decide) rfl (by kernel_rfl) (by kernel_rfl) (by kernel_rfl) (fun _ _ _ h => h) (Or.inl ⟨by rfl, ?_⟩) (by assumption) ?_
                case refine_2 => intro w hSw; (try dsimp only at hSw); go_simp; (try with_reducible rfl)
                simp only [Act.put, List.setIfInBounds_toArray, List.set_cons_zero, List.set_cons_succ]
                refine take_z (z := 8) (i := 2) (oi := { dst := some 116, op := Op.move (Operand.tmp 16), type := 26, pos := "best.go:68", after := #[], guard := none }) (v := ?_) (by kernel_rfl) (by decide) rfl (by kernel_rfl) (by kernel_rfl) (by kernel_rfl) (fun _ _ _ h => h) (Or.inl ⟨by rfl, ?_⟩) (by assumption) ?_
                case refine_2 => intro w hSw; (try dsimp only at hSw); go_simp; (try with_reducible rfl)
                simp only [Act.put, List.setIfInBounds_toArray, List.set_cons_zero, List.set_cons_succ]
                refine ready_z (rs := [3]) (by kernel_rfl) (by simp) ?_
                refine (AllZ.cons (o := { dst := some 117, op := Op.buildSlice 26 1 #[(0, Operand.const (Value.int IntKind.i64 0))], type := 26, pos := "best.go:68", after := #[], guard := none }) rfl (fun K hK => ?_) AllZ.nil)
                go_simp
                have HR2 : Hid ((V0.alloc (.cells #[.int .i64 0] 3)).ownsRow w.heap.size 3 1 (.slice va m vc) m (ints (rw2 s O X m)) ∧ w.heap.size ≤ (V0.alloc (.cells #[.int .i64 0] 3)).heap.size) := ⟨(HJ0.out.o HQ.out.2.1 (by rw [ints_len, rw2_len])).alloc _, by have := HJ0.out.below.size; simp; omega⟩
                have hS2 := ((below_al V0 (.cells #[.int .i64 0] 3)).cell (World.block_lt_of_cell? _ _ hS0)).trans hS0
                refine hK.out _ _ ?_ (fun hHeld => ?_)
                · first | exact hS4 | exact hS3 | exact hS2
                clear hK K
                try simp only [Act.put, List.setIfInBounds_toArray, List.set_cons_zero, List.set_cons_succ]
                refine ready_z (rs := [4]) (by kernel_rfl) (by simp) ?_
                refine (AllZ.cons (o := { dst := some 118, op := Op.call { callee := Callee.builtin Builtin.append, args := #[Operand.tmp 116, Operand.tmp 117], argTypes := #[26, 26] }, type := 26, pos := "best.go:68", after := #[{ on := 2, ground := Ground.data }, { on := 3, ground := Ground.data }], guard := none }) rfl (fun K hK => ?_) AllZ.nil)
                refine step_append_at rfl (.tmp 116) (.tmp 117) 26 rfl w.heap.size 3 i3 (.int .i64 0) 1 8 Try.underlying26 hi3 hx0 hx1 hx2 rfl (by decide) (.slice va m vc) m _ rfl HR2.out.1 ⟨V0.heap.size, 0, none⟩ 1 1 [.int .i64 0] rfl rfl (cell_one_new _ _ _) (sl_one _ rfl) (by unfold maxLen; omega) (by omega) HR2.out.2 ?_
                intro v8 w8 ho8 hg8 hl8
                obtain ⟨g8, c8, rfl, _, _⟩ := own_some ho8 (Nat.succ_pos _)
                have HJ3 : Hid (Jn w w8 p3 p4 p6 p7 (.slice (some ⟨b, off, none⟩) m1 cap) (.slice (some ⟨g, 0, none⟩) n n) (.slice sa k sc) (upT T 3 ((.slice (some ⟨g8, 0, none⟩) (m + 1) c8), ints (rw2 s O X m) ++ [.int .i64 0])) k) := HJ0.out.row (below_al V0 (.cells #[.int .i64 0] 3)) ho8 (by rw [List.length_append, ints_len, rw2_len]; rfl) (by rw [HQ.out.2.1]; exact hg8) (by rw [HQ.out.2.1]; exact hl8)
                have hS3 : w8.cell? ⟨p7, 0, none⟩ = some (.slice sa k sc) := cell_of_row _ _ 0 _ _ _ HJ3.out.b7
                clear ho8 hg8 hl8
                refine hK.out _ _ ?_ (fun hHeld => ?_)
                · first | exact hS4 | exact hS3 | exact hS2
                clear hK K
                try simp only [Act.put, List.setIfInBounds_toArray, List.set_cons_zero, List.set_cons_succ]
                refine ready_z (rs := [5]) (by kernel_rfl) (by simp) ?_
                refine (AllZ.cons (o := { dst := some 119, op := Op.buildSlice 22 1 #[(0, Operand.tmp 118)], type := 22, pos := "best.go:68", after := #[{ on := 4, ground := Ground.data }], guard := none }) rfl (fun K hK => ?_) AllZ.nil)
                go_simp
                have HR4 : Hid ((w8.alloc (.cells #[(.slice (some ⟨g8, 0, none⟩) (m + 1) c8)] 26)).ownsRow w.heap.size 26 1 (.slice sa k sc) k ((List.range k).map fun h => ((upT T 3 ((.slice (some ⟨g8, 0, none⟩) (m + 1) c8), ints (rw2 s O X m) ++ [.int .i64 0])) (5 + h)).1) ∧ w.heap.size ≤ (w8.alloc (.cells #[(.slice (some ⟨g8, 0, none⟩) (m + 1) c8)] 26)).heap.size) := ⟨HJ3.out.sc.alloc _, by have := HJ3.out.below.size; simp; omega⟩
                have hS4 := ((below_al w8 (.cells #[(.slice (some ⟨g8, 0, none⟩) (m + 1) c8)] 26)).cell (World.block_lt_of_cell? _ _ hS3)).trans hS3
                refine hK.out _ _ ?_ (fun hHeld => ?_)
                · first | exact hS4 | exact hS3 | exact hS2
                clear hK K
                try simp only [Act.put, List.setIfInBounds_toArray, List.set_cons_zero, List.set_cons_succ]
                refine ready_z (rs := [6]) (by kernel_rfl) (by simp) ?_
                refine (AllZ.cons (o := { dst := some 120, op := Op.call { callee := Callee.builtin Builtin.append, args := #[Operand.tmp 115, Operand.tmp 119], argTypes := #[22, 22] }, type := 22, pos := "best.go:68", after := #[{ on := 1, ground := Ground.data }, { on := 5, ground := Ground.data }, { on := 4, ground := Ground.chain }], guard := none }) rfl (fun K hK => ?_) AllZ.nil)
                refine step_append_at rfl (.tmp 115) (.tmp 119) 22 rfl w.heap.size 26 i26 (.slice none 0 0) 1 24 Try.underlying22 hi26 hv0 hv1 hv2 rfl (by decide) (.slice sa k sc) k _ rfl HR4.out.1 ⟨w8.heap.size, 0, none⟩ 1 1 [(.slice (some ⟨g8, 0, none⟩) (m + 1) c8)] rfl rfl (cell_one_new _ _ _) (sl_one _ rfl) (by unfold maxLen; omega) (by omega) HR4.out.2 ?_
                intro v9 w9 ho9 hg9 hl9
                obtain ⟨g9, c9, rfl, _, _⟩ := own_some ho9 (Nat.succ_pos _)
                have hJP := HJ3.out.push (upT_same _ _ _) (below_al w8 (.cells #[(.slice (some ⟨g8, 0, none⟩) (m + 1) c8)] 26)) ho9 hg9 hl9
                have y9 := cell_of_row _ _ 0 _ _ _ hJP.1
                have f9 := frozen_of_row _ _ 0 _ _ hJP.1
                have HN9 : Hid (Jn w (w9.setCell ⟨p7, 0, none⟩ (.slice (some ⟨g9, 0, none⟩) (k + 1) c9)) p3 p4 p6 p7 (.slice (some ⟨b, off, none⟩) m1 cap) (.slice (some ⟨g, 0, none⟩) n n) (.slice (some ⟨g9, 0, none⟩) (k + 1) c9) (upT (upT (upT T 3 ((.slice (some ⟨g8, 0, none⟩) (m + 1) c8), ints (rw2 s O X m) ++ [.int .i64 0])) (5 + k) ((upT T 3 ((.slice (some ⟨g8, 0, none⟩) (m + 1) c8), ints (rw2 s O X m) ++ [.int .i64 0])) 3)) 3 (.slice none 0 0, [])) (k + 1)) := hJP.2
                clear ho9 hg9 hl9 hJP
                refine hK.out _ _ ?_ (fun hHeld => ?_)
                · exact y9
                clear hK K
                try simp only [Act.put, List.setIfInBounds_toArray, List.set_cons_zero, List.set_cons_succ]
                refine take_z (z := 8) (i := 7) (oi := { dst := some 121, op := Op.fieldAddr 47 (Operand.tmp 7) 0, type := 0, pos := "best.go:68", after := #[{ on := 0, ground := Ground.phase }, { on := 1, ground := Ground.phase }, { on := 2, ground := Ground.phase }, { on := 3, ground := Ground.phase }, { on := 4, ground := Ground.phase }, { on := 5, ground := Ground.phase }, { on := 6, ground := Ground.phase }], guard := none }) (v := ?_) (by kernel_rfl) (by decide) rfl (by kernel_rfl) (by kernel_rfl) (by kernel_rfl) (fun _ _ _ h => h) (Or.inl ⟨by rfl, ?_⟩) (by assumption) ?_
                case refine_2 => intro w hSw; (try dsimp only at hSw); go_simp; (try with_reducible rfl)
                simp only [Act.put, List.setIfInBounds_toArray, List.set_cons_zero, List.set_cons_succ]
                refine ready_z (rs := [8]) (by kernel_rfl) (by simp) ?_
                refine (AllZ.last (o := { dst := none, op := Op.store 22 (Operand.tmp 121) (Operand.tmp 120), type := 0, pos := "best.go:68", after := #[{ on := 7, ground := Ground.data }, { on := 6, ground := Ground.data }, { on := 6, ground := Ground.chain }, { on := 0, ground := Ground.phase }, { on := 1, ground := Ground.phase }, { on := 2, ground := Ground.phase }, { on := 3, ground := Ground.phase }, { on := 4, ground := Ground.phase }, { on := 5, ground := Ground.phase }, { on := 6, ground := Ground.phase }], guard := none }) rfl (fun K hK => ?_) AllZ.nil)
                go_simp
                clear y9 f9
                refine hK.out _ _ ?_
                clear hK K
                try simp only [Act.put, List.setIfInBounds_toArray, List.set_cons_zero, List.set_cons_succ]
                refine done_z (by kernel_rfl) ?_ _
                clear hS0 hS2 hS3 hS4
                generalize w9.setCell ⟨p7, 0, none⟩ (.slice (some ⟨g9, 0, none⟩) (k + 1) c9) = W9 at *
                obtain ⟨TE, hTE⟩ : ∃ TE, (upT (upT (upT T 3 ((.slice (some ⟨g8, 0, none⟩) (m + 1) c8), ints (rw2 s O X m) ++ [.int .i64 0])) (5 + k) ((upT T 3 ((.slice (some ⟨g8, 0, none⟩) (m + 1) c8), ints (rw2 s O X m) ++ [.int .i64 0])) 3)) 3 (.slice none 0 0, [])) = TE := ⟨_, rfl⟩
                have hq : ∀ q, q ≠ 3 → q ≠ 5 + k → TE q = T q := fun q h1 h2 => by rw [← hTE, upT_ne _ _ h1, upT_ne _ _ h2, upT_ne _ _ h1]
                have HE : Hid (Jn w W9 p3 p4 p6 p7 (.slice (some ⟨b, off, none⟩) m1 cap) (.slice (some ⟨g, 0, none⟩) n n) (.slice (some ⟨g9, 0, none⟩) (k + 1) c9) TE (k + 1) ∧ TE 0 = (.slice (some ⟨bo, 0, none⟩) k co, ns O) ∧ TE 1 = (vin, ns I) ∧ TE 2 = (.slice xa m xc, ns X) ∧ (TE (5 + k)).2 = ints (rw2 s O X m ++ [0]) ∧ Rb s (uv ul) R O m I TE k) := ⟨hTE ▸ HN9.out, by rw [hq 0 (by decide) (by omega)]; exact HT0.out, by rw [hq 1 (by decide) (by omega), HQ.out.2.2.2.2.1 1 (by decide) (by decide) (by decide)]; exact HJ.out.2.2.1, by rw [hq 2 (by decide) (by omega)]; exact HQ.out.2.2.1, by rw [← hTE, upT_ne _ _ (by omega), upT_same, upT_same, ints_snoc], fun h hh => by rw [hq _ (by omega) (by omega), HQ.out.2.2.2.2.1 _ (by omega) (by omega) (by omega)]; exact HJ.out.2.2.2.2.2.2 h hh⟩
                clear hTE hq HN9
                obtain ⟨ia, ic, hvin⟩ := oslice (HE.out.1.o (n := k) HE.out.2.2.1 ((ns_length I).trans HJ.out.2.2.2.1))
                subst hvin
                have z0 := cell_of_row _ _ 0 _ _ _ HE.out.1.b7
                have z1 := cell_of_row _ _ 1 _ _ _ HE.out.1.b7
                have z2 := cell_of_row _ _ 2 _ _ _ HE.out.1.b7
                have z3 := cell_of_row _ _ 3 _ _ _ HE.out.1.b7
                rw [HE.out.2.1] at z1
                rw [HE.out.2.2.1] at z2
                rw [HE.out.2.2.2.1] at z3
                have y0 := cell_of_row _ _ 0 _ _ _ HE.out.1.b6
                have y1 := cell_of_row _ _ 1 _ _ _ HE.out.1.b6
                have y2 := cell_of_row _ _ 2 _ _ _ HE.out.1.b6
                have y3 := cell_of_row _ _ 3 _ _ _ HE.out.1.b6
                have f0 := frozen_of_row _ _ 0 _ _ HE.out.1.b6
                have f1 := frozen_of_row _ _ 1 _ _ HE.out.1.b6
                have f2 := frozen_of_row _ _ 2 _ _ HE.out.1.b6
                have f3 := frozen_of_row _ _ 3 _ _ HE.out.1.b6
                dsimp only at z0 z1 z2 z3
                go_wp2
                have hr := HE.out.1.fin (.slice (some ⟨g9, 0, none⟩) (k + 1) c9) (.slice (some ⟨bo, 0, none⟩) k co) (.slice ia k ic) (.slice xa m xc)
                obtain rfl : m + 1 = k := HK.out.1
                try rw [Exit.noGoto_ret]
                refine bodyPost_ret (results_cell_row rfl _ _ p6 47 _ (0, 0) _ rfl hr.1 Try.underlying47 rfl row47) rfl ?_
                exact (jo_done HE.out.1 hr.2 HE.out.2.1 HE.out.2.2.1 HE.out.2.2.2.1 HM.out.1 HJ.out.2.2.2.1 HQ.out.2.2.2.1 HM.out.2 HE.out.2.2.2.2.2 HQ.out.2.2.2.2.2 HE.out.2.2.2.2.1 HO.out HG.out.1 HG.out.2.1)
end Go.Proofs.Ytpolnkdbebjpnaa.Hd
