/- HeadsBest (3) where Check says yes. Conditions: lists of at most 1200000 numbers. -/
import Derived.Test.YtpolnkdbebjpnaaOm
namespace Go.Proofs.Ytpolnkdbebjpnaa.Hd
open Go.RowKit

/-- numbers of a tree as a list of whole numbers -/
def zl (u : List Nat) : List Int := u.map Int.ofNat
theorem zl_len (u : List Nat) : (zl u).length = u.length := by simp [zl]
theorem nl_zl (u : List Nat) : nl (zl u) = u := by
  unfold nl zl
  rw [List.map_map]
  have e : (Int.toNat ∘ Int.ofNat) = id := funext fun n => rfl
  rw [e, List.map_id]
theorem un_zl (u : List Nat) : un (zl u) = uv u := by unfold un; rw [nl_zl]
theorem zl_at (u : List Nat) {i : Nat} (hi : i < u.length) : (zl u).getD i 0 = (uv u (i + 1) : Int) := by
  show _ = ((u.getD i 0 : Nat) : Int)
  unfold zl
  rw [List.getD_eq_getElem?_getD, List.getD_eq_getElem?_getD, List.getElem?_map, List.getElem?_eq_getElem hi]
  rfl
theorem ul_rl {w W : World} {g n : Nat} {ul : List Nat} (h : Ul w W g n ul) : Rl W (some ⟨g, 0, none⟩) (zl ul) := fun _ =>
  ⟨g, 0, rfl, (h.row.lt g rfl).2, fun i hi => by
    rw [zl_len] at hi
    rw [zl_at ul hi, Nat.zero_add]
    exact h.cell (by rw [← h.len]; exact hi)⟩
theorem zl_tr {n : Nat} {ul : List Nat} (hl : ul.length = n) (h : Tr n (uv ul)) : isTr (zl ul) := by
  refine ⟨fun i hi => ?_, ?_⟩
  · rw [zl_len] at hi ⊢
    rw [zl_at ul hi]
    have := h.le (i + 1) (by omega) (by omega)
    omega
  · rw [zl_len, hl, un_zl]
    exact h
set_option maxHeartbeats 8000000 in
set_option maxRecDepth 100000 in
theorem best_yes (rows rows2 : List (List Int)) (n : Nat) (a2 : Option Addr) (b off cap b2 off2 cap2 : Nat) (ra ra2 : Nat → Option Addr) (rc rc2 : Nat → Nat) (w : World) (hR : Rw w (some ⟨b, off, none⟩) b off ra rc rows) (hR2 : Rw w a2 b2 off2 ra2 rc2 rows2) (hN : rows.length ≤ 140737488355328) (hM2 : rows2.length ≤ 1200000) (hM : ∀ h, h < rows2.length → (rows2.getD h []).length ≤ 1200000) (hF : Fit rows n) :
    Calls Try.prog 3 #[.slice (some ⟨b, off, none⟩) (n + 1) cap, .slice a2 rows2.length cap2] w fun e w' => e = .returned (.bool true) ∧ Below w.heap.size w w' := by
  have hc := chk_of_fit hF
  obtain ⟨m1, hm1⟩ : ∃ m, n + 1 = m := ⟨_, rfl⟩
  have HM : Hid (n + 1 = m1 ∧ n ≤ 12) := ⟨hm1, hF.few⟩
  obtain ⟨w0, hw0⟩ : ∃ w0, w.alloc (.cells #[.slice (some ⟨b, off, none⟩) m1 cap] 22) = w0 := ⟨_, rfl⟩
  have hb0 : Below w.heap.size w w0 := hw0 ▸ below_al _ _
  have hc0 : w0.cell? ⟨w.heap.size, 0, none⟩ = some (.slice (some ⟨b, off, none⟩) m1 cap) := by rw [← hw0]; exact cell_of_row _ _ 0 _ _ _ (heap_alloc_new w _)
  have HCS : Hid (∀ W, Below w0.heap.size w0 W → W.cell? ⟨w.heap.size, 0, none⟩ = some (.slice (some ⟨b, off, none⟩) m1 cap) ∧ Below w.heap.size w W) := fun W hW => ⟨(hW.cell (World.block_lt_of_cell? _ _ hc0)).trans hc0, hb0.trans (hW.mono hb0.size)⟩
  have hpl := World.block_lt_of_cell? _ _ hc0
  have K5 := begun_any w0
  have H6 : Hid (∀ W, Below w.heap.size w W → Calls Try.prog 6 #[.slice (some ⟨b, off, none⟩) rows.length cap] W fun e w' => e = .returned (.int .i64 (chk rows)) ∧ Below W.heap.size W w') := fun W hW => score_any rows _ b off cap ra rc W (hR.below hW) hN
  have H10 : Hid (∀ W, Below w.heap.size w W → Calls Try.prog 10 #[.slice (some ⟨b, off, none⟩) rows.length cap] W fun e w' => e = .returned (.int .i64 (chk rows)) ∧ Below W.heap.size W w') := fun W hW => check_any rows _ b off cap ra rc W (hR.below hW) hN
  have H7 : Hid (∀ W, Below w.heap.size w W → Calls Try.prog 7 #[.slice (some ⟨b, off, none⟩) (n + 1) cap] W (ToldQ n (sr rows) (fun ul => Opt n (sr rows) (uv ul)) W)) := fun W hW => best7_ok rows n b off cap ra rc W (hR.below hW) hc hF
  have H8 : Hid (∀ W, Below w.heap.size w W → Calls Try.prog 8 #[.slice (some ⟨b, off, none⟩) (n + 1) cap] W (ToldQ n (sr rows) (fun ul => FlatP n (sr rows) (uv ul)) W)) := fun W hW => flat8_ok rows n b off cap ra rc W (hR.below hW) hc hF
  have H9 : Hid (∀ W, Below w.heap.size w W → Calls Try.prog 9 #[.slice (some ⟨b, off, none⟩) (n + 1) cap] W (ToldQ n (sr rows) (fun ul => Opt n (fw 24000001 (sr rows)) (uv ul)) W)) := fun W hW => one9_ok rows n b off cap ra rc W (hR.below hW) hc hF
  have HR2 : Hid (∀ W, Below w.heap.size w W → Rw W a2 b2 off2 ra2 rc2 rows2) := fun W hW => hR2.below hW
  have HSC : Hid (∀ W, Below w.heap.size w W → Sc W b off n ra rc (sr rows)) := fun W hW => (hF.sc (hR.below hW)).2
  have HMM : Hid (∀ h, h < rows2.length → (rows2.getD h []).length ≤ 1200000) := hM
  have HF : Hid (Fit rows n) := hF
  obtain ⟨m2, hm2⟩ : ∃ m, rows2.length = m := ⟨_, rfl⟩
  have HM2 : Hid (rows2.length = m2 ∧ m2 ≤ 1200000) := ⟨hm2, by omega⟩
  rw [hF.len, hc, hm1] at H6 H10
  rw [hm1] at H7 H8 H9
  rw [hm1, hm2]
  obtain ⟨ps, hps⟩ : ∃ p, w.heap.size = p := ⟨_, rfl⟩
  have HP : Hid (w.heap.size = ps ∧ ps < w0.heap.size) := ⟨hps, by rw [← hps]; exact hpl⟩
  clear hR hR2 hN hM2 hM hm2 hb0 hc0 hpl hF hc hm1
  go_enter Try.func3, Try.ntmps3
  rw [hps] at HCS
  go_upto_region 1 with fail
  try rw [hw0]
  try rw [hps]
  clear hw0 hps
  go_upto_region 3 with (go_at_call 5; (with_reducible refine K5.mono ?_); clear K5; rintro e w1 ⟨rfl, hb⟩; have HB1 : Hid (Below w0.heap.size w0 w1) := hb; clear hb)
  have c0 := (HCS.out w1 HB1.out).1
  have K6 := H6.out w1 (by rw [HP.out.1]; exact (HCS.out w1 HB1.out).2)
  go_upto_region 4 with (go_at_call 6; (with_reducible refine K6.mono ?_); clear K6; rintro e w2 ⟨rfl, hb⟩; have HB2 : Hid (Below w0.heap.size w0 w2) := HB1.out.trans (hb.mono HB1.out.size); clear hb)
  clear c0
  have c0 := (HCS.out w2 HB2.out).1
  have K7 := H7.out w2 (by rw [HP.out.1]; exact (HCS.out w2 HB2.out).2)
  go_upto_region 5 with (go_at_call 7; (with_reducible refine K7.mono ?_); clear K7; rintro e w3 ⟨g7, u7, rfl, hu, ho⟩; have HU7 : Hid (Rl w3 (some ⟨g7, 0, none⟩) (zl u7) ∧ u7.length = n ∧ Below w2.heap.size w2 w3) := ⟨ul_rl hu, hu.len, hu.below⟩; have HO7 : Hid (Opt n (sr rows) (uv u7)) := ho; clear hu ho)
  obtain ⟨N, hN⟩ : ∃ v, wo (sr rows) n (uv u7) = v := ⟨_, rfl⟩
  have HVN : Hid (wo (sr rows) n (uv u7) = N) := hN
  rw [hN]
  obtain ⟨pn, hpn⟩ : ∃ p, w3.heap.size = p := ⟨_, rfl⟩
  obtain ⟨Xw3, hXw3⟩ : ∃ W, w3.alloc (.cells #[.int .i64 N] 3) = W := ⟨_, rfl⟩
  have HXw3 : Hid (Below w0.heap.size w0 Xw3 ∧ Xw3.cell? ⟨pn, 0, none⟩ = some (.int .i64 N) ∧ Rl Xw3 (some ⟨g7, 0, none⟩) (zl u7) ∧ Below w2.heap.size w2 Xw3 ∧ pn < Xw3.heap.size) := by
    have ha : Below w3.heap.size w3 Xw3 := hXw3 ▸ below_al w3 _
    have hb : Below w2.heap.size w2 Xw3 := HU7.out.2.2.trans (ha.mono HU7.out.2.2.size)
    have hc : Xw3.cell? ⟨pn, 0, none⟩ = some (.int .i64 N) := by rw [← hpn, ← hXw3]; exact cell_of_row _ _ 0 _ _ _ (heap_alloc_new w3 _)
    exact ⟨(HB2.out).trans (hb.mono (HB2.out).size), hc, HU7.out.1.below ha, hb, World.block_lt_of_cell? _ _ hc⟩
  rw [hpn, hXw3]
  clear c0 hpn hXw3 hN
  have c0 := (HCS.out Xw3 HXw3.out.1).1
  have K8 := H8.out Xw3 (by rw [HP.out.1]; exact (HCS.out Xw3 HXw3.out.1).2)
  go_upto_region 6 with (go_at_call 8; (with_reducible refine K8.mono ?_); clear K8; rintro e w4 ⟨g8, u8, rfl, hu, ho⟩; have HU8 : Hid (Rl w4 (some ⟨g8, 0, none⟩) (zl u8) ∧ u8.length = n ∧ Below Xw3.heap.size Xw3 w4) := ⟨ul_rl hu, hu.len, hu.below⟩; have HO8 : Hid (FlatP n (sr rows) (uv u8)) := ho; clear hu ho)
  obtain ⟨M, hM⟩ : ∃ v, wo (sr rows) n (uv u8) = v := ⟨_, rfl⟩
  have HVM : Hid (wo (sr rows) n (uv u8) = M) := hM
  rw [hM]
  obtain ⟨pm, hpm⟩ : ∃ p, w4.heap.size = p := ⟨_, rfl⟩
  obtain ⟨Xw4, hXw4⟩ : ∃ W, w4.alloc (.cells #[.int .i64 M] 3) = W := ⟨_, rfl⟩
  have HXw4 : Hid (Below w0.heap.size w0 Xw4 ∧ Xw4.cell? ⟨pm, 0, none⟩ = some (.int .i64 M) ∧ Rl Xw4 (some ⟨g8, 0, none⟩) (zl u8) ∧ Below Xw3.heap.size Xw3 Xw4 ∧ pm < Xw4.heap.size) := by
    have ha : Below w4.heap.size w4 Xw4 := hXw4 ▸ below_al w4 _
    have hb : Below Xw3.heap.size Xw3 Xw4 := HU8.out.2.2.trans (ha.mono HU8.out.2.2.size)
    have hc : Xw4.cell? ⟨pm, 0, none⟩ = some (.int .i64 M) := by rw [← hpm, ← hXw4]; exact cell_of_row _ _ 0 _ _ _ (heap_alloc_new w4 _)
    exact ⟨(HXw3.out.1).trans (hb.mono (HXw3.out.1).size), hc, HU8.out.1.below ha, hb, World.block_lt_of_cell? _ _ hc⟩
  rw [hpm, hXw4]
  clear c0 hpm hXw4 hM
  have c0 := (HCS.out Xw4 HXw4.out.1).1
  have K9 := H9.out Xw4 (by rw [HP.out.1]; exact (HCS.out Xw4 HXw4.out.1).2)
  go_upto_region 7 with (go_at_call 9; (with_reducible refine K9.mono ?_); clear K9; rintro e w5 ⟨g9, u9, rfl, hu, ho⟩; have HU9 : Hid (Rl w5 (some ⟨g9, 0, none⟩) (zl u9) ∧ u9.length = n ∧ Below Xw4.heap.size Xw4 w5) := ⟨ul_rl hu, hu.len, hu.below⟩; have HO9 : Hid (Opt n (fw 24000001 (sr rows)) (uv u9)) := ho; clear hu ho)
  obtain ⟨K, hK⟩ : ∃ v, wo (sr rows) n (uv u9) = v := ⟨_, rfl⟩
  have HVK : Hid (wo (sr rows) n (uv u9) = K) := hK
  rw [hK]
  obtain ⟨pk, hpk⟩ : ∃ p, w5.heap.size = p := ⟨_, rfl⟩
  obtain ⟨Xw5, hXw5⟩ : ∃ W, w5.alloc (.cells #[.int .i64 K] 3) = W := ⟨_, rfl⟩
  have HXw5 : Hid (Below w0.heap.size w0 Xw5 ∧ Xw5.cell? ⟨pk, 0, none⟩ = some (.int .i64 K) ∧ Rl Xw5 (some ⟨g9, 0, none⟩) (zl u9) ∧ Below Xw4.heap.size Xw4 Xw5 ∧ pk < Xw5.heap.size) := by
    have ha : Below w5.heap.size w5 Xw5 := hXw5 ▸ below_al w5 _
    have hb : Below Xw4.heap.size Xw4 Xw5 := HU9.out.2.2.trans (ha.mono HU9.out.2.2.size)
    have hc : Xw5.cell? ⟨pk, 0, none⟩ = some (.int .i64 K) := by rw [← hpk, ← hXw5]; exact cell_of_row _ _ 0 _ _ _ (heap_alloc_new w5 _)
    exact ⟨(HXw4.out.1).trans (hb.mono (HXw4.out.1).size), hc, HU9.out.1.below ha, hb, World.block_lt_of_cell? _ _ hc⟩
  rw [hpk, hXw5]
  clear c0 hpk hXw5 hK
  have HVV : Hid (wo (sr rows) n (uv u7) = N ∧ wo (sr rows) n (uv u8) = M ∧ wo (sr rows) n (uv u9) = K) := ⟨HVN.out, HVM.out, HVK.out⟩
  have HTT : Hid ((isTr (zl u7) ∧ u7.length = n) ∧ (isTr (zl u8) ∧ u8.length = n) ∧ (isTr (zl u9) ∧ u9.length = n) ∧ Fl n (un (zl u8))) := ⟨⟨zl_tr HU7.out.2.1 HO7.out.tr, HU7.out.2.1⟩, ⟨zl_tr HU8.out.2.1 HO8.out.1.1, HU8.out.2.1⟩, ⟨zl_tr HU9.out.2.1 HO9.out.tr, HU9.out.2.1⟩, by rw [un_zl]; exact HO8.out.1.2⟩
  have HOPT : Hid (∀ l : List Int, l.length = n → isTr l → wo (sr rows) n (un l) ≤ N ∧ (Fl n (un l) → wo (sr rows) n (un l) ≤ M) ∧ (rt n (un l) = 1 → wo (sr rows) n (un l) ≤ K)) := fun l hl hT => by
    have hT2 : Tr n (un l) := by rw [← hl]; exact hT.2
    refine ⟨by rw [← HVV.out.1]; exact HO7.out.best _ hT2, fun hf => by rw [← HVV.out.2.1]; exact HO8.out.2 _ hT2 hf, fun hr => ?_⟩
    rcases Nat.eq_zero_or_pos n with h0 | h0
    · rw [h0] at hr
      cases hr
    · rw [← HVV.out.2.2]
      exact (one_opt h0 HM.out.2 HF.out.num HO9.out).2 _ hT2 hr
  have HR1 : Hid (1 ≤ n → rt n (un (zl u9)) = 1) := fun h0 => by
    rw [un_zl]
    exact (one_opt h0 HM.out.2 HF.out.num HO9.out).1
  have HX : Hid (∀ W, Below Xw5.heap.size Xw5 W → Below w.heap.size w W ∧ W.cell? ⟨ps, 0, none⟩ = some (.slice (some ⟨b, off, none⟩) m1 cap) ∧ W.cell? ⟨pn, 0, none⟩ = some (.int .i64 N) ∧ W.cell? ⟨pm, 0, none⟩ = some (.int .i64 M) ∧ W.cell? ⟨pk, 0, none⟩ = some (.int .i64 K) ∧ Rl W (some ⟨g7, 0, none⟩) (zl u7) ∧ Rl W (some ⟨g8, 0, none⟩) (zl u8) ∧ Rl W (some ⟨g9, 0, none⟩) (zl u9)) := fun W hW => by
    have h4 := HXw5.out.2.2.2.1.trans (hW.mono HXw5.out.2.2.2.1.size)
    have h3 := HXw4.out.2.2.2.1.trans (h4.mono HXw4.out.2.2.2.1.size)
    have h0 := HXw5.out.1.trans (hW.mono HXw5.out.1.size)
    exact ⟨by rw [HP.out.1]; exact (HCS.out W h0).2, (HCS.out W h0).1, (h3.cell HXw3.out.2.2.2.2).trans HXw3.out.2.1, (h4.cell HXw4.out.2.2.2.2).trans HXw4.out.2.1, (hW.cell HXw5.out.2.2.2.2).trans HXw5.out.2.1, HXw3.out.2.2.1.below h3, HXw4.out.2.2.1.below h4, HXw5.out.2.2.1.below hW⟩
  have HLT : Hid (ps < Xw5.heap.size ∧ pn < Xw5.heap.size ∧ pm < Xw5.heap.size ∧ pk < Xw5.heap.size) := by
    have s3 := HXw3.out.2.2.2
    have s4 := HXw4.out.2.2.2
    have s5 := HXw5.out.2.2.2
    have t1 := s4.1.size
    have t2 := s5.1.size
    have t3 := HXw5.out.1.size
    have t4 := HP.out.2
    exact ⟨by omega, by omega, by omega, by omega⟩
  have c0 := (HX.out Xw5 (Below.refl _ _)).2.1
  have K10 := H10.out Xw5 (HX.out Xw5 (Below.refl _ _)).1
  clear HVN HVM HVK HU7 HU8 HU9 HO7 HO8 HO9 H6 H7 H8 H9 H10 HXw3 HXw4 HXw5 HB1 HB2
  generalize Xw5 = X5 at *
  go_upto_region 9 with (go_at_call 10; (with_reducible refine K10.mono ?_); clear K10; rintro e W6 ⟨rfl, hb⟩; have HB6 : Hid (Below X5.heap.size X5 W6) := hb; clear hb)
  clear c0
  go_upto_region 10 with fail
  go_loopw [15] (fun c wr => ∃ i : Nat, c = .int .i64 (i : Int) ∧ i ≤ m2 ∧ Below X5.heap.size X5 wr) (fun c _ => m2 - (intOf c).toNat)
  case atStart => exact ⟨0, rfl, Nat.zero_le _, HB6.out⟩
  case round =>
    clear HB6
    obtain ⟨i, rfl, hi, hb⟩ := hrel
    have HI : Hid (Below X5.heap.size X5 wr) := hb
    clear hb
    by_cases hlt : i < m2
    · have hii : (i : Int) < (m2 : Int) := by omega
      have hnb := HM2.out.2
      have HBW : Hid (Below w.heap.size w wr) := (HX.out wr HI.out).1
      go_upto_region 12 with fail
      obtain ⟨rfl, _⟩ := (HR2.out w (Below.refl _ _)).a0 (by have := HM2.out; omega)
      obtain ⟨l2, hl2⟩ : ∃ l, rows2.getD i [] = l := ⟨_, rfl⟩
      obtain ⟨y2, hy2⟩ : ∃ y, l2.length = y := ⟨_, rfl⟩
      obtain ⟨qa, hqa⟩ : ∃ y, ra2 i = y := ⟨_, rfl⟩
      obtain ⟨qc, hqc⟩ : ∃ y, rc2 i = y := ⟨_, rfl⟩
      have HQ2 : Hid (l2.length = y2 ∧ y2 ≤ 1200000) := ⟨hy2, by have h := HMM.out i (by have := HM2.out; omega); rw [hl2, hy2] at h; exact h⟩
      have HROW : Hid (∀ W, Below wr.heap.size wr W → Rl W qa l2 ∧ W.cell? ⟨b2, off2 + i, none⟩ = some (.slice qa y2 qc)) := fun W hW => by
        have h := HR2.out W (HBW.out.trans (hW.mono HBW.out.size))
        have h1 := h.num i (by have := HM2.out; omega)
        have h2 := h.row i (by have := HM2.out; omega)
        rw [hl2, hqa] at h1
        rw [hl2, hqa, hqc, hy2] at h2
        exact ⟨h1, h2⟩
      obtain ⟨zT, hzT⟩ : ∃ z : Bool, (z = true ↔ isTr l2) := by
        by_cases h : isTr l2
        · exact ⟨true, fun _ => h, fun _ => rfl⟩
        · exact ⟨false, fun e => by (cases e), fun e => absurd e h⟩
      obtain ⟨zF, hzF⟩ : ∃ z : Bool, (z = true ↔ isTr l2 ∧ Fl y2 (un l2)) := by
        by_cases h : isTr l2 ∧ Fl y2 (un l2)
        · exact ⟨true, fun _ => h, fun _ => rfl⟩
        · exact ⟨false, fun e => by (cases e), fun e => absurd e h⟩
      have HZT : Hid (zT = true ↔ isTr l2) := hzT
      have HZF : Hid (zF = true ↔ isTr l2 ∧ Fl y2 (un l2)) := hzF
      have qT : (zT != zT) = false := by cases zT <;> rfl
      have qF : (zF != zF) = false := by cases zF <;> rfl
      clear hl2 hy2 hqa hqc hzT hzF
      have HCE : Hid _ := fun (W : World) (hSw : Below wr.heap.size wr W) => (HROW.out W hSw).2
      refine wp_region_held_drew (S := fun W => Below wr.heap.size wr W) (by kernel_rfl) (by exact below_drewN (Below.refl _ _) 1) (fun hHeld => ?_)
      have hS0 : Below wr.heap.size wr wr.drew := below_drewN (Below.refl _ _) 1
      generalize hV0 : wr.drew = V0 at *
      clear hV0
      refine wpAnyH_take (i := 0) (oi := { dst := some 67, op := Op.move (Operand.tmp 1), type := 22, pos := "chance.go:146", after := #[], guard := none }) (v := ?_) rfl (by kernel_rfl) (by kernel_rfl) (by kernel_rfl) (fun _ _ _ h => h) (Or.inl ⟨by rfl, ?_⟩) (by assumption) ?_
      case refine_2 => intro w hSw; (try dsimp only at hSw); have z0 := HCE.out _ hSw; go_simp; (try with_reducible rfl)
      simp only [Act.put, List.setIfInBounds_toArray, List.set_cons_zero, List.set_cons_succ]
      refine wpAnyH_take (i := 1) (oi := { dst := some 68, op := Op.move (Operand.tmp 15), type := 3, pos := "chance.go:146", after := #[], guard := none }) (v := ?_) rfl (by kernel_rfl) (by kernel_rfl) (by kernel_rfl) (fun _ _ _ h => h) (Or.inl ⟨by rfl, ?_⟩) (by assumption) ?_
      case refine_2 => intro w hSw; (try dsimp only at hSw); have z0 := HCE.out _ hSw; go_simp; (try with_reducible rfl)
      simp only [Act.put, List.setIfInBounds_toArray, List.set_cons_zero, List.set_cons_succ]
      refine wpAnyH_take (i := 2) (oi := { dst := some 69, op := Op.indexAddr 22 (Operand.tmp 67) (Operand.tmp 68), type := 0, pos := "chance.go:146", after := #[{ on := 0, ground := Ground.data }, { on := 1, ground := Ground.data }], guard := none }) (v := ?_) rfl (by kernel_rfl) (by kernel_rfl) (by kernel_rfl) (fun _ _ _ h => h) (Or.inl ⟨by rfl, ?_⟩) (by assumption) ?_
      case refine_2 => intro w hSw; (try dsimp only at hSw); have z0 := HCE.out _ hSw; go_simp; (try with_reducible rfl)
      simp only [Act.put, List.setIfInBounds_toArray, List.set_cons_zero, List.set_cons_succ]
      refine wpAnyH_take (i := 3) (oi := { dst := some 70, op := Op.load 26 (Operand.tmp 69), type := 26, pos := "chance.go:146", after := #[{ on := 2, ground := Ground.data }], guard := none }) (v := ?_) rfl (by kernel_rfl) (by kernel_rfl) (by kernel_rfl) (fun _ _ _ h => h) (Or.inl ⟨by rfl, ?_⟩) (by assumption) ?_
      case refine_2 => intro w hSw; (try dsimp only at hSw); have z0 := HCE.out _ hSw; go_simp; (try with_reducible rfl)
      simp only [Act.put, List.setIfInBounds_toArray, List.set_cons_zero, List.set_cons_succ]
      refine wpAnyH_take (i := 5) (oi := { dst := some 72, op := Op.move (Operand.tmp 1), type := 22, pos := "chance.go:146", after := #[], guard := none }) (v := ?_) rfl (by kernel_rfl) (by kernel_rfl) (by kernel_rfl) (fun _ _ _ h => h) (Or.inl ⟨by rfl, ?_⟩) (by assumption) ?_
      case refine_2 => intro w hSw; (try dsimp only at hSw); have z0 := HCE.out _ hSw; go_simp; (try with_reducible rfl)
      simp only [Act.put, List.setIfInBounds_toArray, List.set_cons_zero, List.set_cons_succ]
      refine wpAnyH_take (i := 6) (oi := { dst := some 73, op := Op.move (Operand.tmp 15), type := 3, pos := "chance.go:146", after := #[], guard := none }) (v := ?_) rfl (by kernel_rfl) (by kernel_rfl) (by kernel_rfl) (fun _ _ _ h => h) (Or.inl ⟨by rfl, ?_⟩) (by assumption) ?_
      case refine_2 => intro w hSw; (try dsimp only at hSw); have z0 := HCE.out _ hSw; go_simp; (try with_reducible rfl)
      simp only [Act.put, List.setIfInBounds_toArray, List.set_cons_zero, List.set_cons_succ]
      refine wpAnyH_take (i := 7) (oi := { dst := some 74, op := Op.indexAddr 22 (Operand.tmp 72) (Operand.tmp 73), type := 0, pos := "chance.go:146", after := #[{ on := 5, ground := Ground.data }, { on := 6, ground := Ground.data }], guard := none }) (v := ?_) rfl (by kernel_rfl) (by kernel_rfl) (by kernel_rfl) (fun _ _ _ h => h) (Or.inl ⟨by rfl, ?_⟩) (by assumption) ?_
      case refine_2 => intro w hSw; (try dsimp only at hSw); have z0 := HCE.out _ hSw; go_simp; (try with_reducible rfl)
      simp only [Act.put, List.setIfInBounds_toArray, List.set_cons_zero, List.set_cons_succ]
      refine wpAnyH_take (i := 8) (oi := { dst := some 75, op := Op.load 26 (Operand.tmp 74), type := 26, pos := "chance.go:146", after := #[{ on := 7, ground := Ground.data }], guard := none }) (v := ?_) rfl (by kernel_rfl) (by kernel_rfl) (by kernel_rfl) (fun _ _ _ h => h) (Or.inl ⟨by rfl, ?_⟩) (by assumption) ?_
      case refine_2 => intro w hSw; (try dsimp only at hSw); have z0 := HCE.out _ hSw; go_simp; (try with_reducible rfl)
      simp only [Act.put, List.setIfInBounds_toArray, List.set_cons_zero, List.set_cons_succ]
      refine wpAnyH_ready (rs := [4]) (by kernel_rfl) (by simp) ?_
      refine (AllReadyH.cons (o := { dst := some 71, op := Op.call { callee := Callee.value (Operand.func 11), args := #[Operand.tmp 70], argTypes := #[26] }, type := 4, pos := "chance.go:146", after := #[{ on := 3, ground := Ground.data }], guard := none }) rfl (fun K hK => ?_) AllReadyH.nil)
      have KC := tree_any l2 qa qc V0 (HROW.out V0 hS0).1 (by have := HQ2.out; omega)
      rw [HQ2.out.1] at KC
      go_simp
      (with_reducible refine KC.mono ?_)
      clear KC
      rintro e9 V1 ⟨z9, rfl, hz9, hb9⟩
      obtain rfl : zT = z9 := by rw [Bool.eq_iff_iff, hz9, HZT.out]
      dsimp only
      have hS1 : Below wr.heap.size wr V1 := hS0.trans (hb9.mono hS0.size)
      clear hz9 hb9
      refine hK.out _ _ ?_ (fun hHeld => ?_)
      · first | exact hS4 | exact hS3 | exact hS2 | exact hS1
      clear hK K
      try simp only [Act.put, List.setIfInBounds_toArray, List.set_cons_zero, List.set_cons_succ]
      refine wpAnyH_ready (rs := [9]) (by kernel_rfl) (by simp) ?_
      refine (AllReadyH.cons (o := { dst := some 76, op := Op.call { callee := Callee.value (Operand.func 12), args := #[Operand.tmp 75], argTypes := #[26] }, type := 4, pos := "chance.go:146", after := #[{ on := 8, ground := Ground.data }, { on := 4, ground := Ground.chain }], guard := none }) rfl (fun K hK => ?_) AllReadyH.nil)
      have KC := hangTree_any l2 qa qc V1 (HROW.out V1 hS1).1 (by have := HQ2.out; omega)
      rw [HQ2.out.1] at KC
      go_simp
      (with_reducible refine KC.mono ?_)
      clear KC
      rintro e9 V2 ⟨z9, rfl, hz9, hb9⟩
      obtain rfl : zT = z9 := by rw [Bool.eq_iff_iff, hz9, HZT.out]
      dsimp only
      have hS2 : Below wr.heap.size wr V2 := hS1.trans (hb9.mono hS1.size)
      clear hz9 hb9
      refine hK.out _ _ ?_ (fun hHeld => ?_)
      · first | exact hS4 | exact hS3 | exact hS2 | exact hS1
      clear hK K
      try simp only [Act.put, List.setIfInBounds_toArray, List.set_cons_zero, List.set_cons_succ]
      refine wpAnyH_take (i := 10) (oi := { dst := some 77, op := Op.binOp BinOp.neq 4 (Operand.tmp 71) (Operand.tmp 76) 4, type := 4, pos := "chance.go:146", after := #[{ on := 4, ground := Ground.data }, { on := 9, ground := Ground.data }], guard := none }) (v := ?_) rfl (by kernel_rfl) (by kernel_rfl) (by kernel_rfl) (fun _ _ _ h => h) (Or.inl ⟨by rfl, ?_⟩) (by assumption) ?_
      case refine_2 => intro w hSw; (try dsimp only at hSw); have z0 := HCE.out _ hSw; go_simp; (try with_reducible rfl)
      simp only [Act.put, List.setIfInBounds_toArray, List.set_cons_zero, List.set_cons_succ]
      refine wpAnyH_take (i := 11) (oi := { dst := some 78, op := Op.move (Operand.tmp 77), type := 4, pos := "chance.go:146", after := #[{ on := 10, ground := Ground.data }, { on := 9, ground := Ground.chain }], guard := none }) (v := ?_) rfl (by kernel_rfl) (by kernel_rfl) (by kernel_rfl) (fun _ _ _ h => h) (Or.inl ⟨by rfl, ?_⟩) (by assumption) ?_
      case refine_2 => intro w hSw; (try dsimp only at hSw); have z0 := HCE.out _ hSw; go_simp; (try with_reducible rfl)
      simp only [Act.put, List.setIfInBounds_toArray, List.set_cons_zero, List.set_cons_succ]
      refine wpAnyH_take (i := 12) (oi := { dst := some 79, op := Op.move (Operand.tmp 1), type := 22, pos := "chance.go:146", after := #[{ on := 11, ground := Ground.guard }], guard := some (11, false) }) (v := ?_) rfl (by kernel_rfl) (by kernel_rfl) (by kernel_rfl) (fun _ _ _ h => h) (Or.inl ⟨by rfl, ?_⟩) (by assumption) ?_
      case refine_2 => intro w hSw; (try dsimp only at hSw); have z0 := HCE.out _ hSw; go_simp; (try with_reducible rfl)
      simp only [Act.put, List.setIfInBounds_toArray, List.set_cons_zero, List.set_cons_succ]
      refine wpAnyH_take (i := 13) (oi := { dst := some 80, op := Op.move (Operand.tmp 15), type := 3, pos := "chance.go:146", after := #[{ on := 11, ground := Ground.guard }], guard := some (11, false) }) (v := ?_) rfl (by kernel_rfl) (by kernel_rfl) (by kernel_rfl) (fun _ _ _ h => h) (Or.inl ⟨by rfl, ?_⟩) (by assumption) ?_
      case refine_2 => intro w hSw; (try dsimp only at hSw); have z0 := HCE.out _ hSw; go_simp; (try with_reducible rfl)
      simp only [Act.put, List.setIfInBounds_toArray, List.set_cons_zero, List.set_cons_succ]
      refine wpAnyH_take (i := 14) (oi := { dst := some 81, op := Op.indexAddr 22 (Operand.tmp 79) (Operand.tmp 80), type := 0, pos := "chance.go:146", after := #[{ on := 12, ground := Ground.data }, { on := 13, ground := Ground.data }, { on := 11, ground := Ground.guard }], guard := some (11, false) }) (v := ?_) rfl (by kernel_rfl) (by kernel_rfl) (by kernel_rfl) (fun _ _ _ h => h) (Or.inl ⟨by rfl, ?_⟩) (by assumption) ?_
      case refine_2 => intro w hSw; (try dsimp only at hSw); have z0 := HCE.out _ hSw; go_simp; (try with_reducible rfl)
      simp only [Act.put, List.setIfInBounds_toArray, List.set_cons_zero, List.set_cons_succ]
      refine wpAnyH_take (i := 15) (oi := { dst := some 82, op := Op.load 26 (Operand.tmp 81), type := 26, pos := "chance.go:146", after := #[{ on := 14, ground := Ground.data }, { on := 11, ground := Ground.guard }], guard := some (11, false) }) (v := ?_) rfl (by kernel_rfl) (by kernel_rfl) (by kernel_rfl) (fun _ _ _ h => h) (Or.inl ⟨by rfl, ?_⟩) (by assumption) ?_
      case refine_2 => intro w hSw; (try dsimp only at hSw); have z0 := HCE.out _ hSw; go_simp; (try with_reducible rfl)
      simp only [Act.put, List.setIfInBounds_toArray, List.set_cons_zero, List.set_cons_succ]
      refine wpAnyH_take (i := 17) (oi := { dst := some 84, op := Op.move (Operand.tmp 1), type := 22, pos := "chance.go:146", after := #[{ on := 11, ground := Ground.guard }], guard := some (11, false) }) (v := ?_) rfl (by kernel_rfl) (by kernel_rfl) (by kernel_rfl) (fun _ _ _ h => h) (Or.inl ⟨by rfl, ?_⟩) (by assumption) ?_
      case refine_2 => intro w hSw; (try dsimp only at hSw); have z0 := HCE.out _ hSw; go_simp; (try with_reducible rfl)
      simp only [Act.put, List.setIfInBounds_toArray, List.set_cons_zero, List.set_cons_succ]
      refine wpAnyH_take (i := 18) (oi := { dst := some 85, op := Op.move (Operand.tmp 15), type := 3, pos := "chance.go:146", after := #[{ on := 11, ground := Ground.guard }], guard := some (11, false) }) (v := ?_) rfl (by kernel_rfl) (by kernel_rfl) (by kernel_rfl) (fun _ _ _ h => h) (Or.inl ⟨by rfl, ?_⟩) (by assumption) ?_
      case refine_2 => intro w hSw; (try dsimp only at hSw); have z0 := HCE.out _ hSw; go_simp; (try with_reducible rfl)
      simp only [Act.put, List.setIfInBounds_toArray, List.set_cons_zero, List.set_cons_succ]
      refine wpAnyH_take (i := 19) (oi := { dst := some 86, op := Op.indexAddr 22 (Operand.tmp 84) (Operand.tmp 85), type := 0, pos := "chance.go:146", after := #[{ on := 17, ground := Ground.data }, { on := 18, ground := Ground.data }, { on := 11, ground := Ground.guard }], guard := some (11, false) }) (v := ?_) rfl (by kernel_rfl) (by kernel_rfl) (by kernel_rfl) (fun _ _ _ h => h) (Or.inl ⟨by rfl, ?_⟩) (by assumption) ?_
      case refine_2 => intro w hSw; (try dsimp only at hSw); have z0 := HCE.out _ hSw; go_simp; (try with_reducible rfl)
      simp only [Act.put, List.setIfInBounds_toArray, List.set_cons_zero, List.set_cons_succ]
      refine wpAnyH_take (i := 20) (oi := { dst := some 87, op := Op.load 26 (Operand.tmp 86), type := 26, pos := "chance.go:146", after := #[{ on := 19, ground := Ground.data }, { on := 11, ground := Ground.guard }], guard := some (11, false) }) (v := ?_) rfl (by kernel_rfl) (by kernel_rfl) (by kernel_rfl) (fun _ _ _ h => h) (Or.inl ⟨by rfl, ?_⟩) (by assumption) ?_
      case refine_2 => intro w hSw; (try dsimp only at hSw); have z0 := HCE.out _ hSw; go_simp; (try with_reducible rfl)
      simp only [Act.put, List.setIfInBounds_toArray, List.set_cons_zero, List.set_cons_succ]
      refine wpAnyH_ready (rs := [16]) (by kernel_rfl) (by simp) ?_
      refine (AllReadyH.cons (o := { dst := some 83, op := Op.call { callee := Callee.value (Operand.func 13), args := #[Operand.tmp 82], argTypes := #[26] }, type := 4, pos := "chance.go:146", after := #[{ on := 15, ground := Ground.data }, { on := 11, ground := Ground.chain }, { on := 11, ground := Ground.guard }], guard := some (11, false) }) rfl (fun K hK => ?_) AllReadyH.nil)
      have KC := flat_any l2 qa qc V2 (HROW.out V2 hS2).1 (by have := HQ2.out; omega)
      rw [HQ2.out.1] at KC
      go_simp
      (with_reducible refine KC.mono ?_)
      clear KC
      rintro e9 V3 ⟨z9, rfl, hz9, hb9⟩
      obtain rfl : zF = z9 := by rw [Bool.eq_iff_iff, hz9, HZF.out]
      dsimp only
      have hS3 : Below wr.heap.size wr V3 := hS2.trans (hb9.mono hS2.size)
      clear hz9 hb9
      refine hK.out _ _ ?_ (fun hHeld => ?_)
      · first | exact hS4 | exact hS3 | exact hS2 | exact hS1
      clear hK K
      try simp only [Act.put, List.setIfInBounds_toArray, List.set_cons_zero, List.set_cons_succ]
      refine wpAnyH_ready (rs := [21]) (by kernel_rfl) (by simp) ?_
      refine (AllReadyH.cons (o := { dst := some 88, op := Op.call { callee := Callee.value (Operand.func 14), args := #[Operand.tmp 87], argTypes := #[26] }, type := 4, pos := "chance.go:146", after := #[{ on := 20, ground := Ground.data }, { on := 16, ground := Ground.chain }, { on := 11, ground := Ground.guard }], guard := some (11, false) }) rfl (fun K hK => ?_) AllReadyH.nil)
      have KC := hangFlat_any l2 qa qc V3 (HROW.out V3 hS3).1 (by have := HQ2.out; omega)
      rw [HQ2.out.1] at KC
      go_simp
      (with_reducible refine KC.mono ?_)
      clear KC
      rintro e9 V4 ⟨z9, rfl, hz9, hb9⟩
      obtain rfl : zF = z9 := by rw [Bool.eq_iff_iff, hz9, HZF.out]
      dsimp only
      have hS4 : Below wr.heap.size wr V4 := hS3.trans (hb9.mono hS3.size)
      clear hz9 hb9
      refine hK.out _ _ ?_ (fun hHeld => ?_)
      · first | exact hS4 | exact hS3 | exact hS2 | exact hS1
      clear hK K
      try simp only [Act.put, List.setIfInBounds_toArray, List.set_cons_zero, List.set_cons_succ]
      refine wpAnyH_take (i := 22) (oi := { dst := some 89, op := Op.binOp BinOp.neq 4 (Operand.tmp 83) (Operand.tmp 88) 4, type := 4, pos := "chance.go:146", after := #[{ on := 16, ground := Ground.data }, { on := 21, ground := Ground.data }, { on := 11, ground := Ground.guard }], guard := some (11, false) }) (v := ?_) rfl (by kernel_rfl) (by kernel_rfl) (by kernel_rfl) (fun _ _ _ h => h) (Or.inl ⟨by rfl, ?_⟩) (by assumption) ?_
      case refine_2 => intro w hSw; (try dsimp only at hSw); have z0 := HCE.out _ hSw; go_simp; (try with_reducible rfl)
      simp only [Act.put, List.setIfInBounds_toArray, List.set_cons_zero, List.set_cons_succ]
      refine wpAnyH_take (i := 23) (oi := { dst := some 90, op := Op.pick (Operand.tmp 78) (Operand.const (Value.bool true)) (Operand.tmp 89), type := 4, pos := "chance.go:146", after := #[{ on := 11, ground := Ground.data }, { on := 22, ground := Ground.data }], guard := none }) (v := ?_) rfl (by kernel_rfl) (by kernel_rfl) (by kernel_rfl) (fun _ _ _ h => h) (Or.inl ⟨by rfl, ?_⟩) (by assumption) ?_
      case refine_2 => intro w hSw; (try dsimp only at hSw); have z0 := HCE.out _ hSw; go_simp; (try with_reducible rfl)
      simp only [Act.put, List.setIfInBounds_toArray, List.set_cons_zero, List.set_cons_succ]
      refine wpAnyH_done (by kernel_rfl) ?_ _
      have HB12 : Hid (Below wr.heap.size wr V4) := hS4
      clear hS0 hS1 hS2 hS3 hS4
      have HB13 : Hid (Below X5.heap.size X5 V4) := HI.out.trans (HB12.out.mono HI.out.size)
      go_wp2
      go_roundw
      case rel => exact ⟨i + 1, by go_num, hlt, HB13.out⟩
      case measure => simp [intOf]; omega
    · have hii : ¬ (i : Int) < (m2 : Int) := by omega
      have hn12 := HM.out.2
      have wn : wrap64 ((m1 : Int) - 1) = (n : Int) := by have := HM.out; unfold wrap64; omega
      have c0 := (HX.out wr HI.out).2.1
      go_upto_region 17 with fail
      rw [wn]
      clear hii c0 wn
      clear hlt hi
      have KA : Hid (∀ W, Below X5.heap.size X5 W → Calls Try.prog 12 #[.slice (some ⟨g7, 0, none⟩) n n] W (SayQ (isTr (zl u7)) W)) := fun W hW => by
        have h := hangTree_any (zl u7) _ n W (HX.out W hW).2.2.2.2.2.1 (by rw [zl_len, HTT.out.1.2]; omega)
        rw [zl_len, HTT.out.1.2] at h
        exact h
      have KB : Hid (∀ W, Below X5.heap.size X5 W → Calls Try.prog 14 #[.slice (some ⟨g8, 0, none⟩) n n] W (SayQ (isTr (zl u8) ∧ Fl n (un (zl u8))) W)) := fun W hW => by
        have h := hangFlat_any (zl u8) _ n W (HX.out W hW).2.2.2.2.2.2.1 (by rw [zl_len, HTT.out.2.1.2]; omega)
        rw [zl_len, HTT.out.2.1.2] at h
        exact h
      have KC : Hid (∀ W, Below X5.heap.size X5 W → Calls Try.prog 12 #[.slice (some ⟨g9, 0, none⟩) n n] W (SayQ (isTr (zl u9)) W)) := fun W hW => by
        have h := hangTree_any (zl u9) _ n W (HX.out W hW).2.2.2.2.2.2.2 (by rw [zl_len, HTT.out.2.2.1.2]; omega)
        rw [zl_len, HTT.out.2.2.1.2] at h
        exact h
      have KD : Hid (1 ≤ n → ∀ W, Below X5.heap.size X5 W → Calls Try.prog 15 #[.slice (some ⟨g9, 0, none⟩) n n] W fun e w' => e = .returned (.int .i64 1) ∧ Below W.heap.size W w') := fun h0 W hW => by
        have h := roots_any (zl u9) (some ⟨g9, 0, none⟩) n W (HX.out W hW).2.2.2.2.2.2.2 (by rw [zl_len, HTT.out.2.2.1.2]; omega) HTT.out.2.2.1.1.1
        rw [zl_len, HTT.out.2.2.1.2, HR1.out h0] at h
        exact h
      have K1 := KA.out wr HI.out
      go_cut [156] from 17 to 19 (fun v wx => v = .bool false ∧ Below X5.heap.size X5 wx)
      case first =>
        by_cases hn0 : n = 0
        · have q0 : ¬ (0 : Int) < (n : Int) := by omega
          clear hn0
          go_wp2_with (first | (go_at_call 12; (with_reducible refine K1.mono ?_); clear K1; rintro e w7 ⟨z, rfl, hz, hb⟩; obtain rfl : z = true := hz.2 HTT.out.1.1; have HB7 : Hid (Below X5.heap.size X5 w7) := HI.out.trans (hb.mono HI.out.size); have K2 := KB.out w7 HB7.out; clear hz hb) | (go_at_call 14; (with_reducible refine K2.mono ?_); clear K2; rintro e w8 ⟨z, rfl, hz, hb⟩; obtain rfl : z = true := hz.2 ⟨HTT.out.2.1.1, HTT.out.2.2.2⟩; have HB8 : Hid (Below X5.heap.size X5 w8) := HB7.out.trans (hb.mono HB7.out.size); have K3 := KC.out w8 HB8.out; clear hz hb) | (go_at_call 12; (with_reducible refine K3.mono ?_); clear K3; rintro e w9 ⟨z, rfl, hz, hb⟩; obtain rfl : z = true := hz.2 HTT.out.2.2.1.1; have HB9 : Hid (Below X5.heap.size X5 w9) := HB8.out.trans (hb.mono HB8.out.size); clear hz hb))
          go_meet
          case rel => exact ⟨rfl, HB9.out⟩
        · have q0 : (0 : Int) < (n : Int) := by omega
          have K4' := KD.out (by omega)
          have K4 : Hid (∀ W, Below X5.heap.size X5 W → Calls Try.prog 15 #[.slice (some ⟨g9, 0, none⟩) n n] W fun e w' => e = .returned (.int .i64 1) ∧ Below W.heap.size W w') := K4'
          clear K4' hn0
          go_wp2_with (first | (go_at_call 12; (with_reducible refine K1.mono ?_); clear K1; rintro e w7 ⟨z, rfl, hz, hb⟩; obtain rfl : z = true := hz.2 HTT.out.1.1; have HB7 : Hid (Below X5.heap.size X5 w7) := HI.out.trans (hb.mono HI.out.size); have K2 := KB.out w7 HB7.out; clear hz hb) | (go_at_call 14; (with_reducible refine K2.mono ?_); clear K2; rintro e w8 ⟨z, rfl, hz, hb⟩; obtain rfl : z = true := hz.2 ⟨HTT.out.2.1.1, HTT.out.2.2.2⟩; have HB8 : Hid (Below X5.heap.size X5 w8) := HB7.out.trans (hb.mono HB7.out.size); have K3 := KC.out w8 HB8.out; clear hz hb) | (go_at_call 12; (with_reducible refine K3.mono ?_); clear K3; rintro e w9 ⟨z, rfl, hz, hb⟩; obtain rfl : z = true := hz.2 HTT.out.2.2.1.1; have HB9 : Hid (Below X5.heap.size X5 w9) := HB8.out.trans (hb.mono HB8.out.size); have K5 := K4.out w9 HB9.out; clear hz hb) | (go_at_call 15; (with_reducible refine K5.mono ?_); clear K5; rintro e w10 ⟨rfl, hb⟩; have HB10 : Hid (Below X5.heap.size X5 w10) := HB9.out.trans (hb.mono HB9.out.size); clear hb))
          go_meet
          case rel => exact ⟨rfl, HB10.out⟩
      case rest =>
      obtain ⟨rfl, hcut⟩ := hcut
      have HWX : Hid (Below X5.heap.size X5 wc) := hcut
      clear hcut K1 KA KB KC KD HI
      have HXX : Hid (∀ W, Below wc.heap.size wc W → W.cell? ⟨ps, 0, none⟩ = some (.slice (some ⟨b, off, none⟩) m1 cap) ∧ W.cell? ⟨pn, 0, none⟩ = some (.int .i64 N) ∧ W.cell? ⟨pm, 0, none⟩ = some (.int .i64 M) ∧ W.cell? ⟨pk, 0, none⟩ = some (.int .i64 K)) := fun W hW => by
        have h := HX.out W (HWX.out.trans (hW.mono HWX.out.size))
        exact ⟨h.2.1, h.2.2.1, h.2.2.2.1, h.2.2.2.2.1⟩
      have qN : (N != N) = false := by simp
      have qM : (M != M) = false := by simp
      have qK : (K != K) = false := by simp
      go_upto_region 19 with fail
      have HCE : Hid _ := fun (W : World) (hSw : Below wc.heap.size wc W) => (And.intro ((HXX.out W hSw).1) (And.intro ((HXX.out W hSw).2.1) (And.intro ((HXX.out W hSw).2.2.1) ((HXX.out W hSw).2.2.2))))
      refine wp_region_held_drew (S := fun W => Below wc.heap.size wc W) (by kernel_rfl) (by exact below_drewN (Below.refl _ _) 1) (fun hHeld => ?_)
      have hT0 : Below wc.heap.size wc wc.drew := below_drewN (Below.refl _ _) 1
      generalize hV0 : wc.drew = V0 at *
      clear hV0
      refine wpAnyH_take (i := 0) (oi := { dst := some 157, op := Op.load 22 (Operand.tmp 2), type := 22, pos := "chance.go:157", after := #[], guard := none }) (v := ?_) rfl (by kernel_rfl) (by kernel_rfl) (by kernel_rfl) (fun _ _ _ h => h) (Or.inl ⟨by rfl, ?_⟩) (by assumption) ?_
      case refine_2 => intro w hSw; (try dsimp only at hSw); obtain ⟨z0, z1, z2, z3⟩ := HCE.out _ hSw; go_simp; (try with_reducible rfl)
      simp only [Act.put, List.setIfInBounds_toArray, List.set_cons_zero, List.set_cons_succ]
      refine wpAnyH_take (i := 1) (oi := { dst := some 158, op := Op.move (Operand.tmp 6), type := 26, pos := "chance.go:157", after := #[], guard := none }) (v := ?_) rfl (by kernel_rfl) (by kernel_rfl) (by kernel_rfl) (fun _ _ _ h => h) (Or.inl ⟨by rfl, ?_⟩) (by assumption) ?_
      case refine_2 => intro w hSw; (try dsimp only at hSw); obtain ⟨z0, z1, z2, z3⟩ := HCE.out _ hSw; go_simp; (try with_reducible rfl)
      simp only [Act.put, List.setIfInBounds_toArray, List.set_cons_zero, List.set_cons_succ]
      refine wpAnyH_take (i := 3) (oi := { dst := some 160, op := Op.load 3 (Operand.tmp 7), type := 3, pos := "chance.go:157", after := #[], guard := none }) (v := ?_) rfl (by kernel_rfl) (by kernel_rfl) (by kernel_rfl) (fun _ _ _ h => h) (Or.inl ⟨by rfl, ?_⟩) (by assumption) ?_
      case refine_2 => intro w hSw; (try dsimp only at hSw); obtain ⟨z0, z1, z2, z3⟩ := HCE.out _ hSw; go_simp; (try with_reducible rfl)
      simp only [Act.put, List.setIfInBounds_toArray, List.set_cons_zero, List.set_cons_succ]
      refine wpAnyH_ready (rs := [2]) (by kernel_rfl) (by simp) ?_
      refine (AllReadyH.cons (o := { dst := some 159, op := Op.call { callee := Callee.value (Operand.func 16), args := #[Operand.tmp 157, Operand.tmp 158], argTypes := #[22, 26] }, type := 3, pos := "chance.go:157", after := #[{ on := 0, ground := Ground.data }, { on := 1, ground := Ground.data }], guard := none }) rfl (fun K hK => ?_) AllReadyH.nil)
      have KW := worth_l n b off cap n _ ra rc (sr rows) (zl u7) V0 (HSC.out V0 (HX.out V0 (HWX.out.trans (hT0.mono HWX.out.size))).1) HF.out.few HF.out.num (HX.out V0 (HWX.out.trans (hT0.mono HWX.out.size))).2.2.2.2.2.1 HTT.out.1.1.1 (by rw [zl_len]; exact HTT.out.1.2)
      rw [un_zl, HVV.out.1, HM.out.1] at KW
      go_simp
      (with_reducible refine KW.mono ?_)
      clear KW
      rintro e9 V1 ⟨rfl, hb9⟩
      dsimp only
      have hT1 : Below wc.heap.size wc V1 := hT0.trans (hb9.mono hT0.size)
      clear hb9
      refine hK.out _ _ ?_ (fun hHeld => ?_)
      · first | exact hT3 | exact hT2 | exact hT1
      clear hK K
      try simp only [Act.put, List.setIfInBounds_toArray, List.set_cons_zero, List.set_cons_succ]
      refine wpAnyH_take (i := 4) (oi := { dst := some 161, op := Op.binOp BinOp.neq 3 (Operand.tmp 159) (Operand.tmp 160) 3, type := 4, pos := "chance.go:157", after := #[{ on := 2, ground := Ground.data }, { on := 3, ground := Ground.data }], guard := none }) (v := ?_) rfl (by kernel_rfl) (by kernel_rfl) (by kernel_rfl) (fun _ _ _ h => h) (Or.inl ⟨by rfl, ?_⟩) (by assumption) ?_
      case refine_2 => intro w hSw; (try dsimp only at hSw); obtain ⟨z0, z1, z2, z3⟩ := HCE.out _ hSw; go_simp; (try with_reducible rfl)
      simp only [Act.put, List.setIfInBounds_toArray, List.set_cons_zero, List.set_cons_succ]
      refine wpAnyH_take (i := 5) (oi := { dst := some 162, op := Op.move (Operand.tmp 161), type := 4, pos := "chance.go:157", after := #[{ on := 4, ground := Ground.data }, { on := 2, ground := Ground.chain }], guard := none }) (v := ?_) rfl (by kernel_rfl) (by kernel_rfl) (by kernel_rfl) (fun _ _ _ h => h) (Or.inl ⟨by rfl, ?_⟩) (by assumption) ?_
      case refine_2 => intro w hSw; (try dsimp only at hSw); obtain ⟨z0, z1, z2, z3⟩ := HCE.out _ hSw; go_simp; (try with_reducible rfl)
      simp only [Act.put, List.setIfInBounds_toArray, List.set_cons_zero, List.set_cons_succ]
      refine wpAnyH_take (i := 6) (oi := { dst := some 163, op := Op.load 22 (Operand.tmp 2), type := 22, pos := "chance.go:157", after := #[{ on := 5, ground := Ground.guard }], guard := some (5, false) }) (v := ?_) rfl (by kernel_rfl) (by kernel_rfl) (by kernel_rfl) (fun _ _ _ h => h) (Or.inl ⟨by rfl, ?_⟩) (by assumption) ?_
      case refine_2 => intro w hSw; (try dsimp only at hSw); obtain ⟨z0, z1, z2, z3⟩ := HCE.out _ hSw; go_simp; (try with_reducible rfl)
      simp only [Act.put, List.setIfInBounds_toArray, List.set_cons_zero, List.set_cons_succ]
      refine wpAnyH_take (i := 7) (oi := { dst := some 164, op := Op.move (Operand.tmp 9), type := 26, pos := "chance.go:157", after := #[{ on := 5, ground := Ground.guard }], guard := some (5, false) }) (v := ?_) rfl (by kernel_rfl) (by kernel_rfl) (by kernel_rfl) (fun _ _ _ h => h) (Or.inl ⟨by rfl, ?_⟩) (by assumption) ?_
      case refine_2 => intro w hSw; (try dsimp only at hSw); obtain ⟨z0, z1, z2, z3⟩ := HCE.out _ hSw; go_simp; (try with_reducible rfl)
      simp only [Act.put, List.setIfInBounds_toArray, List.set_cons_zero, List.set_cons_succ]
      refine wpAnyH_take (i := 9) (oi := { dst := some 166, op := Op.load 3 (Operand.tmp 10), type := 3, pos := "chance.go:157", after := #[{ on := 5, ground := Ground.guard }], guard := some (5, false) }) (v := ?_) rfl (by kernel_rfl) (by kernel_rfl) (by kernel_rfl) (fun _ _ _ h => h) (Or.inl ⟨by rfl, ?_⟩) (by assumption) ?_
      case refine_2 => intro w hSw; (try dsimp only at hSw); obtain ⟨z0, z1, z2, z3⟩ := HCE.out _ hSw; go_simp; (try with_reducible rfl)
      simp only [Act.put, List.setIfInBounds_toArray, List.set_cons_zero, List.set_cons_succ]
      refine wpAnyH_ready (rs := [8]) (by kernel_rfl) (by simp) ?_
      refine (AllReadyH.cons (o := { dst := some 165, op := Op.call { callee := Callee.value (Operand.func 16), args := #[Operand.tmp 163, Operand.tmp 164], argTypes := #[22, 26] }, type := 3, pos := "chance.go:157", after := #[{ on := 6, ground := Ground.data }, { on := 7, ground := Ground.data }, { on := 5, ground := Ground.chain }, { on := 5, ground := Ground.guard }], guard := some (5, false) }) rfl (fun K hK => ?_) AllReadyH.nil)
      have KW := worth_l n b off cap n _ ra rc (sr rows) (zl u8) V1 (HSC.out V1 (HX.out V1 (HWX.out.trans (hT1.mono HWX.out.size))).1) HF.out.few HF.out.num (HX.out V1 (HWX.out.trans (hT1.mono HWX.out.size))).2.2.2.2.2.2.1 HTT.out.2.1.1.1 (by rw [zl_len]; exact HTT.out.2.1.2)
      rw [un_zl, HVV.out.2.1, HM.out.1] at KW
      go_simp
      (with_reducible refine KW.mono ?_)
      clear KW
      rintro e9 V2 ⟨rfl, hb9⟩
      dsimp only
      have hT2 : Below wc.heap.size wc V2 := hT1.trans (hb9.mono hT1.size)
      clear hb9
      refine hK.out _ _ ?_ (fun hHeld => ?_)
      · first | exact hT3 | exact hT2 | exact hT1
      clear hK K
      try simp only [Act.put, List.setIfInBounds_toArray, List.set_cons_zero, List.set_cons_succ]
      refine wpAnyH_take (i := 10) (oi := { dst := some 167, op := Op.binOp BinOp.neq 3 (Operand.tmp 165) (Operand.tmp 166) 3, type := 4, pos := "chance.go:157", after := #[{ on := 8, ground := Ground.data }, { on := 9, ground := Ground.data }, { on := 5, ground := Ground.guard }], guard := some (5, false) }) (v := ?_) rfl (by kernel_rfl) (by kernel_rfl) (by kernel_rfl) (fun _ _ _ h => h) (Or.inl ⟨by rfl, ?_⟩) (by assumption) ?_
      case refine_2 => intro w hSw; (try dsimp only at hSw); obtain ⟨z0, z1, z2, z3⟩ := HCE.out _ hSw; go_simp; (try with_reducible rfl)
      simp only [Act.put, List.setIfInBounds_toArray, List.set_cons_zero, List.set_cons_succ]
      refine wpAnyH_take (i := 11) (oi := { dst := some 168, op := Op.pick (Operand.tmp 162) (Operand.const (Value.bool true)) (Operand.tmp 167), type := 4, pos := "chance.go:157", after := #[{ on := 5, ground := Ground.data }, { on := 10, ground := Ground.data }], guard := none }) (v := ?_) rfl (by kernel_rfl) (by kernel_rfl) (by kernel_rfl) (fun _ _ _ h => h) (Or.inl ⟨by rfl, ?_⟩) (by assumption) ?_
      case refine_2 => intro w hSw; (try dsimp only at hSw); obtain ⟨z0, z1, z2, z3⟩ := HCE.out _ hSw; go_simp; (try with_reducible rfl)
      simp only [Act.put, List.setIfInBounds_toArray, List.set_cons_zero, List.set_cons_succ]
      refine wpAnyH_take (i := 12) (oi := { dst := some 169, op := Op.move (Operand.tmp 168), type := 4, pos := "chance.go:157", after := #[{ on := 11, ground := Ground.data }, { on := 8, ground := Ground.chain }], guard := none }) (v := ?_) rfl (by kernel_rfl) (by kernel_rfl) (by kernel_rfl) (fun _ _ _ h => h) (Or.inl ⟨by rfl, ?_⟩) (by assumption) ?_
      case refine_2 => intro w hSw; (try dsimp only at hSw); obtain ⟨z0, z1, z2, z3⟩ := HCE.out _ hSw; go_simp; (try with_reducible rfl)
      simp only [Act.put, List.setIfInBounds_toArray, List.set_cons_zero, List.set_cons_succ]
      refine wpAnyH_take (i := 13) (oi := { dst := some 170, op := Op.load 22 (Operand.tmp 2), type := 22, pos := "chance.go:157", after := #[{ on := 12, ground := Ground.guard }], guard := some (12, false) }) (v := ?_) rfl (by kernel_rfl) (by kernel_rfl) (by kernel_rfl) (fun _ _ _ h => h) (Or.inl ⟨by rfl, ?_⟩) (by assumption) ?_
      case refine_2 => intro w hSw; (try dsimp only at hSw); obtain ⟨z0, z1, z2, z3⟩ := HCE.out _ hSw; go_simp; (try with_reducible rfl)
      simp only [Act.put, List.setIfInBounds_toArray, List.set_cons_zero, List.set_cons_succ]
      refine wpAnyH_take (i := 14) (oi := { dst := some 171, op := Op.move (Operand.tmp 12), type := 26, pos := "chance.go:157", after := #[{ on := 12, ground := Ground.guard }], guard := some (12, false) }) (v := ?_) rfl (by kernel_rfl) (by kernel_rfl) (by kernel_rfl) (fun _ _ _ h => h) (Or.inl ⟨by rfl, ?_⟩) (by assumption) ?_
      case refine_2 => intro w hSw; (try dsimp only at hSw); obtain ⟨z0, z1, z2, z3⟩ := HCE.out _ hSw; go_simp; (try with_reducible rfl)
      simp only [Act.put, List.setIfInBounds_toArray, List.set_cons_zero, List.set_cons_succ]
      refine wpAnyH_take (i := 16) (oi := { dst := some 173, op := Op.load 3 (Operand.tmp 13), type := 3, pos := "chance.go:157", after := #[{ on := 12, ground := Ground.guard }], guard := some (12, false) }) (v := ?_) rfl (by kernel_rfl) (by kernel_rfl) (by kernel_rfl) (fun _ _ _ h => h) (Or.inl ⟨by rfl, ?_⟩) (by assumption) ?_
      case refine_2 => intro w hSw; (try dsimp only at hSw); obtain ⟨z0, z1, z2, z3⟩ := HCE.out _ hSw; go_simp; (try with_reducible rfl)
      simp only [Act.put, List.setIfInBounds_toArray, List.set_cons_zero, List.set_cons_succ]
      refine wpAnyH_ready (rs := [15]) (by kernel_rfl) (by simp) ?_
      refine (AllReadyH.cons (o := { dst := some 172, op := Op.call { callee := Callee.value (Operand.func 16), args := #[Operand.tmp 170, Operand.tmp 171], argTypes := #[22, 26] }, type := 3, pos := "chance.go:157", after := #[{ on := 13, ground := Ground.data }, { on := 14, ground := Ground.data }, { on := 12, ground := Ground.chain }, { on := 12, ground := Ground.guard }], guard := some (12, false) }) rfl (fun K hK => ?_) AllReadyH.nil)
      have KW := worth_l n b off cap n _ ra rc (sr rows) (zl u9) V2 (HSC.out V2 (HX.out V2 (HWX.out.trans (hT2.mono HWX.out.size))).1) HF.out.few HF.out.num (HX.out V2 (HWX.out.trans (hT2.mono HWX.out.size))).2.2.2.2.2.2.2 HTT.out.2.2.1.1.1 (by rw [zl_len]; exact HTT.out.2.2.1.2)
      rw [un_zl, HVV.out.2.2, HM.out.1] at KW
      go_simp
      (with_reducible refine KW.mono ?_)
      clear KW
      rintro e9 V3 ⟨rfl, hb9⟩
      dsimp only
      have hT3 : Below wc.heap.size wc V3 := hT2.trans (hb9.mono hT2.size)
      clear hb9
      refine hK.out _ _ ?_ (fun hHeld => ?_)
      · first | exact hT3 | exact hT2 | exact hT1
      clear hK K
      try simp only [Act.put, List.setIfInBounds_toArray, List.set_cons_zero, List.set_cons_succ]
      refine wpAnyH_take (i := 17) (oi := { dst := some 174, op := Op.binOp BinOp.neq 3 (Operand.tmp 172) (Operand.tmp 173) 3, type := 4, pos := "chance.go:157", after := #[{ on := 15, ground := Ground.data }, { on := 16, ground := Ground.data }, { on := 12, ground := Ground.guard }], guard := some (12, false) }) (v := ?_) rfl (by kernel_rfl) (by kernel_rfl) (by kernel_rfl) (fun _ _ _ h => h) (Or.inl ⟨by rfl, ?_⟩) (by assumption) ?_
      case refine_2 => intro w hSw; (try dsimp only at hSw); obtain ⟨z0, z1, z2, z3⟩ := HCE.out _ hSw; go_simp; (try with_reducible rfl)
      simp only [Act.put, List.setIfInBounds_toArray, List.set_cons_zero, List.set_cons_succ]
      refine wpAnyH_take (i := 18) (oi := { dst := some 175, op := Op.pick (Operand.tmp 169) (Operand.const (Value.bool true)) (Operand.tmp 174), type := 4, pos := "chance.go:157", after := #[{ on := 12, ground := Ground.data }, { on := 17, ground := Ground.data }], guard := none }) (v := ?_) rfl (by kernel_rfl) (by kernel_rfl) (by kernel_rfl) (fun _ _ _ h => h) (Or.inl ⟨by rfl, ?_⟩) (by assumption) ?_
      case refine_2 => intro w hSw; (try dsimp only at hSw); obtain ⟨z0, z1, z2, z3⟩ := HCE.out _ hSw; go_simp; (try with_reducible rfl)
      simp only [Act.put, List.setIfInBounds_toArray, List.set_cons_zero, List.set_cons_succ]
      refine wpAnyH_done (by kernel_rfl) ?_ _
      have HB19 : Hid (Below wc.heap.size wc V3) := hT3
      clear hT0 hT1 hT2 hT3
      have HB20 : Hid (Below X5.heap.size X5 V3) := HWX.out.trans (HB19.out.mono HWX.out.size)
      clear HB19 HXX
      go_upto_region 23 with fail
      obtain ⟨po, hpo⟩ : ∃ p, V3.heap.size = p := ⟨_, rfl⟩
      obtain ⟨X6, hX6⟩ : ∃ W, V3.alloc (.cells #[.bool true] 4) = W := ⟨_, rfl⟩
      have HBX : Hid (Bx X6 ps po pn pm pk (.slice (some ⟨b, off, none⟩) (n + 1) cap) N M K ∧ Below w.heap.size w X6 ∧ w.heap.size ≤ po ∧ ∀ b ∈ [ps, pn, pm, pk], b ≠ po) := by
        have hb6 : Below X5.heap.size X5 X6 := HB20.out.trans (hX6 ▸ (below_al V3 _).mono HB20.out.size)
        have h := HX.out X6 hb6
        have hs := HB20.out.size
        have hw := (HX.out X5 (Below.refl _ _)).1.size
        have hl := HLT.out
        refine ⟨⟨by rw [HM.out.1]; exact h.2.1, by rw [← hpo, ← hX6]; exact heap_alloc_new V3 _, h.2.2.1, h.2.2.2.1, h.2.2.2.2.1⟩, h.1, by omega, fun x hx => ?_⟩
        simp only [List.mem_cons, List.not_mem_nil, or_false] at hx
        rcases hx with rfl | rfl | rfl | rfl <;> omega
      rw [hpo, hX6]
      clear hpo hX6 HB20 HWX HX HLT
      by_cases h5 : n ≤ 5
      · have h5' : (n : Int) ≤ 5 := by omega
        have K18 := hangAll_any w n b off cap ps po pn pm pk ra rc (sr rows) N M K X6 HSC.out HF.out.few HF.out.num HOPT.out HBX.out.2.1 HBX.out.2.2.1 HBX.out.2.2.2 HBX.out.1
        unfold f17 at K18
        clear h5
        go_wp2_with (go_at_call 18; (with_reducible refine K18.mono ?_); clear K18; rintro e X7 ⟨rfl, hp, hb⟩; have HE : Hid (Below w.heap.size w X7) := hb; have c1 := cell_of_row _ _ 0 _ _ _ hp; clear hp hb)
        try rw [Exit.noGoto_ret]
        go_ret
        exact ⟨rfl, HE.out⟩
      · have h5' : ¬ (n : Int) ≤ 5 := by omega
        clear h5
        go_upto_region 27 with fail
        clear h5'
        go_loopw [19] (fun c wr => ∃ i : Nat, c = .int .i64 (i : Int) ∧ i ≤ m2 ∧ Bx wr ps po pn pm pk (.slice (some ⟨b, off, none⟩) (n + 1) cap) N M K ∧ Below w.heap.size w wr) (fun c _ => m2 - (intOf c).toNat)
        case atStart => exact ⟨0, rfl, Nat.zero_le _, HBX.out.1, HBX.out.2.1⟩
        case round =>
          obtain ⟨i, rfl, hi, hb1, hb2⟩ := hrel
          have HI : Hid (Bx wr ps po pn pm pk (.slice (some ⟨b, off, none⟩) (n + 1) cap) N M K ∧ Below w.heap.size w wr) := ⟨hb1, hb2⟩
          clear hb1 hb2
          by_cases hlt : i < m2
          · have hii : (i : Int) < (m2 : Int) := by omega
            have hnb := HM2.out.2
            have HBW : Hid (Below w.heap.size w wr) := HI.out.2
            obtain ⟨rfl, _⟩ := (HR2.out w (Below.refl _ _)).a0 (by have := HM2.out; omega)
            obtain ⟨l2, hl2⟩ : ∃ l, rows2.getD i [] = l := ⟨_, rfl⟩
            obtain ⟨y2, hy2⟩ : ∃ y, l2.length = y := ⟨_, rfl⟩
            obtain ⟨qa, hqa⟩ : ∃ y, ra2 i = y := ⟨_, rfl⟩
            obtain ⟨qc, hqc⟩ : ∃ y, rc2 i = y := ⟨_, rfl⟩
            have HQ2 : Hid (l2.length = y2 ∧ y2 ≤ 1200000) := ⟨hy2, by have h := HMM.out i (by have := HM2.out; omega); rw [hl2, hy2] at h; exact h⟩
            have HROW : Hid (∀ W, Below wr.heap.size wr W → Rl W qa l2 ∧ W.cell? ⟨b2, off2 + i, none⟩ = some (.slice qa y2 qc)) := fun W hW => by
              have h := HR2.out W (HBW.out.trans (hW.mono HBW.out.size))
              have h1 := h.num i (by have := HM2.out; omega)
              have h2 := h.row i (by have := HM2.out; omega)
              rw [hl2, hqa] at h1
              rw [hl2, hqa, hqc, hy2] at h2
              exact ⟨h1, h2⟩
            clear hl2 hy2 hqa hqc
            have c0 := (HROW.out wr (Below.refl _ _)).2
            by_cases hy : y2 = n
            · have q1 : ((y2 : Int) == (n : Int)) = true := by simp [hy]
              have HY : Hid (l2.length = n) := by have := HQ2.out.1; show _ = _; omega
              have KT := hangTree_any l2 qa qc wr (HROW.out wr (Below.refl _ _)).1 (by have := HQ2.out; omega)
              rw [HQ2.out.1] at KT
              subst hy
              by_cases hT : isTr l2
              · have HT : Hid (isTr l2) := hT
                have H17 : Hid (∀ W, Below wr.heap.size wr W → Calls Try.prog 17 #[.slice qa y2 qc, .pointer (some ⟨ps, 0, none⟩), .pointer (some ⟨po, 0, none⟩), .pointer (some ⟨pn, 0, none⟩), .pointer (some ⟨pm, 0, none⟩), .pointer (some ⟨pk, 0, none⟩)] W fun e w' => e = .returned (.tuple #[]) ∧ Kp (fun k => k = po) W w' ∧ w'.heap[po]? = some (.cells #[.bool true] 4 (0, 0))) := fun W hW => by
                  obtain ⟨h1, h2, h3⟩ := HOPT.out l2 HY.out hT
                  exact none_any l2 y2 b off cap qc ps po pn pm pk qa ra rc (sr rows) N M K W (HSC.out W (HI.out.2.trans (hW.mono HI.out.2.size))) HF.out.few HF.out.num (HROW.out W hW).1 hT HY.out (HI.out.1.below hW) h1 h2 h3
                have H9 : Hid (∀ w8 w9, Below wr.heap.size wr w8 → Kp (fun k => k = po) w8 w9 → w9.heap[po]? = some (.cells #[.bool true] 4 (0, 0)) → Bx w9 ps po pn pm pk (.slice (some ⟨b, off, none⟩) (y2 + 1) cap) N M K ∧ Below w.heap.size w w9) := fun w8 w9 hb8 hk hp => by
                  have hx := HI.out.1.below hb8
                  have hc : ∀ b ∈ [ps, pn, pm, pk], ∀ {v : Value}, w8.cell? ⟨b, 0, none⟩ = some v → w9.cell? ⟨b, 0, none⟩ = some v := fun b hb v hv => (hk.cell (World.block_lt_of_cell? _ _ hv) (HBX.out.2.2.2 b hb)).trans hv
                  exact ⟨⟨hc ps (by simp) hx.cs, hp, hc pn (by simp) hx.cn, hc pm (by simp) hx.cm, hc pk (by simp) hx.ck⟩, below_kp (HI.out.2.trans (hb8.mono HI.out.2.size)) hk (fun b hb e => by have e2 : b = po := e; have := HBX.out.2.2.1; omega)⟩
                clear hT
                go_wp2_with (first | (go_at_call 12; (with_reducible refine KT.mono ?_); clear KT; rintro e w8 ⟨z, rfl, hz, hb⟩; obtain rfl : z = true := hz.2 HT.out; have HB8 : Hid (Below wr.heap.size wr w8) := hb; clear c0; have c0 := (HROW.out w8 hb).2; have KN := H17.out w8 hb; clear hz hb) | (go_at_call 17; (with_reducible refine KN.mono ?_); clear KN; rintro e w9 ⟨rfl, hk, hp⟩; have HB9 : Hid _ := H9.out w8 w9 HB8.out hk hp; clear hk hp))
                go_roundw
                case rel => exact ⟨i + 1, by go_num, hlt, HB9.out.1, HB9.out.2⟩
                case measure => simp [intOf]; omega
              · have HT : Hid (¬ isTr l2) := hT
                clear hT
                go_wp2_with (go_at_call 12; (with_reducible refine KT.mono ?_); clear KT; rintro e w8 ⟨z, rfl, hz, hb⟩; obtain rfl : z = false := eq_false_of_ne_true (fun e => HT.out (hz.1 e)); have HB8 : Hid (Bx w8 ps po pn pm pk (.slice (some ⟨b, off, none⟩) (y2 + 1) cap) N M K ∧ Below w.heap.size w w8) := ⟨HI.out.1.below hb, HI.out.2.trans (hb.mono HI.out.2.size)⟩; clear hz hb)
                go_roundw
                case rel => exact ⟨i + 1, by go_num, hlt, HB8.out.1, HB8.out.2⟩
                case measure => simp [intOf]; omega
            · have q1 : ((y2 : Int) == (n : Int)) = false := by simp; omega
              have q1' : ¬ (y2 : Int) = (n : Int) := by omega
              clear hy
              go_wp2
              go_roundw
              case rel => exact ⟨i + 1, by go_num, hlt, HI.out.1, HI.out.2⟩
              case measure => simp [intOf]; omega
          · have hii : ¬ (i : Int) < (m2 : Int) := by omega
            have c0 := cell_of_row _ _ 0 _ _ _ HI.out.1.ro
            go_wp2
            try rw [Exit.noGoto_ret]
            go_ret
            exact ⟨rfl, HI.out.2⟩
end Go.Proofs.Ytpolnkdbebjpnaa.Hd
