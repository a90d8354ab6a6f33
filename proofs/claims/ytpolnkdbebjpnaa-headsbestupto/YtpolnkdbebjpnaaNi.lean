/- told (21) over each of the three, and Best, BestFlat, One (7-9). No conditions but how the rows lie. -/
import Derived.Test.YtpolnkdbebjpnaaNh
namespace Go.Proofs.Ytpolnkdbebjpnaa.Hd
open Go.RowKit

/-- the scores that rows tell -/
def sr (rows : List (List Int)) (h w : Nat) : Int := (rows.getD h []).getD (w - 1) 0
/-- rows that Check lets by -/
structure Fit (rows : List (List Int)) (n : Nat) : Prop where
  len : rows.length = n + 1
  few : n ≤ 12
  row : ∀ h, h ≤ n → (rows.getD h []).length = n
  num : ∀ h x, h ≤ n → 1 ≤ x → x ≤ n → -1000000 ≤ sr rows h x ∧ sr rows h x ≤ 1000000
theorem fit_of {rows : List (List Int)} (h : chk rows = 0) : ∃ n, Fit rows n := by
  unfold chk at h
  by_cases h1 : rows.length = 0 ∨ 13 < rows.length
  · rw [if_pos h1] at h; cases h
  · rw [if_neg h1] at h
    by_cases h2 : rows.any (fun r => !decide (r.length + 1 = rows.length)) = true
    · rw [if_pos h2] at h; cases h
    · rw [if_neg h2] at h
      by_cases h3 : rows.any (fun r => r.any outB) = true
      · rw [if_pos h3] at h; cases h
      · have hmem : ∀ k, k < rows.length → rows.getD k [] ∈ rows := fun k hk => by
          rw [List.getD_eq_getElem?_getD, List.getElem?_eq_getElem hk]; exact List.getElem_mem hk
        have hl : ∀ k, k < rows.length → (rows.getD k []).length + 1 = rows.length := fun k hk => by
          have h4 := List.any_eq_false.1 (eq_false_of_ne_true h2) _ (hmem k hk)
          exact of_decide_eq_true (by cases hd : decide ((rows.getD k []).length + 1 = rows.length) with
            | true => rfl
            | false => rw [hd] at h4; exact absurd rfl h4)
        refine ⟨rows.length - 1, ⟨by omega, by omega, fun k hk => by have := hl k (by omega); omega, fun k x hk hx hxn => ?_⟩⟩
        have hlk := hl k (by omega)
        have h5 := List.any_eq_false.1 (eq_false_of_ne_true h3) _ (hmem k (by omega))
        have h6 : ((rows.getD k []).any outB) = false := eq_false_of_ne_true h5
        have hx2 : x - 1 < (rows.getD k []).length := by omega
        have h7 := List.any_eq_false.1 h6 ((rows.getD k [])[x - 1]) (List.getElem_mem hx2)
        have h8 : sr rows k x = (rows.getD k [])[x - 1] := by unfold sr; rw [List.getD_eq_getElem?_getD (l := rows.getD k []), List.getElem?_eq_getElem hx2]; rfl
        rw [h8]
        obtain ⟨y, hy⟩ : ∃ y, (rows.getD k [])[x - 1] = y := ⟨_, rfl⟩
        rw [hy] at h7 ⊢
        simp [outB] at h7
        omega
theorem Fit.sc {rows : List (List Int)} {n : Nat} (h : Fit rows n) {w : World} {a : Option Addr} {b off : Nat} {ra : Nat → Option Addr} {rc : Nat → Nat} (hR : Rw w a b off ra rc rows) : a = some ⟨b, off, none⟩ ∧ Sc w b off n ra rc (sr rows) := by
  have hl := h.len
  refine ⟨(hR.a0 (by omega)).1, (hR.a0 (by omega)).2, fun k hk => ?_, fun k hk h0 => ?_⟩
  · rw [hR.row k (by omega), h.row k hk]
  · obtain ⟨rb, ro, e1, e2, e3⟩ := hR.num k (by omega) (by rw [h.row k hk]; exact h0)
    refine ⟨rb, ro, e1, e2, fun i hi => ?_⟩
    rw [e3 i (by rw [h.row k hk]; exact hi)]
    rfl
theorem sg_up (s : Nat → Nat → Int) (t : Nat → Nat) (i : Nat) : sg s t 1 (i + 1) = sg s t 1 i + s (t (i + 1)) (i + 1) := by
  rw [sg_add, sg_one, Nat.add_comm 1 i]
theorem sg_bound {s : Nat → Nat → Int} {n : Nat} {t : Nat → Nat} (hs : ∀ h x, h ≤ n → 1 ≤ x → x ≤ n → -1000000 ≤ s h x ∧ s h x ≤ 1000000) (ht : ∀ x, 1 ≤ x → x ≤ n → t x ≤ n) : ∀ i, i ≤ n → -(1000000 * (i : Int)) ≤ sg s t 1 i ∧ sg s t 1 i ≤ 1000000 * (i : Int)
  | 0, _ => by rw [sg_zero]; omega
  | i + 1, h => by
    have h1 := sg_bound hs ht i (by omega)
    have h2 := hs (t (i + 1)) (i + 1) (ht (i + 1) (by omega) h) (by omega) h
    rw [sg_up]
    omega
/-- what told hands back -/
def ToldQ (n : Nat) (s : Nat → Nat → Int) (P : List Nat → Prop) (w : World) (e : Ending) (w' : World) : Prop := ∃ g ul, e = .returned (.tuple #[.slice (some ⟨g, 0, none⟩) n n, .int .i64 (wo s n (uv ul)), .int .i64 0]) ∧ Ul w w' g n ul ∧ P ul
theorem bk_12 {rows : List (List Int)} {n : Nat} (h : Fit rows n) : Bk 12 n (sr rows) := fun a b h1 h2 h3 => by
  have h4 := h.num a b h1 h2 h3
  have e : (2 : Int) ^ (12 - 12) = 1 := rfl
  rw [e]
  omega
set_option maxHeartbeats 2000000 in
set_option maxRecDepth 100000 in
theorem told_22_bad (rows : List (List Int)) (a : Option Addr) (b off cap : Nat) (ra : Nat → Option Addr) (rc : Nat → Nat) (w : World) (hR : Rw w a b off ra rc rows) (hN : rows.length ≤ 140737488355328) (hc : chk rows ≠ 0) :
    Calls Try.prog 21 #[.slice a rows.length cap, .func (.func 22) #[] #[]] w fun e w' => e = .returned (.tuple #[.slice none 0 0, .int .i64 0, .int .i64 (chk rows)]) ∧ Below w.heap.size w w' := by
  have K := check_any rows a b off cap ra rc w hR hN
  obtain ⟨N, hn⟩ : ∃ n, rows.length = n := ⟨_, rfl⟩
  obtain ⟨x, hx⟩ : ∃ x, chk rows = x := ⟨_, rfl⟩
  rw [hn, hx] at K
  rw [hx] at hc
  rw [hn, hx]
  clear hR hN hn hx
  go_enter Try.func21, Try.ntmps21
  go_wp2_with (go_at_call 10; (with_reducible refine K.mono ?_); clear K; rintro e w1 ⟨rfl, hb⟩; have HB : Hid (Below w.heap.size w w1) := hb; clear hb)
  go_ret3
  exact ⟨rfl, HB.out⟩
set_option maxHeartbeats 2000000 in
set_option maxRecDepth 100000 in
theorem told_22 (rows : List (List Int)) (n b off cap : Nat) (P : List Nat → Prop) (ra : Nat → Option Addr) (rc : Nat → Nat) (w : World) (hR : Rw w (some ⟨b, off, none⟩) b off ra rc rows) (hc : chk rows = 0) (hF : Fit rows n) (hT : ∀ W, Below w.heap.size w W → Calls Try.prog 22 #[.slice (some ⟨b, off, none⟩) (n + 1) cap] W (UpQ n P W)) (hP : ∀ ul, P ul → ∀ x, 1 ≤ x → x ≤ n → uv ul x ≤ n) :
    Calls Try.prog 21 #[.slice (some ⟨b, off, none⟩) (n + 1) cap, .func (.func 22) #[] #[]] w (ToldQ n (sr rows) P w) := by
  have K := check_any rows (some ⟨b, off, none⟩) b off cap ra rc w hR (by have := hF.len; have := hF.few; omega)
  rw [hc, hF.len] at K
  have HS : Hid (∀ W, Below w.heap.size w W → Sc W b off n ra rc (sr rows)) := fun W hW => (hF.sc (hR.below hW)).2
  have HF : Hid (Fit rows n) := hF
  have HT : Hid (∀ W, Below w.heap.size w W → Calls Try.prog 22 #[.slice (some ⟨b, off, none⟩) (n + 1) cap] W (UpQ n P W)) := hT
  have HP : Hid (∀ ul, P ul → ∀ x, 1 ≤ x → x ≤ n → uv ul x ≤ n) := hP
  obtain ⟨m1, hm1⟩ : ∃ m, n + 1 = m := ⟨_, rfl⟩
  have HM : Hid (n + 1 = m1) := hm1
  rw [hm1] at K HT
  rw [hm1]
  clear hR hc hF hT hP hm1
  go_enter Try.func21, Try.ntmps21
  go_upto_region 4 with (go_at_call 10; (with_reducible refine K.mono ?_); clear K; rintro e w1 ⟨rfl, hb⟩; have HB : Hid (Below w.heap.size w w1) := hb; clear hb)
  have K := HT.out w1 HB.out
  go_upto_region 5 with (go_at_call 22; (with_reducible refine K.mono ?_); clear K; rintro e w2 ⟨g, ul, rfl, hu, hp⟩; have HU : Hid (Ul w w2 g n ul ∧ P ul) := ⟨⟨own_le hu.row HB.out.size, hu.len, HB.out.trans (hu.below.mono HB.out.size)⟩, hp⟩; clear hu hp)
  have HUL : Hid ((∀ x, 1 ≤ x → x ≤ n → uv ul x ≤ n) ∧ ∀ i, i ≤ n → -(1000000 * (i : Int)) ≤ sg (sr rows) (uv ul) 1 i ∧ sg (sr rows) (uv ul) 1 i ≤ 1000000 * (i : Int)) := ⟨HP.out ul HU.out.2, sg_bound HF.out.num (HP.out ul HU.out.2)⟩
  go_upto_region 7 with fail
  go_loopw [9, 22] (fun a c wr => ∃ i : Nat, a = .int .i64 (sg (sr rows) (uv ul) 1 i) ∧ c = .int .i64 (i : Int) ∧ i ≤ n ∧ Ul w wr g n ul) (fun _ c _ => n - (intOf c).toNat)
  case atStart => exact ⟨0, rfl, rfl, Nat.zero_le _, HU.out.1⟩
  case round =>
    obtain ⟨i, rfl, rfl, hi, hu⟩ := hrel
    have HI : Hid (Ul w wr g n ul) := hu
    clear hu
    have hn12 := HF.out.few
    by_cases hlt : i < n
    · have hii : (i : Int) < (n : Int) := by omega
      obtain ⟨h, hh⟩ : ∃ h, uv ul (i + 1) = h := ⟨_, rfl⟩
      have hhn : h ≤ n := by rw [← hh]; exact HUL.out.1 (i + 1) (by omega) (by omega)
      have c0 := (HI.out.row.cellAt i (by omega)).trans (ns_uv (by rw [HI.out.len]; exact hlt))
      rw [hh] at c0
      have hhm : (h : Int) < (m1 : Int) := by have := HM.out; omega
      obtain ⟨rb, ro, e1, _, hcc⟩ := (HS.out wr HI.out.below).num h hhn (by omega)
      have c1 := (HS.out wr HI.out.below).row h hhn
      rw [e1] at c1
      have c2 := hcc i hlt
      obtain ⟨y, hy⟩ : ∃ y, sr rows h (i + 1) = y := ⟨_, rfl⟩
      rw [hy] at c2
      obtain ⟨x, hx⟩ : ∃ x, sg (sr rows) (uv ul) 1 i = x := ⟨_, rfl⟩
      have HX : Hid (sg (sr rows) (uv ul) 1 (i + 1) = x + y) := by show _ = _; rw [sg_up, hx, hh, hy]
      have wx : wrap64 (x + y) = x + y := by
        have h1 := HUL.out.2 (i + 1) (by omega)
        rw [HX.out] at h1
        unfold wrap64
        omega
      rw [hx]
      clear e1 hcc hy hx hh
      go_wp2
      go_roundw
      case rel => exact ⟨i + 1, by rw [wx, HX.out], by go_num, by omega, HI.out⟩
      case measure => simp [intOf]; omega
    · obtain rfl : i = n := by omega
      go_wp2
      go_ret3
      exact ⟨g, ul, rfl, HI.out, HU.out.2⟩
set_option maxRecDepth 100000 in
theorem best7_bad (rows : List (List Int)) (a : Option Addr) (b off cap : Nat) (ra : Nat → Option Addr) (rc : Nat → Nat) (w : World) (hR : Rw w a b off ra rc rows) (hN : rows.length ≤ 140737488355328) (hc : chk rows ≠ 0) :
    Calls Try.prog 7 #[.slice a rows.length cap] w fun e w' => e = .returned (.tuple #[.slice none 0 0, .int .i64 0, .int .i64 (chk rows)]) ∧ Below w.heap.size w w' := by
  have K := told_22_bad rows a b off cap ra rc w hR hN hc
  obtain ⟨N, hn⟩ : ∃ n, rows.length = n := ⟨_, rfl⟩
  obtain ⟨x, hx⟩ : ∃ x, chk rows = x := ⟨_, rfl⟩
  rw [hn, hx] at K
  rw [hn, hx]
  clear hR hN hn hx hc
  go_enter Try.func7, Try.ntmps7
  go_wp2_with (go_at_call 21; (with_reducible refine K.mono ?_); clear K; rintro e w1 ⟨rfl, hb⟩; have HB : Hid (Below w.heap.size w w1) := hb; clear hb)
  go_ret3
  exact ⟨rfl, HB.out⟩
set_option maxRecDepth 100000 in
theorem best7_ok (rows : List (List Int)) (n b off cap : Nat) (ra : Nat → Option Addr) (rc : Nat → Nat) (w : World) (hR : Rw w (some ⟨b, off, none⟩) b off ra rc rows) (hc : chk rows = 0) (hF : Fit rows n) :
    Calls Try.prog 7 #[.slice (some ⟨b, off, none⟩) (n + 1) cap] w (ToldQ n (sr rows) (fun ul => Opt n (sr rows) (uv ul)) w) := by
  have K := told_22 rows n b off cap (fun ul => Opt n (sr rows) (uv ul)) ra rc w hR hc hF (fun W hW => best_any 12 (Nat.le_refl _) n b off cap ra rc _ W hF.few (hF.sc (hR.below hW)).2 (bk_12 hF)) (fun ul hp x h1 h2 => hp.tr.le x h1 h2)
  obtain ⟨m1, hm1⟩ : ∃ m, n + 1 = m := ⟨_, rfl⟩
  rw [hm1] at K
  rw [hm1]
  clear hR hc hF hm1
  go_enter Try.func7, Try.ntmps7
  go_wp2_with (go_at_call 21; (with_reducible refine K.mono ?_); clear K; rintro e w1 ⟨g, ul, rfl, hu, hp⟩; have HB : Hid (Ul w w1 g n ul ∧ Opt n (sr rows) (uv ul)) := ⟨hu, hp⟩; clear hu hp)
  go_ret3
  exact ⟨g, ul, rfl, HB.out.1, HB.out.2⟩
set_option maxHeartbeats 2000000 in
set_option maxRecDepth 100000 in
theorem told_23_bad (rows : List (List Int)) (a : Option Addr) (b off cap : Nat) (ra : Nat → Option Addr) (rc : Nat → Nat) (w : World) (hR : Rw w a b off ra rc rows) (hN : rows.length ≤ 140737488355328) (hc : chk rows ≠ 0) :
    Calls Try.prog 21 #[.slice a rows.length cap, .func (.func 23) #[] #[]] w fun e w' => e = .returned (.tuple #[.slice none 0 0, .int .i64 0, .int .i64 (chk rows)]) ∧ Below w.heap.size w w' := by
  have K := check_any rows a b off cap ra rc w hR hN
  obtain ⟨N, hn⟩ : ∃ n, rows.length = n := ⟨_, rfl⟩
  obtain ⟨x, hx⟩ : ∃ x, chk rows = x := ⟨_, rfl⟩
  rw [hn, hx] at K
  rw [hx] at hc
  rw [hn, hx]
  clear hR hN hn hx
  go_enter Try.func21, Try.ntmps21
  go_wp2_with (go_at_call 10; (with_reducible refine K.mono ?_); clear K; rintro e w1 ⟨rfl, hb⟩; have HB : Hid (Below w.heap.size w w1) := hb; clear hb)
  go_ret3
  exact ⟨rfl, HB.out⟩
set_option maxHeartbeats 2000000 in
set_option maxRecDepth 100000 in
theorem told_23 (rows : List (List Int)) (n b off cap : Nat) (P : List Nat → Prop) (ra : Nat → Option Addr) (rc : Nat → Nat) (w : World) (hR : Rw w (some ⟨b, off, none⟩) b off ra rc rows) (hc : chk rows = 0) (hF : Fit rows n) (hT : ∀ W, Below w.heap.size w W → Calls Try.prog 23 #[.slice (some ⟨b, off, none⟩) (n + 1) cap] W (UpQ n P W)) (hP : ∀ ul, P ul → ∀ x, 1 ≤ x → x ≤ n → uv ul x ≤ n) :
    Calls Try.prog 21 #[.slice (some ⟨b, off, none⟩) (n + 1) cap, .func (.func 23) #[] #[]] w (ToldQ n (sr rows) P w) := by
  have K := check_any rows (some ⟨b, off, none⟩) b off cap ra rc w hR (by have := hF.len; have := hF.few; omega)
  rw [hc, hF.len] at K
  have HS : Hid (∀ W, Below w.heap.size w W → Sc W b off n ra rc (sr rows)) := fun W hW => (hF.sc (hR.below hW)).2
  have HF : Hid (Fit rows n) := hF
  have HT : Hid (∀ W, Below w.heap.size w W → Calls Try.prog 23 #[.slice (some ⟨b, off, none⟩) (n + 1) cap] W (UpQ n P W)) := hT
  have HP : Hid (∀ ul, P ul → ∀ x, 1 ≤ x → x ≤ n → uv ul x ≤ n) := hP
  obtain ⟨m1, hm1⟩ : ∃ m, n + 1 = m := ⟨_, rfl⟩
  have HM : Hid (n + 1 = m1) := hm1
  rw [hm1] at K HT
  rw [hm1]
  clear hR hc hF hT hP hm1
  go_enter Try.func21, Try.ntmps21
  go_upto_region 4 with (go_at_call 10; (with_reducible refine K.mono ?_); clear K; rintro e w1 ⟨rfl, hb⟩; have HB : Hid (Below w.heap.size w w1) := hb; clear hb)
  have K := HT.out w1 HB.out
  go_upto_region 5 with (go_at_call 23; (with_reducible refine K.mono ?_); clear K; rintro e w2 ⟨g, ul, rfl, hu, hp⟩; have HU : Hid (Ul w w2 g n ul ∧ P ul) := ⟨⟨own_le hu.row HB.out.size, hu.len, HB.out.trans (hu.below.mono HB.out.size)⟩, hp⟩; clear hu hp)
  have HUL : Hid ((∀ x, 1 ≤ x → x ≤ n → uv ul x ≤ n) ∧ ∀ i, i ≤ n → -(1000000 * (i : Int)) ≤ sg (sr rows) (uv ul) 1 i ∧ sg (sr rows) (uv ul) 1 i ≤ 1000000 * (i : Int)) := ⟨HP.out ul HU.out.2, sg_bound HF.out.num (HP.out ul HU.out.2)⟩
  go_upto_region 7 with fail
  go_loopw [9, 22] (fun a c wr => ∃ i : Nat, a = .int .i64 (sg (sr rows) (uv ul) 1 i) ∧ c = .int .i64 (i : Int) ∧ i ≤ n ∧ Ul w wr g n ul) (fun _ c _ => n - (intOf c).toNat)
  case atStart => exact ⟨0, rfl, rfl, Nat.zero_le _, HU.out.1⟩
  case round =>
    obtain ⟨i, rfl, rfl, hi, hu⟩ := hrel
    have HI : Hid (Ul w wr g n ul) := hu
    clear hu
    have hn12 := HF.out.few
    by_cases hlt : i < n
    · have hii : (i : Int) < (n : Int) := by omega
      obtain ⟨h, hh⟩ : ∃ h, uv ul (i + 1) = h := ⟨_, rfl⟩
      have hhn : h ≤ n := by rw [← hh]; exact HUL.out.1 (i + 1) (by omega) (by omega)
      have c0 := (HI.out.row.cellAt i (by omega)).trans (ns_uv (by rw [HI.out.len]; exact hlt))
      rw [hh] at c0
      have hhm : (h : Int) < (m1 : Int) := by have := HM.out; omega
      obtain ⟨rb, ro, e1, _, hcc⟩ := (HS.out wr HI.out.below).num h hhn (by omega)
      have c1 := (HS.out wr HI.out.below).row h hhn
      rw [e1] at c1
      have c2 := hcc i hlt
      obtain ⟨y, hy⟩ : ∃ y, sr rows h (i + 1) = y := ⟨_, rfl⟩
      rw [hy] at c2
      obtain ⟨x, hx⟩ : ∃ x, sg (sr rows) (uv ul) 1 i = x := ⟨_, rfl⟩
      have HX : Hid (sg (sr rows) (uv ul) 1 (i + 1) = x + y) := by show _ = _; rw [sg_up, hx, hh, hy]
      have wx : wrap64 (x + y) = x + y := by
        have h1 := HUL.out.2 (i + 1) (by omega)
        rw [HX.out] at h1
        unfold wrap64
        omega
      rw [hx]
      clear e1 hcc hy hx hh
      go_wp2
      go_roundw
      case rel => exact ⟨i + 1, by rw [wx, HX.out], by go_num, by omega, HI.out⟩
      case measure => simp [intOf]; omega
    · obtain rfl : i = n := by omega
      go_wp2
      go_ret3
      exact ⟨g, ul, rfl, HI.out, HU.out.2⟩
set_option maxRecDepth 100000 in
theorem flat8_bad (rows : List (List Int)) (a : Option Addr) (b off cap : Nat) (ra : Nat → Option Addr) (rc : Nat → Nat) (w : World) (hR : Rw w a b off ra rc rows) (hN : rows.length ≤ 140737488355328) (hc : chk rows ≠ 0) :
    Calls Try.prog 8 #[.slice a rows.length cap] w fun e w' => e = .returned (.tuple #[.slice none 0 0, .int .i64 0, .int .i64 (chk rows)]) ∧ Below w.heap.size w w' := by
  have K := told_23_bad rows a b off cap ra rc w hR hN hc
  obtain ⟨N, hn⟩ : ∃ n, rows.length = n := ⟨_, rfl⟩
  obtain ⟨x, hx⟩ : ∃ x, chk rows = x := ⟨_, rfl⟩
  rw [hn, hx] at K
  rw [hn, hx]
  clear hR hN hn hx hc
  go_enter Try.func8, Try.ntmps8
  go_wp2_with (go_at_call 21; (with_reducible refine K.mono ?_); clear K; rintro e w1 ⟨rfl, hb⟩; have HB : Hid (Below w.heap.size w w1) := hb; clear hb)
  go_ret3
  exact ⟨rfl, HB.out⟩
set_option maxRecDepth 100000 in
theorem flat8_ok (rows : List (List Int)) (n b off cap : Nat) (ra : Nat → Option Addr) (rc : Nat → Nat) (w : World) (hR : Rw w (some ⟨b, off, none⟩) b off ra rc rows) (hc : chk rows = 0) (hF : Fit rows n) :
    Calls Try.prog 8 #[.slice (some ⟨b, off, none⟩) (n + 1) cap] w (ToldQ n (sr rows) (fun ul => FlatP n (sr rows) (uv ul)) w) := by
  have K := told_23 rows n b off cap (fun ul => FlatP n (sr rows) (uv ul)) ra rc w hR hc hF (fun W hW => bestFlat_any n b off cap ra rc _ W (hF.sc (hR.below hW)).2 hF.few hF.num) (fun ul hp x h1 h2 => hp.1.1.le x h1 h2)
  obtain ⟨m1, hm1⟩ : ∃ m, n + 1 = m := ⟨_, rfl⟩
  rw [hm1] at K
  rw [hm1]
  clear hR hc hF hm1
  go_enter Try.func8, Try.ntmps8
  go_wp2_with (go_at_call 21; (with_reducible refine K.mono ?_); clear K; rintro e w1 ⟨g, ul, rfl, hu, hp⟩; have HB : Hid (Ul w w1 g n ul ∧ FlatP n (sr rows) (uv ul)) := ⟨hu, hp⟩; clear hu hp)
  go_ret3
  exact ⟨g, ul, rfl, HB.out.1, HB.out.2⟩
set_option maxHeartbeats 2000000 in
set_option maxRecDepth 100000 in
theorem told_24_bad (rows : List (List Int)) (a : Option Addr) (b off cap : Nat) (ra : Nat → Option Addr) (rc : Nat → Nat) (w : World) (hR : Rw w a b off ra rc rows) (hN : rows.length ≤ 140737488355328) (hc : chk rows ≠ 0) :
    Calls Try.prog 21 #[.slice a rows.length cap, .func (.func 24) #[] #[]] w fun e w' => e = .returned (.tuple #[.slice none 0 0, .int .i64 0, .int .i64 (chk rows)]) ∧ Below w.heap.size w w' := by
  have K := check_any rows a b off cap ra rc w hR hN
  obtain ⟨N, hn⟩ : ∃ n, rows.length = n := ⟨_, rfl⟩
  obtain ⟨x, hx⟩ : ∃ x, chk rows = x := ⟨_, rfl⟩
  rw [hn, hx] at K
  rw [hx] at hc
  rw [hn, hx]
  clear hR hN hn hx
  go_enter Try.func21, Try.ntmps21
  go_wp2_with (go_at_call 10; (with_reducible refine K.mono ?_); clear K; rintro e w1 ⟨rfl, hb⟩; have HB : Hid (Below w.heap.size w w1) := hb; clear hb)
  go_ret3
  exact ⟨rfl, HB.out⟩
set_option maxHeartbeats 2000000 in
set_option maxRecDepth 100000 in
theorem told_24 (rows : List (List Int)) (n b off cap : Nat) (P : List Nat → Prop) (ra : Nat → Option Addr) (rc : Nat → Nat) (w : World) (hR : Rw w (some ⟨b, off, none⟩) b off ra rc rows) (hc : chk rows = 0) (hF : Fit rows n) (hT : ∀ W, Below w.heap.size w W → Calls Try.prog 24 #[.slice (some ⟨b, off, none⟩) (n + 1) cap] W (UpQ n P W)) (hP : ∀ ul, P ul → ∀ x, 1 ≤ x → x ≤ n → uv ul x ≤ n) :
    Calls Try.prog 21 #[.slice (some ⟨b, off, none⟩) (n + 1) cap, .func (.func 24) #[] #[]] w (ToldQ n (sr rows) P w) := by
  have K := check_any rows (some ⟨b, off, none⟩) b off cap ra rc w hR (by have := hF.len; have := hF.few; omega)
  rw [hc, hF.len] at K
  have HS : Hid (∀ W, Below w.heap.size w W → Sc W b off n ra rc (sr rows)) := fun W hW => (hF.sc (hR.below hW)).2
  have HF : Hid (Fit rows n) := hF
  have HT : Hid (∀ W, Below w.heap.size w W → Calls Try.prog 24 #[.slice (some ⟨b, off, none⟩) (n + 1) cap] W (UpQ n P W)) := hT
  have HP : Hid (∀ ul, P ul → ∀ x, 1 ≤ x → x ≤ n → uv ul x ≤ n) := hP
  obtain ⟨m1, hm1⟩ : ∃ m, n + 1 = m := ⟨_, rfl⟩
  have HM : Hid (n + 1 = m1) := hm1
  rw [hm1] at K HT
  rw [hm1]
  clear hR hc hF hT hP hm1
  go_enter Try.func21, Try.ntmps21
  go_upto_region 4 with (go_at_call 10; (with_reducible refine K.mono ?_); clear K; rintro e w1 ⟨rfl, hb⟩; have HB : Hid (Below w.heap.size w w1) := hb; clear hb)
  have K := HT.out w1 HB.out
  go_upto_region 5 with (go_at_call 24; (with_reducible refine K.mono ?_); clear K; rintro e w2 ⟨g, ul, rfl, hu, hp⟩; have HU : Hid (Ul w w2 g n ul ∧ P ul) := ⟨⟨own_le hu.row HB.out.size, hu.len, HB.out.trans (hu.below.mono HB.out.size)⟩, hp⟩; clear hu hp)
  have HUL : Hid ((∀ x, 1 ≤ x → x ≤ n → uv ul x ≤ n) ∧ ∀ i, i ≤ n → -(1000000 * (i : Int)) ≤ sg (sr rows) (uv ul) 1 i ∧ sg (sr rows) (uv ul) 1 i ≤ 1000000 * (i : Int)) := ⟨HP.out ul HU.out.2, sg_bound HF.out.num (HP.out ul HU.out.2)⟩
  go_upto_region 7 with fail
  go_loopw [9, 22] (fun a c wr => ∃ i : Nat, a = .int .i64 (sg (sr rows) (uv ul) 1 i) ∧ c = .int .i64 (i : Int) ∧ i ≤ n ∧ Ul w wr g n ul) (fun _ c _ => n - (intOf c).toNat)
  case atStart => exact ⟨0, rfl, rfl, Nat.zero_le _, HU.out.1⟩
  case round =>
    obtain ⟨i, rfl, rfl, hi, hu⟩ := hrel
    have HI : Hid (Ul w wr g n ul) := hu
    clear hu
    have hn12 := HF.out.few
    by_cases hlt : i < n
    · have hii : (i : Int) < (n : Int) := by omega
      obtain ⟨h, hh⟩ : ∃ h, uv ul (i + 1) = h := ⟨_, rfl⟩
      have hhn : h ≤ n := by rw [← hh]; exact HUL.out.1 (i + 1) (by omega) (by omega)
      have c0 := (HI.out.row.cellAt i (by omega)).trans (ns_uv (by rw [HI.out.len]; exact hlt))
      rw [hh] at c0
      have hhm : (h : Int) < (m1 : Int) := by have := HM.out; omega
      obtain ⟨rb, ro, e1, _, hcc⟩ := (HS.out wr HI.out.below).num h hhn (by omega)
      have c1 := (HS.out wr HI.out.below).row h hhn
      rw [e1] at c1
      have c2 := hcc i hlt
      obtain ⟨y, hy⟩ : ∃ y, sr rows h (i + 1) = y := ⟨_, rfl⟩
      rw [hy] at c2
      obtain ⟨x, hx⟩ : ∃ x, sg (sr rows) (uv ul) 1 i = x := ⟨_, rfl⟩
      have HX : Hid (sg (sr rows) (uv ul) 1 (i + 1) = x + y) := by show _ = _; rw [sg_up, hx, hh, hy]
      have wx : wrap64 (x + y) = x + y := by
        have h1 := HUL.out.2 (i + 1) (by omega)
        rw [HX.out] at h1
        unfold wrap64
        omega
      rw [hx]
      clear e1 hcc hy hx hh
      go_wp2
      go_roundw
      case rel => exact ⟨i + 1, by rw [wx, HX.out], by go_num, by omega, HI.out⟩
      case measure => simp [intOf]; omega
    · obtain rfl : i = n := by omega
      go_wp2
      go_ret3
      exact ⟨g, ul, rfl, HI.out, HU.out.2⟩
set_option maxRecDepth 100000 in
theorem one9_bad (rows : List (List Int)) (a : Option Addr) (b off cap : Nat) (ra : Nat → Option Addr) (rc : Nat → Nat) (w : World) (hR : Rw w a b off ra rc rows) (hN : rows.length ≤ 140737488355328) (hc : chk rows ≠ 0) :
    Calls Try.prog 9 #[.slice a rows.length cap] w fun e w' => e = .returned (.tuple #[.slice none 0 0, .int .i64 0, .int .i64 (chk rows)]) ∧ Below w.heap.size w w' := by
  have K := told_24_bad rows a b off cap ra rc w hR hN hc
  obtain ⟨N, hn⟩ : ∃ n, rows.length = n := ⟨_, rfl⟩
  obtain ⟨x, hx⟩ : ∃ x, chk rows = x := ⟨_, rfl⟩
  rw [hn, hx] at K
  rw [hn, hx]
  clear hR hN hn hx hc
  go_enter Try.func9, Try.ntmps9
  go_wp2_with (go_at_call 21; (with_reducible refine K.mono ?_); clear K; rintro e w1 ⟨rfl, hb⟩; have HB : Hid (Below w.heap.size w w1) := hb; clear hb)
  go_ret3
  exact ⟨rfl, HB.out⟩
set_option maxRecDepth 100000 in
theorem one9_ok (rows : List (List Int)) (n b off cap : Nat) (ra : Nat → Option Addr) (rc : Nat → Nat) (w : World) (hR : Rw w (some ⟨b, off, none⟩) b off ra rc rows) (hc : chk rows = 0) (hF : Fit rows n) :
    Calls Try.prog 9 #[.slice (some ⟨b, off, none⟩) (n + 1) cap] w (ToldQ n (sr rows) (fun ul => Opt n (fw 24000001 (sr rows)) (uv ul)) w) := by
  have K := told_24 rows n b off cap (fun ul => Opt n (fw 24000001 (sr rows)) (uv ul)) ra rc w hR hc hF (fun W hW => one_any n b off cap ra rc _ W (hF.sc (hR.below hW)).2 hF.few hF.num) (fun ul hp x h1 h2 => hp.tr.le x h1 h2)
  obtain ⟨m1, hm1⟩ : ∃ m, n + 1 = m := ⟨_, rfl⟩
  rw [hm1] at K
  rw [hm1]
  clear hR hc hF hm1
  go_enter Try.func9, Try.ntmps9
  go_wp2_with (go_at_call 21; (with_reducible refine K.mono ?_); clear K; rintro e w1 ⟨g, ul, rfl, hu, hp⟩; have HB : Hid (Ul w w1 g n ul ∧ Opt n (fw 24000001 (sr rows)) (uv ul)) := ⟨hu, hp⟩; clear hu hp)
  go_ret3
  exact ⟨g, ul, rfl, HB.out.1, HB.out.2⟩
end Go.Proofs.Ytpolnkdbebjpnaa.Hd
