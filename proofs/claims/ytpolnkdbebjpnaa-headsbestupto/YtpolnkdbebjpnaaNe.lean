/- hangWhole and hangBow (41, 55): the words are hung as the tables tell. Conditions: the tables are right; the tree lies apart from them. -/
import Derived.Test.YtpolnkdbebjpnaaNd
import Derived.Test.YtpolnkdbebjpnaaMf
namespace Go.Proofs.Ytpolnkdbebjpnaa.Hd
open Go.RowKit

/-- the tables and the tree lie -/
structure Hg (W : World) (p base g n : Nat) (C : Nat → Int) (ul : List Nat) : Prop where
  pz : Pz W p C
  up : Up base W g n ul
def en : Bool → Nat
  | false => 0
  | true => 1
def WhC (base p g n : Nat) (s : Nat → Nat → Int) (C : Nat → Int) (e : Bool) (a b : Nat) : Prop := a ≤ b → b ≤ n → (e = true → 1 ≤ a) → ∀ (W : World) (ul : List Nat), Hg W p base g n C ul →
  Calls Try.prog 41 #[.pointer (some ⟨p, 0, none⟩), .slice (some ⟨g, 0, none⟩) n n, .int .i64 (a : Int), .int .i64 (b : Int), .int .i64 (en e : Int)] W fun r W' => r = .returned (.tuple #[]) ∧ ∃ ul', Hg W' p base g n C ul' ∧ Kp (fun k => k = g) W W' ∧ (∀ w, ¬ inP e a b w → uv ul' w = uv ul w) ∧ Wh s (uv ul') e (C (ix 1 (en e) a b)) a b
def BoC (base p g n : Nat) (s : Nat → Nat → Int) (C : Nat → Int) (e : Bool) (a b : Nat) : Prop := a < b → b ≤ n → (e = true → 1 ≤ a) → ∀ (W : World) (ul : List Nat), Hg W p base g n C ul →
  Calls Try.prog 55 #[.pointer (some ⟨p, 0, none⟩), .slice (some ⟨g, 0, none⟩) n n, .int .i64 (a : Int), .int .i64 (b : Int), .int .i64 (en e : Int)] W fun r W' => r = .returned (.tuple #[]) ∧ ∃ ul', Hg W' p base g n C ul' ∧ Kp (fun k => k = g) W W' ∧ (∀ w, ¬ inP e a b w → uv ul' w = uv ul w) ∧ Bo s (uv ul') e (C (ix 0 (en e) a b)) a b
theorem Hg.set {W : World} {p base g n : Nat} {C : Nat → Int} {ul : List Nat} (h : Hg W p base g n C ul) (hpg : p ≠ g) (i x : Nat) : Hg (W.setCell ⟨g, i, none⟩ (.int .i64 (x : Int))) p base g n C (ul.set i x) ∧ Kp (fun k => k = g) W (W.setCell ⟨g, i, none⟩ (.int .i64 (x : Int))) := by
  have hk : Kp (fun k => k = g) W (W.setCell ⟨g, i, none⟩ (.int .i64 (x : Int))) := (Kp.refl _ W).setCell _ _ _ (fun _ => rfl)
  exact ⟨⟨h.pz.kept hk hpg, h.up.set i x⟩, hk⟩
theorem en0 : ((en false : Nat) : Int) = 0 := rfl
theorem en1 : ((en true : Nat) : Int) = 1 := rfl
section
variable {base p g n : Nat} {s : Nat → Nat → Int} {C : Nat → Int}
set_option maxHeartbeats 4000000 in
set_option maxRecDepth 100000 in
theorem bow_false (hz : ∀ a b, a < b → b ≤ n → Ok0 s C a b ∧ (1 ≤ a → Ok1 s C a b)) (hn : n ≤ 12) (hpg : p ≠ g) (a b : Nat) (ih : ∀ a' b' e', b' - a' < b - a → WhC base p g n s C e' a' b') : BoC base p g n s C false a b := by
  intro hab hb he W ul hG
  rw [en0]
  obtain ⟨P, hP1, hP2, hP3, hP4⟩ := (hz a b hab hb).1.bx
  have hv : b = (b - 1) + 1 := by omega
  obtain ⟨P1, hP5⟩ : ∃ y, P + 1 = y := ⟨_, rfl⟩
  have HG : Hid (Hg W p base g n C ul) := hG
  have HP : Hid (a ≤ P ∧ P < b ∧ C (ix 0 0 a b) = C (ix 1 0 a P) + C (ix 1 1 (P + 1) b) + s a b ∧ b ≤ n ∧ n ≤ 12 ∧ b = (b - 1) + 1 ∧ P + 1 = P1 ∧ (true = false → 1 ≤ a)) := ⟨hP1, hP2, hP4, hb, hn, hv, hP5, fun h => he h.symm⟩
  have IH : Hid (∀ a' b' e', b' - a' < b - a → WhC base p g n s C e' a' b') := ih
  have HPG : Hid (p ≠ g) := hpg
  have hL : ix 0 0 a b = a * 26 + b * 2 := by unfold ix; omega
  have z0 := hG.pz.cell (i := ix 0 0 a b + 1) (ix_lt (by decide) (by decide) (by omega) (by omega))
  rw [hP3, hL] at z0
  have HS : Hid _ := hG.set hpg (b - 1) a
  have HZ : Hid (∀ W', Kp (fun k => k = g) W W' → W'.cell? ⟨p, a * 26 + b * 2 + 1, none⟩ = some (.int .i64 (P : Int))) := fun W' hW => (Kp.cell hW (World.block_lt_of_cell? _ _ z0) hpg).trans z0
  have y0 := hG.up.row.cellAt (b - 1) (by omega)
  have f0 := hG.up.row.frozenAt (b - 1)
  obtain ⟨ux, hux⟩ : ∃ u, (ns ul)[(b - 1)]? = some u := ⟨_, List.getElem?_eq_getElem (by rw [ns_length, hG.up.len]; omega)⟩
  rw [hux] at y0
  have hai : (a : Int) < 13 := by omega
  have hbi : (b : Int) < 13 := by omega
  have hvn : (b : Int) - 1 < (n : Int) := by omega
  have hv1 : (1 : Int) ≤ (b : Int) := by omega
  have wp : wrap64 ((P : Int) + 1) = (P1 : Int) := by unfold wrap64; omega
  have hul : (b - 1) < ul.length := by rw [hG.up.len]; omega
  have HUL : Hid ((b - 1) < ul.length) := hul
  have hn12 : n ≤ 12 := hn
  clear hG ih hpg hz hP1 hP2 hP3 hP4 hP5 hL hab hb he hv hux hul z0 hn
  go_enter Try.func55, Try.ntmps55
  go_upto_region 3 with fail
  clear y0 f0 ux
  generalize W.setCell ⟨g, (b - 1), none⟩ (.int .i64 (a : Int)) = W1 at *
  have z0 := HZ.out W1 HS.out.2
  have K1 := IH.out a P false (by have := HP.out; omega) HP.out.1 (by have := HP.out; omega) (fun h => by cases h) W1 (ul.set (b - 1) a) HS.out.1
  rw [en0] at K1
  go_upto_region 5 with (go_at_call 41; (with_reducible refine K1.mono ?_); clear K1; rintro r W2 ⟨rfl, ul2, hg2, hk2, hu2, hw2⟩; have H2 : Hid (Hg W2 p base g n C ul2 ∧ Kp (fun k => k = g) W W2 ∧ (∀ w, ¬ inP false a P w → uv ul2 w = uv (ul.set (b - 1) a) w) ∧ Wh s (uv ul2) false (C (ix 1 0 a P)) a P) := ⟨hg2, kp_then HS.out.2 hk2 (fun _ _ e => e), hu2, hw2⟩; clear hg2 hk2 hu2 hw2)
  clear z0
  have K2 := IH.out P1 b true (by have := HP.out; omega) (by have := HP.out; omega) (by have := HP.out; omega) (fun _ => by have := HP.out; omega) W2 ul2 H2.out.1
  rw [en1] at K2
  go_wp2_with (go_at_call 41; (with_reducible refine K2.mono ?_); clear K2; rintro r W3 ⟨rfl, ul3, hg3, hk3, hu3, hw3⟩; have H3 : Hid (Hg W3 p base g n C ul3 ∧ Kp (fun k => k = g) W W3 ∧ (∀ w, ¬ inP true P1 b w → uv ul3 w = uv ul2 w) ∧ Wh s (uv ul3) true (C (ix 1 1 P1 b)) P1 b) := ⟨hg3, kp_then H2.out.2.1 hk3 (fun _ _ e => e), hu3, hw3⟩; clear hg3 hk3 hu3 hw3)
  first | go_end0 | refine bodyPost_ret (results_none rfl _ _ _) rfl ?_
  have hp := HP.out
  have hset := fun w => uv_set (l := ul) (i := (b - 1)) (x := a) HUL.out w
  have ho : ∀ w, ¬ inP false a b w → ¬ inP false a P w ∧ ¬ inP true P1 b w ∧ w ≠ b := fun w hw => by
    refine ⟨fun h => hw ?_, fun h => hw ?_, fun h => hw ?_⟩
    · obtain ⟨h1, h2, h3, h4⟩ := h
      have := h3 rfl
      exact ⟨by omega, by omega, fun _ => by omega, fun _ => by omega⟩
    · obtain ⟨h1, h2, h3, h4⟩ := h
      have := h4 rfl
      exact ⟨by omega, by omega, fun _ => by omega, fun _ => by omega⟩
    · subst h
      exact ⟨by omega, by omega, (fun h => by omega), (fun h => by cases h)⟩
  have hv : uv ul3 b = a := by
    rw [H3.out.2.2.1 b (fun h => by have := h.2.2.2 rfl; omega), H2.out.2.2.1 b (fun h => by have := h.2.1; omega), hset, if_pos hp.2.2.2.2.2.1]
  refine ⟨rfl, ul3, H3.out.1, H3.out.2.1, fun w hw => ?_, ?_⟩
  · obtain ⟨h1, h2, h3⟩ := ho w hw
    rw [H3.out.2.2.1 w h2, H2.out.2.2.1 w h1, hset, if_neg (by omega)]
  · have k1 : Wh s (uv ul3) false (C (ix 1 0 a P)) a P := H2.out.2.2.2.congr fun w hw => H3.out.2.2.1 w (fun h => by
      obtain ⟨h1, h2, h3, h4⟩ := h
      obtain ⟨g1, g2, _, _⟩ := hw
      omega)
    have k2 := H3.out.2.2.2
    rw [← hp.2.2.2.2.2.2.1] at k2
    show Bo s (uv ul3) false (C (ix 0 0 a b)) a b
    rw [hp.2.2.1]
    exact Bo.mk0 k1 k2 hp.2.1 hv
set_option maxHeartbeats 4000000 in
set_option maxRecDepth 100000 in
theorem bow_true (hz : ∀ a b, a < b → b ≤ n → Ok0 s C a b ∧ (1 ≤ a → Ok1 s C a b)) (hn : n ≤ 12) (hpg : p ≠ g) (a b : Nat) (ih : ∀ a' b' e', b' - a' < b - a → WhC base p g n s C e' a' b') : BoC base p g n s C true a b := by
  intro hab hb he W ul hG
  rw [en1]
  obtain ⟨P, hP1, hP2, hP3, hP4⟩ := ((hz a b hab hb).2 (he rfl)).bx
  have hv : a = (a - 1) + 1 := by have := he rfl; omega
  obtain ⟨P1, hP5⟩ : ∃ y, P + 1 = y := ⟨_, rfl⟩
  have HG : Hid (Hg W p base g n C ul) := hG
  have HP : Hid (a ≤ P ∧ P < b ∧ C (ix 0 1 a b) = C (ix 1 0 a P) + C (ix 1 1 (P + 1) b) + s b a ∧ b ≤ n ∧ n ≤ 12 ∧ a = (a - 1) + 1 ∧ P + 1 = P1 ∧ (true = true → 1 ≤ a)) := ⟨hP1, hP2, hP4, hb, hn, hv, hP5, fun h => he h.symm⟩
  have IH : Hid (∀ a' b' e', b' - a' < b - a → WhC base p g n s C e' a' b') := ih
  have HPG : Hid (p ≠ g) := hpg
  have hL : ix 0 1 a b = 338 + a * 26 + b * 2 := by unfold ix; omega
  have z0 := hG.pz.cell (i := ix 0 1 a b + 1) (ix_lt (by decide) (by decide) (by omega) (by omega))
  rw [hP3, hL] at z0
  have HS : Hid _ := hG.set hpg (a - 1) b
  have HZ : Hid (∀ W', Kp (fun k => k = g) W W' → W'.cell? ⟨p, 338 + a * 26 + b * 2 + 1, none⟩ = some (.int .i64 (P : Int))) := fun W' hW => (Kp.cell hW (World.block_lt_of_cell? _ _ z0) hpg).trans z0
  have y0 := hG.up.row.cellAt (a - 1) (by omega)
  have f0 := hG.up.row.frozenAt (a - 1)
  obtain ⟨ux, hux⟩ : ∃ u, (ns ul)[(a - 1)]? = some u := ⟨_, List.getElem?_eq_getElem (by rw [ns_length, hG.up.len]; omega)⟩
  rw [hux] at y0
  have hai : (a : Int) < 13 := by omega
  have hbi : (b : Int) < 13 := by omega
  have hvn : (a : Int) - 1 < (n : Int) := by omega
  have hv1 : (1 : Int) ≤ (a : Int) := by omega
  have wp : wrap64 ((P : Int) + 1) = (P1 : Int) := by unfold wrap64; omega
  have hul : (a - 1) < ul.length := by rw [hG.up.len]; omega
  have HUL : Hid ((a - 1) < ul.length) := hul
  have hn12 : n ≤ 12 := hn
  clear hG ih hpg hz hP1 hP2 hP3 hP4 hP5 hL hab hb he hv hux hul z0 hn
  go_enter Try.func55, Try.ntmps55
  go_upto_region 3 with fail
  clear y0 f0 ux
  generalize W.setCell ⟨g, (a - 1), none⟩ (.int .i64 (b : Int)) = W1 at *
  have z0 := HZ.out W1 HS.out.2
  have K1 := IH.out a P false (by have := HP.out; omega) HP.out.1 (by have := HP.out; omega) (fun h => by cases h) W1 (ul.set (a - 1) b) HS.out.1
  rw [en0] at K1
  go_upto_region 5 with (go_at_call 41; (with_reducible refine K1.mono ?_); clear K1; rintro r W2 ⟨rfl, ul2, hg2, hk2, hu2, hw2⟩; have H2 : Hid (Hg W2 p base g n C ul2 ∧ Kp (fun k => k = g) W W2 ∧ (∀ w, ¬ inP false a P w → uv ul2 w = uv (ul.set (a - 1) b) w) ∧ Wh s (uv ul2) false (C (ix 1 0 a P)) a P) := ⟨hg2, kp_then HS.out.2 hk2 (fun _ _ e => e), hu2, hw2⟩; clear hg2 hk2 hu2 hw2)
  clear z0
  have K2 := IH.out P1 b true (by have := HP.out; omega) (by have := HP.out; omega) (by have := HP.out; omega) (fun _ => by have := HP.out; omega) W2 ul2 H2.out.1
  rw [en1] at K2
  go_wp2_with (go_at_call 41; (with_reducible refine K2.mono ?_); clear K2; rintro r W3 ⟨rfl, ul3, hg3, hk3, hu3, hw3⟩; have H3 : Hid (Hg W3 p base g n C ul3 ∧ Kp (fun k => k = g) W W3 ∧ (∀ w, ¬ inP true P1 b w → uv ul3 w = uv ul2 w) ∧ Wh s (uv ul3) true (C (ix 1 1 P1 b)) P1 b) := ⟨hg3, kp_then H2.out.2.1 hk3 (fun _ _ e => e), hu3, hw3⟩; clear hg3 hk3 hu3 hw3)
  first | go_end0 | refine bodyPost_ret (results_none rfl _ _ _) rfl ?_
  have hp := HP.out
  have hset := fun w => uv_set (l := ul) (i := (a - 1)) (x := b) HUL.out w
  have ho : ∀ w, ¬ inP true a b w → ¬ inP false a P w ∧ ¬ inP true P1 b w ∧ w ≠ a := fun w hw => by
    refine ⟨fun h => hw ?_, fun h => hw ?_, fun h => hw ?_⟩
    · obtain ⟨h1, h2, h3, h4⟩ := h
      have := h3 rfl
      exact ⟨by omega, by omega, fun _ => by omega, fun _ => by omega⟩
    · obtain ⟨h1, h2, h3, h4⟩ := h
      have := h4 rfl
      exact ⟨by omega, by omega, fun _ => by omega, fun _ => by omega⟩
    · subst h
      exact ⟨by omega, by omega, (fun h => by cases h), (fun h => by omega)⟩
  have hv : uv ul3 a = b := by
    rw [H3.out.2.2.1 a (fun h => by have := h.1; omega), H2.out.2.2.1 a (fun h => by have := h.2.2.1 rfl; omega), hset, if_pos hp.2.2.2.2.2.1]
  refine ⟨rfl, ul3, H3.out.1, H3.out.2.1, fun w hw => ?_, ?_⟩
  · obtain ⟨h1, h2, h3⟩ := ho w hw
    rw [H3.out.2.2.1 w h2, H2.out.2.2.1 w h1, hset, if_neg (by omega)]
  · have k1 : Wh s (uv ul3) false (C (ix 1 0 a P)) a P := H2.out.2.2.2.congr fun w hw => H3.out.2.2.1 w (fun h => by
      obtain ⟨h1, h2, h3, h4⟩ := h
      obtain ⟨g1, g2, _, _⟩ := hw
      omega)
    have k2 := H3.out.2.2.2
    rw [← hp.2.2.2.2.2.2.1] at k2
    show Bo s (uv ul3) true (C (ix 0 1 a b)) a b
    rw [hp.2.2.1]
    exact Bo.mk1 k1 k2 hp.2.1 hv
set_option maxHeartbeats 4000000 in
set_option maxRecDepth 100000 in
theorem whole_false (hz : ∀ a b, a < b → b ≤ n → Ok0 s C a b ∧ (1 ≤ a → Ok1 s C a b)) (hd : ∀ e a, e < 2 → a ≤ n → C (ix 1 e a a) = 0) (hn : n ≤ 12) (a b : Nat) (ihb : ∀ a' b' e', b' - a' ≤ b - a → BoC base p g n s C e' a' b') (ihw : ∀ a' b' e', b' - a' < b - a → WhC base p g n s C e' a' b') : WhC base p g n s C false a b := by
  intro hab hb he W ul hG
  rw [en0]
  have HG : Hid (Hg W p base g n C ul) := hG
  by_cases heq : a = b
  · subst heq
    have HW : Hid (Wh s (uv ul) false (C (ix 1 0 a a)) a a) := by
      rw [hd 0 a (by decide) hb]; exact Wh.nil _ _ _ _
    clear hz hd hn ihb ihw hab hb he hG
    go_enter Try.func41, Try.ntmps41
    go_wp2
    first | go_end0 | refine bodyPost_ret (results_none rfl _ _ _) rfl ?_
    exact ⟨rfl, ul, HG.out, Kp.refl _ _, fun w _ => rfl, HW.out⟩
  · have hlt : a < b := by omega
    obtain ⟨c, hc1, hc2, hc3, hc4⟩ := (hz a b hlt hb).1.wx
    have HP : Hid (a < c ∧ c ≤ b ∧ C (ix 1 0 a b) = C (ix 0 0 a c) + C (ix 1 0 c b) ∧ a < b ∧ b ≤ n ∧ n ≤ 12 ∧ (true = false → 1 ≤ a)) := ⟨hc1, hc2, hc4, hlt, hb, hn, fun h => he h.symm⟩
    have IHB : Hid (∀ a' b' e', b' - a' ≤ b - a → BoC base p g n s C e' a' b') := ihb
    have IHW : Hid (∀ a' b' e', b' - a' < b - a → WhC base p g n s C e' a' b') := ihw
    have hL : ix 1 0 a b = 676 + a * 26 + b * 2 := by unfold ix; omega
    have z0 := hG.pz.cell (i := ix 1 0 a b + 1) (ix_lt (by decide) (by decide) (by omega) (by omega))
    rw [hc3, hL] at z0
    have hai : (a : Int) < 13 := by omega
    have hbi : (b : Int) < 13 := by omega
    have q0 : ((a : Int) == (b : Int)) = false := by simp; omega
    have q0' : ¬ (a : Int) = (b : Int) := by omega
    clear hz hd hn ihb ihw hab hb he hG hc1 hc2 hc3 hc4 heq hlt hL
    go_enter Try.func41, Try.ntmps41
    have K1 := IHB.out a c false (by have := HP.out; omega) (by have := HP.out; omega) (by have := HP.out; omega) (fun h => by cases h) W ul HG.out
    rw [en0] at K1
    go_upto_region 4 with (go_at_call 55; (with_reducible refine K1.mono ?_); clear K1; rintro r W2 ⟨rfl, ul2, hg2, hk2, hu2, hw2⟩; have H2 : Hid (Hg W2 p base g n C ul2 ∧ Kp (fun k => k = g) W W2 ∧ (∀ w, ¬ inP false a c w → uv ul2 w = uv ul w) ∧ Bo s (uv ul2) false (C (ix 0 0 a c)) a c) := ⟨hg2, hk2, hu2, hw2⟩; clear hg2 hk2 hu2 hw2)
    clear z0 q0 q0'
    have K2 := IHW.out c b false (by have := HP.out; omega) (by have := HP.out; omega) (by have := HP.out; omega) (fun h => by cases h) W2 ul2 H2.out.1
    rw [en0] at K2
    go_wp2_with (go_at_call 41; (with_reducible refine K2.mono ?_); clear K2; rintro r W3 ⟨rfl, ul3, hg3, hk3, hu3, hw3⟩; have H3 : Hid (Hg W3 p base g n C ul3 ∧ Kp (fun k => k = g) W W3 ∧ (∀ w, ¬ inP false c b w → uv ul3 w = uv ul2 w) ∧ Wh s (uv ul3) false (C (ix 1 0 c b)) c b) := ⟨hg3, kp_then H2.out.2.1 hk3 (fun _ _ e => e), hu3, hw3⟩; clear hg3 hk3 hu3 hw3)
    first | go_end0 | refine bodyPost_ret (results_none rfl _ _ _) rfl ?_
    have hp := HP.out
    have ho : ∀ w, ¬ inP false a b w → ¬ inP false a c w ∧ ¬ inP false c b w := fun w hw => by
      refine ⟨fun h => hw ?_, fun h => hw ?_⟩
      · obtain ⟨h1, h2, h3, h4⟩ := h
        exact ⟨by omega, by omega, fun e => by have := h3 e; omega, fun e => by have := h4 e; omega⟩
      · obtain ⟨h1, h2, h3, h4⟩ := h
        exact ⟨by omega, by omega, fun e => by have := h3 e; omega, fun e => by have := h4 e; omega⟩
    refine ⟨rfl, ul3, H3.out.1, H3.out.2.1, fun w hw => ?_, ?_⟩
    · obtain ⟨h1, h2⟩ := ho w hw
      rw [H3.out.2.2.1 w h2, H2.out.2.2.1 w h1]
    · have k1 := H2.out.2.2.2.congr (t' := uv ul3) fun w hw => H3.out.2.2.1 w (fun h => by
        obtain ⟨h1, h2, h3, h4⟩ := h
        obtain ⟨g1, g2, g3, g4⟩ := hw
        have := h3 rfl; omega)
      show Wh s (uv ul3) false (C (ix 1 0 a b)) a b
      rw [hp.2.2.1]
      exact Wh.mk0 k1 H3.out.2.2.2
set_option maxHeartbeats 4000000 in
set_option maxRecDepth 100000 in
theorem whole_true (hz : ∀ a b, a < b → b ≤ n → Ok0 s C a b ∧ (1 ≤ a → Ok1 s C a b)) (hd : ∀ e a, e < 2 → a ≤ n → C (ix 1 e a a) = 0) (hn : n ≤ 12) (a b : Nat) (ihb : ∀ a' b' e', b' - a' ≤ b - a → BoC base p g n s C e' a' b') (ihw : ∀ a' b' e', b' - a' < b - a → WhC base p g n s C e' a' b') : WhC base p g n s C true a b := by
  intro hab hb he W ul hG
  rw [en1]
  have HG : Hid (Hg W p base g n C ul) := hG
  by_cases heq : a = b
  · subst heq
    have HW : Hid (Wh s (uv ul) true (C (ix 1 1 a a)) a a) := by
      rw [hd 1 a (by decide) hb]; exact Wh.nil _ _ _ _
    clear hz hd hn ihb ihw hab hb he hG
    go_enter Try.func41, Try.ntmps41
    go_wp2
    first | go_end0 | refine bodyPost_ret (results_none rfl _ _ _) rfl ?_
    exact ⟨rfl, ul, HG.out, Kp.refl _ _, fun w _ => rfl, HW.out⟩
  · have hlt : a < b := by omega
    obtain ⟨c, hc1, hc2, hc3, hc4⟩ := ((hz a b hlt hb).2 (he rfl)).wx
    have HP : Hid (a ≤ c ∧ c < b ∧ C (ix 1 1 a b) = C (ix 1 1 a c) + C (ix 0 1 c b) ∧ a < b ∧ b ≤ n ∧ n ≤ 12 ∧ (true = true → 1 ≤ a)) := ⟨hc1, hc2, hc4, hlt, hb, hn, fun h => he h.symm⟩
    have IHB : Hid (∀ a' b' e', b' - a' ≤ b - a → BoC base p g n s C e' a' b') := ihb
    have IHW : Hid (∀ a' b' e', b' - a' < b - a → WhC base p g n s C e' a' b') := ihw
    have hL : ix 1 1 a b = 1014 + a * 26 + b * 2 := by unfold ix; omega
    have z0 := hG.pz.cell (i := ix 1 1 a b + 1) (ix_lt (by decide) (by decide) (by omega) (by omega))
    rw [hc3, hL] at z0
    have hai : (a : Int) < 13 := by omega
    have hbi : (b : Int) < 13 := by omega
    have q0 : ((a : Int) == (b : Int)) = false := by simp; omega
    have q0' : ¬ (a : Int) = (b : Int) := by omega
    clear hz hd hn ihb ihw hab hb he hG hc1 hc2 hc3 hc4 heq hlt hL
    go_enter Try.func41, Try.ntmps41
    have K1 := IHW.out a c true (by have := HP.out; omega) (by have := HP.out; omega) (by have := HP.out; omega) (fun _ => HP.out.2.2.2.2.2.2 (by first | rfl | trivial)) W ul HG.out
    rw [en1] at K1
    go_upto_region 6 with (go_at_call 41; (with_reducible refine K1.mono ?_); clear K1; rintro r W2 ⟨rfl, ul2, hg2, hk2, hu2, hw2⟩; have H2 : Hid (Hg W2 p base g n C ul2 ∧ Kp (fun k => k = g) W W2 ∧ (∀ w, ¬ inP true a c w → uv ul2 w = uv ul w) ∧ Wh s (uv ul2) true (C (ix 1 1 a c)) a c) := ⟨hg2, hk2, hu2, hw2⟩; clear hg2 hk2 hu2 hw2)
    clear z0 q0 q0'
    have K2 := IHB.out c b true (by have := HP.out; omega) (by have := HP.out; omega) (by have := HP.out; omega) (fun _ => by have := HP.out.2.2.2.2.2.2 (by first | rfl | trivial); have := HP.out.1; omega) W2 ul2 H2.out.1
    rw [en1] at K2
    go_wp2_with (go_at_call 55; (with_reducible refine K2.mono ?_); clear K2; rintro r W3 ⟨rfl, ul3, hg3, hk3, hu3, hw3⟩; have H3 : Hid (Hg W3 p base g n C ul3 ∧ Kp (fun k => k = g) W W3 ∧ (∀ w, ¬ inP true c b w → uv ul3 w = uv ul2 w) ∧ Bo s (uv ul3) true (C (ix 0 1 c b)) c b) := ⟨hg3, kp_then H2.out.2.1 hk3 (fun _ _ e => e), hu3, hw3⟩; clear hg3 hk3 hu3 hw3)
    first | go_end0 | refine bodyPost_ret (results_none rfl _ _ _) rfl ?_
    have hp := HP.out
    have ho : ∀ w, ¬ inP true a b w → ¬ inP true a c w ∧ ¬ inP true c b w := fun w hw => by
      refine ⟨fun h => hw ?_, fun h => hw ?_⟩
      · obtain ⟨h1, h2, h3, h4⟩ := h
        exact ⟨by omega, by omega, fun e => by have := h3 e; omega, fun e => by have := h4 e; omega⟩
      · obtain ⟨h1, h2, h3, h4⟩ := h
        exact ⟨by omega, by omega, fun e => by have := h3 e; omega, fun e => by have := h4 e; omega⟩
    refine ⟨rfl, ul3, H3.out.1, H3.out.2.1, fun w hw => ?_, ?_⟩
    · obtain ⟨h1, h2⟩ := ho w hw
      rw [H3.out.2.2.1 w h2, H2.out.2.2.1 w h1]
    · have k1 := H2.out.2.2.2.congr (t' := uv ul3) fun w hw => H3.out.2.2.1 w (fun h => by
        obtain ⟨h1, h2, h3, h4⟩ := h
        obtain ⟨g1, g2, g3, g4⟩ := hw
        have := g4 rfl; omega)
      show Wh s (uv ul3) true (C (ix 1 1 a b)) a b
      rw [hp.2.2.1]
      exact Wh.mk1 k1 H3.out.2.2.2
theorem hang_all (hT : Tf s n n 1 C) (hn : n ≤ 12) (hpg : p ≠ g) : ∀ (L a b : Nat) (e : Bool), b - a ≤ L → WhC base p g n s C e a b ∧ BoC base p g n s C e a b := by
  have hz : ∀ a b, a < b → b ≤ n → Ok0 s C a b ∧ (1 ≤ a → Ok1 s C a b) := fun a b h1 h2 => hT.z a b h1 h2 (by omega)
  intro L
  induction L using Nat.strongRecOn with
  | ind L ih =>
  have hW : ∀ a b e, b - a < L → WhC base p g n s C e a b := fun a b e h => (ih (b - a) h a b e (Nat.le_refl _)).1
  have hB : ∀ a b e, b - a ≤ L → BoC base p g n s C e a b := fun a b e h => by
    cases e with
    | false => exact fun hab hb he => bow_false hz hn hpg a b (fun a' b' e' h' => hW a' b' e' (by omega)) hab hb he
    | true => exact fun hab hb he => bow_true hz hn hpg a b (fun a' b' e' h' => hW a' b' e' (by omega)) hab hb he
  intro a b e hL
  refine ⟨?_, hB a b e hL⟩
  cases e with
  | false => exact whole_false hz hT.d hn a b (fun a' b' e' h' => hB a' b' e' (by omega)) (fun a' b' e' h' => hW a' b' e' (by omega))
  | true => exact whole_true hz hT.d hn a b (fun a' b' e' h' => hB a' b' e' (by omega)) (fun a' b' e' h' => hW a' b' e' (by omega))
end
end Go.Proofs.Ytpolnkdbebjpnaa.Hd
