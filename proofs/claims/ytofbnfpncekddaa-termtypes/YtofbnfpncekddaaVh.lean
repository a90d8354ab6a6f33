/- told, Normal: termBegun. -/
import Derived.Test.YtofbnfpncekddaaVg
namespace Go.Proofs.Ytofbnfpncekddaa.Te
open Go.RowKit

theorem results_row6_tmp {fn : Func} {p u : Tmp} (h : fn.results = #[.cell p 27, .tmp u]) (tmps : Array Value) (w : World) (g : Nat) (v0 v1 v2 v3 v4 v5 : Value) (hp : tmps.getD p undef = .pointer (some ⟨g, 0, none⟩)) (hg : w.heap[g]? = some (.cells #[v0, v1, v2, v3, v4, v5] 27 (0, 0))) : (results fn tmps).run Try.prog w = .ok (.tuple #[.agg #[v0, v1, v2, v3, v4, v5], tmps.getD u undef]) w :=
  results_row_tmp h tmps w g 27 _ (0, 0) _ hp hg Try.underlying27 rfl size27
theorem results_row6_two {fn : Func} {p u v : Tmp} (h : fn.results = #[.cell p 27, .tmp u, .tmp v]) (tmps : Array Value) (w : World) (g : Nat) (v0 v1 v2 v3 v4 v5 : Value) (hp : tmps.getD p undef = .pointer (some ⟨g, 0, none⟩)) (hg : w.heap[g]? = some (.cells #[v0, v1, v2, v3, v4, v5] 27 (0, 0))) : (results fn tmps).run Try.prog w = .ok (.tuple #[.agg #[v0, v1, v2, v3, v4, v5], tmps.getD u undef, tmps.getD v undef]) w := by
  have hl := run_loadVar_row (P := Try.prog) w g 27 27 #[v0, v1, v2, v3, v4, v5] (0, 0) _ hg Try.underlying27 rfl size27
  unfold results
  rw [h]
  rw [Array.getD_eq_getD_getElem?] at hp
  simp [hp, asAddr, hl]
theorem con_told (x : Option Addr) (c : Nat) (w : World) : Calls Try.prog 33 #[vcon x c] w fun e w' => (∃ a' c', e = .returned (.tuple #[.agg #[.int .i64 2, .int .i64 3, .int .i64 0, .int .i64 0, .slice a' 0 c', .slice none 0 0], .int .i64 0])) ∧ Below w.heap.size w w' := by
  have K7 := con_right x c
  have K43 := con_copy x c
  unfold vcon at K7 K43 ⊢
  go_enter Try.func33, Try.ntmps33
  go_upto_region 1 with fail
  have h2 := two_boxes w (.cells #[.int .i64 2, .int .i64 3, .int .i64 0, .int .i64 0, .slice none 0 0, .slice x 0 c] 27) (.cells #[.int .i64 0, .int .i64 0, .int .i64 0, .int .i64 0, .slice none 0 0, .slice none 0 0] 27)
  generalize hV : (w.alloc (.cells #[.int .i64 2, .int .i64 3, .int .i64 0, .int .i64 0, .slice none 0 0, .slice x 0 c] 27)).alloc (.cells #[.int .i64 0, .int .i64 0, .int .i64 0, .int .i64 0, .slice none 0 0, .slice none 0 0] 27) = V at *
  obtain ⟨x1, x2, hs, hb⟩ := h2
  clear hV
  have k0 := cell_of_row _ _ 0 _ _ _ x1
  have k1 := cell_of_row _ _ 1 _ _ _ x1
  have k2 := cell_of_row _ _ 2 _ _ _ x1
  have k3 := cell_of_row _ _ 3 _ _ _ x1
  have k4 := cell_of_row _ _ 4 _ _ _ x1
  have k5 := cell_of_row _ _ 5 _ _ _ x1
  go_upto_region 4 with (go_at_call 7; (with_reducible refine (K7 _).mono ?_); rintro e w1 ⟨rfl, hb1⟩)
  have y1 := (hb1.block w.heap.size (by omega)).trans x1
  have y2 := (hb1.block (w.heap.size + 1) (by omega)).trans x2
  have hbw := hb.trans (hb1.mono hb.size)
  have hs1 := hb1.size
  clear k0 k1 k2 k3 k4 k5 x1 x2
  have k0 := cell_of_row _ _ 0 _ _ _ y1
  have k1 := cell_of_row _ _ 1 _ _ _ y1
  have k2 := cell_of_row _ _ 2 _ _ _ y1
  have k3 := cell_of_row _ _ 3 _ _ _ y1
  have k4 := cell_of_row _ _ 4 _ _ _ y1
  have k5 := cell_of_row _ _ 5 _ _ _ y1
  go_wp2_with (go_at_call 43; (with_reducible refine (K43 _).mono ?_); rintro e w2 ⟨⟨a', c', rfl⟩, hb2⟩; have hU := (hb2.block (w.heap.size + 1) (by omega)).trans y2; have m0 := cell_of_row _ _ 0 _ _ _ hU; have m1 := cell_of_row _ _ 1 _ _ _ hU; have m2 := cell_of_row _ _ 2 _ _ _ hU; have m3 := cell_of_row _ _ 3 _ _ _ hU; have m4 := cell_of_row _ _ 4 _ _ _ hU; have m5 := cell_of_row _ _ 5 _ _ _ hU; have f0 := frozen_of_row _ _ 0 _ 27 hU; have f1 := frozen_of_row _ _ 1 _ 27 hU; have f2 := frozen_of_row _ _ 2 _ 27 hU; have f3 := frozen_of_row _ _ 3 _ 27 hU; have f4 := frozen_of_row _ _ 4 _ 27 hU; have f5 := frozen_of_row _ _ 5 _ 27 hU)
  have hl := laid6 hU (.int .i64 2) (.int .i64 3) (.int .i64 0) (.int .i64 0) (.slice a' 0 c') (.slice none 0 0)
  refine bodyPost_ret (results_row6_tmp rfl _ _ (w.heap.size + 1) _ _ _ _ _ _ rfl hl) rfl ?_
  exact ⟨⟨_, _, rfl⟩, bel6 (hbw.trans (hb2.mono hbw.size)) (by omega) _ _ _ _ _ _⟩
theorem self_right (G1 G2 : Nat) (w : World) (h : Self w G1 G2) : Calls Try.prog 7 #[vself G2] w fun e w' => e = .returned (.int .i64 0) ∧ Below w.heap.size w w' := by
  have K7 := checkm_any 3 selfT none 0 (some ⟨G2, 0, none⟩) 2 w h.tm
  have e1 : szm varT = 1 := by rw [szm]; rfl
  have e2 : szm fnT = 2 := by rw [szm]; unfold fnT; simp [e1]
  have e3 : szm selfT = 4 := by rw [szm]; unfold selfT; simp [e2, szm_con]
  have w1 : wtm varT = 0 := by rw [wtm_ok (t := varT) (by decide)]; rfl
  have w2 : wtm fnT = 0 := by
    rw [wtm_ok (t := fnT) ?_]
    · refine fz_zero (fun x hx => ?_)
      obtain ⟨t, ht, rfl⟩ := List.mem_map.1 hx
      have : t = varT := by simpa [fnT] using ht
      rw [this, w1]
    · have hc : ck ⟨1, 0, []⟩ = 0 := by
        unfold ck
        rw [if_neg (by rw [sz]; decide), wr_ok (t := ⟨1, 0, []⟩) (by decide)]
        rfl
      unfold wt1 fnT
      dsimp only
      rw [if_neg (by decide), if_neg (by decide), if_neg (by simp), if_pos rfl, hc]
  have w3 : wtm selfT = 0 := by
    rw [wtm_ok (t := selfT) (by decide)]
    refine fz_zero (fun x hx => ?_)
    obtain ⟨t, ht, rfl⟩ := List.mem_map.1 hx
    have : t = fnT ∨ t = conT := by simpa [selfT] using ht
    rcases this with rfl | rfl
    · exact w2
    · exact wtm_con
  have hck : ckm selfT = 0 := by
    unfold ckm
    rw [if_neg (by rw [e3]; omega), w3]
  rw [hck] at K7
  unfold vtm selfT noTy at K7
  exact K7
theorem con_first (x : Option Addr) (c : Nat) (w : World) : Calls Try.prog 30 #[vcon x c] w fun e w' => e = .returned (.tuple #[.slice none 0 0, .bool false]) ∧ Below w.heap.size w w' := by
  have := first_no 2 3 noTy none 0 x c w (by decide)
  unfold vtm noTy at this
  exact this
theorem self_first (G1 G2 : Nat) (w : World) (h : Self w G1 G2) : Calls Try.prog 30 #[vself G2] w fun e w' => e = .returned (.tuple #[.slice none 0 0, .bool true]) ∧ Below w.heap.size w w' := by
  have := first_yes 0 noTy fnT [conT] none 0 (some ⟨G2, 0, none⟩) 2 w h.tm rfl
  unfold vtm noTy at this
  exact this
set_option maxHeartbeats 8000000 in
theorem self_normal (G1 G2 : Nat) (w : World) (h : Self w G1 G2) : Calls Try.prog 16 #[vself G2] w fun e w' => (∃ a' c', e = .returned (.tuple #[.agg #[.int .i64 2, .int .i64 3, .int .i64 0, .int .i64 0, .slice a' 0 c', .slice none 0 0], .int .i64 1, .int .i64 0])) ∧ Below w.heap.size w w' := by
  have K7 := fun W (hb : Below w.heap.size w W) => self_right G1 G2 W (h.below hb)
  have K30 := fun W (hb : Below w.heap.size w W) => self_first G1 G2 W (h.below hb)
  have K31 := fun W (hb : Below w.heap.size w W) => self_step G1 G2 W (h.below hb)
  have L30 := con_first
  have L32 := con_few
  have L33 := con_told
  unfold vself at K7 K30 K31 ⊢
  unfold vcon at L30 L32 L33
  clear h
  go_enter Try.func16, Try.ntmps16
  go_upto_region 1 with fail
  have h2 := two_boxes w (.cells #[.int .i64 4, .int .i64 0, .int .i64 0, .int .i64 0, .slice none 0 0, .slice (some ⟨G2, 0, none⟩) 2 2] 27) (.cells #[.int .i64 0, .int .i64 0, .int .i64 0, .int .i64 0, .slice none 0 0, .slice none 0 0] 27)
  generalize hV : (w.alloc (.cells #[.int .i64 4, .int .i64 0, .int .i64 0, .int .i64 0, .slice none 0 0, .slice (some ⟨G2, 0, none⟩) 2 2] 27)).alloc (.cells #[.int .i64 0, .int .i64 0, .int .i64 0, .int .i64 0, .slice none 0 0, .slice none 0 0] 27) = V at *
  obtain ⟨x1, x2, hs, hb⟩ := h2
  clear hV
  have k0 := cell_of_row _ _ 0 _ _ _ x1
  have k1 := cell_of_row _ _ 1 _ _ _ x1
  have k2 := cell_of_row _ _ 2 _ _ _ x1
  have k3 := cell_of_row _ _ 3 _ _ _ x1
  have k4 := cell_of_row _ _ 4 _ _ _ x1
  have k5 := cell_of_row _ _ 5 _ _ _ x1
  go_upto_region 5 with (go_at_call 7; (with_reducible refine (K7 _ hb).mono ?_); rintro e w1 ⟨rfl, hb1⟩)
  have y1 := (hb1.block w.heap.size (by omega)).trans x1
  have y2 := (hb1.block (w.heap.size + 1) (by omega)).trans x2
  have hbw := hb.trans (hb1.mono hb.size)
  have hs1 := hb1.size
  clear k0 k1 k2 k3 k4 k5 x1 x2 K7
  have k0 := cell_of_row _ _ 0 _ _ _ y1
  have k1 := cell_of_row _ _ 1 _ _ _ y1
  have k2 := cell_of_row _ _ 2 _ _ _ y1
  have k3 := cell_of_row _ _ 3 _ _ _ y1
  have k4 := cell_of_row _ _ 4 _ _ _ y1
  have k5 := cell_of_row _ _ 5 _ _ _ y1
  go_wp2_with (go_at_call 30; (with_reducible refine (K30 _ hbw).mono ?_); rintro e w2 ⟨rfl, hb2⟩)
  have z1 := (hb2.block w.heap.size (by omega)).trans y1
  have z2 := (hb2.block (w.heap.size + 1) (by omega)).trans y2
  have hbw2 := hbw.trans (hb2.mono hbw.size)
  clear k0 k1 k2 k3 k4 k5 y1 y2 K30
  go_loopw [6, 7, 8] (fun sv pv ov wr => Below w.heap.size w wr ∧ wr.heap[w.heap.size + 1]? = some (.cells #[.int .i64 0, .int .i64 0, .int .i64 0, .int .i64 0, .slice none 0 0, .slice none 0 0] 27) ∧ pv = .slice none 0 0 ∧ ((sv = .int .i64 0 ∧ ov = .bool true ∧ wr.heap[w.heap.size]? = some (.cells #[.int .i64 4, .int .i64 0, .int .i64 0, .int .i64 0, .slice none 0 0, .slice (some ⟨G2, 0, none⟩) 2 2] 27)) ∨ (sv = .int .i64 1 ∧ ov = .bool false ∧ ∃ (x : Option Addr) (c : Nat), wr.heap[w.heap.size]? = some (.cells #[.int .i64 2, .int .i64 3, .int .i64 0, .int .i64 0, .slice none 0 0, .slice x 0 c] 27)))) (fun sv _ _ _ => 1 - (intOf sv).toNat)
  case atStart => exact ⟨hbw2, z2, rfl, .inl ⟨rfl, rfl, z1⟩⟩
  case round =>
    clear z1 z2 hbw2
    obtain ⟨hbr, r2, rfl, ⟨rfl, rfl, r1⟩ | ⟨rfl, rfl, x, c, r1⟩⟩ := hrel
    · clear L33
      have k0 := cell_of_row _ _ 0 _ _ _ r1
      have k1 := cell_of_row _ _ 1 _ _ _ r1
      have k2 := cell_of_row _ _ 2 _ _ _ r1
      have k3 := cell_of_row _ _ 3 _ _ _ r1
      have k4 := cell_of_row _ _ 4 _ _ _ r1
      have k5 := cell_of_row _ _ 5 _ _ _ r1
      go_upto_region 9 with (go_at_call 31; (with_reducible refine (K31 _ hbr).mono ?_); rintro e w3 ⟨⟨x5, c5, rfl⟩, hb3⟩; unfold vcon; have hU := (hb3.block w.heap.size (lt_of_get r1)).trans r1; have m0 := cell_of_row _ _ 0 _ _ _ hU; have m1 := cell_of_row _ _ 1 _ _ _ hU; have m2 := cell_of_row _ _ 2 _ _ _ hU; have m3 := cell_of_row _ _ 3 _ _ _ hU; have m4 := cell_of_row _ _ 4 _ _ _ hU; have m5 := cell_of_row _ _ 5 _ _ _ hU; have f0 := frozen_of_row _ _ 0 _ 27 hU; have f1 := frozen_of_row _ _ 1 _ 27 hU; have f2 := frozen_of_row _ _ 2 _ 27 hU; have f3 := frozen_of_row _ _ 3 _ 27 hU; have f4 := frozen_of_row _ _ 4 _ 27 hU; have f5 := frozen_of_row _ _ 5 _ 27 hU)
      have q1 := laid6 hU (.int .i64 2) (.int .i64 3) (.int .i64 0) (.int .i64 0) (.slice none 0 0) (.slice x5 0 c5)
      have q2 := (ko6 w3 w.heap.size (.int .i64 2) (.int .i64 3) (.int .i64 0) (.int .i64 0) (.slice none 0 0) (.slice x5 0 c5) (w.heap.size + 1) (by omega)).trans ((hb3.block (w.heap.size + 1) (lt_of_get r2)).trans r2)
      have hbq := bel6 (hbr.trans (hb3.mono hbr.size)) (Nat.le_refl w.heap.size) (.int .i64 2) (.int .i64 3) (.int .i64 0) (.int .i64 0) (.slice none 0 0) (.slice x5 0 c5)
      clear m0 m1 m2 m3 m4 m5 f0 f1 f2 f3 f4 f5 k0 k1 k2 k3 k4 k5 r1 r2
      generalize ((((((w3.setCell ⟨w.heap.size, 0, none⟩ (.int .i64 2)).setCell ⟨w.heap.size, 1, none⟩ (.int .i64 3)).setCell ⟨w.heap.size, 2, none⟩ (.int .i64 0)).setCell ⟨w.heap.size, 3, none⟩ (.int .i64 0)).setCell ⟨w.heap.size, 4, none⟩ (.slice none 0 0)).setCell ⟨w.heap.size, 5, none⟩ (.slice x5 0 c5)) = U at *
      clear hU
      have k0 := cell_of_row _ _ 0 _ _ _ q1
      have k1 := cell_of_row _ _ 1 _ _ _ q1
      have k2 := cell_of_row _ _ 2 _ _ _ q1
      have k3 := cell_of_row _ _ 3 _ _ _ q1
      have k4 := cell_of_row _ _ 4 _ _ _ q1
      have k5 := cell_of_row _ _ 5 _ _ _ q1
      go_wp2_with (first | (go_at_call 32; (with_reducible refine (L32 _ _ _).mono ?_); rintro e w4 ⟨rfl, hb4⟩; have s1 := (hb4.block w.heap.size (lt_of_get q1)).trans q1; have s2 := (hb4.block (w.heap.size + 1) (lt_of_get q2)).trans q2; have k0 := cell_of_row _ _ 0 _ _ _ s1; have k1 := cell_of_row _ _ 1 _ _ _ s1; have k2 := cell_of_row _ _ 2 _ _ _ s1; have k3 := cell_of_row _ _ 3 _ _ _ s1; have k4 := cell_of_row _ _ 4 _ _ _ s1; have k5 := cell_of_row _ _ 5 _ _ _ s1) | (go_at_call 30; (with_reducible refine (L30 _ _ _).mono ?_); rintro e w5 ⟨rfl, hb5⟩))
      go_roundw
      case rel =>
        have hb4' := hbq.trans (hb4.mono hbq.size)
        exact ⟨hb4'.trans (hb5.mono hb4'.size), (hb5.block (w.heap.size + 1) (lt_of_get s2)).trans s2, rfl, .inr ⟨by go_num, rfl, x5, c5, (hb5.block w.heap.size (lt_of_get s1)).trans s1⟩⟩
      case measure => simp [intOf]
    · clear K31 L30 L32
      have k0 := cell_of_row _ _ 0 _ _ _ r1
      have k1 := cell_of_row _ _ 1 _ _ _ r1
      have k2 := cell_of_row _ _ 2 _ _ _ r1
      have k3 := cell_of_row _ _ 3 _ _ _ r1
      have k4 := cell_of_row _ _ 4 _ _ _ r1
      have k5 := cell_of_row _ _ 5 _ _ _ r1
      go_upto_region 13 with (go_at_call 33; (with_reducible refine (L33 _ _ _).mono ?_); rintro e w3 ⟨⟨a', c', rfl⟩, hb3⟩; have hU := (hb3.block w.heap.size (lt_of_get r1)).trans r1; have m0 := cell_of_row _ _ 0 _ _ _ hU; have m1 := cell_of_row _ _ 1 _ _ _ hU; have m2 := cell_of_row _ _ 2 _ _ _ hU; have m3 := cell_of_row _ _ 3 _ _ _ hU; have m4 := cell_of_row _ _ 4 _ _ _ hU; have m5 := cell_of_row _ _ 5 _ _ _ hU; have f0 := frozen_of_row _ _ 0 _ 27 hU; have f1 := frozen_of_row _ _ 1 _ 27 hU; have f2 := frozen_of_row _ _ 2 _ 27 hU; have f3 := frozen_of_row _ _ 3 _ 27 hU; have f4 := frozen_of_row _ _ 4 _ 27 hU; have f5 := frozen_of_row _ _ 5 _ 27 hU)
      have q1 := laid6 hU (.int .i64 2) (.int .i64 3) (.int .i64 0) (.int .i64 0) (.slice a' 0 c') (.slice none 0 0)
      have q2 := (ko6 w3 w.heap.size (.int .i64 2) (.int .i64 3) (.int .i64 0) (.int .i64 0) (.slice a' 0 c') (.slice none 0 0) (w.heap.size + 1) (by omega)).trans ((hb3.block (w.heap.size + 1) (lt_of_get r2)).trans r2)
      have hbq := bel6 (hbr.trans (hb3.mono hbr.size)) (Nat.le_refl w.heap.size) (.int .i64 2) (.int .i64 3) (.int .i64 0) (.int .i64 0) (.slice a' 0 c') (.slice none 0 0)
      clear m0 m1 m2 m3 m4 m5 f0 f1 f2 f3 f4 f5 k0 k1 k2 k3 k4 k5 r1 r2
      generalize ((((((w3.setCell ⟨w.heap.size, 0, none⟩ (.int .i64 2)).setCell ⟨w.heap.size, 1, none⟩ (.int .i64 3)).setCell ⟨w.heap.size, 2, none⟩ (.int .i64 0)).setCell ⟨w.heap.size, 3, none⟩ (.int .i64 0)).setCell ⟨w.heap.size, 4, none⟩ (.slice a' 0 c')).setCell ⟨w.heap.size, 5, none⟩ (.slice none 0 0)) = U at *
      clear hU
      have k0 := cell_of_row _ _ 0 _ _ _ q1
      have k1 := cell_of_row _ _ 1 _ _ _ q1
      have k2 := cell_of_row _ _ 2 _ _ _ q1
      have k3 := cell_of_row _ _ 3 _ _ _ q1
      have k4 := cell_of_row _ _ 4 _ _ _ q1
      have k5 := cell_of_row _ _ 5 _ _ _ q1
      have m0 := cell_of_row _ _ 0 _ _ _ q2
      have m1 := cell_of_row _ _ 1 _ _ _ q2
      have m2 := cell_of_row _ _ 2 _ _ _ q2
      have m3 := cell_of_row _ _ 3 _ _ _ q2
      have m4 := cell_of_row _ _ 4 _ _ _ q2
      have m5 := cell_of_row _ _ 5 _ _ _ q2
      have f0 := frozen_of_row _ _ 0 _ 27 q2
      have f1 := frozen_of_row _ _ 1 _ 27 q2
      have f2 := frozen_of_row _ _ 2 _ 27 q2
      have f3 := frozen_of_row _ _ 3 _ 27 q2
      have f4 := frozen_of_row _ _ 4 _ 27 q2
      have f5 := frozen_of_row _ _ 5 _ 27 q2
      go_wp2
      have hl := laid6 q2 (.int .i64 2) (.int .i64 3) (.int .i64 0) (.int .i64 0) (.slice a' 0 c') (.slice none 0 0)
      refine bodyPost_ret (results_row6_two rfl _ _ (w.heap.size + 1) _ _ _ _ _ _ rfl hl) rfl ?_
      exact ⟨⟨_, _, rfl⟩, bel6 hbq (by omega) _ _ _ _ _ _⟩
theorem begun_any (w : World) : Calls Try.prog 6 #[] w fun e w' => e = .returned (.bool true) ∧ Below w.heap.size w w' := by
  have K17 := self_any
  have K16 := self_normal
  unfold vself at K17 K16
  go_enter Try.func6, Try.ntmps6
  go_upto_region 2 with (first | (go_at_call 17; (with_reducible refine (K17 _).mono ?_); rintro e w1 ⟨G1, G2, rfl, hS, hb1⟩) | (go_at_call 16; (with_reducible refine (K16 G1 G2 _ hS).mono ?_); rintro e w2 ⟨⟨a', c', rfl⟩, hb2⟩))
  have hbw : Below w.heap.size w w2 := hb1.trans (hb2.mono hb1.size)
  have hb3 : ∀ o, Below w2.heap.size w2 (w2.alloc o) := fun o => (Below.refl _ w2).alloc (Nat.le_refl _) o
  go_wp2
  go_ret
  exact ⟨rfl, hbw.trans ((hb3 _).mono hbw.size)⟩
end Go.Proofs.Ytofbnfpncekddaa.Te
