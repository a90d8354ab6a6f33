/- highestOf (51), over each of fill's closures: the first place that is worth the most, and its worth. Conditions: the places are small, the worths of no great size. -/
import Derived.Test.YtpolnkdbebjpnaaNa
namespace Go.Proofs.Ytpolnkdbebjpnaa.Hd
open Go.RowKit

theorem row52 : (Try.prog.info? 52).map (·.size) = some 2 := by kernel_rfl
/-- highestOf's two boxes -/
structure Ho (w wr : World) (p6 p7 : Nat) (m : Int) (y : Nat) : Prop where
  b6 : wr.heap[p6]? = some (.cells #[.int .i64 0, .int .i64 0] 52 (0, 0))
  b7 : wr.heap[p7]? = some (.cells #[.int .i64 m, .int .i64 (y : Int)] 52 (0, 0))
  n67 : p6 ≠ p7
  l6 : w.heap.size ≤ p6
  l7 : w.heap.size ≤ p7
  below : Below w.heap.size w wr
theorem Ho.laid {w wr w1 : World} {p6 p7 y : Nat} {m : Int} (h : Ho w wr p6 p7 m y) (hb : Below wr.heap.size wr w1) : Ho w w1 p6 p7 m y :=
  ⟨(hb.block _ (lt_at h.b6)).trans h.b6, (hb.block _ (lt_at h.b7)).trans h.b7, h.n67, h.l6, h.l7, h.below.trans (hb.mono h.below.size)⟩
theorem Ho.set {w wr : World} {p6 p7 y : Nat} {m : Int} (h : Ho w wr p6 p7 m y) (m' : Int) (y' : Nat) : Ho w ((wr.setCell ⟨p7, 0, none⟩ (.int .i64 m')).setCell ⟨p7, 1, none⟩ (.int .i64 (y' : Int))) p6 p7 m' y' := by
  have e1 := heap_setCell_same wr p7 0 _ 52 (.int .i64 m') h.b7
  have e2 := heap_setCell_same _ p7 1 _ 52 (.int .i64 (y' : Int)) e1
  have k1 : Kp (fun b => b = p7) wr (wr.setCell ⟨p7, 0, none⟩ (.int .i64 m')) := (Kp.refl _ wr).setCell _ _ _ (fun _ => rfl)
  have k2 : Kp (fun b => b = p7) wr ((wr.setCell ⟨p7, 0, none⟩ (.int .i64 m')).setCell ⟨p7, 1, none⟩ (.int .i64 (y' : Int))) := k1.setCell _ _ _ (fun _ => rfl)
  exact ⟨(k2.block _ (lt_at h.b6) h.n67).trans h.b6, e2, h.n67, h.l6, h.l7, below_kp h.below k2 (fun b hb e => by have e2 : b = p7 := e; have := h.l7; omega)⟩
theorem Ho.fin {w wr : World} {p6 p7 y : Nat} {m : Int} (h : Ho w wr p6 p7 m y) : ((wr.setCell ⟨p6, 0, none⟩ (.int .i64 m)).setCell ⟨p6, 1, none⟩ (.int .i64 (y : Int))).heap[p6]? = some (.cells #[.int .i64 m, .int .i64 (y : Int)] 52 (0, 0)) ∧ Below w.heap.size w ((wr.setCell ⟨p6, 0, none⟩ (.int .i64 m)).setCell ⟨p6, 1, none⟩ (.int .i64 (y : Int))) := by
  have e1 := heap_setCell_same wr p6 0 _ 52 (.int .i64 m) h.b6
  have e2 := heap_setCell_same _ p6 1 _ 52 (.int .i64 (y : Int)) e1
  have k1 : Kp (fun b => b = p6) wr (wr.setCell ⟨p6, 0, none⟩ (.int .i64 m)) := (Kp.refl _ wr).setCell _ _ _ (fun _ => rfl)
  have k2 : Kp (fun b => b = p6) wr ((wr.setCell ⟨p6, 0, none⟩ (.int .i64 m)).setCell ⟨p6, 1, none⟩ (.int .i64 (y : Int))) := k1.setCell _ _ _ (fun _ => rfl)
  exact ⟨e2, below_kp h.below k2 (fun b hb e => by have e2 : b = p6 := e; have := h.l6; omega)⟩
theorem ho_start (w w1 : World) (hb : Below (w.alloc (.cells #[.int .i64 0, .int .i64 0] 52)).heap.size (w.alloc (.cells #[.int .i64 0, .int .i64 0] 52)) w1) (m : Int) (y : Nat) : Ho w (w1.alloc (.cells #[.int .i64 m, .int .i64 (y : Int)] 52)) w.heap.size w1.heap.size m y := by
  have e1 : (w.alloc (.cells #[.int .i64 0, .int .i64 0] 52)).heap[w.heap.size]? = some (.cells #[.int .i64 0, .int .i64 0] 52 (0, 0)) := heap_alloc_new _ _
  have hs : w.heap.size + 1 ≤ w1.heap.size := by have := hb.size; simp at this; omega
  refine ⟨?_, heap_alloc_new _ _, by omega, Nat.le_refl _, by omega, ((below_al w _).trans (hb.mono (by simp))).alloc (by omega) _⟩
  rw [heap_alloc_old _ _ (by omega)]
  exact (hb.block _ (by simp)).trans e1
/-- what highestOf hands back -/
def HoQ (f : Nat → Int) (lo hi : Nat) (w : World) (e : Ending) (w' : World) : Prop := ∃ y : Nat, e = .returned (.agg #[.int .i64 (f y), .int .i64 (y : Int)]) ∧ lo ≤ y ∧ y ≤ hi ∧ (∀ x, lo ≤ x → x ≤ hi → f x ≤ f y) ∧ Below w.heap.size w w'
set_option maxHeartbeats 4000000 in
set_option maxRecDepth 100000 in
theorem high_1 (f : Nat → Int) (lo hi q1 q2 q3 : Nat) (w : World) (hlh : lo ≤ hi) (hh : hi ≤ 1000) (hf : ∀ x, lo ≤ x → x ≤ hi → ∀ W, Below w.heap.size w W → Calls Try.prog 52 #[.int .i64 (x : Int), .pointer (some ⟨q1, 0, none⟩), .pointer (some ⟨q2, 0, none⟩), .pointer (some ⟨q3, 0, none⟩)] W fun e W' => e = .returned (.int .i64 (f x)) ∧ Below W.heap.size W W') :
    Calls Try.prog 51 #[.int .i64 (lo : Int), .int .i64 (hi : Int), .func (.func 52) #[] #[.pointer (some ⟨q1, 0, none⟩), .pointer (some ⟨q2, 0, none⟩), .pointer (some ⟨q3, 0, none⟩)]] w (HoQ f lo hi w) := by
  have HF : Hid (∀ x, lo ≤ x → x ≤ hi → ∀ W, Below w.heap.size w W → Calls Try.prog 52 #[.int .i64 (x : Int), .pointer (some ⟨q1, 0, none⟩), .pointer (some ⟨q2, 0, none⟩), .pointer (some ⟨q3, 0, none⟩)] W fun e W' => e = .returned (.int .i64 (f x)) ∧ Below W.heap.size W W') := hf
  have HL : Hid (lo ≤ hi ∧ hi ≤ 1000) := ⟨hlh, hh⟩
  have K0 := HF.out lo (Nat.le_refl _) hlh (w.alloc (.cells #[.int .i64 0, .int .i64 0] 52)) (below_al w _)
  obtain ⟨m0, hm0⟩ : ∃ m, f lo = m := ⟨_, rfl⟩
  have HM0 : Hid (f lo = m0) := hm0
  rw [hm0] at K0
  clear hf hlh hm0
  go_enter Try.func51, Try.ntmps51
  go_upto_region 2 with (go_at_call 52; (with_reducible refine K0.mono ?_); clear K0; rintro e w1 ⟨rfl, hb1⟩; have HS : Hid _ := ho_start w w1 hb1 m0 lo; clear hb1)
  generalize w1.alloc (.cells #[.int .i64 m0, .int .i64 (lo : Int)] 52) = W1 at *
  obtain ⟨p6, hp6⟩ : ∃ p, w.heap.size = p := ⟨_, rfl⟩
  obtain ⟨p7, hp7⟩ : ∃ p, w1.heap.size = p := ⟨_, rfl⟩
  have HS1 : Hid (Ho w W1 p6 p7 m0 lo) := by rw [← hp6, ← hp7]; exact HS.out
  try rw [hp6, hp7]
  clear HS hp6 hp7
  have wl : wrap64 ((lo : Int) + 1) = ((lo + 1 : Nat) : Int) := by have := HL.out; unfold wrap64; omega
  go_upto_region 3 with fail
  go_loopw [8] (fun a wr => ∃ (x y : Nat), a = .int .i64 (x : Int) ∧ lo ≤ y ∧ y < x ∧ x ≤ hi + 1 ∧ Ho w wr p6 p7 (f y) y ∧ ∀ z, lo ≤ z → z < x → f z ≤ f y) (fun a _ => hi + 1 - (intOf a).toNat)
  case atStart => exact ⟨lo + 1, lo, by first | exact congrArg _ wl | go_num, Nat.le_refl _, Nat.lt_succ_self _, by have := HL.out; omega, by rw [HM0.out]; exact HS1.out, fun z h1 h2 => by
    have e : z = lo := by omega
    rw [e]; exact Int.le_refl _⟩
  case round =>
    clear HS1 wl
    obtain ⟨x, y, rfl, h1, h2, h3, h4, h5⟩ := hrel
    have HI : Hid (lo ≤ y ∧ y < x ∧ Ho w wr p6 p7 (f y) y ∧ ∀ z, lo ≤ z → z < x → f z ≤ f y) := ⟨h1, h2, h4, h5⟩
    clear h1 h2 h4 h5
    have hhb := HL.out.2
    by_cases hlt : x ≤ hi
    · have hii : (x : Int) ≤ (hi : Int) := by omega
      have K1 := HF.out x (by have := HI.out; omega) hlt wr HI.out.2.2.1.below
      obtain ⟨fx, hfx⟩ : ∃ z, f x = z := ⟨_, rfl⟩
      obtain ⟨fy, hfy⟩ : ∃ z, f y = z := ⟨_, rfl⟩
      have HV : Hid (f x = fx ∧ f y = fy) := ⟨hfx, hfy⟩
      rw [hfx] at K1
      have HJ : Hid (Ho w wr p6 p7 fy y) := by rw [← hfy]; exact HI.out.2.2.1
      clear hfx hfy
      go_upto_region 6 with (go_at_call 52; (with_reducible refine K1.mono ?_); clear K1; rintro e w1 ⟨rfl, hb1⟩; have HJ1 : Hid (Ho w w1 p6 p7 fy y) := HJ.out.laid hb1; clear hb1)
      clear HJ
      have b0 := cell_of_row _ _ 0 _ _ _ HJ1.out.b7
      have b1 := cell_of_row _ _ 1 _ _ _ HJ1.out.b7
      have f0 := frozen_of_row _ _ 0 _ _ HJ1.out.b7
      have f1 := frozen_of_row _ _ 1 _ _ HJ1.out.b7
      by_cases hgt : fy < fx
      · have HJ2 : Hid _ := HJ1.out.set fx x
        go_wp2
        clear b0 b1 f0 f1
        go_roundw
        case rel => exact ⟨x + 1, x, by go_num, by have := HI.out; omega, Nat.lt_succ_self _, by omega, by rw [HV.out.1]; exact HJ2.out, fun z z1 z2 => by
          by_cases e : z = x
          · rw [e]; exact Int.le_refl _
          · have := HI.out.2.2.2 z z1 (by omega)
            rw [HV.out.2] at this
            rw [HV.out.1]
            omega⟩
        case measure => simp [intOf]; omega
      · go_wp2
        clear b0 b1 f0 f1
        go_roundw
        case rel => exact ⟨x + 1, y, by go_num, HI.out.1, by have := HI.out; omega, by omega, by rw [HV.out.2]; exact HJ1.out, fun z z1 z2 => by
          by_cases e : z = x
          · rw [e, HV.out.1, HV.out.2]; omega
          · exact HI.out.2.2.2 z z1 (by omega)⟩
        case measure => simp [intOf]; omega
    · have hii : ¬ (x : Int) ≤ (hi : Int) := by omega
      obtain ⟨fy, hfy⟩ : ∃ z, f y = z := ⟨_, rfl⟩
      have HV : Hid (f y = fy) := hfy
      have HJ : Hid (Ho w wr p6 p7 fy y) := by rw [← hfy]; exact HI.out.2.2.1
      clear hfy
      have b0 := cell_of_row _ _ 0 _ _ _ HJ.out.b7
      have b1 := cell_of_row _ _ 1 _ _ _ HJ.out.b7
      have y0 := cell_of_row _ _ 0 _ _ _ HJ.out.b6
      have y1 := cell_of_row _ _ 1 _ _ _ HJ.out.b6
      have f0 := frozen_of_row _ _ 0 _ _ HJ.out.b6
      have f1 := frozen_of_row _ _ 1 _ _ HJ.out.b6
      go_wp2
      have hr := HJ.out.fin
      refine bodyPost_ret (results_cell_row rfl _ _ p6 52 _ (0, 0) _ rfl hr.1 Try.underlying52 rfl row52) rfl ?_
      exact ⟨y, by rw [HV.out], HI.out.1, by have := HI.out; omega, fun z z1 z2 => HI.out.2.2.2 z z1 (by omega), hr.2⟩
set_option maxHeartbeats 4000000 in
set_option maxRecDepth 100000 in
theorem high_2 (f : Nat → Int) (lo hi q1 q2 q3 : Nat) (w : World) (hlh : lo ≤ hi) (hh : hi ≤ 1000) (hf : ∀ x, lo ≤ x → x ≤ hi → ∀ W, Below w.heap.size w W → Calls Try.prog 53 #[.int .i64 (x : Int), .pointer (some ⟨q1, 0, none⟩), .pointer (some ⟨q2, 0, none⟩), .pointer (some ⟨q3, 0, none⟩)] W fun e W' => e = .returned (.int .i64 (f x)) ∧ Below W.heap.size W W') :
    Calls Try.prog 51 #[.int .i64 (lo : Int), .int .i64 (hi : Int), .func (.func 53) #[] #[.pointer (some ⟨q1, 0, none⟩), .pointer (some ⟨q2, 0, none⟩), .pointer (some ⟨q3, 0, none⟩)]] w (HoQ f lo hi w) := by
  have HF : Hid (∀ x, lo ≤ x → x ≤ hi → ∀ W, Below w.heap.size w W → Calls Try.prog 53 #[.int .i64 (x : Int), .pointer (some ⟨q1, 0, none⟩), .pointer (some ⟨q2, 0, none⟩), .pointer (some ⟨q3, 0, none⟩)] W fun e W' => e = .returned (.int .i64 (f x)) ∧ Below W.heap.size W W') := hf
  have HL : Hid (lo ≤ hi ∧ hi ≤ 1000) := ⟨hlh, hh⟩
  have K0 := HF.out lo (Nat.le_refl _) hlh (w.alloc (.cells #[.int .i64 0, .int .i64 0] 52)) (below_al w _)
  obtain ⟨m0, hm0⟩ : ∃ m, f lo = m := ⟨_, rfl⟩
  have HM0 : Hid (f lo = m0) := hm0
  rw [hm0] at K0
  clear hf hlh hm0
  go_enter Try.func51, Try.ntmps51
  go_upto_region 2 with (go_at_call 53; (with_reducible refine K0.mono ?_); clear K0; rintro e w1 ⟨rfl, hb1⟩; have HS : Hid _ := ho_start w w1 hb1 m0 lo; clear hb1)
  generalize w1.alloc (.cells #[.int .i64 m0, .int .i64 (lo : Int)] 52) = W1 at *
  obtain ⟨p6, hp6⟩ : ∃ p, w.heap.size = p := ⟨_, rfl⟩
  obtain ⟨p7, hp7⟩ : ∃ p, w1.heap.size = p := ⟨_, rfl⟩
  have HS1 : Hid (Ho w W1 p6 p7 m0 lo) := by rw [← hp6, ← hp7]; exact HS.out
  try rw [hp6, hp7]
  clear HS hp6 hp7
  have wl : wrap64 ((lo : Int) + 1) = ((lo + 1 : Nat) : Int) := by have := HL.out; unfold wrap64; omega
  go_upto_region 3 with fail
  go_loopw [8] (fun a wr => ∃ (x y : Nat), a = .int .i64 (x : Int) ∧ lo ≤ y ∧ y < x ∧ x ≤ hi + 1 ∧ Ho w wr p6 p7 (f y) y ∧ ∀ z, lo ≤ z → z < x → f z ≤ f y) (fun a _ => hi + 1 - (intOf a).toNat)
  case atStart => exact ⟨lo + 1, lo, by first | exact congrArg _ wl | go_num, Nat.le_refl _, Nat.lt_succ_self _, by have := HL.out; omega, by rw [HM0.out]; exact HS1.out, fun z h1 h2 => by
    have e : z = lo := by omega
    rw [e]; exact Int.le_refl _⟩
  case round =>
    clear HS1 wl
    obtain ⟨x, y, rfl, h1, h2, h3, h4, h5⟩ := hrel
    have HI : Hid (lo ≤ y ∧ y < x ∧ Ho w wr p6 p7 (f y) y ∧ ∀ z, lo ≤ z → z < x → f z ≤ f y) := ⟨h1, h2, h4, h5⟩
    clear h1 h2 h4 h5
    have hhb := HL.out.2
    by_cases hlt : x ≤ hi
    · have hii : (x : Int) ≤ (hi : Int) := by omega
      have K1 := HF.out x (by have := HI.out; omega) hlt wr HI.out.2.2.1.below
      obtain ⟨fx, hfx⟩ : ∃ z, f x = z := ⟨_, rfl⟩
      obtain ⟨fy, hfy⟩ : ∃ z, f y = z := ⟨_, rfl⟩
      have HV : Hid (f x = fx ∧ f y = fy) := ⟨hfx, hfy⟩
      rw [hfx] at K1
      have HJ : Hid (Ho w wr p6 p7 fy y) := by rw [← hfy]; exact HI.out.2.2.1
      clear hfx hfy
      go_upto_region 6 with (go_at_call 53; (with_reducible refine K1.mono ?_); clear K1; rintro e w1 ⟨rfl, hb1⟩; have HJ1 : Hid (Ho w w1 p6 p7 fy y) := HJ.out.laid hb1; clear hb1)
      clear HJ
      have b0 := cell_of_row _ _ 0 _ _ _ HJ1.out.b7
      have b1 := cell_of_row _ _ 1 _ _ _ HJ1.out.b7
      have f0 := frozen_of_row _ _ 0 _ _ HJ1.out.b7
      have f1 := frozen_of_row _ _ 1 _ _ HJ1.out.b7
      by_cases hgt : fy < fx
      · have HJ2 : Hid _ := HJ1.out.set fx x
        go_wp2
        clear b0 b1 f0 f1
        go_roundw
        case rel => exact ⟨x + 1, x, by go_num, by have := HI.out; omega, Nat.lt_succ_self _, by omega, by rw [HV.out.1]; exact HJ2.out, fun z z1 z2 => by
          by_cases e : z = x
          · rw [e]; exact Int.le_refl _
          · have := HI.out.2.2.2 z z1 (by omega)
            rw [HV.out.2] at this
            rw [HV.out.1]
            omega⟩
        case measure => simp [intOf]; omega
      · go_wp2
        clear b0 b1 f0 f1
        go_roundw
        case rel => exact ⟨x + 1, y, by go_num, HI.out.1, by have := HI.out; omega, by omega, by rw [HV.out.2]; exact HJ1.out, fun z z1 z2 => by
          by_cases e : z = x
          · rw [e, HV.out.1, HV.out.2]; omega
          · exact HI.out.2.2.2 z z1 (by omega)⟩
        case measure => simp [intOf]; omega
    · have hii : ¬ (x : Int) ≤ (hi : Int) := by omega
      obtain ⟨fy, hfy⟩ : ∃ z, f y = z := ⟨_, rfl⟩
      have HV : Hid (f y = fy) := hfy
      have HJ : Hid (Ho w wr p6 p7 fy y) := by rw [← hfy]; exact HI.out.2.2.1
      clear hfy
      have b0 := cell_of_row _ _ 0 _ _ _ HJ.out.b7
      have b1 := cell_of_row _ _ 1 _ _ _ HJ.out.b7
      have y0 := cell_of_row _ _ 0 _ _ _ HJ.out.b6
      have y1 := cell_of_row _ _ 1 _ _ _ HJ.out.b6
      have f0 := frozen_of_row _ _ 0 _ _ HJ.out.b6
      have f1 := frozen_of_row _ _ 1 _ _ HJ.out.b6
      go_wp2
      have hr := HJ.out.fin
      refine bodyPost_ret (results_cell_row rfl _ _ p6 52 _ (0, 0) _ rfl hr.1 Try.underlying52 rfl row52) rfl ?_
      exact ⟨y, by rw [HV.out], HI.out.1, by have := HI.out; omega, fun z z1 z2 => HI.out.2.2.2 z z1 (by omega), hr.2⟩
set_option maxHeartbeats 4000000 in
set_option maxRecDepth 100000 in
theorem high_3 (f : Nat → Int) (lo hi q1 q2 q3 : Nat) (w : World) (hlh : lo ≤ hi) (hh : hi ≤ 1000) (hf : ∀ x, lo ≤ x → x ≤ hi → ∀ W, Below w.heap.size w W → Calls Try.prog 54 #[.int .i64 (x : Int), .pointer (some ⟨q1, 0, none⟩), .pointer (some ⟨q2, 0, none⟩), .pointer (some ⟨q3, 0, none⟩)] W fun e W' => e = .returned (.int .i64 (f x)) ∧ Below W.heap.size W W') :
    Calls Try.prog 51 #[.int .i64 (lo : Int), .int .i64 (hi : Int), .func (.func 54) #[] #[.pointer (some ⟨q1, 0, none⟩), .pointer (some ⟨q2, 0, none⟩), .pointer (some ⟨q3, 0, none⟩)]] w (HoQ f lo hi w) := by
  have HF : Hid (∀ x, lo ≤ x → x ≤ hi → ∀ W, Below w.heap.size w W → Calls Try.prog 54 #[.int .i64 (x : Int), .pointer (some ⟨q1, 0, none⟩), .pointer (some ⟨q2, 0, none⟩), .pointer (some ⟨q3, 0, none⟩)] W fun e W' => e = .returned (.int .i64 (f x)) ∧ Below W.heap.size W W') := hf
  have HL : Hid (lo ≤ hi ∧ hi ≤ 1000) := ⟨hlh, hh⟩
  have K0 := HF.out lo (Nat.le_refl _) hlh (w.alloc (.cells #[.int .i64 0, .int .i64 0] 52)) (below_al w _)
  obtain ⟨m0, hm0⟩ : ∃ m, f lo = m := ⟨_, rfl⟩
  have HM0 : Hid (f lo = m0) := hm0
  rw [hm0] at K0
  clear hf hlh hm0
  go_enter Try.func51, Try.ntmps51
  go_upto_region 2 with (go_at_call 54; (with_reducible refine K0.mono ?_); clear K0; rintro e w1 ⟨rfl, hb1⟩; have HS : Hid _ := ho_start w w1 hb1 m0 lo; clear hb1)
  generalize w1.alloc (.cells #[.int .i64 m0, .int .i64 (lo : Int)] 52) = W1 at *
  obtain ⟨p6, hp6⟩ : ∃ p, w.heap.size = p := ⟨_, rfl⟩
  obtain ⟨p7, hp7⟩ : ∃ p, w1.heap.size = p := ⟨_, rfl⟩
  have HS1 : Hid (Ho w W1 p6 p7 m0 lo) := by rw [← hp6, ← hp7]; exact HS.out
  try rw [hp6, hp7]
  clear HS hp6 hp7
  have wl : wrap64 ((lo : Int) + 1) = ((lo + 1 : Nat) : Int) := by have := HL.out; unfold wrap64; omega
  go_upto_region 3 with fail
  go_loopw [8] (fun a wr => ∃ (x y : Nat), a = .int .i64 (x : Int) ∧ lo ≤ y ∧ y < x ∧ x ≤ hi + 1 ∧ Ho w wr p6 p7 (f y) y ∧ ∀ z, lo ≤ z → z < x → f z ≤ f y) (fun a _ => hi + 1 - (intOf a).toNat)
  case atStart => exact ⟨lo + 1, lo, by first | exact congrArg _ wl | go_num, Nat.le_refl _, Nat.lt_succ_self _, by have := HL.out; omega, by rw [HM0.out]; exact HS1.out, fun z h1 h2 => by
    have e : z = lo := by omega
    rw [e]; exact Int.le_refl _⟩
  case round =>
    clear HS1 wl
    obtain ⟨x, y, rfl, h1, h2, h3, h4, h5⟩ := hrel
    have HI : Hid (lo ≤ y ∧ y < x ∧ Ho w wr p6 p7 (f y) y ∧ ∀ z, lo ≤ z → z < x → f z ≤ f y) := ⟨h1, h2, h4, h5⟩
    clear h1 h2 h4 h5
    have hhb := HL.out.2
    by_cases hlt : x ≤ hi
    · have hii : (x : Int) ≤ (hi : Int) := by omega
      have K1 := HF.out x (by have := HI.out; omega) hlt wr HI.out.2.2.1.below
      obtain ⟨fx, hfx⟩ : ∃ z, f x = z := ⟨_, rfl⟩
      obtain ⟨fy, hfy⟩ : ∃ z, f y = z := ⟨_, rfl⟩
      have HV : Hid (f x = fx ∧ f y = fy) := ⟨hfx, hfy⟩
      rw [hfx] at K1
      have HJ : Hid (Ho w wr p6 p7 fy y) := by rw [← hfy]; exact HI.out.2.2.1
      clear hfx hfy
      go_upto_region 6 with (go_at_call 54; (with_reducible refine K1.mono ?_); clear K1; rintro e w1 ⟨rfl, hb1⟩; have HJ1 : Hid (Ho w w1 p6 p7 fy y) := HJ.out.laid hb1; clear hb1)
      clear HJ
      have b0 := cell_of_row _ _ 0 _ _ _ HJ1.out.b7
      have b1 := cell_of_row _ _ 1 _ _ _ HJ1.out.b7
      have f0 := frozen_of_row _ _ 0 _ _ HJ1.out.b7
      have f1 := frozen_of_row _ _ 1 _ _ HJ1.out.b7
      by_cases hgt : fy < fx
      · have HJ2 : Hid _ := HJ1.out.set fx x
        go_wp2
        clear b0 b1 f0 f1
        go_roundw
        case rel => exact ⟨x + 1, x, by go_num, by have := HI.out; omega, Nat.lt_succ_self _, by omega, by rw [HV.out.1]; exact HJ2.out, fun z z1 z2 => by
          by_cases e : z = x
          · rw [e]; exact Int.le_refl _
          · have := HI.out.2.2.2 z z1 (by omega)
            rw [HV.out.2] at this
            rw [HV.out.1]
            omega⟩
        case measure => simp [intOf]; omega
      · go_wp2
        clear b0 b1 f0 f1
        go_roundw
        case rel => exact ⟨x + 1, y, by go_num, HI.out.1, by have := HI.out; omega, by omega, by rw [HV.out.2]; exact HJ1.out, fun z z1 z2 => by
          by_cases e : z = x
          · rw [e, HV.out.1, HV.out.2]; omega
          · exact HI.out.2.2.2 z z1 (by omega)⟩
        case measure => simp [intOf]; omega
    · have hii : ¬ (x : Int) ≤ (hi : Int) := by omega
      obtain ⟨fy, hfy⟩ : ∃ z, f y = z := ⟨_, rfl⟩
      have HV : Hid (f y = fy) := hfy
      have HJ : Hid (Ho w wr p6 p7 fy y) := by rw [← hfy]; exact HI.out.2.2.1
      clear hfy
      have b0 := cell_of_row _ _ 0 _ _ _ HJ.out.b7
      have b1 := cell_of_row _ _ 1 _ _ _ HJ.out.b7
      have y0 := cell_of_row _ _ 0 _ _ _ HJ.out.b6
      have y1 := cell_of_row _ _ 1 _ _ _ HJ.out.b6
      have f0 := frozen_of_row _ _ 0 _ _ HJ.out.b6
      have f1 := frozen_of_row _ _ 1 _ _ HJ.out.b6
      go_wp2
      have hr := HJ.out.fin
      refine bodyPost_ret (results_cell_row rfl _ _ p6 52 _ (0, 0) _ rfl hr.1 Try.underlying52 rfl row52) rfl ?_
      exact ⟨y, by rw [HV.out], HI.out.1, by have := HI.out; omega, fun z z1 z2 => HI.out.2.2.2 z z1 (by omega), hr.2⟩
end Go.Proofs.Ytpolnkdbebjpnaa.Hd
