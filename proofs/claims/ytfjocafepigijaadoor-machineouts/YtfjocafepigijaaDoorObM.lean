/- back (90), on (105): the nodes to and from which an arc goes. Conditions: the track lies at T; its states are 1 to 40, its text has at most 61 symbols. -/
import Derived.Test.YtfjocafepigijaaDoorSmM
import Derived.Deep.QuietTactic
import Derived.BigQuiet
import Derived.Deep.Cut
import Derived.Deep.RegionHeld
namespace Go.Proofs.YtfjocafepigijaaDoor.Ot
open Go.RowKit Mv Sy

/-- a track lies at T -/
def IsT (w : World) (T : Nat) (ai : Option Addr) (n ci S : Nat) (vl vn : Value) : Prop := w.heap[T]? = some (.cells #[.slice ai n ci, .int .i64 (S : Int), vl, vn] 116 (0, 0))
theorem div_nat {q S : Nat} : (q : Int).tdiv (S : Int) = ((q / S : Nat) : Int) := by simp [Int.tdiv]
theorem wrap_pt {p S t : Nat} (hS : S ≤ 40) (hp : p ≤ 62) (ht : t < S) : ∃ a b : Nat, wrap64 ((p : Int) * (S : Int)) = (a : Int) ∧ wrap64 ((a : Int) + (t : Int)) = (b : Int) ∧ b = p * S + t := by
  have h1 : p * S ≤ 62 * 40 := Nat.mul_le_mul hp hS
  refine ⟨p * S, p * S + t, ?_, ?_, rfl⟩
  · rw [← Int.natCast_mul]; unfold wrap64; omega
  · unfold wrap64; omega
set_option maxHeartbeats 4000000 in
set_option maxRecDepth 100000 in
theorem back_zero (S q t T n ci : Nat) (f o x : Int) (ai : Option Addr) (vl vn : Value) (w : World) (hT : IsT w T ai n ci S vl vn) (h0 : 0 < S) (hS : S ≤ 40) (hq : q / S ≤ 61) (ht : t < S) :
    Calls Tryd.prog 90 #[.pointer (some ⟨T, 0, none⟩), .int .i64 (q : Int), .agg #[.int .i64 (f : Int), .int .i64 (t : Int), .int .i64 0, .int .i64 (o : Int), .int .i64 (x : Int)]] w fun e w' => e = .returned (.tuple #[.int .i64 ((q / S * S + t : Nat) : Int), .bool true]) ∧ Below w.heap.size w w' := by
  have hlt : T < w.heap.size := (Array.getElem?_eq_some_iff.1 hT).1
  have hb := (Below.refl w.heap.size w).alloc (Nat.le_refl _) (.cells #[.int .i64 (f : Int), .int .i64 (t : Int), .int .i64 0, .int .i64 (o : Int), .int .i64 (x : Int)] 64)
  have x1 := (heap_alloc_old w (.cells #[.int .i64 (f : Int), .int .i64 (t : Int), .int .i64 0, .int .i64 (o : Int), .int .i64 (x : Int)] 64) hlt).trans hT
  have x2 := heap_alloc_new w (.cells #[.int .i64 (f : Int), .int .i64 (t : Int), .int .i64 0, .int .i64 (o : Int), .int .i64 (x : Int)] 64)
  have hS0 : ¬ (S : Int) = 0 := by omega
  have hd := div_nat (q := q) (S := S)
  obtain ⟨P, hP⟩ : ∃ P, q / S = P := ⟨_, rfl⟩
  rw [hP] at hd hq ⊢
  obtain ⟨a, b, m1, m2, m3⟩ := wrap_pt hS (Nat.le_trans hq (by decide)) ht
  have HB : Hid (b = P * S + t) := m3
  clear m3
  have HBE : Hid (Below w.heap.size w (w.alloc (.cells #[.int .i64 (f : Int), .int .i64 (t : Int), .int .i64 0, .int .i64 (o : Int), .int .i64 (x : Int)] 64))) := hb
  clear hP hT hb
  go_enter Tryd.func90, Tryd.ntmps90
  go_upto_region 1 with fail
  generalize hV : w.alloc (.cells #[.int .i64 (f : Int), .int .i64 (t : Int), .int .i64 0, .int .i64 (o : Int), .int .i64 (x : Int)] 64) = V at *
  have t0 := cell_of_row _ _ 0 _ _ _ x1
  have t1 := cell_of_row _ _ 1 _ _ _ x1
  have a1 := cell_of_row _ _ 1 _ _ _ x2
  have a2 := cell_of_row _ _ 2 _ _ _ x2
  clear hV x1 x2
  go_wp2
  repeat (go_quiet (fail); go_wp2)
  go_ret2
  exact ⟨by show Ending.returned (.tuple #[.int .i64 (wrap64 ((a : Int) + (t : Int))), .bool true]) = _; rw [m2, HB.out], by first | exact HBE.out | exact below_drewN HBE.out _ | exact below_drewN (below_drewN HBE.out _) _⟩
set_option maxHeartbeats 4000000 in
set_option maxRecDepth 100000 in
theorem back_none (S q t T n ci : Nat) (f o x : Int) (ai : Option Addr) (vl vn : Value) (w : World) (hT : IsT w T ai n ci S vl vn) (h0 : 0 < S) (hS : S ≤ 40) (hq : q / S ≤ 61) (i : Int) (hi : i ≠ 0) (hz : q / S = 0) :
    Calls Tryd.prog 90 #[.pointer (some ⟨T, 0, none⟩), .int .i64 (q : Int), .agg #[.int .i64 (f : Int), .int .i64 (t : Int), .int .i64 i, .int .i64 (o : Int), .int .i64 (x : Int)]] w fun e w' => e = .returned (.tuple #[.int .i64 0, .bool false]) ∧ Below w.heap.size w w' := by
  have hlt : T < w.heap.size := (Array.getElem?_eq_some_iff.1 hT).1
  have hb := (Below.refl w.heap.size w).alloc (Nat.le_refl _) (.cells #[.int .i64 (f : Int), .int .i64 (t : Int), .int .i64 i, .int .i64 (o : Int), .int .i64 (x : Int)] 64)
  have x1 := (heap_alloc_old w (.cells #[.int .i64 (f : Int), .int .i64 (t : Int), .int .i64 i, .int .i64 (o : Int), .int .i64 (x : Int)] 64) hlt).trans hT
  have x2 := heap_alloc_new w (.cells #[.int .i64 (f : Int), .int .i64 (t : Int), .int .i64 i, .int .i64 (o : Int), .int .i64 (x : Int)] 64)
  have hS0 : ¬ (S : Int) = 0 := by omega
  have hd := div_nat (q := q) (S := S)
  obtain ⟨P, hP⟩ : ∃ P, q / S = P := ⟨_, rfl⟩
  rw [hP] at hd hq hz
  have i0 : (i == 0) = false := by simpa using hi
  clear hi
  have hz0 : ((P : Int) == 0) = true := by simp [hz]
  clear hz
  have HBE : Hid (Below w.heap.size w (w.alloc (.cells #[.int .i64 (f : Int), .int .i64 (t : Int), .int .i64 i, .int .i64 (o : Int), .int .i64 (x : Int)] 64))) := hb
  clear hP hT hb
  go_enter Tryd.func90, Tryd.ntmps90
  go_upto_region 1 with fail
  generalize hV : w.alloc (.cells #[.int .i64 (f : Int), .int .i64 (t : Int), .int .i64 i, .int .i64 (o : Int), .int .i64 (x : Int)] 64) = V at *
  have t0 := cell_of_row _ _ 0 _ _ _ x1
  have t1 := cell_of_row _ _ 1 _ _ _ x1
  have a1 := cell_of_row _ _ 1 _ _ _ x2
  have a2 := cell_of_row _ _ 2 _ _ _ x2
  clear hV x1 x2
  go_wp2
  repeat (go_quiet (fail); go_wp2)
  go_ret2
  exact ⟨rfl, by first | exact HBE.out | exact below_drewN HBE.out _ | exact below_drewN (below_drewN HBE.out _) _⟩
set_option maxHeartbeats 4000000 in
set_option maxRecDepth 100000 in
theorem on_zero (S q t T n ci : Nat) (f o x : Int) (ai : Option Addr) (vl vn : Value) (w : World) (hT : IsT w T ai n ci S vl vn) (h0 : 0 < S) (hS : S ≤ 40) (hq : q / S ≤ 61) (ht : t < S) :
    Calls Tryd.prog 105 #[.pointer (some ⟨T, 0, none⟩), .int .i64 (q : Int), .agg #[.int .i64 (f : Int), .int .i64 (t : Int), .int .i64 0, .int .i64 (o : Int), .int .i64 (x : Int)]] w fun e w' => e = .returned (.tuple #[.int .i64 ((q / S * S + t : Nat) : Int), .bool true]) ∧ Below w.heap.size w w' := by
  have hlt : T < w.heap.size := (Array.getElem?_eq_some_iff.1 hT).1
  have hb := (Below.refl w.heap.size w).alloc (Nat.le_refl _) (.cells #[.int .i64 (f : Int), .int .i64 (t : Int), .int .i64 0, .int .i64 (o : Int), .int .i64 (x : Int)] 64)
  have x1 := (heap_alloc_old w (.cells #[.int .i64 (f : Int), .int .i64 (t : Int), .int .i64 0, .int .i64 (o : Int), .int .i64 (x : Int)] 64) hlt).trans hT
  have x2 := heap_alloc_new w (.cells #[.int .i64 (f : Int), .int .i64 (t : Int), .int .i64 0, .int .i64 (o : Int), .int .i64 (x : Int)] 64)
  have hS0 : ¬ (S : Int) = 0 := by omega
  have hd := div_nat (q := q) (S := S)
  obtain ⟨P, hP⟩ : ∃ P, q / S = P := ⟨_, rfl⟩
  rw [hP] at hd hq ⊢
  obtain ⟨a, b, m1, m2, m3⟩ := wrap_pt hS (Nat.le_trans hq (by decide)) ht
  have HB : Hid (b = P * S + t) := m3
  clear m3
  have HBE : Hid (Below w.heap.size w (w.alloc (.cells #[.int .i64 (f : Int), .int .i64 (t : Int), .int .i64 0, .int .i64 (o : Int), .int .i64 (x : Int)] 64))) := hb
  clear hP hT hb
  go_enter Tryd.func105, Tryd.ntmps105
  go_upto_region 1 with fail
  generalize hV : w.alloc (.cells #[.int .i64 (f : Int), .int .i64 (t : Int), .int .i64 0, .int .i64 (o : Int), .int .i64 (x : Int)] 64) = V at *
  have t0 := cell_of_row _ _ 0 _ _ _ x1
  have t1 := cell_of_row _ _ 1 _ _ _ x1
  have a1 := cell_of_row _ _ 1 _ _ _ x2
  have a2 := cell_of_row _ _ 2 _ _ _ x2
  clear hV x1 x2
  go_wp2
  repeat (go_quiet (fail); go_wp2)
  go_ret2
  exact ⟨by show Ending.returned (.tuple #[.int .i64 (wrap64 ((a : Int) + (t : Int))), .bool true]) = _; rw [m2, HB.out], by first | exact HBE.out | exact below_drewN HBE.out _ | exact below_drewN (below_drewN HBE.out _) _⟩
set_option maxHeartbeats 4000000 in
set_option maxRecDepth 100000 in
theorem on_none (S q t T n ci : Nat) (f o x : Int) (ai : Option Addr) (vl vn : Value) (w : World) (hT : IsT w T ai n ci S vl vn) (h0 : 0 < S) (hS : S ≤ 40) (hq : q / S ≤ 61) (i : Int) (hi : i ≠ 0) (hz : q / S = n) :
    Calls Tryd.prog 105 #[.pointer (some ⟨T, 0, none⟩), .int .i64 (q : Int), .agg #[.int .i64 (f : Int), .int .i64 (t : Int), .int .i64 i, .int .i64 (o : Int), .int .i64 (x : Int)]] w fun e w' => e = .returned (.tuple #[.int .i64 0, .bool false]) ∧ Below w.heap.size w w' := by
  have hlt : T < w.heap.size := (Array.getElem?_eq_some_iff.1 hT).1
  have hb := (Below.refl w.heap.size w).alloc (Nat.le_refl _) (.cells #[.int .i64 (f : Int), .int .i64 (t : Int), .int .i64 i, .int .i64 (o : Int), .int .i64 (x : Int)] 64)
  have x1 := (heap_alloc_old w (.cells #[.int .i64 (f : Int), .int .i64 (t : Int), .int .i64 i, .int .i64 (o : Int), .int .i64 (x : Int)] 64) hlt).trans hT
  have x2 := heap_alloc_new w (.cells #[.int .i64 (f : Int), .int .i64 (t : Int), .int .i64 i, .int .i64 (o : Int), .int .i64 (x : Int)] 64)
  have hS0 : ¬ (S : Int) = 0 := by omega
  have hd := div_nat (q := q) (S := S)
  obtain ⟨P, hP⟩ : ∃ P, q / S = P := ⟨_, rfl⟩
  rw [hP] at hd hq hz
  have i0 : (i == 0) = false := by simpa using hi
  clear hi
  have hz0 : ((P : Int) == (n : Int)) = true := by simp [hz]
  clear hz
  have HBE : Hid (Below w.heap.size w (w.alloc (.cells #[.int .i64 (f : Int), .int .i64 (t : Int), .int .i64 i, .int .i64 (o : Int), .int .i64 (x : Int)] 64))) := hb
  clear hP hT hb
  go_enter Tryd.func105, Tryd.ntmps105
  go_upto_region 1 with fail
  generalize hV : w.alloc (.cells #[.int .i64 (f : Int), .int .i64 (t : Int), .int .i64 i, .int .i64 (o : Int), .int .i64 (x : Int)] 64) = V at *
  have t0 := cell_of_row _ _ 0 _ _ _ x1
  have t1 := cell_of_row _ _ 1 _ _ _ x1
  have a1 := cell_of_row _ _ 1 _ _ _ x2
  have a2 := cell_of_row _ _ 2 _ _ _ x2
  clear hV x1 x2
  go_wp2
  repeat (go_quiet (fail); go_wp2)
  go_ret2
  exact ⟨rfl, by first | exact HBE.out | exact below_drewN HBE.out _ | exact below_drewN (below_drewN HBE.out _) _⟩
set_option maxHeartbeats 4000000 in
set_option maxRecDepth 100000 in
theorem on_off (S q t T n ci : Nat) (f o x : Int) (ai : Option Addr) (vl vn : Value) (w : World) (hT : IsT w T ai n ci S vl vn) (h0 : 0 < S) (hS : S ≤ 40) (hq : q / S ≤ 61) (i c : Int) (hi : i ≠ 0) (bi oi : Nat) (hai : ai = some ⟨bi, oi, none⟩) (hbi : bi < w.heap.size) (hz : q / S < n) (hc : w.cell? ⟨bi, oi + q / S, none⟩ = some (.int .i64 c)) (hne : i ≠ c) :
    Calls Tryd.prog 105 #[.pointer (some ⟨T, 0, none⟩), .int .i64 (q : Int), .agg #[.int .i64 (f : Int), .int .i64 (t : Int), .int .i64 i, .int .i64 (o : Int), .int .i64 (x : Int)]] w fun e w' => e = .returned (.tuple #[.int .i64 0, .bool false]) ∧ Below w.heap.size w w' := by
  have hlt : T < w.heap.size := (Array.getElem?_eq_some_iff.1 hT).1
  have hb := (Below.refl w.heap.size w).alloc (Nat.le_refl _) (.cells #[.int .i64 (f : Int), .int .i64 (t : Int), .int .i64 i, .int .i64 (o : Int), .int .i64 (x : Int)] 64)
  have x1 := (heap_alloc_old w (.cells #[.int .i64 (f : Int), .int .i64 (t : Int), .int .i64 i, .int .i64 (o : Int), .int .i64 (x : Int)] 64) hlt).trans hT
  have x2 := heap_alloc_new w (.cells #[.int .i64 (f : Int), .int .i64 (t : Int), .int .i64 i, .int .i64 (o : Int), .int .i64 (x : Int)] 64)
  have hS0 : ¬ (S : Int) = 0 := by omega
  have hd := div_nat (q := q) (S := S)
  obtain ⟨P, hP⟩ : ∃ P, q / S = P := ⟨_, rfl⟩
  rw [hP] at hd hq hz hc
  have i0 : (i == 0) = false := by simpa using hi
  clear hi
  have hz0 : ((P : Int) == (n : Int)) = false := by simp; omega
  have e0 : (i != c) = true := by simpa using hne
  clear hne
  have hcv := (World.cell?_of_block (w := w) (heap_alloc_old w (.cells #[.int .i64 (f : Int), .int .i64 (t : Int), .int .i64 i, .int .i64 (o : Int), .int .i64 (x : Int)] 64) hbi)).trans hc
  subst hai
  have HBE : Hid (Below w.heap.size w (w.alloc (.cells #[.int .i64 (f : Int), .int .i64 (t : Int), .int .i64 i, .int .i64 (o : Int), .int .i64 (x : Int)] 64))) := hb
  clear hP hT hb
  go_enter Tryd.func105, Tryd.ntmps105
  go_upto_region 1 with fail
  generalize hV : w.alloc (.cells #[.int .i64 (f : Int), .int .i64 (t : Int), .int .i64 i, .int .i64 (o : Int), .int .i64 (x : Int)] 64) = V at *
  have t0 := cell_of_row _ _ 0 _ _ _ x1
  have t1 := cell_of_row _ _ 1 _ _ _ x1
  have a1 := cell_of_row _ _ 1 _ _ _ x2
  have a2 := cell_of_row _ _ 2 _ _ _ x2
  clear hV x1 x2
  go_wp2
  repeat (go_quiet (fail); go_wp2)
  go_ret2
  exact ⟨rfl, by first | exact HBE.out | exact below_drewN HBE.out _ | exact below_drewN (below_drewN HBE.out _) _⟩
set_option maxHeartbeats 4000000 in
set_option maxRecDepth 100000 in
theorem on_on (S q t T n ci : Nat) (f o x : Int) (ai : Option Addr) (vl vn : Value) (w : World) (hT : IsT w T ai n ci S vl vn) (h0 : 0 < S) (hS : S ≤ 40) (hq : q / S ≤ 61) (ht : t < S) (i c : Int) (hi : i ≠ 0) (bi oi : Nat) (hai : ai = some ⟨bi, oi, none⟩) (hbi : bi < w.heap.size) (hz : q / S < n) (hc : w.cell? ⟨bi, oi + q / S, none⟩ = some (.int .i64 c)) (he : i = c) :
    Calls Tryd.prog 105 #[.pointer (some ⟨T, 0, none⟩), .int .i64 (q : Int), .agg #[.int .i64 (f : Int), .int .i64 (t : Int), .int .i64 i, .int .i64 (o : Int), .int .i64 (x : Int)]] w fun e w' => e = .returned (.tuple #[.int .i64 (((q / S + 1) * S + t : Nat) : Int), .bool true]) ∧ Below w.heap.size w w' := by
  have hlt : T < w.heap.size := (Array.getElem?_eq_some_iff.1 hT).1
  have hb := (Below.refl w.heap.size w).alloc (Nat.le_refl _) (.cells #[.int .i64 (f : Int), .int .i64 (t : Int), .int .i64 i, .int .i64 (o : Int), .int .i64 (x : Int)] 64)
  have x1 := (heap_alloc_old w (.cells #[.int .i64 (f : Int), .int .i64 (t : Int), .int .i64 i, .int .i64 (o : Int), .int .i64 (x : Int)] 64) hlt).trans hT
  have x2 := heap_alloc_new w (.cells #[.int .i64 (f : Int), .int .i64 (t : Int), .int .i64 i, .int .i64 (o : Int), .int .i64 (x : Int)] 64)
  have hS0 : ¬ (S : Int) = 0 := by omega
  have hd := div_nat (q := q) (S := S)
  obtain ⟨P, hP⟩ : ∃ P, q / S = P := ⟨_, rfl⟩
  rw [hP] at hd hq hz hc ⊢
  have i0 : (i == 0) = false := by simpa using hi
  clear hi
  have hz0 : ((P : Int) == (n : Int)) = false := by simp; omega
  obtain ⟨a, b, m1, m2, m3⟩ := wrap_pt hS (Nat.succ_le_succ hq) ht
  have HB : Hid (b = (P + 1) * S + t) := m3
  clear m3
  have n1 : wrap64 (((P : Int) + 1) * (S : Int)) = (a : Int) := by simpa using m1
  clear m1
  have e0 : (i != c) = false := by simpa using he
  clear he
  have hcv := (World.cell?_of_block (w := w) (heap_alloc_old w (.cells #[.int .i64 (f : Int), .int .i64 (t : Int), .int .i64 i, .int .i64 (o : Int), .int .i64 (x : Int)] 64) hbi)).trans hc
  subst hai
  have HBE : Hid (Below w.heap.size w (w.alloc (.cells #[.int .i64 (f : Int), .int .i64 (t : Int), .int .i64 i, .int .i64 (o : Int), .int .i64 (x : Int)] 64))) := hb
  clear hP hT hb
  go_enter Tryd.func105, Tryd.ntmps105
  go_upto_region 1 with fail
  generalize hV : w.alloc (.cells #[.int .i64 (f : Int), .int .i64 (t : Int), .int .i64 i, .int .i64 (o : Int), .int .i64 (x : Int)] 64) = V at *
  have t0 := cell_of_row _ _ 0 _ _ _ x1
  have t1 := cell_of_row _ _ 1 _ _ _ x1
  have a1 := cell_of_row _ _ 1 _ _ _ x2
  have a2 := cell_of_row _ _ 2 _ _ _ x2
  clear hV x1 x2
  go_wp2
  repeat (go_quiet (fail); go_wp2)
  go_ret2
  exact ⟨by show Ending.returned (.tuple #[.int .i64 (wrap64 ((a : Int) + (t : Int))), .bool true]) = _; rw [m2, HB.out], by first | exact HBE.out | exact below_drewN HBE.out _ | exact below_drewN (below_drewN HBE.out _) _⟩
end Go.Proofs.YtfjocafepigijaaDoor.Ot
/- back (90) where a symbol is read. Conditions: the track lies at T; its states are 1 to 40, its text has at most 61 symbols. -/
namespace Go.Proofs.YtfjocafepigijaaDoor.Ot
open Go.RowKit Mv Sy

set_option maxHeartbeats 4000000 in
set_option maxRecDepth 100000 in
theorem back_off (S q t T n ci : Nat) (f o x : Int) (ai : Option Addr) (vl vn : Value) (w : World) (hT : IsT w T ai n ci S vl vn) (h0 : 0 < S) (hS : S ≤ 40) (hq : q / S ≤ 61) (i c : Int) (hi : i ≠ 0) (bi oi : Nat) (hai : ai = some ⟨bi, oi, none⟩) (hbi : bi < w.heap.size) (hz : q / S ≠ 0) (hn : q / S ≤ n) (hc : w.cell? ⟨bi, oi + (q / S - 1), none⟩ = some (.int .i64 c)) (hne : i ≠ c) :
    Calls Tryd.prog 90 #[.pointer (some ⟨T, 0, none⟩), .int .i64 (q : Int), .agg #[.int .i64 (f : Int), .int .i64 (t : Int), .int .i64 i, .int .i64 (o : Int), .int .i64 (x : Int)]] w fun e w' => e = .returned (.tuple #[.int .i64 0, .bool false]) ∧ Below w.heap.size w w' := by
  have hlt : T < w.heap.size := (Array.getElem?_eq_some_iff.1 hT).1
  have hb := (Below.refl w.heap.size w).alloc (Nat.le_refl _) (.cells #[.int .i64 (f : Int), .int .i64 (t : Int), .int .i64 i, .int .i64 (o : Int), .int .i64 (x : Int)] 64)
  have x1 := (heap_alloc_old w (.cells #[.int .i64 (f : Int), .int .i64 (t : Int), .int .i64 i, .int .i64 (o : Int), .int .i64 (x : Int)] 64) hlt).trans hT
  have x2 := heap_alloc_new w (.cells #[.int .i64 (f : Int), .int .i64 (t : Int), .int .i64 i, .int .i64 (o : Int), .int .i64 (x : Int)] 64)
  have hS0 : ¬ (S : Int) = 0 := by omega
  have hd := div_nat (q := q) (S := S)
  obtain ⟨P, hP⟩ : ∃ P, q / S = P := ⟨_, rfl⟩
  rw [hP] at hd hq hz hn hc
  have i0 : (i == 0) = false := by simpa using hi
  clear hi
  obtain ⟨p, rfl⟩ : ∃ p, P = p + 1 := ⟨P - 1, by omega⟩
  rw [Nat.add_sub_cancel] at hc
  rw [show ((p + 1 : Nat) : Int) = (p : Int) + 1 by simp] at hd
  have hz0 : (((p : Int) + 1) == 0) = false := by simp; omega
  have hpn : p < n := by omega
  have hp6 : p ≤ 60 := by omega
  clear hz hn hq
  have e0 : (i != c) = true := by simpa using hne
  clear hne
  have hcv := (World.cell?_of_block (w := w) (heap_alloc_old w (.cells #[.int .i64 (f : Int), .int .i64 (t : Int), .int .i64 i, .int .i64 (o : Int), .int .i64 (x : Int)] 64) hbi)).trans hc
  subst hai
  have HBE : Hid (Below w.heap.size w (w.alloc (.cells #[.int .i64 (f : Int), .int .i64 (t : Int), .int .i64 i, .int .i64 (o : Int), .int .i64 (x : Int)] 64))) := hb
  clear hP hT hb
  go_enter Tryd.func90, Tryd.ntmps90
  go_upto_region 1 with fail
  generalize hV : w.alloc (.cells #[.int .i64 (f : Int), .int .i64 (t : Int), .int .i64 i, .int .i64 (o : Int), .int .i64 (x : Int)] 64) = V at *
  have t0 := cell_of_row _ _ 0 _ _ _ x1
  have t1 := cell_of_row _ _ 1 _ _ _ x1
  have a1 := cell_of_row _ _ 1 _ _ _ x2
  have a2 := cell_of_row _ _ 2 _ _ _ x2
  clear hV x1 x2
  go_wp2
  repeat (go_quiet (fail); go_wp2)
  go_ret2
  exact ⟨rfl, by first | exact HBE.out | exact below_drewN HBE.out _ | exact below_drewN (below_drewN HBE.out _) _⟩
set_option maxHeartbeats 4000000 in
set_option maxRecDepth 100000 in
theorem back_on (S q t T n ci : Nat) (f o x : Int) (ai : Option Addr) (vl vn : Value) (w : World) (hT : IsT w T ai n ci S vl vn) (h0 : 0 < S) (hS : S ≤ 40) (hq : q / S ≤ 61) (ht : t < S) (i c : Int) (hi : i ≠ 0) (bi oi : Nat) (hai : ai = some ⟨bi, oi, none⟩) (hbi : bi < w.heap.size) (hz : q / S ≠ 0) (hn : q / S ≤ n) (hc : w.cell? ⟨bi, oi + (q / S - 1), none⟩ = some (.int .i64 c)) (he : i = c) :
    Calls Tryd.prog 90 #[.pointer (some ⟨T, 0, none⟩), .int .i64 (q : Int), .agg #[.int .i64 (f : Int), .int .i64 (t : Int), .int .i64 i, .int .i64 (o : Int), .int .i64 (x : Int)]] w fun e w' => e = .returned (.tuple #[.int .i64 (((q / S - 1) * S + t : Nat) : Int), .bool true]) ∧ Below w.heap.size w w' := by
  have hlt : T < w.heap.size := (Array.getElem?_eq_some_iff.1 hT).1
  have hb := (Below.refl w.heap.size w).alloc (Nat.le_refl _) (.cells #[.int .i64 (f : Int), .int .i64 (t : Int), .int .i64 i, .int .i64 (o : Int), .int .i64 (x : Int)] 64)
  have x1 := (heap_alloc_old w (.cells #[.int .i64 (f : Int), .int .i64 (t : Int), .int .i64 i, .int .i64 (o : Int), .int .i64 (x : Int)] 64) hlt).trans hT
  have x2 := heap_alloc_new w (.cells #[.int .i64 (f : Int), .int .i64 (t : Int), .int .i64 i, .int .i64 (o : Int), .int .i64 (x : Int)] 64)
  have hS0 : ¬ (S : Int) = 0 := by omega
  have hd := div_nat (q := q) (S := S)
  obtain ⟨P, hP⟩ : ∃ P, q / S = P := ⟨_, rfl⟩
  rw [hP] at hd hq hz hn hc ⊢
  have i0 : (i == 0) = false := by simpa using hi
  clear hi
  obtain ⟨p, rfl⟩ : ∃ p, P = p + 1 := ⟨P - 1, by omega⟩
  rw [Nat.add_sub_cancel] at hc ⊢
  rw [show ((p + 1 : Nat) : Int) = (p : Int) + 1 by simp] at hd
  have hz0 : (((p : Int) + 1) == 0) = false := by simp; omega
  have hpn : p < n := by omega
  have hp6 : p ≤ 60 := by omega
  clear hz hn hq
  obtain ⟨a, b, m1, m2, m3⟩ := wrap_pt hS (Nat.le_trans hp6 (by decide)) ht
  have HB : Hid (b = p * S + t) := m3
  clear m3
  have e0 : (i != c) = false := by simpa using he
  clear he
  have hcv := (World.cell?_of_block (w := w) (heap_alloc_old w (.cells #[.int .i64 (f : Int), .int .i64 (t : Int), .int .i64 i, .int .i64 (o : Int), .int .i64 (x : Int)] 64) hbi)).trans hc
  subst hai
  have HBE : Hid (Below w.heap.size w (w.alloc (.cells #[.int .i64 (f : Int), .int .i64 (t : Int), .int .i64 i, .int .i64 (o : Int), .int .i64 (x : Int)] 64))) := hb
  clear hP hT hb
  go_enter Tryd.func90, Tryd.ntmps90
  go_upto_region 1 with fail
  generalize hV : w.alloc (.cells #[.int .i64 (f : Int), .int .i64 (t : Int), .int .i64 i, .int .i64 (o : Int), .int .i64 (x : Int)] 64) = V at *
  have t0 := cell_of_row _ _ 0 _ _ _ x1
  have t1 := cell_of_row _ _ 1 _ _ _ x1
  have a1 := cell_of_row _ _ 1 _ _ _ x2
  have a2 := cell_of_row _ _ 2 _ _ _ x2
  clear hV x1 x2
  go_wp2
  repeat (go_quiet (fail); go_wp2)
  go_ret2
  exact ⟨by show Ending.returned (.tuple #[.int .i64 (wrap64 ((a : Int) + (t : Int))), .bool true]) = _; rw [m2, HB.out], by first | exact HBE.out | exact below_drewN HBE.out _ | exact below_drewN (below_drewN HBE.out _) _⟩
end Go.Proofs.YtfjocafepigijaaDoor.Ot
