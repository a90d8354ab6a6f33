/- members: the members of a set, in their order. Conditions: the library's table lies as its text lays it; the set is not great. -/
import Derived.Test.YtfjocafepigijaaDoorTz
import Derived.Test.YtfjocafepigijaaDoorRf
import Derived.Test.YtfjocafepigijaaDoorUdM
import Derived.Shelf.Abstract
import Derived.Shelf.RegionOpen
import Derived.OwnWalkIn
import Derived.TacticsInMore
import Derived.LoopNIn
import Derived.LoopIn
namespace Go.Proofs.YtfjocafepigijaaDoor.Za
open Go.RowKit Go.Shelf Mv Set Rf Tz
attribute [local go_sem] Oper.semAt_some

/-- the places of the bits of a word -/
def bl (x : Nat) : List Nat := (List.range 64).filter (fun j => x.testBit j)
theorem fil_head (n k : Nat) (p : Nat → Bool) (hk : k < n) (hp : p k = true) (hlo : ∀ j, j < k → p j = false) : (List.range n).filter p = k :: (List.range n).filter (fun j => p j && decide (j ≠ k)) := by
  induction n with
  | zero => omega
  | succ n ih =>
    rw [List.range_succ, List.filter_append, List.filter_append]
    rcases Nat.lt_or_ge k n with h | h
    · rw [ih h]
      have : ¬ n = k := by omega
      cases hn : p n <;> simp [hn, this]
    · obtain rfl : k = n := by omega
      have e1 : (List.range k).filter p = [] := by
        rw [List.filter_eq_nil_iff]
        intro a ha
        rw [hlo a (List.mem_range.1 ha)]
        decide
      have e2 : (List.range k).filter (fun j => p j && decide (j ≠ k)) = [] := by
        rw [List.filter_eq_nil_iff]
        intro a ha
        rw [hlo a (List.mem_range.1 ha)]
        simp
      rw [e1, e2]
      simp [hp]
theorem low_bits (x : Nat) (h0 : x ≠ 0) (hx : x < 18446744073709551616) : (∀ j, j < Lib.ctz 64 x → x.testBit j = false) ∧ x.testBit (Lib.ctz 64 x) = true ∧ Lib.ctz 64 x < 64 ∧ ∀ j, (x &&& (x - 1)).testBit j = (x.testBit j && decide (j ≠ Lib.ctz 64 x)) := by
  obtain ⟨m, hm, hk⟩ := Lib.ctzFrom_spec 64 x (by omega) hx
  have e : Lib.ctz 64 x = Lib.ctzFrom 64 x := by simp [Lib.ctz, h0]
  rw [e]
  generalize Lib.ctzFrom 64 x = k at *
  clear e
  have hp := Nat.two_pow_pos k
  have hx1 : x - 1 = 2 ^ k * (2 * m) + (2 ^ k - 1) := by rw [hm, Nat.mul_add, Nat.mul_one]; omega
  have t1 : ∀ j, x.testBit j = if j < k then false else (2 * m + 1).testBit (j - k) := fun j => by
    have := Nat.testBit_two_pow_mul_add (2 * m + 1) (b := 0) hp j
    rw [Nat.add_zero, ← hm] at this
    rw [this]
    simp
  have t2 : ∀ j, (x - 1).testBit j = if j < k then (2 ^ k - 1).testBit j else (2 * m).testBit (j - k) := fun j => by
    rw [hx1]
    exact Nat.testBit_two_pow_mul_add (2 * m) (b := 2 ^ k - 1) (by omega) j
  refine ⟨fun j hj => by rw [t1, if_pos hj], by rw [t1, if_neg (Nat.lt_irrefl _)]; simp, hk, fun j => ?_⟩
  rw [Nat.testBit_and, t1, t2]
  by_cases hj : j < k
  · simp [hj]
  · rw [if_neg hj, if_neg hj]
    by_cases hjk : j = k
    · subst hjk; simp
    · obtain ⟨i, rfl⟩ : ∃ i, j = k + (i + 1) := ⟨j - k - 1, by omega⟩
      have e1 : k + (i + 1) - k = i + 1 := by omega
      rw [e1, Nat.testBit_succ, Nat.testBit_succ]
      have e2 : (2 * m + 1) / 2 = m := by omega
      have e3 : 2 * m / 2 = m := by omega
      rw [e2, e3]
      simp
theorem bl_step (x : Nat) (h0 : x ≠ 0) (hx : x < 18446744073709551616) : bl x = Lib.ctz 64 x :: bl (x &&& (x - 1)) := by
  obtain ⟨h1, h2, h3, h4⟩ := low_bits x h0 hx
  unfold bl
  rw [fil_head 64 _ (fun j => x.testBit j) h3 h2 h1]
  congr 1
  refine List.filter_congr fun j _ => ?_
  rw [h4]
theorem bl_zero : bl 0 = [] := by
  unfold bl
  rw [List.filter_eq_nil_iff]
  simp
/-- the members of the first words -/
def msT (ws : List Nat) (a : Nat) : List Nat := (List.range a).flatMap fun i => (bl (ws.getD i 0)).map fun j => i * 64 + j
def ms (ws : List Nat) : List Nat := msT ws ws.length
theorem msT_up (ws : List Nat) (a : Nat) : msT ws (a + 1) = msT ws a ++ (bl (ws.getD a 0)).map fun j => a * 64 + j := by
  unfold msT
  rw [List.range_succ, List.flatMap_append]
  simp
theorem range_two (n r : Nat) : List.range (n + r) = List.range n ++ (List.range r).map fun i => n + i := by
  induction r with
  | zero => simp
  | succ r ih => rw [← Nat.add_assoc, List.range_succ, ih, List.range_succ, List.map_append]; simp
theorem msT_fil (ws : List Nat) (a : Nat) : msT ws a = (List.range (a * 64)).filter (fun k => mem ws k) := by
  induction a with
  | zero => rfl
  | succ a ih =>
    rw [msT_up, ih, Nat.succ_mul, range_two, List.filter_append, List.filter_map]
    congr 1
    unfold bl
    congr 1
    refine List.filter_congr fun j hj => ?_
    have hj' := List.mem_range.1 hj
    simp only [Function.comp, mem]
    have e1 : (a * 64 + j) / 64 = a := by omega
    have e2 : (a * 64 + j) % 64 = j := by omega
    rw [e1, e2, List.getD_eq_getElem?_getD]
/-- all members of a set of numbers below n -/
theorem ms_all (ws : List Nat) (n : Nat) (hn : n ≤ 64 * ws.length) (h : ∀ k, mem ws k = true → k < n) : ms ws = (List.range n).filter (fun k => mem ws k) := by
  unfold ms
  obtain ⟨r, hr⟩ : ∃ r, ws.length * 64 = n + r := ⟨ws.length * 64 - n, by omega⟩
  rw [msT_fil, hr, range_two, List.filter_append]
  have : ((List.range r).map fun i => n + i).filter (fun k => mem ws k) = [] := by
    rw [List.filter_eq_nil_iff]
    intro k hk hm
    obtain ⟨i, _, rfl⟩ := List.mem_map.1 hk
    have := h _ hm
    omega
  rw [this, List.append_nil]
theorem and_lt (x : Nat) (h : x ≠ 0) : x &&& (x - 1) < x := Nat.lt_of_le_of_lt Nat.and_le_right (by omega)

set_option maxHeartbeats 2000000 in
set_option maxRecDepth 100000 in
theorem members_tells (ws : List Nat) (n2 base : Nat) (v : Value) (w0 w : World) (B n : Nat) (hn : 1 ≤ n) (hset : IsSet w0 base v n2 ws) (hT : TabAt 0 Lib.deBruijn64tab w0) (h00 : 0 < w0.heap.size) (hw : Below w0.heap.size w0 w) (hB : w.heap[B]? = some (.cells #[v] 77 (0, 0))) (hlen : ws.length ≤ 281474976710656) :
    Tells Fence.wide n Tryd.prog 70 #[.pointer (some ⟨B, 0, none⟩)] (fun x : Nat => #[.int .i64 (x : Int)]) (fun pre x _ => pre ++ [x] <+: ms ws) (fun k => k < w0.heap.size ∨ k = B) (fun xs => xs = ms ws) w := by
  intro l J O₀ W hW hJ hO hY h0
  have BW : Below w0.heap.size w0 W := hw.trans (hW.mono hw.size)
  have p1 := cell_of_row _ _ 0 _ _ _ ((hW.block _ (Am.lt_at hB)).trans hB)
  obtain ⟨av, cv, rfl⟩ := Am.own_slice hset.1
  have HSE : Hid (IsSet w0 base (.slice av ws.length cv) n2 ws) := hset
  have HTA : Hid (TabAt 0 Lib.deBruijn64tab w0) := hT
  have HJ : Hid (∀ pre O A B, J pre O A → Below A.heap.size A B → J pre O B) := hJ
  have HO : Hid (∀ pre O A k, J pre O A → O k → ¬ (k < w0.heap.size ∨ k = B) ∧ k < A.heap.size) := hO
  have HYY : Hid (∀ pre O (x : Nat) A, J pre O A → pre ++ [x] <+: ms ws → YieldAt Fence.wide (n - 1) Tryd.prog l #[.int .i64 (x : Int)] A fun e B => e = .returned (.bool true) ∧ ∃ O', J (pre ++ [x]) O' B ∧ Kept O O' A B) := hY
  clear hset hT hJ hO hY hB
  show CallsIn Fence.wide n Tryd.prog 70 #[.func (.yield l) #[] #[], .pointer (some ⟨B, 0, none⟩)] W _
  refine callsIn_of_wp Tryd.func70 rfl trivial ?_ rfl
  simp only [Tryd.ntmps70, List.size_toArray, List.length_cons, List.length_nil, Nat.reduceAdd, Nat.reduceSub, Array.replicate_succ, Array.replicate_zero, List.push_toArray, List.append_toArray, List.nil_append, List.cons_append]
  gi_wp2
  gi_loopw [7] (fun i wr => ∃ (a : Nat) (O : Nat → Prop), i = .int .i64 a ∧ a ≤ ws.length ∧ J (msT ws a) O wr ∧ Below w0.heap.size w0 wr) (fun i _ => ws.length - (intOf i).toNat)
  case atStart => exact ⟨0, O₀, rfl, Nat.zero_le _, h0, BW⟩
  case round =>
    clear p1 h0 BW
    obtain ⟨a, O, rfl, ha, hJs, hBr⟩ := hrel
    have HJs : Hid (J (msT ws a) O wr) := hJs
    have HBr : Hid (Below w0.heap.size w0 wr) := hBr
    by_cases hlt : a < ws.length
    · obtain ⟨g, cap, hv, _, hgl⟩ := Ps.own_some HSE.out.1 (by omega)
      cases hv
      have c0 := (hBr.cell (p := ⟨g, a, none⟩) hgl).trans (HSE.out.1.cellAt a (by omega))
      rw [show (cellsW ws)[a]? = some (.int .u64 ((ws[a] : Nat) : Int)) by simp [cellsW, hlt]] at c0
      have hx0 := HSE.out.2.1 _ (List.getElem_mem hlt)
      have HGA : Hid (ws.getD a 0 = ws[a]) := by show _ = _; rw [List.getD_eq_getElem?_getD, List.getElem?_eq_getElem hlt]; rfl
      obtain ⟨x0, hx0e⟩ : ∃ x, ws[a] = x := ⟨_, rfl⟩
      rw [hx0e] at c0 hx0
      have HGX : Hid (msT ws (a + 1) = msT ws a ++ (bl x0).map fun j => a * 64 + j) := by show _ = _; rw [msT_up, HGA.out, hx0e]
      have HX0 : Hid (x0 < 18446744073709551616) := hx0
      have HAL : Hid (∃ t, ms ws = msT ws (a + 1) ++ t) := by
        have : ∀ k, ∃ t, msT ws (a + 1 + k) = msT ws (a + 1) ++ t := fun k => by
          induction k with
          | zero => exact ⟨[], by simp⟩
          | succ k ih => obtain ⟨t, ht⟩ := ih; exact ⟨t ++ _, by rw [← Nat.add_assoc, msT_up, ht, List.append_assoc]⟩
        obtain ⟨k, hk⟩ : ∃ k, ws.length = a + 1 + k := ⟨ws.length - (a + 1), by omega⟩
        obtain ⟨t, ht⟩ := this k
        exact ⟨t, by unfold ms; rw [hk]; exact ht⟩
      clear hx0 hx0e HGA hJs hBr
      gi_wp2
      gi_loopw [4] (fun i wr => ∃ (x : Nat) (pre : List Nat) (O : Nat → Prop), i = .int .u64 x ∧ x < 18446744073709551616 ∧ J pre O wr ∧ Below w0.heap.size w0 wr ∧ pre ++ (bl x).map (fun j => a * 64 + j) = msT ws (a + 1)) (fun i _ => (intOf i).toNat)
      case atStart => exact ⟨x0, msT ws a, O, rfl, HX0.out, HJs.out, HBr.out, HGX.out.symm⟩
      case round =>
        clear HJs HBr HX0 c0
        obtain ⟨x, pre, O, rfl, hx, hJs, hBr, hpre⟩ := hrel
        have HJs : Hid (J pre O wr) := hJs
        have HBr : Hid (Below w0.heap.size w0 wr) := hBr
        by_cases hz : x = 0
        · subst hz
          have HP : Hid (pre = msT ws (a + 1)) := by show _ = _; rw [← hpre, bl_zero]; simp
          clear hpre hJs hBr hx
          gi_wp2
          go_roundw
          case rel => exact ⟨a + 1, O, by go_num, hlt, by rw [← HP.out]; exact HJs.out, HBr.out⟩
          case measure => simp [intOf]; omega
        · have hne : ((x : Int) != 0) = true := by simp; omega
          have hzz : ((x : Int) == 0) = false := by simp; omega
          have hb := bl_step x hz hx
          obtain ⟨_, _, hc64, _⟩ := low_bits x hz hx
          have KT := tz_any x hx hz wr (tab_below HTA.out h00 hBr)
          obtain ⟨c, hc⟩ : ∃ c, Lib.ctz 64 x = c := ⟨_, rfl⟩
          rw [hc] at hb hc64 KT
          obtain ⟨z, hze⟩ : ∃ z, z = a * 64 + c := ⟨_, rfl⟩
          have he : (a : Int) * 64 + (c : Int) = (z : Int) := by omega
          obtain ⟨x1, hx1⟩ : ∃ x1, x - 1 = x1 := ⟨_, rfl⟩
          obtain ⟨x2, hx2⟩ : ∃ x2, x &&& x1 = x2 := ⟨_, rfl⟩
          have hs1 : IntKind.u64.wrap ((x : Int) - 1) = (x1 : Int) := by rw [IntKind.wrap_u64]; omega
          have hs2 : bits .and .u64 (x : Int) (x1 : Int) = (x2 : Int) := by rw [bits_and_u64_nat x x1 hx (by omega), hx2]
          have HX2 : Hid (x2 < x) := by show _ < _; rw [← hx2, ← hx1]; exact and_lt x hz
          have HPR : Hid (pre ++ [z] ++ (bl x2).map (fun j => a * 64 + j) = msT ws (a + 1)) := by show _ = _; rw [← hpre, hb, hx1, hx2, hze]; simp
          have hL : pre ++ [z] <+: ms ws := by
            obtain ⟨t, ht⟩ := HAL.out
            exact ⟨(bl x2).map (fun j => a * 64 + j) ++ t, by rw [← List.append_assoc, HPR.out, ht]⟩
          obtain ⟨fn, tmps, assign, body, hy, hR⟩ := HYY.out pre O z wr hJs hL
          have HR : Hid _ := hR
          have hx64 : Hid (x < 18446744073709551616) := hx
          clear hpre hJs hBr hb hc hx1 hx2 hze hL hR hx hz
          gi_wp2_with (refine ⟨trivial, ?_⟩; gi_at_call 71; refine (callsIn_wide.2 KT).mono ?_; rintro e w1 ⟨rfl, hw1⟩; subst w1)
          refine RoundIn.mono HR.out ?_
          rintro e W4 ⟨rfl, O', hJ4, hk4⟩
          have HJ4 : Hid (J (pre ++ [z]) O' W4) := hJ4
          have HB4 : Hid (Below w0.heap.size w0 W4) := hk4.below HBr.out HBr.out.size (fun q hq h => (HO.out _ _ _ _ HJs.out h).1 (.inl hq))
          clear hJ4 hk4
          gi_wp2
          go_roundw
          case rel => exact ⟨x2, pre ++ [z], O', rfl, Nat.lt_trans HX2.out hx64.out, HJ4.out, HB4.out, HPR.out⟩
          case measure => have := HX2.out; simp [intOf]; omega
    · obtain rfl : a = ws.length := by omega
      clear hJs hBr
      gi_wp2
      go_end0
      exact ⟨⟨_, rfl⟩, ms ws, O, rfl, HJs.out⟩
end Go.Proofs.YtfjocafepigijaaDoor.Za
