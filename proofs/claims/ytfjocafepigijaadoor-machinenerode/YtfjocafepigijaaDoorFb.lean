/- The document's SameMachine (23): are two machines the same? No conditions. -/
import Derived.Test.YtfjocafepigijaaDoorFaM
import Derived.Laws.StructEq
namespace Go.Proofs.YtfjocafepigijaaDoor.Su
open Go.RowKit Mv Po Ps Cm

theorem neq64 (f t i o x f' t' i' o' x' : Int) (w : World) : (binOp .neq 64 (.agg #[.int .i64 f, .int .i64 t, .int .i64 i, .int .i64 o, .int .i64 x]) (.agg #[.int .i64 f', .int .i64 t', .int .i64 i', .int .i64 o', .int .i64 x'])).run Tryd.prog w = .ok (.bool (!decide ((f, t, i, o, x) = (f', t', i', o', x')))) w := by
  have u3 := Tryd.underlying3
  have hS : Tryd.prog.underlying 64 = some (.struct (Tryd.prog.fieldsOf 64)) := by kernel_rfl
  have hp : Tryd.prog.stoodInHeld 64 = false := by kernel_rfl
  rw [run_neq_struct, show (10000 : Nat) = 9999 + 1 from rfl, run_equalIn_agg w 9999 64 _ _ hS hp]
  simp only [Program.fieldsOf, Tryd.underlying64]
  go_simp
  by_cases h0 : f = f' <;> by_cases h1 : t = t' <;> by_cases h2 : i = i' <;> by_cases h3 : o = o' <;> by_cases h4 : x = x' <;> simp [h0, h1, h2, h3, h4]
theorem neq66 (s x s' x' : Int) (w : World) : (binOp .neq 66 (.agg #[.int .i64 s, .int .i64 x]) (.agg #[.int .i64 s', .int .i64 x'])).run Tryd.prog w = .ok (.bool (!decide ((s, x) = (s', x')))) w := by
  have u3 := Tryd.underlying3
  have hS : Tryd.prog.underlying 66 = some (.struct (Tryd.prog.fieldsOf 66)) := by kernel_rfl
  have hp : Tryd.prog.stoodInHeld 66 = false := by kernel_rfl
  rw [run_neq_struct, show (10000 : Nat) = 9999 + 1 from rfl, run_equalIn_agg w 9999 66 _ _ hS hp]
  simp only [Program.fieldsOf, Tryd.underlying66]
  go_simp
  by_cases h0 : s = s' <;> by_cases h1 : x = x' <;> simp [h0, h1]
/-- are two machines the same? -/
def smB (S S' : Int) (A A' : List (Int × Int × Int × Int × Int)) (F F' : List (Int × Int)) : Bool := decide (S = S' ∧ A = A' ∧ F = F')
theorem sm_no {S S' : Int} {A A' : List (Int × Int × Int × Int × Int)} {F F' : List (Int × Int)} (h : ¬ (S = S' ∧ A.length = A'.length ∧ F.length = F'.length)) : smB S S' A A' F F' = false := decide_eq_false fun e => h ⟨e.1, by rw [e.2.1], by rw [e.2.2]⟩
theorem sm_arc {S S' : Int} {A A' : List (Int × Int × Int × Int × Int)} {F F' : List (Int × Int)} {k : Nat} (h1 : k < A.length) (h2 : k < A'.length) (h : A[k] ≠ A'[k]) : smB S S' A A' F F' = false := decide_eq_false fun e => by
  obtain ⟨_, rfl, _⟩ := e
  exact h rfl
theorem sm_fin {S S' : Int} {A A' : List (Int × Int × Int × Int × Int)} {F F' : List (Int × Int)} {k : Nat} (h1 : k < F.length) (h2 : k < F'.length) (h : F[k] ≠ F'[k]) : smB S S' A A' F F' = false := decide_eq_false fun e => by
  obtain ⟨_, _, rfl⟩ := e
  exact h rfl
theorem sm_yes {S S' : Int} {A A' : List (Int × Int × Int × Int × Int)} {F F' : List (Int × Int)} (hs : S = S') (h1 : A.length = A'.length) (h2 : F.length = F'.length) (h3 : ∀ k (h : k < A.length) (h' : k < A'.length), A[k] = A'[k]) (h4 : ∀ k (h : k < F.length) (h' : k < F'.length), F[k] = F'[k]) : smB S S' A A' F F' = true :=
  decide_eq_true ⟨hs, List.ext_getElem h1 h3, List.ext_getElem h2 h4⟩
set_option maxHeartbeats 4000000 in
set_option maxRecDepth 100000 in
theorem same_m (S S' : Int) (A A' : List (Int × Int × Int × Int × Int)) (F F' : List (Int × Int)) (aa af aa' af' : Option Addr) (n n' m m' ca cf ca' cf' : Nat) (w : World) (hn : A.length = n) (hn' : A'.length = n') (hm : F.length = m) (hm' : F'.length = m') (hA : Mv.Row w (.slice aa n ca) 5 n (acs A)) (hF : Mv.Row w (.slice af m cf) 2 m (fcs F)) (hA' : Mv.Row w (.slice aa' n' ca') 5 n' (acs A')) (hF' : Mv.Row w (.slice af' m' cf') 2 m' (fcs F')) :
    Calls Tryd.prog 23 #[.agg #[.int .i64 S, .slice aa n ca, .slice af m cf], .agg #[.int .i64 S', .slice aa' n' ca', .slice af' m' cf']] w fun e w' => e = .returned (.bool (smB S S' A A' F F')) ∧ Below w.heap.size w w' := by
  have hFl : m ≤ 140737488355328 := by obtain ⟨_, _, _, _, h, _⟩ := hF; exact h
  have hAl : n ≤ 140737488355328 := by obtain ⟨_, _, _, _, h, _⟩ := hA; exact h
  have HA : Hid (Mv.Row w (.slice aa n ca) 5 n (acs A) ∧ Mv.Row w (.slice af m cf) 2 m (fcs F) ∧ Mv.Row w (.slice aa' n' ca') 5 n' (acs A') ∧ Mv.Row w (.slice af' m' cf') 2 m' (fcs F')) := ⟨hA, hF, hA', hF'⟩
  have HL : Hid (A.length = n ∧ A'.length = n' ∧ F.length = m ∧ F'.length = m') := ⟨hn, hn', hm, hm'⟩
  clear hF hA hF' hA' hn hn' hm hm'
  obtain ⟨O1, hO1⟩ : ∃ O1 : Obj, Obj.cells #[.int .i64 S, .slice aa n ca, .slice af m cf] 25 = O1 := ⟨_, rfl⟩
  obtain ⟨O2, hO2⟩ : ∃ O2 : Obj, Obj.cells #[.int .i64 S', .slice aa' n' ca', .slice af' m' cf'] 25 = O2 := ⟨_, rfl⟩
  have s1 : (w.alloc O1).heap.size = w.heap.size + 1 := by simp
  have B1 := below_al w O1
  have HBX : Hid (Below w.heap.size w ((w.alloc O1).alloc O2) ∧ ((w.alloc O1).alloc O2).heap[w.heap.size]? = some (.cells #[.int .i64 S, .slice aa n ca, .slice af m cf] 25 (0, 0)) ∧ ((w.alloc O1).alloc O2).heap[w.heap.size + 1]? = some (.cells #[.int .i64 S', .slice aa' n' ca', .slice af' m' cf'] 25 (0, 0))) := ⟨B1.alloc B1.size _, by rw [heap_alloc_old _ _ (by rw [s1]; omega), ← hO1]; exact heap_alloc_new _ _, by rw [← s1, ← hO2]; exact heap_alloc_new _ _⟩
  clear B1 s1
  go_enter Tryd.func23, Tryd.ntmps23
  go_upto_region 1 with fail
  clear hO1 hO2
  generalize (w.alloc O1).alloc O2 = W1 at *
  obtain ⟨bx, hbx⟩ : ∃ bx, w.heap.size = bx := ⟨_, rfl⟩
  obtain ⟨by', hby⟩ : ∃ by', w.heap.size + 1 = by' := ⟨_, rfl⟩
  have HB : Hid (Below w.heap.size w W1) := HBX.out.1
  have HX : Hid (W1.heap[bx]? = some (.cells #[.int .i64 S, .slice aa n ca, .slice af m cf] 25 (0, 0)) ∧ W1.heap[by']? = some (.cells #[.int .i64 S', .slice aa' n' ca', .slice af' m' cf'] 25 (0, 0))) := by have h := HBX.out.2; rw [hby, hbx] at h; exact h
  rw [hby, hbx]
  clear hbx hby HBX
  have b0 := cell_of_row _ _ 0 _ _ _ HX.out.1
  have b1 := cell_of_row _ _ 1 _ _ _ HX.out.1
  have b2 := cell_of_row _ _ 2 _ _ _ HX.out.1
  have c0 := cell_of_row _ _ 0 _ _ _ HX.out.2
  have c1 := cell_of_row _ _ 1 _ _ _ HX.out.2
  have c2 := cell_of_row _ _ 2 _ _ _ HX.out.2
  by_cases h1 : S = S' ∧ n = n' ∧ m = m'
  · obtain ⟨rfl, rfl, rfl⟩ := h1
    have q0 : (S != S) = false := by simp
    have q1 : ((n : Int) != (n : Int)) = false := by simp
    have q2 : ((m : Int) != (m : Int)) = false := by simp
    go_upto_region 4 with fail
    clear q0 q1 q2 b0 b1 b2 c0 c1 c2
    go_loopw [5] (fun i wr => ∃ k : Nat, i = .int .i64 (k : Int) ∧ k ≤ n ∧ Below W1.heap.size W1 wr ∧ ∀ j (h : j < A.length) (h' : j < A'.length), j < k → A[j] = A'[j]) (fun i _ => n - (intOf i).toNat)
    case atStart => exact ⟨0, rfl, Nat.zero_le _, (by first | exact Below.refl _ _ | exact below_drewN (Below.refl _ _) _), fun j _ _ h => absurd h (Nat.not_lt_zero j)⟩
    case round =>
      obtain ⟨k, rfl, hk, hbw, hz⟩ := hrel
      have HZ : Hid (∀ j (h : j < A.length) (h' : j < A'.length), j < k → A[j] = A'[j]) := hz
      have HW : Hid (Below W1.heap.size W1 wr) := hbw
      have HWW : Hid (Below w.heap.size w wr) := HB.out.trans (hbw.mono HB.out.size)
      have hx := (hbw.block bx (lt_at HX.out.1)).trans HX.out.1
      have hy := (hbw.block by' (lt_at HX.out.2)).trans HX.out.2
      have b1 := cell_of_row _ _ 1 _ _ _ hx
      have b2 := cell_of_row _ _ 2 _ _ _ hx
      have c1 := cell_of_row _ _ 1 _ _ _ hy
      have c2 := cell_of_row _ _ 2 _ _ _ hy
      clear hz hbw hx hy
      by_cases hlt : k < n
      · have l1 : k < A.length := by rw [HL.out.1]; exact hlt
        have l2 : k < A'.length := by rw [HL.out.2.1]; exact hlt
        obtain ⟨f, t, i, o, x, he⟩ : ∃ f t i o x, A[k] = (f, t, i, o, x) := ⟨_, _, _, _, _, rfl⟩
        obtain ⟨f', t', i', o', x', he'⟩ : ∃ f t i o x, A'[k] = (f, t, i, o, x) := ⟨_, _, _, _, _, rfl⟩
        obtain ⟨ab, ao, rfl, _, p0, p1, p2, p3, p4⟩ := arc_cells (by have h := HA.out.1.below HWW.out; rw [← HL.out.1] at h; exact h) l1 he
        obtain ⟨ab', ao', rfl, _, p0', p1', p2', p3', p4'⟩ := arc_cells (by have h := HA.out.2.2.1.below HWW.out; rw [← HL.out.2.1] at h; exact h) l2 he'
        have hne := neq64 f t i o x f' t' i' o' x'
        by_cases hq : A[k] = A'[k]
        · have HX2 : Hid (∀ j (h : j < A.length) (h' : j < A'.length), j < k + 1 → A[j] = A'[j]) := fun j hj hj' hjk => by
            by_cases e : j = k
            · subst e; exact hq
            · exact HZ.out j hj hj' (by omega)
          rw [he, he'] at hq
          have q1 : decide ((f, t, i, o, x) = (f', t', i', o', x')) = true := decide_eq_true hq
          rw [q1] at hne
          clear he he' hq q1 l1 l2
          go_wp2
          repeat (go_quiet (fail); go_wp2)
          go_roundw
          case rel => exact ⟨k + 1, by go_num, hlt, by first | exact HW.out | exact (below_drewN HW.out _), HX2.out⟩
          case measure => simp [intOf]; omega
        · have HV : Hid (smB S S A A' F F' = false) := sm_arc l1 l2 hq
          rw [he, he'] at hq
          have q1 : decide ((f, t, i, o, x) = (f', t', i', o', x')) = false := decide_eq_false hq
          rw [q1] at hne
          clear he he' hq q1 l1 l2
          go_wp2
          repeat (go_quiet (fail); go_wp2)
          go_ret
          exact ⟨(by rw [HV.out]; rfl), by first | exact HWW.out | exact below_drewN HWW.out _⟩
      · obtain rfl : k = n := by omega
        generalize wr = W2 at *
        go_upto_region 9 with fail
        clear b1 b2 c1 c2
        go_loopw [6] (fun i wr => ∃ k : Nat, i = .int .i64 (k : Int) ∧ k ≤ m ∧ Below W2.heap.size W2 wr ∧ ∀ j (h : j < F.length) (h' : j < F'.length), j < k → F[j] = F'[j]) (fun i _ => m - (intOf i).toNat)
        case atStart => exact ⟨0, rfl, Nat.zero_le _, (by first | exact Below.refl _ _ | exact below_drewN (Below.refl _ _) _), fun j _ _ h => absurd h (Nat.not_lt_zero j)⟩
        case round =>
          obtain ⟨y, rfl, hy, hbw, hz⟩ := hrel
          have HZ2 : Hid (∀ j (h : j < F.length) (h' : j < F'.length), j < y → F[j] = F'[j]) := hz
          have HW2 : Hid (Below W2.heap.size W2 wr) := hbw
          have HW3 : Hid (Below w.heap.size w wr) := HWW.out.trans (hbw.mono HWW.out.size)
          have hb := HW.out.trans (hbw.mono HW.out.size)
          have hx := (hb.block bx (lt_at HX.out.1)).trans HX.out.1
          have hy' := (hb.block by' (lt_at HX.out.2)).trans HX.out.2
          have b2 := cell_of_row _ _ 2 _ _ _ hx
          have c2 := cell_of_row _ _ 2 _ _ _ hy'
          clear hz hbw hx hy' hb
          by_cases hlt : y < m
          · have l1 : y < F.length := by rw [HL.out.2.2.1]; exact hlt
            have l2 : y < F'.length := by rw [HL.out.2.2.2]; exact hlt
            obtain ⟨s, x, he⟩ : ∃ s x, F[y] = (s, x) := ⟨_, _, rfl⟩
            obtain ⟨s', x', he'⟩ : ∃ s x, F'[y] = (s, x) := ⟨_, _, rfl⟩
            obtain ⟨ab, ao, rfl, _, p0, p1⟩ := fin_cells (by have h := HA.out.2.1.below HW3.out; rw [← HL.out.2.2.1] at h; exact h) l1 he
            obtain ⟨ab', ao', rfl, _, p0', p1'⟩ := fin_cells (by have h := HA.out.2.2.2.below HW3.out; rw [← HL.out.2.2.2] at h; exact h) l2 he'
            have hne := neq66 s x s' x'
            by_cases hq : F[y] = F'[y]
            · have HX2 : Hid (∀ j (h : j < F.length) (h' : j < F'.length), j < y + 1 → F[j] = F'[j]) := fun j hj hj' hjk => by
                by_cases e : j = y
                · subst e; exact hq
                · exact HZ2.out j hj hj' (by omega)
              rw [he, he'] at hq
              have q1 : decide ((s, x) = (s', x')) = true := decide_eq_true hq
              rw [q1] at hne
              clear he he' hq q1 l1 l2
              go_wp2
              repeat (go_quiet (fail); go_wp2)
              go_roundw
              case rel => exact ⟨y + 1, by go_num, hlt, by first | exact HW2.out | exact (below_drewN HW2.out _), HX2.out⟩
              case measure => simp [intOf]; omega
            · have HV : Hid (smB S S A A' F F' = false) := sm_fin l1 l2 hq
              rw [he, he'] at hq
              have q1 : decide ((s, x) = (s', x')) = false := decide_eq_false hq
              rw [q1] at hne
              clear he he' hq q1 l1 l2
              go_wp2
              repeat (go_quiet (fail); go_wp2)
              go_ret
              exact ⟨(by rw [HV.out]; rfl), by first | exact HW3.out | exact below_drewN HW3.out _⟩
          · obtain rfl : y = m := by omega
            have HV : Hid (smB S S A A' F F' = true) := sm_yes rfl (by rw [HL.out.1, HL.out.2.1]) (by rw [HL.out.2.2.1, HL.out.2.2.2]) (fun j h h' => HZ.out j h h' (by rw [← HL.out.1]; exact h)) (fun j h h' => HZ2.out j h h' (by rw [← HL.out.2.2.1]; exact h))
            go_wp2
            go_ret
            exact ⟨(by rw [HV.out]; rfl), HW3.out⟩
  · have HV : Hid (smB S S' A A' F F' = false) := sm_no (by rw [HL.out.1, HL.out.2.1, HL.out.2.2.1, HL.out.2.2.2]; exact h1)
    by_cases e0 : S = S'
    · have q0 : (S != S') = false := by simpa using e0
      by_cases e1 : n = n'
      · have q1 : ((n : Int) != (n' : Int)) = false := by have h : (n : Int) = (n' : Int) := (by omega); simpa using h
        have q2 : ((m : Int) != (m' : Int)) = true := by have h : ¬ (m : Int) = (m' : Int) := (by intro h; exact h1 ⟨e0, e1, by omega⟩); simpa using h
        clear h1 e0 e1
        go_wp2
        repeat (go_quiet (fail); go_wp2)
        go_ret
        exact ⟨(by rw [HV.out]; rfl), by first | exact HB.out | exact below_drewN HB.out _⟩
      · have q1 : ((n : Int) != (n' : Int)) = true := by have h : ¬ (n : Int) = (n' : Int) := (by omega); simpa using h
        clear h1 e0 e1
        go_wp2
        repeat (go_quiet (fail); go_wp2)
        go_ret
        exact ⟨(by rw [HV.out]; rfl), by first | exact HB.out | exact below_drewN HB.out _⟩
    · have q0 : (S != S') = true := by simpa using e0
      clear h1 e0
      go_wp2
      repeat (go_quiet (fail); go_wp2)
      go_ret
      exact ⟨(by rw [HV.out]; rfl), by first | exact HB.out | exact below_drewN HB.out _⟩
end Go.Proofs.YtfjocafepigijaaDoor.Su
