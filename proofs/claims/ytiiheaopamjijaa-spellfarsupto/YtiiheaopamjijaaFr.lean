/- The document's Far. Condition: both lists have at most 200 units. -/
import Derived.Test.YtiiheaopamjijaaLp
import Derived.Deep.OwnRows
namespace Go.Proofs.Ytiiheaopamjijaa.Fr
open Go.RowKit Rw Ay Fi Nx Ap Lp

theorem info3 : (Try.prog.info? 3).map (fun i => (i.zero, i.size, i.bytes)) = some (some (.int .i64 0), 1, 8) := by kernel_rfl
/-- a row of numbers -/
def nums (f : Nat → Int) : Nat → Value := fun j => .int .i64 (f j)

/-- so many numbers, then noughts -/
def pre (k : Nat) : Nat → Int := fun j => if j < k then (j : Int) else 0
theorem pre_succ (k j : Nat) : (if j = k then Value.int .i64 (k : Int) else nums (pre k) j) = nums (pre (k + 1)) j := by
  unfold nums pre
  by_cases e : j = k
  · subst e
    simp
  · rw [if_neg e]
    by_cases h : j < k
    · rw [if_pos h, if_pos (by omega)]
    · rw [if_neg h, if_neg (by omega)]
theorem pre_all (l us : List ByteArray) (j : Nat) (h : j < l.length + 1) : nums (pre (l.length + 1)) j = nums (rowOf l (us.take 0)) j := by
  unfold nums pre rowOf
  rw [if_pos h]
  simp only [List.take_zero, List.foldl_nil, f0]
  rw [if_pos (by omega)]

theorem made_row (W : World) (n : Nat) (x : Int) : (W.alloc (.cells ((madeCells #[.int .i64 0] (n + 1)).setIfInBounds 0 (.int .i64 x)) 3)).rowIs W.heap.size 3 (n + 1) (fun j => if j = 0 then .int .i64 x else .int .i64 0) := by
  have hs : ((madeCells #[Value.int .i64 0] (n + 1)).setIfInBounds 0 (.int .i64 x)).size = n + 1 := by simp [madeCells]
  have := World.rowIs_alloc W ((madeCells #[Value.int .i64 0] (n + 1)).setIfInBounds 0 (.int .i64 x)) 3 (fun j => if j = 0 then .int .i64 x else .int .i64 0) (by
    intro i hi
    rw [hs] at hi
    rw [Array.getElem?_setIfInBounds]
    by_cases e : 0 = i
    · subst e
      rw [if_pos rfl, if_pos (by simp [madeCells]), if_pos rfl]
    · rw [if_neg e, if_neg (fun h => e h.symm)]
      simp [madeCells, hi, Nat.mod_one])
  rw [hs] at this
  exact this
/-- so many of a row, then noughts -/
def grown (g : Nat → Int) (m : Nat) : Nat → Int := fun j => if j ≤ m then g j else 0
theorem grown_zero (g : Nat → Int) (x : Int) (h : g 0 = x) (j : Nat) : (if j = 0 then Value.int .i64 x else .int .i64 0) = nums (grown g 0) j := by
  unfold nums grown
  by_cases e : j = 0
  · subst e
    simp [h]
  · rw [if_neg e, if_neg (by omega)]
theorem grown_at (g : Nat → Int) (m j : Nat) (h : j ≤ m) : grown g m j = g j := by
  unfold grown
  rw [if_pos h]
theorem grown_succ (g : Nat → Int) (m j : Nat) : (if j = m + 1 then Value.int .i64 (g (m + 1)) else nums (grown g m) j) = nums (grown g (m + 1)) j := by
  unfold nums grown
  by_cases e : j = m + 1
  · subst e
    simp
  · rw [if_neg e]
    by_cases h : j ≤ m
    · rw [if_pos h, if_pos (by omega)]
    · rw [if_neg h, if_neg (by omega)]

set_option maxHeartbeats 1000000 in
set_option maxRecDepth 100000 in
theorem far_any (v v' : Value) (us l : List ByteArray) (w : World) (h : IsZ w v us) (h' : IsZ w v' l) (hn : us.length ≤ 200) (hn' : l.length ≤ 200) :
    Calls Try.prog 10 #[v, v'] w fun e w' => e = .returned (.int .i64 (rowOf l us l.length)) ∧ Below w.heap.size w w' := by
  obtain ⟨a, cap, rfl, hc⟩ := h.len
  obtain ⟨a', cap', rfl, hc'⟩ := h'.len
  have hmk : ∀ W : World, (Instr.makeSlice 50 (.int .i64 ((l.length : Int) + 1)) (.int .i64 ((l.length : Int) + 1))).run Try.prog W = .ok (.slice (some ⟨W.heap.size, 0, none⟩) (l.length + 1) (l.length + 1)) (W.alloc (.cells (madeCells #[.int .i64 0] (l.length + 1)) 3)) := by
    intro W
    have := run_make_row' (P := Try.prog) 50 3 (.int .i64 0) 8 Try.underlying50 info3 rfl .i64 .i64 (l.length + 1) (by omega) (by omega) W
    simpa using this
  go_enter Try.func10, Try.ntmps10
  go_wp2
  obtain ⟨W, hW⟩ : ∃ W, w.alloc (Obj.cells (madeCells #[Value.int IntKind.i64 0] (l.length + 1)) 3) = W := ⟨_, rfl⟩
  have A0 : W.rowIs w.heap.size 3 (l.length + 1) (nums fun _ => 0) := by rw [← hW]; exact World.rowIs_made _ _ _ _
  have BW : Below w.heap.size w W := by rw [← hW]; exact (Below.refl _ _).alloc (Nat.le_refl _) _
  rw [hW]
  clear hW
  go_loopw [6] (fun i wr => ∃ k : Nat, i = .int .i64 k ∧ k ≤ l.length + 1 ∧ wr.rowIs w.heap.size 3 (l.length + 1) (nums (pre k)) ∧ Below w.heap.size w wr) (fun i _ => l.length + 1 - (intOf i).toNat)
  case atStart => exact ⟨0, rfl, by omega, A0.congr (fun j _ => rfl), BW⟩
  case round =>
    obtain ⟨k, rfl, hk, R0, RB⟩ := hrel
    by_cases hlt : k < l.length + 1
    · have c1 := R0.cell hlt
      have c2 := R0.frozen k
      go_wp2
      exact ⟨⟨k + 1, by simp, by omega, (R0.set k _).congr (fun j _ => pre_succ k j), RB.setCell (Nat.le_refl _) _⟩, by simp [intOf]; omega⟩
    · have : k = l.length + 1 := by omega
      subst this
      have R1 := R0.congr (g := nums (rowOf l (us.take 0))) (fun j hj => pre_all l us j hj)
      clear R0
      go_wp2
      go_loopw [5, 7] (fun x i wr => ∃ k g : Nat, x = .slice (some ⟨g, 0, none⟩) (l.length + 1) (l.length + 1) ∧ i = .int .i64 k ∧ k ≤ us.length ∧ w.heap.size ≤ g ∧ wr.rowIs g 3 (l.length + 1) (nums (rowOf l (us.take k))) ∧ Below w.heap.size w wr) (fun _ i _ => us.length - (intOf i).toNat)
      case atStart => exact ⟨0, _, rfl, rfl, by omega, Nat.le_refl _, R1, RB⟩
      case round =>
        obtain ⟨k, g, rfl, rfl, hk, hg, R0, RB⟩ := hrel
        by_cases hlt : k < us.length
        · have hnew : ∀ W : World, (W.alloc (.cells (madeCells #[.int .i64 0] (l.length + 1)) 3)).cell? ⟨W.heap.size, 0, none⟩ = some (.int .i64 0) := fun W => (World.rowIs_made W (.int .i64 0) (l.length + 1) 3).cell (by omega)
          have hnewf : ∀ W : World, (W.alloc (.cells (madeCells #[.int .i64 0] (l.length + 1)) 3)).frozen? ⟨W.heap.size, 0, none⟩ = false := fun W => (World.rowIs_made W (.int .i64 0) (l.length + 1) 3).frozen 0
          go_wp2
          have F := made_row wr l.length ((k : Int) + 1)
          have hz0 : nx us[k] l (rowOf l (us.take k)) 0 = (k : Int) + 1 := by
            simp only [nx]
            rw [row_zero, List.length_take, Nat.min_eq_left (by omega)]
          obtain ⟨W2, hW2⟩ : ∃ W2, wr.alloc (Obj.cells ((madeCells #[Value.int IntKind.i64 0] (l.length + 1)).setIfInBounds 0 (Value.int IntKind.i64 ((k : Int) + 1))) 3) = W2 := ⟨_, rfl⟩
          have G0 : W2.rowIs g 3 (l.length + 1) (nums (rowOf l (us.take k))) := by rw [← hW2]; exact R0.alloc _
          have N0 : W2.rowIs wr.heap.size 3 (l.length + 1) (nums (grown (nx us[k] l (rowOf l (us.take k))) 0)) := by
            rw [← hW2]
            exact F.congr (fun j _ => grown_zero _ _ hz0 j)
          have B2 : Below w.heap.size w W2 := by rw [← hW2]; exact RB.alloc RB.size _
          rw [hW2]
          have hgl := R0.lt
          have hwl := RB.size
          have hLip := lip_row l (us.take k)
          have hbd : ∀ j, 0 ≤ rowOf l (us.take k) j ∧ rowOf l (us.take k) j ≤ 400 := fun j => by
            have := rowOf_bd l (us.take k) hn' j
            rw [List.length_take] at this
            omega
          have eS := rowOf_take l us k hlt
          clear hW2 F hnew hnewf hz0
          obtain ⟨f, hf⟩ : ∃ f, rowOf l (us.take k) = f := ⟨_, rfl⟩
          rw [hf] at G0 N0 hLip hbd eS
          clear hf R0
          obtain ⟨bl, ol, rfl⟩ := h.addr (by omega)
          have hat := h.at k hlt
          have hbn := nx_bd us[k] l f 400 hbd
          go_loopw [9] (fun i w2 => ∃ m : Nat, i = .int .i64 m ∧ m ≤ l.length ∧ w2.rowIs g 3 (l.length + 1) (nums f) ∧ w2.rowIs wr.heap.size 3 (l.length + 1) (nums (grown (nx us[k] l f) m)) ∧ Below w.heap.size w w2) (fun i _ => l.length - (intOf i).toNat)
          case atStart => exact ⟨0, rfl, by omega, G0, N0, B2⟩
          case round =>
            obtain ⟨m, rfl, hm, G1, N1, B3⟩ := hrel
            by_cases hml : m < l.length
            · obtain ⟨bm, om, rfl⟩ := h'.addr (by omega)
              have hat' := h'.at m hml
              have p := (B3.cell (p := ⟨bl, ol + k, none⟩) hat.1).trans hat.2
              have q := (B3.cell (p := ⟨bm, om + m, none⟩) hat'.1).trans hat'.2
              have r1 := G1.cell (i := m) (by omega)
              have r2 := G1.cell (i := m + 1) (by omega)
              have n1 := N1.cell (i := m) (by omega)
              have n2 := N1.cell (i := m + 1) (by omega)
              have n3 := N1.frozen (m + 1)
              have hS := same us[k] l f hLip m hml
              simp only [nums] at r1 r2 n1 n2
              rw [grown_at _ _ _ (Nat.le_refl m)] at n1
              have b1 := hbd m
              have b2 := hbd (m + 1)
              have b3 := hbn m
              have HN : Hid (∀ x, x = nx us[k] l f (m + 1) → ∀ j, (if j = m + 1 then Value.int .i64 x else nums (grown (nx us[k] l f) m) j) = nums (grown (nx us[k] l f) (m + 1)) j) := fun x hx j => by rw [hx]; exact grown_succ _ _ _
              obtain ⟨x, hx⟩ : ∃ x, f m = x := ⟨_, rfl⟩
              obtain ⟨y, hy⟩ : ∃ y, f (m + 1) = y := ⟨_, rfl⟩
              obtain ⟨z, hz⟩ : ∃ z, nx us[k] l f m = z := ⟨_, rfl⟩
              rw [hx] at r1 b1 hS
              rw [hy] at r2 b2 hS
              rw [hz] at n1 b3 hS
              clear hx hy hz hat'
              by_cases hu : us[k] = l[m]
              · have hub : (us[k].toList == l[m].toList) = true := (Go.Lib.bytes_beq_iff _ _).2 hu
                rw [if_pos hu] at hS
                have HS : Hid (nx us[k] l f (m + 1) = min (min (x + 0) (y + 1)) (z + 1)) := hS
                clear hS hu
                go_wp2
                go_region
                go_wp2
                all_goals exact ⟨⟨m + 1, by simp, by omega, (G1.setOther (by dsimp only; omega) _).drew, ((N1.set (m + 1) _).congr (fun j _ => HN.out _ (by rw [HS.out]; omega) j)).drew, (B3.setCell hwl _).drew⟩, by simp [intOf]; omega⟩
              · have hub : (us[k].toList == l[m].toList) = false := (Go.Lib.bytes_beq_false_iff _ _).2 hu
                rw [if_neg hu] at hS
                have HS : Hid (nx us[k] l f (m + 1) = min (min (x + 1) (y + 1)) (z + 1)) := hS
                clear hS hu
                go_wp2
                go_region
                go_wp2
                all_goals exact ⟨⟨m + 1, by simp, by omega, (G1.setOther (by dsimp only; omega) _).drew, ((N1.set (m + 1) _).congr (fun j _ => HN.out _ (by rw [HS.out]; omega) j)).drew, (B3.setCell hwl _).drew⟩, by simp [intOf]; omega⟩
            · have : m = l.length := by omega
              subst this
              go_wp2
              refine ⟨⟨k + 1, _, rfl, by simp, by omega, RB.size, N1.congr (fun j hj => ?_), B3⟩, by simp [intOf]; omega⟩
              rw [eS, nums, nums, grown_at _ _ _ (by omega)]
        · have : k = us.length := by omega
          subst this
          have c := R0.cell (i := l.length) (by omega)
          rw [List.take_length] at c
          simp only [nums] at c
          go_wp2
          go_ret
          exact ⟨rfl, RB⟩
end Go.Proofs.Ytiiheaopamjijaa.Fr
