/- couple.arcs: a function that hands on the arcs of a pair. Conditions: few states. -/
import Derived.Test.YtfjocafepigijaaDoorRyM
namespace Go.Proofs.YtfjocafepigijaaDoor.Cu
open Go.RowKit Mv Set Qp Sk Po Ps Wd Se Mp St Cm Nm Nx Ra Am Pa Tc
open CR (nc)

set_option maxHeartbeats 1000000 in
set_option maxRecDepth 100000 in
theorem arcs_any (C SB k p q : Nat) (rc : Array Value) (w : World) (xR : w.heap[C]? = some (.cells rc 129 (0, 0))) (HRC : Hid (rc[0]? = some (.int .i64 (SB : Int)))) (h0 : 0 < SB) (hSB : SB ≤ 40) (hk : k ≤ 1600) (hp : k / SB = p) (hq : k % SB = q) :
  Calls Tryd.prog 72 #[.pointer (some ⟨C, 0, none⟩), .int .i64 (k : Int)] w fun e w' => ∃ bC bp bk bq, e = .returned (.func (.func 96) #[] #[.pointer (some ⟨bC, 0, none⟩), .pointer (some ⟨bp, 0, none⟩), .pointer (some ⟨bk, 0, none⟩), .pointer (some ⟨bq, 0, none⟩)]) ∧ Bx w' bC bp bk bq C p k q ∧ Below w.heap.size w w' := by
 have hqq : (k : Int).tdiv (SB : Int) = ((k / SB : Nat) : Int) := by simp [Int.tdiv]
 have hrr : (k : Int).tmod (SB : Int) = ((k % SB : Nat) : Int) := by simp [Int.tmod]
 have hq2 : (k : Int) / (SB : Int) = ((k / SB : Nat) : Int) := by simp
 have hr2 : (k : Int) % (SB : Int) = ((k % SB : Nat) : Int) := by simp
 have hn0 : ¬ SB = 0 := by omega
 have hn1 : ¬ (SB : Int) = 0 := by omega
 have hp16 : p ≤ 1600 := by rw [← hp]; exact Nat.le_trans (Nat.div_le_self _ _) hk
 have hq16 : q ≤ 1600 := by rw [← hq]; exact Nat.le_trans (Nat.mod_le _ _) hk
 rw [hp] at hqq hq2
 rw [hq] at hrr hr2
 clear hp hq
 have hb1 : Below w.heap.size w (w.alloc (.cells #[.pointer (some ⟨C, 0, none⟩)] 71)) := (Below.refl _ w).alloc (Nat.le_refl _) _
 have hs1 : (w.alloc (.cells #[.pointer (some ⟨C, 0, none⟩)] 71)).heap.size = w.heap.size + 1 := by simp
 have hBV := hb1.alloc (by rw [hs1]; omega) (.cells #[.int .i64 (k : Int)] 3)
 have x2 := (heap_alloc_old (w.alloc (.cells #[.pointer (some ⟨C, 0, none⟩)] 71)) (.cells #[.int .i64 (k : Int)] 3) (by rw [hs1]; omega)).trans (heap_alloc_new w (.cells #[.pointer (some ⟨C, 0, none⟩)] 71))
 have x3 := heap_alloc_new (w.alloc (.cells #[.pointer (some ⟨C, 0, none⟩)] 71)) (.cells #[.int .i64 (k : Int)] 3)
 rw [hs1] at x3
 have xR2 := (hBV.block _ (lt_at xR)).trans xR
 go_enter Tryd.func72, Tryd.ntmps72
 go_upto_region 1 with fail
 clear hs1 hb1 xR
 generalize hV : (w.alloc (.cells #[.pointer (some ⟨C, 0, none⟩)] 71)).alloc (.cells #[.int .i64 (k : Int)] 3) = VV at *
 clear hV
 have z0 := cell_of_row _ _ 0 _ _ _ x2
 have z1 := cell_of_row _ _ 0 _ _ _ x3
 have z2 := (cell_of_row _ _ 0 _ _ _ xR2).trans HRC.out
 have l0 := lt_at x2
 have l1 := lt_at x3
 have l2 := lt_at xR2
 have HA : Hid (Bx ((VV.alloc (.cells #[.int .i64 (p : Int)] 3)).alloc (.cells #[.int .i64 (q : Int)] 3)).drew w.heap.size VV.heap.size (w.heap.size + 1) (VV.heap.size + 1) C p k q) := bxA x2 x3 (.cells #[.int .i64 (p : Int)] 3) (.cells #[.int .i64 (q : Int)] 3) rfl rfl
 have HB : Hid (Bx ((VV.alloc (.cells #[.int .i64 (q : Int)] 3)).alloc (.cells #[.int .i64 (p : Int)] 3)).drew w.heap.size (VV.heap.size + 1) (w.heap.size + 1) VV.heap.size C p k q) := bxB x2 x3 (.cells #[.int .i64 (p : Int)] 3) (.cells #[.int .i64 (q : Int)] 3) rfl rfl
 have HW : Hid (∀ o1 o2, Below w.heap.size w ((VV.alloc o1).alloc o2).drew) := fun o1 o2 => ((hBV.alloc hBV.size o1).alloc (Nat.le_trans hBV.size (by simp)) o2).drew
 clear x2 x3 xR2 hBV
 go_region
 all_goals go_wp2
 all_goals go_ret
 ·exact ⟨_, _, _, _, rfl, HA.out, HW.out _ _⟩
 ·exact ⟨_, _, _, _, rfl, HB.out, HW.out _ _⟩
end Go.Proofs.YtfjocafepigijaaDoor.Cu
