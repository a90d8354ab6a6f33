/- The document's NewTalker. Conditions: none. -/
import Derived.Test.YtmhgoddlbklbfaaRe
namespace Go.Proofs.Ytmhgoddlbklbfaa.Ra
open Go.RowKit Ta Tb

def numQ (i : Nat) : En := ⟨(i : Int), 0, 0, ByteArray.empty, false, false⟩
def newQ (N : Nat) : List En := (List.range N).map numQ
theorem newQ_length (N : Nat) : (newQ N).length = N := by simp [newQ]
theorem newQ_succ (N : Nat) : newQ (N + 1) = newQ N ++ [numQ N] := by simp [newQ, List.range_succ]
theorem info64 : (Try.prog.info? 64).map (fun i => (i.zero, i.size, i.bytes)) = some (some (.agg #[.int .i64 0, .int .i64 0, .int .i64 0, .string ByteArray.empty, .bool false, .bool false, .bool false]), 7, 56) := by kernel_rfl
theorem ecs_snoc (l : List En) (r : En) : ecs (l ++ [r]) = ecs l ++ ec r := by simp [ecs]
theorem cell_ent (w : World) (r : En) : ∀ j u, (ec r)[j]? = some u → (w.alloc (.cells #[.int .i64 r.sl, .int .i64 r.ver, .int .i64 r.who, .string r.val, .bool false, .bool r.kn, .bool r.ow] 64)).cell? ((⟨w.heap.size, 0, none⟩ : Addr).add j) = some u := by
  intro j u hj
  have hadd : (⟨w.heap.size, 0, none⟩ : Addr).add j = ⟨w.heap.size, j, none⟩ := by unfold Addr.add; split <;> simp_all
  rw [hadd, cell_of_row _ _ j _ 64 _ (heap_alloc_new w _)]
  simpa [ec] using hj
theorem ec_one (r : En) : ∀ u ∈ ec r, u.oneCell' = true := by
  intro u hu
  simp [ec] at hu
  rcases hu with rfl | rfl | rfl | rfl | rfl | rfl | rfl <;> rfl

theorem slice_of {w : World} {base e size : Nat} {v : Value} {n : Nat} {xs : List Value} (h : w.ownsRow base e size v (n + 1) xs) : ∃ a k, v = .slice a (n + 1) k := by
  rcases h.2 with ⟨_, h'⟩ | ⟨g, cap, cur, h, _⟩
  · omega
  · exact ⟨_, _, h⟩
def NewD (w : World) (W : Int) (N : Nat) (e : Ending) (w' : World) : Prop := ∃ q s cap, e = .returned (.tuple #[.pointer (some ⟨q, 0, none⟩), .int .i64 0]) ∧ w.heap.size ≤ q ∧ Rk w' w.heap.size q s cap W (newQ N) ∧ Below w.heap.size w w'
set_option maxHeartbeats 4000000 in
theorem new_doc {w : World} {W : Int} {N : Nat} (hW1 : 1 ≤ W) (hW2 : W ≤ 9) (h1 : 1 ≤ N) (h2 : N ≤ 20) :
    Calls Try.prog 7 #[.int .i64 W, .int .i64 (N : Int)] w (NewD w W N) := by
  obtain ⟨i64, hi64, hz640, hz641, hz642⟩ := info_parts info64
  have hn0 : ¬ W < 1 := by omega
  have hn3 : ¬ 9 < W := by omega
  have hn1 : ¬ (N : Int) < 1 := by omega
  have hn2 : ¬ (20 : Int) < (N : Int) := by omega
  go_enter Try.func7, Try.ntmps7
  go_wp2
  go_loopw [7] (fun iv wr => ∃ (i : Nat) (x : Option Addr) (n k : Nat), iv = .int .i64 (i : Int) ∧ i ≤ N ∧ wr.heap[w.heap.size]? = some (.cells #[.int .i64 W, .slice x n k] 62 (0, 0)) ∧ wr.ownsRow (w.heap.size + 1) 64 7 (.slice x n k) i (ecs (newQ i)) ∧ Below w.heap.size w wr) (fun iv _ => N - (intOf iv).toNat)
  case atStart => exact ⟨0, none, 0, 0, rfl, by omega, heap_alloc_new _ _, ⟨by simp [newQ, ecs], .inl ⟨rfl, rfl⟩⟩, (Below.refl _ w).alloc (Nat.le_refl _) _⟩
  case round =>
    obtain ⟨i, x, n, k, rfl, hi, hh, hown, hB⟩ := hrel
    by_cases hil : i < N
    · have hil' : (i : Int) < (N : Int) := by omega
      have c0 := cell_of_row _ _ 0 _ _ _ hh
      have c1 := cell_of_row _ _ 1 _ _ _ hh
      have hlt : w.heap.size < wr.heap.size := World.block_lt_of_cell? wr _ c0
      go_wp2_with (at_builtin; refine wpList_append_own _ rfl (.tmp 32) (.tmp 36) 60 rfl (w.heap.size + 1) 64 i64 (.agg #[.int .i64 0, .int .i64 0, .int .i64 0, .string ByteArray.empty, .bool false, .bool false, .bool false]) 7 56 Try.underlying60 hi64 hz640 hz641 hz642 rfl (by decide) _ _ _ rfl (hown.alloc _) ⟨_, 0, none⟩ 1 1 (ec (numQ i)) rfl rfl (cell_ent _ (numQ i)) (ec_one _) (by unfold maxLen; omega) (by omega) (by simp; omega) ?_; intro v' W2 hown3 hgrow3 _; obtain ⟨va, vk, rfl⟩ := slice_of hown3; have hb3 : Below (w.heap.size + 1) wr W2 := ((Below.refl _ wr).alloc (by omega) _).grown hgrow3 (by simp; omega) (fun q hq => (hown.lt q hq).1); have hh3 := (hb3.block w.heap.size (by omega)).trans hh; have d1 := cell_of_row _ _ 1 _ _ _ hh3; have f1 := frozen_of_row _ _ 1 _ _ hh3)
      go_roundw
      case rel =>
        refine ⟨i + 1, _, _, _, by go_num, by omega, heap_setCell_same _ _ 1 _ 62 _ hh3, ?_, (hB.trans (hb3.mono (by omega))).setCell (p := ⟨w.heap.size, 1, none⟩) (Nat.le_refl _) _⟩
        rw [newQ_succ, ecs_snoc]
        exact own_set hown3 (by omega) _
      case measure => simp [intOf]; omega
    · have hil' : ¬ (i : Int) < (N : Int) := by omega
      have e : i = N := by omega
      subst e
      go_wp2
      go_ret2
      rcases hown.2 with ⟨h, h'⟩ | ⟨g, cap, cur, h, hg, hr⟩
      · omega
      · simp only [Value.slice.injEq] at h
        obtain ⟨rfl, rfl, rfl⟩ := h
        refine ⟨w.heap.size, g, k, rfl, Nat.le_refl _, ⟨by rw [newQ_length]; exact hh, ?_, by omega⟩, hB⟩
        rw [newQ_length]
        exact ⟨hown.1, .inr ⟨g, k, cur, rfl, by omega, hr⟩⟩
theorem newdoc_who {w : World} {W N : Int} (hW : W < 1 ∨ 9 < W) : Calls Try.prog 7 #[.int .i64 W, .int .i64 N] w fun e w' => e = .returned (.tuple #[.pointer none, .int .i64 3]) ∧ w' = w := by
  by_cases h1 : W < 1
  · clear hW
    go_enter Try.func7, Try.ntmps7
    go_wp2
    go_ret2
    exact ⟨rfl, rfl⟩
  · have h2 : 9 < W := by omega
    clear hW
    go_enter Try.func7, Try.ntmps7
    go_wp2
    go_ret2
    exact ⟨rfl, rfl⟩
theorem newdoc_many {w : World} {W N : Int} (hW1 : 1 ≤ W) (hW2 : W ≤ 9) (hN : N < 1 ∨ 20 < N) : Calls Try.prog 7 #[.int .i64 W, .int .i64 N] w fun e w' => e = .returned (.tuple #[.pointer none, .int .i64 7]) ∧ w' = w := by
  have hn0 : ¬ W < 1 := by omega
  have hn3 : ¬ 9 < W := by omega
  by_cases h1 : N < 1
  · clear hN
    go_enter Try.func7, Try.ntmps7
    go_wp2
    go_ret2
    exact ⟨rfl, rfl⟩
  · have h2 : 20 < N := by omega
    clear hN
    go_enter Try.func7, Try.ntmps7
    go_wp2
    go_ret2
    exact ⟨rfl, rfl⟩
end Go.Proofs.Ytmhgoddlbklbfaa.Ra
