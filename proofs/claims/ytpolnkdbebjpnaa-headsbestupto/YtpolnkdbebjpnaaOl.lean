/- HangAll (18) at HeadsBest's closure. Conditions: at most 12 words; none is worth more than what the boxes hold. -/
import Derived.Test.YtpolnkdbebjpnaaOk
namespace Go.Proofs.Ytpolnkdbebjpnaa.Hd
open Go.RowKit

section
variable {w : World} {n b off cap ps po pn pm pk : Nat} {N M K : Int}
theorem ge_start {B : World} (hbel : Below B.heap.size B w) (hlo : B.heap.size ≤ po) (hne : ∀ b ∈ [ps, pn, pm, pk], b ≠ po) (hB : Bx w ps po pn pm pk (.slice (some ⟨b, off, none⟩) (n + 1) cap) N M K) (W0 : World)
    (h0 : ((((w.alloc (.cells #[.int .i64 (n : Int)] 3)).alloc (.cells #[f17 ps po pn pm pk] 32)).alloc (.cells (madeCells #[.int .i64 0] n) 3)).alloc (.cells #[.slice (some ⟨w.heap.size + 1 + 1, 0, none⟩) n n] 26)).alloc (.cells #[f35 w.heap.size (w.heap.size + 1 + 1 + 1) (w.heap.size + 1) (w.heap.size + 1 + 1 + 1 + 1)] 45) = W0) :
    Ge B W0 w.heap.size (w.heap.size + 1 + 1 + 1) (w.heap.size + 1) (w.heap.size + 1 + 1 + 1 + 1) (w.heap.size + 1 + 1) n ps po pn pm pk (.slice (some ⟨b, off, none⟩) (n + 1) cap) N M K (fun _ => 0) := by
  have s1 : (w.alloc (.cells #[.int .i64 (n : Int)] 3)).heap.size = w.heap.size + 1 := by simp
  generalize hw1 : w.alloc (.cells #[.int .i64 (n : Int)] 3) = w1 at *
  have s2 : (w1.alloc (.cells #[f17 ps po pn pm pk] 32)).heap.size = w.heap.size + 1 + 1 := by simp [s1]
  generalize hw2 : w1.alloc (.cells #[f17 ps po pn pm pk] 32) = w2 at *
  have hm := made1 w2 n
  have s3 : (w2.alloc (.cells (madeCells #[.int .i64 0] n) 3)).heap.size = w.heap.size + 1 + 1 + 1 := by simp [s2]
  generalize hw3 : w2.alloc (.cells (madeCells #[.int .i64 0] n) 3) = w3 at *
  have s4 : (w3.alloc (.cells #[.slice (some ⟨w.heap.size + 1 + 1, 0, none⟩) n n] 26)).heap.size = w.heap.size + 1 + 1 + 1 + 1 := by simp [s3]
  generalize hw4 : w3.alloc (.cells #[.slice (some ⟨w.heap.size + 1 + 1, 0, none⟩) n n] 26) = w4 at *
  have b1 : Below w.heap.size w w1 := hw1 ▸ below_al _ _
  have b2 : Below w1.heap.size w1 w2 := hw2 ▸ below_al _ _
  have b3 : Below w2.heap.size w2 w3 := hw3 ▸ below_al _ _
  have b4 : Below w3.heap.size w3 w4 := hw4 ▸ below_al _ _
  have b5 : Below w4.heap.size w4 W0 := h0 ▸ below_al _ _
  have b45 : Below w3.heap.size w3 W0 := b4.trans (b5.mono b4.size)
  have b35 : Below w2.heap.size w2 W0 := b3.trans (b45.mono b3.size)
  have b25 : Below w1.heap.size w1 W0 := b2.trans (b35.mono b2.size)
  have b15 : Below w.heap.size w W0 := b1.trans (b25.mono b1.size)
  have e1 : w1.heap[w.heap.size]? = some (.cells #[.int .i64 (n : Int)] 3 (0, 0)) := hw1 ▸ heap_alloc_new _ _
  have e2 : w2.heap[w.heap.size + 1]? = some (.cells #[f17 ps po pn pm pk] 32 (0, 0)) := by rw [← s1, ← hw2]; exact heap_alloc_new _ _
  have e4 : w4.heap[w.heap.size + 1 + 1 + 1]? = some (.cells #[.slice (some ⟨w.heap.size + 1 + 1, 0, none⟩) n n] 26 (0, 0)) := by rw [← s3, ← hw4]; exact heap_alloc_new _ _
  have e5 : W0.heap[w.heap.size + 1 + 1 + 1 + 1]? = some (.cells #[f35 w.heap.size (w.heap.size + 1 + 1 + 1) (w.heap.size + 1) (w.heap.size + 1 + 1 + 1 + 1)] 45 (0, 0)) := by
    have h := heap_alloc_new w4 (.cells #[f35 w.heap.size (w.heap.size + 1 + 1 + 1) (w.heap.size + 1) (w.heap.size + 1 + 1 + 1 + 1)] 45)
    rw [s4, h0] at h
    exact h
  rw [s2] at hm
  have hbx := hB.below b15
  have hpo := lt_at hB.ro
  have l1 := World.block_lt_of_cell? _ _ hB.cs
  have l2 := World.block_lt_of_cell? _ _ hB.cn
  have l3 := World.block_lt_of_cell? _ _ hB.cm
  have l4 := World.block_lt_of_cell? _ _ hB.ck
  have hw := hbel.size
  refine ⟨hbx, cell_of_row _ _ 0 _ _ _ ((b25.block _ (by omega)).trans e1), cell_of_row _ _ 0 _ _ _ ((b5.block _ (by omega)).trans e4), cell_of_row _ _ 0 _ _ _ ((b35.block _ (by omega)).trans e2), cell_of_row _ _ 0 _ _ _ e5, hm.kept (kp_below b45 (fun _ => False)) id, fun i hi => ⟨Int.le_refl _, by omega⟩, ?_, by omega, hbel.trans (b15.mono hbel.size), hlo, by omega⟩
  intro x hx
  have h1 := hne ps (by simp)
  have h2 := hne pn (by simp)
  have h3 := hne pm (by simp)
  have h4 := hne pk (by simp)
  dsimp only at l1 l2 l3 l4
  simp only [List.mem_cons, List.not_mem_nil, or_false] at hx
  rcases hx with rfl | rfl | rfl | rfl | rfl | rfl | rfl | rfl <;> refine ⟨?_, ?_⟩ <;> first | assumption | omega
end
set_option maxHeartbeats 4000000 in
set_option maxRecDepth 100000 in
theorem hangAll_any (B : World) (n b off cap ps po pn pm pk : Nat) (ra : Nat → Option Addr) (rc : Nat → Nat) (s : Nat → Nat → Int) (N M K : Int) (w : World) (hS : ∀ W, Below B.heap.size B W → Sc W b off n ra rc s) (hn : n ≤ 12) (hs : ∀ h x, h ≤ n → 1 ≤ x → x ≤ n → -1000000 ≤ s h x ∧ s h x ≤ 1000000)
    (ho : ∀ l : List Int, l.length = n → isTr l → wo s n (un l) ≤ N ∧ (Fl n (un l) → wo s n (un l) ≤ M) ∧ (rt n (un l) = 1 → wo s n (un l) ≤ K)) (hbel : Below B.heap.size B w) (hlo : B.heap.size ≤ po) (hne : ∀ b ∈ [ps, pn, pm, pk], b ≠ po) (hB : Bx w ps po pn pm pk (.slice (some ⟨b, off, none⟩) (n + 1) cap) N M K) :
    Calls Try.prog 18 #[.int .i64 (n : Int), f17 ps po pn pm pk] w fun e w' => e = .returned (.tuple #[]) ∧ w'.heap[po]? = some (.cells #[.bool true] 4 (0, 0)) ∧ Below B.heap.size B w' := by
  have hmk := run_mk26n n (by omega)
  obtain ⟨W0, hW0⟩ : ∃ W0, ((((w.alloc (.cells #[.int .i64 (n : Int)] 3)).alloc (.cells #[f17 ps po pn pm pk] 32)).alloc (.cells (madeCells #[.int .i64 0] n) 3)).alloc (.cells #[.slice (some ⟨w.heap.size + 1 + 1, 0, none⟩) n n] 26)).alloc (.cells #[f35 w.heap.size (w.heap.size + 1 + 1 + 1) (w.heap.size + 1) (w.heap.size + 1 + 1 + 1 + 1)] 45) = W0 := ⟨_, rfl⟩
  have HG : Hid _ := ge_start hbel hlo hne hB W0 hW0
  have K35 := go1_any B n b off cap _ _ _ _ _ ps po pn pm pk ra rc s N M K hS hn hs ho n 0 (by omega) (fun _ => 0) W0 HG.out
  rw [show ((0 : Nat) : Int) = 0 from rfl] at K35
  have hnb : n ≤ 12 := hn
  clear hS hs ho hbel hlo hne hB hn
  unfold f17 at hW0
  unfold f35 at hW0
  have c4 := HG.out.c4
  unfold f35 at c4
  go_enter Try.func18, Try.ntmps18
  unfold f17
  go_upto_region 4 with fail
  try rw [hW0]
  clear hW0 hmk
  go_wp2_with (go_at_call 35; (with_reducible refine K35.mono ?_); clear K35; rintro e w2 ⟨rfl, C', hG⟩; have HG3 : Hid _ := hG; clear hG)
  first | go_end0 | refine bodyPost_ret (results_none rfl _ _ _) rfl ?_
  exact ⟨rfl, HG3.out.bx.ro, HG3.out.bel⟩
end Go.Proofs.Ytpolnkdbebjpnaa.Hd
