/- machineBegun is true in whatever memory. Condition: what newField makes is as it is said (Nx). -/
import Derived.Test.YtfjocafepigijaaDoorCq
namespace Go.Proofs.YtfjocafepigijaaDoor.Mb
open Go.RowKit Mv Wk Sy Rz Cq

def m1 : M := ⟨2, [(0, 1, 1, 2, 3)], [(1, 0)]⟩
theorem row25 : (Tryd.prog.info? 25).map (·.size) = some 3 := by kernel_rfl
theorem lit_row {w : World} {size n cap g : Nat} {cur : Array Value} {t : TypeId} (hg : w.heap[g]? = some (.cells cur t (0, 0))) (hl : cur.size = n * size) (hn : n ≤ 140737488355328) : Mv.Row w (.slice (some ⟨g, 0, none⟩) n cap) size n cur.toList :=
  ⟨by rw [Array.length_toList]; exact hl, _, cap, rfl, hn, .inr ⟨g, 0, rfl, (Array.getElem?_eq_some_iff.1 hg).1, fun j u hu => by rw [Nat.zero_add, cell_of_row w g j cur t (0, 0) hg]; rw [Array.getElem?_toList] at hu; exact hu⟩⟩
theorem three (w : World) (a b c : Obj) : (((w.alloc a).alloc b).alloc c).heap[w.heap.size]? = some a ∧ (((w.alloc a).alloc b).alloc c).heap[w.heap.size + 1]? = some b ∧ (((w.alloc a).alloc b).alloc c).heap[w.heap.size + 1 + 1]? = some c ∧ Below w.heap.size w (((w.alloc a).alloc b).alloc c) := by
  have s1 : (w.alloc a).heap.size = w.heap.size + 1 := by simp
  have s2 : ((w.alloc a).alloc b).heap.size = w.heap.size + 1 + 1 := by simp
  refine ⟨?_, ?_, ?_, ?_⟩
  · rw [heap_alloc_old _ _ (by omega), heap_alloc_old _ _ (by omega)]
    exact heap_alloc_new _ _
  · rw [heap_alloc_old _ _ (by omega), ← s1]
    exact heap_alloc_new _ _
  · rw [← s2]
    exact heap_alloc_new _ _
  · exact (((Below.refl _ w).alloc (Nat.le_refl _) a).alloc (by omega) b).alloc (by omega) c

set_option maxHeartbeats 1000000 in
set_option maxRecDepth 100000 in
theorem one_any (w : World) : Calls Tryd.prog 29 #[] w fun e w' => ∃ v, e = .returned v ∧ IsM w' v m1 ∧ Below w.heap.size w w' := by
  go_enter Tryd.func29, Tryd.ntmps29
  go_wp2
  obtain ⟨h1, h2, h3, hb⟩ := three w (.cells #[.int .i64 2, .slice (some ⟨w.heap.size + 1, 0, none⟩) 1 1, .slice (some ⟨w.heap.size + 1 + 1, 0, none⟩) 1 1] 25) (.cells #[.int .i64 0, .int .i64 1, .int .i64 1, .int .i64 2, .int .i64 3] 64) (.cells #[.int .i64 1, .int .i64 0] 66)
  exact bodyPost_ret (results_cell_row rfl _ _ w.heap.size 25 _ (0, 0) _ rfl h1 Tryd.underlying25 rfl row25) rfl ⟨_, rfl, ⟨_, _, rfl, lit_row (n := 1) (size := 5) h2 rfl (by decide), lit_row (n := 1) (size := 2) h3 rfl (by decide)⟩, hb⟩

theorem chk1 : checkP m1 0 := .inr (.inr (.inr (.inr ⟨by decide, fun k h => by
  have : k = 0 := by simp [m1] at h; exact h
  subst this; show arcB 2 (0, 1, 1, 2, 3) = true; decide, fun k h => by
  have : k = 0 := by simp [m1] at h; exact h
  subst this; show finB 2 (1, 0) = true; decide, fun i j hi hj hij _ => by
  simp [m1] at hi hj; omega, rfl⟩)))
theorem low1 : ∀ (t s i j c : Nat), ReachN m1 [1] [2] true t s i j c → (s = 0 ∧ c = 0) ∨ (s = 1 ∧ c = 3) := by
  intro t
  cases t with
  | zero => rintro s i j c ⟨h1, _, _, h2⟩; exact .inl ⟨h1, h2⟩
  | succ t =>
    intro s i j c h
    induction t generalizing s i j c with
    | zero =>
      obtain ⟨s0, i0, j0, c0, x, hx, ⟨r1, _, _, r2⟩, e1, e2, _, e3⟩ := h
      have : x = 0 := by simp [m1] at hx; exact hx
      subst this
      simp [m1] at e1 e2 e3
      exact .inr ⟨by omega, by omega⟩
    | succ t ih =>
      obtain ⟨s0, i0, j0, c0, x, hx, hr, e1, e2, _, e3⟩ := h
      have : x = 0 := by simp [m1] at hx; exact hx
      subst this
      simp [m1] at e1 e2 e3
      rcases ih s0 i0 j0 c0 hr with ⟨a, b⟩ | ⟨a, b⟩
      · exact .inr ⟨by omega, by omega⟩
      · omega
theorem res1 : Res m1 [1] [2] 3 true 0 := by
  refine .inr (.inr ⟨chk1, by decide, rfl, .inr ⟨3, ⟨⟨0, by decide, 1, 3, rfl, ⟨1, 0, 0, 0, 0, 0, by decide, ⟨rfl, rfl, rfl, rfl⟩, rfl, rfl, ⟨.inr ⟨by decide, rfl, rfl⟩, .inr ⟨by decide, rfl, rfl, rfl⟩⟩, by decide⟩, by decide⟩, ?_⟩, rfl, rfl⟩⟩)
  intro y hy f c e ⟨t, hr⟩
  have : y = 0 := by simp [m1] at hy; exact hy
  subst this
  simp [m1] at e
  rcases low1 t _ _ _ _ hr with ⟨a, b⟩ | ⟨a, b⟩
  · omega
  · subst b; show (3 : Int) ≤ 3 + 0; decide
theorem few1 : fewB m1 = true := by decide
theorem two (w : World) (a b : Obj) : ((w.alloc a).alloc b).heap[w.heap.size]? = some a ∧ ((w.alloc a).alloc b).heap[w.heap.size + 1]? = some b ∧ Below w.heap.size w ((w.alloc a).alloc b) := by
  have s1 : (w.alloc a).heap.size = w.heap.size + 1 := by simp
  refine ⟨?_, ?_, ?_⟩
  · rw [heap_alloc_old _ _ (by omega)]
    exact heap_alloc_new _ _
  · rw [← s1]
    exact heap_alloc_new _ _
  · exact ((Below.refl _ w).alloc (Nat.le_refl _) a).alloc (by omega) b

theorem cost1 (hf : FieldOk) (w0 w : World) (v : Value) (hM : IsM w0 v m1) (hb : Below w0.heap.size w0 w) (g h : Nat) (hg : w.heap[g]? = some (.cells #[.int .i64 1] 3 (0, 0))) (hh : w.heap[h]? = some (.cells #[.int .i64 2] 3 (0, 0))) :
    Calls Tryd.prog 27 #[v, .slice (some ⟨g, 0, none⟩) 1 1, .slice (some ⟨h, 0, none⟩) 1 1] w fun e w' => e = .returned (.tuple #[.int .i64 3, .bool true, .int .i64 0]) ∧ Below w.heap.size w w' := by
  refine (cost_any hf m1 [1] [2] v _ _ w (hM.below hb) (lit_row (n := 1) (size := 1) hg rfl (by decide)) (lit_row (n := 1) (size := 1) hh rfl (by decide)) few1 (by decide) (by decide)).mono ?_
  rintro e w' ⟨c, ok, er, rfl, hr, hb'⟩
  obtain ⟨rfl, rfl, rfl⟩ := hr.one res1
  exact ⟨rfl, hb'⟩

set_option maxHeartbeats 1000000 in
set_option maxRecDepth 100000 in
theorem begun_any (hf : FieldOk) (w : World) : Calls Tryd.prog 7 #[] w fun e w' => e = .returned (.bool true) ∧ Below w.heap.size w w' := by
  have HF : Hid FieldOk := hf
  clear hf
  go_enter Tryd.func7, Tryd.ntmps7
  go_wp2_with (first | (go_at_call 29; refine (one_any w).mono ?_; rintro e w1 ⟨v, rfl, hM, hb1⟩; have HM : Hid (IsM w1 v m1) := hM; clear hM) | (go_at_call 27; refine (cost1 HF.out w1 _ v HM.out (two w1 _ _).2.2 w1.heap.size (w1.heap.size + 1) (two w1 _ _).1 (two w1 _ _).2.1).mono ?_; rintro e w2 ⟨rfl, hb2⟩; have hw2 : Below w.heap.size w w2 := hb1.trans (((two w1 _ _).2.2.trans (hb2.mono (two w1 _ _).2.2.size)).mono hb1.size); clear hb2))
  repeat (go_quiet (fail); go_wp2)
  go_ret
  exact ⟨rfl, by first | exact hw2 | exact below_drewN hw2 _⟩
end Go.Proofs.YtfjocafepigijaaDoor.Mb
