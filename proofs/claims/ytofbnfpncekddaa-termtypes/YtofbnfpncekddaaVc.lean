/- firstSpot: at a term that is a spot itself, and at one with nothing in it. -/
import Derived.Test.YtofbnfpncekddaaVb
import Derived.Deep.CutRange
namespace Go.Proofs.Ytofbnfpncekddaa.Te
open Go.RowKit Go.Shelf Va
attribute [local go_sem] Oper.semAt_some

theorem four_blocks (w : World) (a b c d : Obj) : ((((w.alloc a).alloc b).alloc c).alloc d).heap[w.heap.size]? = some a ∧ ((((w.alloc a).alloc b).alloc c).alloc d).heap[w.heap.size + 1]? = some b ∧ ((((w.alloc a).alloc b).alloc c).alloc d).heap[w.heap.size + 2]? = some c ∧ ((((w.alloc a).alloc b).alloc c).alloc d).heap[w.heap.size + 3]? = some d ∧ ((((w.alloc a).alloc b).alloc c).alloc d).heap.size = w.heap.size + 4 ∧ Below w.heap.size w ((((w.alloc a).alloc b).alloc c).alloc d) := by
  have hb : ∀ (W : World) o, Below W.heap.size W (W.alloc o) := fun W o => (Below.refl _ _).alloc (Nat.le_refl _) o
  have e1 : (w.alloc a).heap.size = w.heap.size + 1 := by simp
  have e2 : ((w.alloc a).alloc b).heap.size = w.heap.size + 2 := by simp
  have e3 : (((w.alloc a).alloc b).alloc c).heap.size = w.heap.size + 3 := by simp
  have n0 := heap_alloc_new w a
  have n1 := heap_alloc_new (w.alloc a) b
  have n2 := heap_alloc_new ((w.alloc a).alloc b) c
  have n3 := heap_alloc_new (((w.alloc a).alloc b).alloc c) d
  rw [e1] at n1
  rw [e2] at n2
  rw [e3] at n3
  refine ⟨((hb _ _).block _ (by omega)).trans (((hb _ _).block _ (by omega)).trans (((hb _ _).block _ (by omega)).trans n0)), ((hb _ _).block _ (by omega)).trans (((hb _ _).block _ (by omega)).trans n1), ((hb _ _).block _ (by omega)).trans n2, n3, by simp, ?_⟩
  exact ((((Below.refl _ w).alloc (Nat.le_refl _) a).alloc (by omega) b).alloc (by omega) c).alloc (by omega) d
theorem two_cells {A : World} {b : Nat} {s t : TypeId} {u v : Value} (y1 : A.heap[b + 1]? = some (.cells #[u] s (0, 0))) (y2 : A.heap[b + 2]? = some (.cells #[v] t (0, 0))) (x y : Value) :
    ((A.setCell ⟨b + 1, 0, none⟩ x).setCell ⟨b + 2, 0, none⟩ y).heap[b + 1]? = some (.cells #[x] s (0, 0)) ∧ ((A.setCell ⟨b + 1, 0, none⟩ x).setCell ⟨b + 2, 0, none⟩ y).heap[b + 2]? = some (.cells #[y] t (0, 0)) ∧ (∀ g, g ≠ b + 1 → g ≠ b + 2 → ((A.setCell ⟨b + 1, 0, none⟩ x).setCell ⟨b + 2, 0, none⟩ y).heap[g]? = A.heap[g]?) ∧
    (∀ n w, n ≤ b → Below n w A → Below n w ((A.setCell ⟨b + 1, 0, none⟩ x).setCell ⟨b + 2, 0, none⟩ y)) ∧ ((A.setCell ⟨b + 1, 0, none⟩ x).setCell ⟨b + 2, 0, none⟩ y).heap.size = A.heap.size := by
  have o1 : ∀ g, g ≠ b + 1 → (A.setCell ⟨b + 1, 0, none⟩ x).heap[g]? = A.heap[g]? := fun g hg => heap_setCell_other _ _ _ _ hg
  have o2 : ∀ g, g ≠ b + 2 → ((A.setCell ⟨b + 1, 0, none⟩ x).setCell ⟨b + 2, 0, none⟩ y).heap[g]? = (A.setCell ⟨b + 1, 0, none⟩ x).heap[g]? := fun g hg => heap_setCell_other _ _ _ _ hg
  have h1 := heap_setCell_same A (b + 1) 0 _ s x y1
  have h2 := heap_setCell_same (A.setCell ⟨b + 1, 0, none⟩ x) (b + 2) 0 _ t y ((o1 _ (by omega)).trans y2)
  refine ⟨(o2 _ (by omega)).trans (by simpa using h1), by simpa using h2, fun g g1 g2 => (o2 g g2).trans (o1 g g1), fun n w hn hb => ?_, by simp⟩
  exact (hb.setCell (p := ⟨b + 1, 0, none⟩) (by show n ≤ b + 1; omega) _).setCell (p := ⟨b + 2, 0, none⟩) (by show n ≤ b + 2; omega) _
set_option maxHeartbeats 4000000 in
theorem first_no (k n : Int) (y : Ty) (b : Option Addr) (e0 : Nat) (a : Option Addr) (c : Nat) (w : World) (hk : k ≠ 4) : Calls Try.prog 30 #[vtm ⟨k, n, y, []⟩ b e0 a c] w fun e w' => e = .returned (.tuple #[.slice none 0 0, .bool false]) ∧ Below w.heap.size w w' := by
  have K40 := spots_any ⟨k, n, y, []⟩ b e0 a c
  unfold vtm at K40 ⊢
  dsimp only at K40 ⊢
  rw [show ([] : List Tm).length = 0 from rfl] at K40 ⊢
  refine (callsIn_wide (n := 5)).1 ?_
  refine callsIn_of_wp_marks Try.func30 rfl trivial (wpIn_wide.2 ?_) rfl
  simp only [Try.ntmps30, List.size_toArray, List.length_cons, List.length_nil, Nat.reduceAdd, Nat.reduceSub, Array.replicate_succ, Array.replicate_zero, List.push_toArray, List.append_toArray, List.nil_append, List.cons_append]
  go_wp2_with (go_at_call 40; (with_reducible refine (K40 _).mono ?_); rintro e w1 ⟨rfl, rfl⟩)
  have h4 := four_blocks w (.cells #[.int .i64 k, .int .i64 n, .int .i64 y.kind, .int .i64 y.n, .slice b y.kids.length e0, .slice a 0 c] 27) (.cells #[.slice none 0 0] 48) (.cells #[.bool false] 4) (.cells #[.int .i64 k, .int .i64 n, .int .i64 y.kind, .int .i64 y.n, .slice b y.kids.length e0, .slice a 0 c] 27)
  generalize hV : (((w.alloc (.cells #[.int .i64 k, .int .i64 n, .int .i64 y.kind, .int .i64 y.n, .slice b y.kids.length e0, .slice a 0 c] 27)).alloc (.cells #[.slice none 0 0] 48)).alloc (.cells #[.bool false] 4)).alloc (.cells #[.int .i64 k, .int .i64 n, .int .i64 y.kind, .int .i64 y.n, .slice b y.kids.length e0, .slice a 0 c] 27) = V at *
  obtain ⟨x0, x1, x2, x3, hs, hb⟩ := h4
  clear hV K40
  refine wpIn_wide.1 (range_none (n := 5) rfl (by omega) (gf := 45) (lb := #[.pointer (some ⟨w.heap.size + 3, 0, none⟩)]) rfl trivial (enters_of Try.func45 (by kernel_rfl) rfl) ?hseq ?hdone)
  case hseq =>
    intro l U hU
    exact spots_none l (w.heap.size + 3) hk ((hU.block _ (by omega)).trans x3)
  case hdone =>
    intro A hA hd
    have y1 := (hA.block (w.heap.size + 1) (by omega)).trans x1
    have y2 := (hA.block (w.heap.size + 2) (by omega)).trans x2
    have hbA : Below w.heap.size w A := hb.trans (hA.mono hb.size)
    have m1 := cell_of_row _ _ 0 _ _ _ y1
    have m2 := cell_of_row _ _ 0 _ _ _ y2
    have f1 := frozen_of_row _ _ 0 _ 48 y1
    have f2 := frozen_of_row _ _ 0 _ 4 y2
    go_wp2
    obtain ⟨z1, z2, zo, zb, zs⟩ := two_cells y1 y2 (.slice none 0 0) (.bool false)
    generalize hB : (A.setCell ⟨w.heap.size + 1, 0, none⟩ (.slice none 0 0)).setCell ⟨w.heap.size + 2, 0, none⟩ (.bool false) = B at *
    have hbB := zb _ _ (Nat.le_refl _) hbA
    have hdB := (zo V.heap.size (by omega) (by omega)).trans hd
    clear m1 m2 f1 f2 y1 y2
    refine ⟨by simp, .inl ⟨_, _, rfl, run_takeDeferred hdB, ?_⟩⟩
    have q1 : (B.putObj V.heap.size (.deferred none)).cell? ⟨w.heap.size + 1, 0, none⟩ = some (.slice none 0 0) := cell_of_row _ _ 0 _ _ _ ((World.putObj_heap_other (by omega)).trans z1)
    have q2 : (B.putObj V.heap.size (.deferred none)).cell? ⟨w.heap.size + 2, 0, none⟩ = some (.bool false) := cell_of_row _ _ 0 _ _ _ ((World.putObj_heap_other (by omega)).trans z2)
    refine ⟨_, ?_, rfl, hbB.trans ((Past.put V.heap.size B _).below (by omega) hbB.size)⟩
    simp [results, Try.f30, go_sem, q1, q2]
set_option maxHeartbeats 4000000 in
theorem first_yes {d : Nat} (n : Int) (y : Ty) (f : Tm) (ks : List Tm) (b : Option Addr) (e0 : Nat) (a : Option Addr) (c : Nat) (w : World) (h : TmAt w (d + 1) ⟨4, n, y, f :: ks⟩ b e0 a c) (hf : f.kind = 3) : Calls Try.prog 30 #[vtm ⟨4, n, y, f :: ks⟩ b e0 a c] w fun e w' => e = .returned (.tuple #[.slice none 0 0, .bool true]) ∧ Below w.heap.size w w' := by
  have K40 := spots_any ⟨4, n, y, f :: ks⟩ b e0 a c
  have HT : Hid (TmAt w (d + 1) ⟨4, n, y, f :: ks⟩ b e0 a c) := h
  unfold vtm at K40 ⊢
  dsimp only at K40 ⊢
  obtain ⟨L, hL⟩ : ∃ L, (f :: ks).length = L := ⟨_, rfl⟩
  have HL : Hid ((f :: ks).length = L) := hL
  rw [hL] at K40 ⊢
  clear hL h
  refine (callsIn_wide (n := 5)).1 ?_
  refine callsIn_of_wp_marks Try.func30 rfl trivial (wpIn_wide.2 ?_) rfl
  simp only [Try.ntmps30, List.size_toArray, List.length_cons, List.length_nil, Nat.reduceAdd, Nat.reduceSub, Array.replicate_succ, Array.replicate_zero, List.push_toArray, List.append_toArray, List.nil_append, List.cons_append]
  go_wp2_with (go_at_call 40; (with_reducible refine (K40 _).mono ?_); rintro e w1 ⟨rfl, rfl⟩)
  have h4 := four_blocks w (.cells #[.int .i64 4, .int .i64 n, .int .i64 y.kind, .int .i64 y.n, .slice b y.kids.length e0, .slice a L c] 27) (.cells #[.slice none 0 0] 48) (.cells #[.bool false] 4) (.cells #[.int .i64 4, .int .i64 n, .int .i64 y.kind, .int .i64 y.n, .slice b y.kids.length e0, .slice a L c] 27)
  generalize hV : (((w.alloc (.cells #[.int .i64 4, .int .i64 n, .int .i64 y.kind, .int .i64 y.n, .slice b y.kids.length e0, .slice a L c] 27)).alloc (.cells #[.slice none 0 0] 48)).alloc (.cells #[.bool false] 4)).alloc (.cells #[.int .i64 4, .int .i64 n, .int .i64 y.kind, .int .i64 y.n, .slice b y.kids.length e0, .slice a L c] 27) = V at *
  obtain ⟨x0, x1, x2, x3, hs, hb⟩ := h4
  clear hV K40
  refine wpIn_wide.1 (range_first (n := 5) rfl (by omega) (gf := 45) (lb := #[.pointer (some ⟨w.heap.size + 3, 0, none⟩)]) rfl trivial (enters_of Try.func45 (by kernel_rfl) rfl) (x := #[.slice none 0 0]) rfl ?hseq (fun A => A.heap[w.heap.size + 1]? = some (.cells #[.slice none 0 0] 48 (0, 0)) ∧ A.heap[w.heap.size + 2]? = some (.cells #[.bool true] 4 (0, 0)) ∧ Below w.heap.size w A) ?hR ?hround ?hstop)
  case hseq =>
    intro l U Jx hU hJ hY
    have hbU : Below w.heap.size w U := hb.trans (hU.mono hb.size)
    exact spots_first l (w.heap.size + 3) Jx (HT.out.below hbU) hf (by rw [HL.out]; exact (hU.block _ (by omega)).trans x3) (fun k A hA => yield_deep k (hY A hA))
  case hR =>
    rintro A B ⟨r1, r2, r3⟩ hlt hP
    exact ⟨(hP.block _ (by omega) (by omega)).trans r1, (hP.block _ (by omega) (by omega)).trans r2, r3.trans (hP.below (by omega) r3.size)⟩
  case hround =>
    intro A hA hsA
    refine ⟨{ tmps := #[.agg #[.int .i64 4, .int .i64 n, .int .i64 y.kind, .int .i64 y.n, .slice b y.kids.length e0, .slice a L c], .pointer (some ⟨w.heap.size, 0, none⟩), .pointer (some ⟨w.heap.size + 1, 0, none⟩), .pointer (some ⟨w.heap.size + 2, 0, none⟩), .slice none 0 0, .agg #[.int .i64 4, .int .i64 n, .int .i64 y.kind, .int .i64 y.n, .slice b y.kids.length e0, .slice a L c], .func (.func 45) #[] #[.pointer (some ⟨w.heap.size + 3, 0, none⟩)], .slice none 0 0, undef], defers := [] }, A, ?_, Below.refl _ _, ?_⟩
    · intro K hK
      gi_wp2
      exact hK
    · intro r
      have hA2 : Below V.heap.size V (A.putObj (V.heap.size + 1) (.loop r)) := hA.trans ((Past.put (V.heap.size + 1) A (.loop r)).below (by omega) hA.size)
      have hs2 : (A.putObj (V.heap.size + 1) (.loop r)).heap.size = A.heap.size := by simp
      generalize A.putObj (V.heap.size + 1) (.loop r) = C at *
      have y1 := (hA2.block (w.heap.size + 1) (by omega)).trans x1
      have y2 := (hA2.block (w.heap.size + 2) (by omega)).trans x2
      have hbC : Below w.heap.size w C := hb.trans (hA2.mono hb.size)
      have m1 := cell_of_row _ _ 0 _ _ _ y1
      have m2 := cell_of_row _ _ 0 _ _ _ y2
      have f1 := frozen_of_row _ _ 0 _ 48 y1
      have f2 := frozen_of_row _ _ 0 _ 4 y2
      obtain ⟨z1, z2, zo, zb, zs⟩ := two_cells y1 y2 (.slice none 0 0) (.bool true)
      gi_wp2
      exact ⟨by simp, zo _ (by omega) (by omega), zo _ (by omega) (by omega), z1, z2, zb _ _ (Nat.le_refl _) hbC⟩
  case hstop =>
    rintro A hsA ⟨z1, z2, hbB⟩ hdB
    gi_wp2
    refine ⟨by simp, .inl ⟨_, _, rfl, run_takeDeferred hdB, ?_⟩⟩
    have q1 : (A.putObj V.heap.size (.deferred none)).cell? ⟨w.heap.size + 1, 0, none⟩ = some (.slice none 0 0) := cell_of_row _ _ 0 _ _ _ ((World.putObj_heap_other (by omega)).trans z1)
    have q2 : (A.putObj V.heap.size (.deferred none)).cell? ⟨w.heap.size + 2, 0, none⟩ = some (.bool true) := cell_of_row _ _ 0 _ _ _ ((World.putObj_heap_other (by omega)).trans z2)
    refine ⟨_, ?_, rfl, hbB.trans ((Past.put V.heap.size A _).below (by omega) hbB.size)⟩
    simp [results, Try.f30, go_sem, q1, q2]
end Go.Proofs.Ytofbnfpncekddaa.Te
