/- isSpot, goDown, spots: at a term that is a spot itself, and at one with nothing in it. -/
import Derived.Test.YtofbnfpncekddaaVa
import Derived.Test.YtofbnfpncekddaaTf
import Derived.Shelf.Abstract
import Derived.Shelf.RegionOpen
import Derived.OwnWalkIn
import Derived.TacticsInMore
import Derived.LoopNIn
import Derived.LoopIn
namespace Go.Proofs.Ytofbnfpncekddaa.Te
open Go.RowKit Go.Shelf Va
attribute [local go_sem] Oper.semAt_some

theorem yield_deep {m : Nat} (m' : Nat) {P : Program} {l : Nat} {args : Array Value} {W : World} {R : Ending → World → Prop} (h : YieldAt Fence.wide m P l args W R) : YieldAt Fence.wide m' P l args W R := by
  obtain ⟨fn, tmps, assign, body, hy, hR⟩ := h
  exact ⟨fn, tmps, assign, body, hy, ⟨hR.1, fun c cs _ => hR.2 c cs (fun d h => by cases h)⟩⟩
theorem spot_yes {d : Nat} {n : Int} {y : Ty} {f : Tm} {ks : List Tm} {b : Option Addr} {e0 : Nat} {a : Option Addr} {c : Nat} {w : World} (h : TmAt w (d + 1) ⟨4, n, y, f :: ks⟩ b e0 a c) (hf : f.kind = 3) : Calls Try.prog 52 #[vtm ⟨4, n, y, f :: ks⟩ b e0 a c] w fun e w' => e = .returned (.bool true) ∧ Below w.heap.size w w' := by
  obtain ⟨g1, off1, bf, ef, af, cf, ga, hg1, u0, _, _, _, _, _, _⟩ := h.kid (j := 0) (by simp)
  subst ga
  simp only [List.getElem_cons_zero, Nat.zero_mul, Nat.add_zero, hf] at u0
  have hfew : (f :: ks).length ≤ 140737488355328 := h.few.1
  have hpos : 0 < (f :: ks).length := by simp
  unfold vtm
  dsimp only
  generalize (f :: ks).length = L at *
  have hL : (0 : Int) < (L : Int) := by omega
  have hb0 : ∀ o, Below w.heap.size w (w.alloc o) := fun o => (Below.refl _ w).alloc (Nat.le_refl _) o
  have u0' := fun o => ((hb0 o).cell (p := ⟨g1, off1, none⟩) hg1).trans u0
  clear u0 h
  go_enter Try.func52, Try.ntmps52
  go_wp2
  go_ret
  exact ⟨rfl, hb0 _⟩
theorem spot_no {k n : Int} {y : Ty} {ks : List Tm} {b : Option Addr} {e0 : Nat} {a : Option Addr} {c : Nat} {w : World} (hk : k ≠ 4) : Calls Try.prog 52 #[vtm ⟨k, n, y, ks⟩ b e0 a c] w fun e w' => e = .returned (.bool false) ∧ Below w.heap.size w w' := by
  have bk : (k == 4) = false := by simpa using hk
  unfold vtm
  dsimp only
  go_enter Try.func52, Try.ntmps52
  go_wp2
  go_ret
  exact ⟨rfl, (Below.refl _ w).alloc (Nat.le_refl _) _⟩
set_option maxHeartbeats 4000000 in
theorem down_first {d m : Nat} {n : Int} {y : Ty} {f : Tm} {ks : List Tm} {b : Option Addr} {e0 : Nat} {a : Option Addr} {c : Nat} {w : World} (l : Nat) (Jx : World → Prop) (h : TmAt w (d + 1) ⟨4, n, y, f :: ks⟩ b e0 a c) (hf : f.kind = 3)
    (hY : ∀ k A, Below w.heap.size w A → YieldAt Fence.wide k Try.prog l #[.slice none 0 0] A fun e B => e = .returned (.bool false) ∧ Jx B) :
    CallsIn Fence.wide m Try.prog 46 #[vtm ⟨4, n, y, f :: ks⟩ b e0 a c, .slice none 0 0, .func (.yield l) #[] #[]] w fun e w' => (∃ v, e = .returned v) ∧ Jx w' := by
  have K52 := fun W (hW : Below w.heap.size w W) => callsIn_wide (n := m - 1) |>.2 (spot_yes (h.below hW) hf)
  have hb0 : ∀ o, Below w.heap.size w (w.alloc o) := fun o => (Below.refl _ w).alloc (Nat.le_refl _) o
  have hdd : ∀ k : Nat, (Fence.wide.depth.isSome = true → 1 ≤ k) := fun k h => by cases h
  unfold vtm at K52 ⊢
  dsimp only at K52 ⊢
  generalize (f :: ks).length = L at *
  clear h
  refine callsIn_of_wp Try.func46 rfl trivial ?_ rfl
  simp only [Try.ntmps46, List.size_toArray, List.length_cons, List.length_nil, Nat.reduceAdd, Nat.reduceSub, Array.replicate_succ, Array.replicate_zero, List.push_toArray, List.append_toArray, List.nil_append, List.cons_append]
  gi_wp2
  refine ⟨trivial, hdd _, ?_⟩
  (with_reducible refine (K52 _ (hb0 _)).mono ?_)
  rintro e W1 ⟨rfl, hb1⟩
  obtain ⟨fn, tmps, assign, body, hy, hR⟩ := hY (m - 1) W1 ((hb0 _).trans (hb1.mono (hb0 _).size))
  clear hY K52
  gi_wp2
  refine ⟨hdd _, hR.mono ?_⟩
  rintro e W3 ⟨rfl, hJ3⟩
  gi_wp2
  refine bodyPost_ret (results_tmp rfl _ _ _) rfl ?_
  exact ⟨⟨_, rfl⟩, hJ3⟩
set_option maxHeartbeats 4000000 in
theorem down_none {m : Nat} {k n : Int} {y : Ty} {b : Option Addr} {e0 : Nat} {a : Option Addr} {c : Nat} {w : World} (l : Nat) (hk : k ≠ 4) :
    CallsIn Fence.wide m Try.prog 46 #[vtm ⟨k, n, y, []⟩ b e0 a c, .slice none 0 0, .func (.yield l) #[] #[]] w fun e w' => (∃ v, e = .returned v) ∧ Below w.heap.size w w' := by
  have K52 := fun W => callsIn_wide (n := m - 1) |>.2 (spot_no (n := n) (y := y) (ks := []) (b := b) (e0 := e0) (a := a) (c := c) (w := W) hk)
  have hb0 : ∀ o, Below w.heap.size w (w.alloc o) := fun o => (Below.refl _ w).alloc (Nat.le_refl _) o
  have hdd : ∀ k : Nat, (Fence.wide.depth.isSome = true → 1 ≤ k) := fun k h => by cases h
  unfold vtm at K52 ⊢
  dsimp only at K52 ⊢
  rw [show ([] : List Tm).length = 0 from rfl] at K52 ⊢
  refine callsIn_of_wp Try.func46 rfl trivial ?_ rfl
  simp only [Try.ntmps46, List.size_toArray, List.length_cons, List.length_nil, Nat.reduceAdd, Nat.reduceSub, Array.replicate_succ, Array.replicate_zero, List.push_toArray, List.append_toArray, List.nil_append, List.cons_append]
  gi_wp2
  refine ⟨trivial, hdd _, ?_⟩
  (with_reducible refine (K52 _).mono ?_)
  rintro e W1 ⟨rfl, hb1⟩
  have hbw := (hb0 (.cells #[.int .i64 k, .int .i64 n, .int .i64 y.kind, .int .i64 y.n, .slice b y.kids.length e0, .slice a 0 c] 27)).trans (hb1.mono (hb0 _).size)
  have q5 := (hb1.cell (p := ⟨w.heap.size, 5, none⟩) (by simp)).trans (cell_of_row _ _ 5 _ _ _ (heap_alloc_new w (.cells #[.int .i64 k, .int .i64 n, .int .i64 y.kind, .int .i64 y.n, .slice b y.kids.length e0, .slice a 0 c] 27)))
  clear K52 hb1
  gi_wp2
  refine ⟨fun _ h => (by cases h), ?_⟩
  gi_wp2
  gi_loopw [7, 8, 20] (fun _ _ iv wr => iv = .int .i64 0 ∧ Below w.heap.size w wr) (fun _ _ _ _ => 0)
  case atStart => exact ⟨rfl, hbw⟩
  case round =>
    obtain ⟨rfl, hB⟩ := hrel
    gi_wp2
    refine bodyPost_ret (results_tmp rfl _ _ _) rfl ?_
    exact ⟨⟨_, rfl⟩, hB⟩
/-- the function that spots hands back -/
theorem spots_first {d m : Nat} {n : Int} {y : Ty} {f : Tm} {ks : List Tm} {b : Option Addr} {e0 : Nat} {a : Option Addr} {c : Nat} {w : World} (l B : Nat) (Jx : World → Prop) (h : TmAt w (d + 1) ⟨4, n, y, f :: ks⟩ b e0 a c) (hf : f.kind = 3)
    (hB : w.heap[B]? = some (.cells #[.int .i64 4, .int .i64 n, .int .i64 y.kind, .int .i64 y.n, .slice b y.kids.length e0, .slice a (f :: ks).length c] 27 (0, 0)))
    (hY : ∀ k A, Below w.heap.size w A → YieldAt Fence.wide k Try.prog l #[.slice none 0 0] A fun e B => e = .returned (.bool false) ∧ Jx B) :
    CallsIn Fence.wide m Try.prog 45 #[.func (.yield l) #[] #[], .pointer (some ⟨B, 0, none⟩)] w fun e w' => (∃ v, e = .returned v) ∧ Jx w' := by
  have K46 := down_first (m := m - 1) l Jx h hf hY
  have hdd : ∀ k : Nat, (Fence.wide.depth.isSome = true → 1 ≤ k) := fun k h => by cases h
  unfold vtm at K46
  dsimp only at K46
  have q0 := cell_of_row _ _ 0 _ _ _ hB
  have q1 := cell_of_row _ _ 1 _ _ _ hB
  have q2 := cell_of_row _ _ 2 _ _ _ hB
  have q3 := cell_of_row _ _ 3 _ _ _ hB
  have q4 := cell_of_row _ _ 4 _ _ _ hB
  have q5 := cell_of_row _ _ 5 _ _ _ hB
  clear hY h hB
  generalize (f :: ks).length = L at *
  refine callsIn_of_wp Try.func45 rfl trivial ?_ rfl
  simp only [Try.ntmps45, List.size_toArray, List.length_cons, List.length_nil, Nat.reduceAdd, Nat.reduceSub, Array.replicate_succ, Array.replicate_zero, List.push_toArray, List.append_toArray, List.nil_append, List.cons_append]
  gi_wp2
  refine ⟨trivial, hdd _, ?_⟩
  (with_reducible refine K46.mono ?_)
  rintro e W1 ⟨⟨v, rfl⟩, hJ⟩
  gi_wp2
  go_end0
  exact ⟨⟨_, rfl⟩, hJ⟩
theorem spots_none {m : Nat} {k n : Int} {y : Ty} {b : Option Addr} {e0 : Nat} {a : Option Addr} {c : Nat} {w : World} (l B : Nat) (hk : k ≠ 4)
    (hB : w.heap[B]? = some (.cells #[.int .i64 k, .int .i64 n, .int .i64 y.kind, .int .i64 y.n, .slice b y.kids.length e0, .slice a 0 c] 27 (0, 0))) :
    CallsIn Fence.wide m Try.prog 45 #[.func (.yield l) #[] #[], .pointer (some ⟨B, 0, none⟩)] w fun e w' => (∃ v, e = .returned v) ∧ Below w.heap.size w w' := by
  have K46 := down_none (m := m - 1) (n := n) (y := y) (b := b) (e0 := e0) (a := a) (c := c) (w := w) l hk
  have hdd : ∀ k : Nat, (Fence.wide.depth.isSome = true → 1 ≤ k) := fun k h => by cases h
  unfold vtm at K46
  dsimp only at K46
  rw [show ([] : List Tm).length = 0 from rfl] at K46
  have q0 := cell_of_row _ _ 0 _ _ _ hB
  have q1 := cell_of_row _ _ 1 _ _ _ hB
  have q2 := cell_of_row _ _ 2 _ _ _ hB
  have q3 := cell_of_row _ _ 3 _ _ _ hB
  have q4 := cell_of_row _ _ 4 _ _ _ hB
  have q5 := cell_of_row _ _ 5 _ _ _ hB
  clear hB
  refine callsIn_of_wp Try.func45 rfl trivial ?_ rfl
  simp only [Try.ntmps45, List.size_toArray, List.length_cons, List.length_nil, Nat.reduceAdd, Nat.reduceSub, Array.replicate_succ, Array.replicate_zero, List.push_toArray, List.append_toArray, List.nil_append, List.cons_append]
  gi_wp2
  refine ⟨trivial, hdd _, ?_⟩
  (with_reducible refine K46.mono ?_)
  rintro e W1 ⟨⟨v, rfl⟩, hJ⟩
  gi_wp2
  go_end0
  exact ⟨⟨_, rfl⟩, hJ⟩
theorem spots_any (t : Tm) (b : Option Addr) (e0 : Nat) (a : Option Addr) (c : Nat) (w : World) : Calls Try.prog 40 #[vtm t b e0 a c] w fun e w' => e = .returned (.func (.func 45) #[] #[.pointer (some ⟨w.heap.size, 0, none⟩)]) ∧ w' = w.alloc (.cells #[.int .i64 t.kind, .int .i64 t.n, .int .i64 t.ty.kind, .int .i64 t.ty.n, .slice b t.ty.kids.length e0, .slice a t.kids.length c] 27) := by
  unfold vtm
  go_enter Try.func40, Try.ntmps40
  go_wp2
  go_ret
  exact ⟨rfl, rfl⟩
end Go.Proofs.Ytofbnfpncekddaa.Te
