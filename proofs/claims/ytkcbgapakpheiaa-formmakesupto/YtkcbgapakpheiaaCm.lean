/- The program's Clash. No conditions beyond how the lexicon lies. -/
import Derived.Test.YtkcbgapakpheiaaCl
namespace Go.Proofs.Ytkcbgapakpheiaa.Cm
open Go.RowKit Go.Shelf Sd Md Sc Aq Ls Lx Ly Lz Fo Mk Rf Tk Tk1 Rd Rf2 Fo2 Al2 Tk2 Tb Tc Ri Cl
attribute [local go_sem] Oper.semAt_some

def rv (p : Nat × Nat) : Value := .agg #[.int .i64 p.1, .int .i64 p.2]
def clX (y : VX) : Option ((Nat × Nat) × (Nat × Nat)) := if checkX y.lex = 0 then clashL (toldX y) else none

theorem two_of {W : World} {b : Nat} {x z : Value} {t : Nat} (h : W.heap[b]? = some (.cells #[x, z] t (0, 0))) : W.cell? ⟨b, 0, none⟩ = some x ∧ W.cell? ⟨b, 1, none⟩ = some z ∧ W.frozen? ⟨b, 0, none⟩ = false ∧ W.frozen? ⟨b, 1, none⟩ = false := by
  refine ⟨?_, ?_, ?_, ?_⟩ <;> simp [World.cell?, World.frozen?, h]

theorem below_set {n : Nat} {w W : World} (h : Below n w W) (a : Addr) (v : Value) (ha : n ≤ a.block) : Below n w (W.setCell a v) :=
  h.trans ⟨rfl, rfl, rfl, (KeepsWalks.setCell W a v).size, fun k hk => Below.heap_setCell _ _ _ k (by omega)⟩

set_option maxRecDepth 100000 in
theorem results13 (ts : Array Value) (b2 b3 : Nat) (W : World) {x z x' z' : Value} (h2 : ts.getD 2 undef = .pointer (some ⟨b2, 0, none⟩)) (h3 : ts.getD 3 undef = .pointer (some ⟨b3, 0, none⟩))
    (c1 : W.cell? ⟨b2, 0, none⟩ = some x) (c2 : W.cell? ⟨b2, 1, none⟩ = some z) (c3 : W.cell? ⟨b3, 0, none⟩ = some x') (c4 : W.cell? ⟨b3, 1, none⟩ = some z') :
    (results Try.f13 ts).run Try.prog W = .ok (.tuple #[.agg #[x, z], .agg #[x', z'], ts.getD 4 undef, ts.getD 5 undef]) W := by
  have e : Try.f13.results = #[.cell 2 40, .cell 3 40, .tmp 4, .tmp 5] := rfl
  have h2' : ts[2]?.getD undef = .pointer (some ⟨b2, 0, none⟩) := by simpa using h2
  have h3' : ts[3]?.getD undef = .pointer (some ⟨b3, 0, none⟩) := by simpa using h3
  clear h2 h3
  unfold results
  rw [e]
  go_simp

set_option maxHeartbeats 4000000 in
set_option maxRecDepth 100000 in
theorem clash_bad (y : VX) (w : World) (h : IsX w y) (hck : checkX y.lex ≠ 0) :
    Calls Try.prog 13 #[y.val] w fun e w' => e = .returned (.tuple #[rv (0, 0), rv (0, 0), .bool false, .int .i64 (checkX y.lex)]) ∧ Below w.heap.size w w' := by
  have hb3 : ∀ o1 o2 o3, Below w.heap.size w (((w.alloc o1).alloc o2).alloc o3) := fun o1 o2 o3 => (((Below.refl _ w).alloc (Nat.le_refl _) o1).alloc (by simp) o2).alloc (by simp; omega) o3
  have c10 := fun o1 o2 o3 => Xb.check_any y (((w.alloc o1).alloc o2).alloc o3) (h.below (hb3 o1 o2 o3))
  have hne : (checkX y.lex != 0) = true := by simpa using hck
  generalize checkX y.lex = r at c10 hne
  obtain ⟨k, vs, vc, vh, sts, ces, xs⟩ := y
  simp only [VX.val] at c10 ⊢
  have z2 : ∀ o o3, (((w.alloc o).alloc (.cells #[.int .i64 0, .int .i64 0] 40)).alloc o3).heap[w.heap.size + 1]? = some (.cells #[.int .i64 0, .int .i64 0] 40 (0, 0)) := by
    intro o o3
    have := World.alloc_heap_new (w.alloc o) (.cells #[.int .i64 0, .int .i64 0] 40)
    rw [World.size_alloc] at this
    exact ((al _ o3).block _ (by simp)).trans this
  have z3 : ∀ o o2, (((w.alloc o).alloc o2).alloc (.cells #[.int .i64 0, .int .i64 0] 40)).heap[w.heap.size + 1 + 1]? = some (.cells #[.int .i64 0, .int .i64 0] 40 (0, 0)) := by
    intro o o2
    have := World.alloc_heap_new ((w.alloc o).alloc o2) (.cells #[.int .i64 0, .int .i64 0] 40)
    rw [World.size_alloc, World.size_alloc] at this
    exact this
  clear h hck
  refine (callsIn_wide (n := 5)).1 ?_
  refine callsIn_of_wp_marks Try.func13 rfl trivial (wpIn_wide.2 ?_) rfl
  simp only [Try.ntmps13, List.size_toArray, List.length_cons, List.length_nil, Nat.reduceAdd, Nat.reduceSub, Array.replicate_succ, Array.replicate_zero, List.push_toArray, List.append_toArray, List.nil_append, List.cons_append]
  go_wp2_with (go_at_call 10; refine (c10 _ _ _).mono ?_; rintro e w1 ⟨rfl, hb⟩; obtain ⟨g1, g2, g3, g4⟩ := two_of ((hb.block (w.heap.size + 1) (by simp)).trans (z2 _ _)); obtain ⟨g5, g6, g7, g8⟩ := two_of ((hb.block (w.heap.size + 1 + 1) (by simp)).trans (z3 _ _)))
  refine ⟨_, results13 _ (w.heap.size + 1) (w.heap.size + 1 + 1) _ rfl rfl (x := .int .i64 0) (z := .int .i64 0) (x' := .int .i64 0) (z' := .int .i64 0) (by go_simp) (by go_simp) (by go_simp) (by go_simp), rfl, ?_⟩
  have B1 := (hb3 _ _ _).trans (hb.mono (hb3 _ _ _).size)
  exact below_set (below_set (below_set (below_set B1 _ _ (by dsimp only; omega)) _ _ (by dsimp only; omega)) _ _ (by dsimp only; omega)) _ _ (by dsimp only; omega)
end Go.Proofs.Ytkcbgapakpheiaa.Cm
