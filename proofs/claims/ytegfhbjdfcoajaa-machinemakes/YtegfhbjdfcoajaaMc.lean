/- checkBoth, ifFew, light. Condition: for ifFew and light the machine is small. -/
import Derived.Test.YtegfhbjdfcoajaaRz
import Derived.Test.YtegfhbjdfcoajaaMf
import Derived.Laws.ResultCell
namespace Go.Proofs.Ytegfhbjdfcoajaa.Mc
open Go.RowKit Mv Wk Sy Rz

theorem box3 {w wr : World} {a b c : Value} (h : Below (w.alloc (.cells #[a, b, c] 25)).heap.size (w.alloc (.cells #[a, b, c] 25)) wr) : wr.cell? ⟨w.heap.size, 0, none⟩ = some a ∧ wr.cell? ⟨w.heap.size, 1, none⟩ = some b ∧ wr.cell? ⟨w.heap.size, 2, none⟩ = some c := by
  have hl : w.heap.size < (w.alloc (.cells #[a, b, c] 25)).heap.size := by simp
  have hn := heap_alloc_new w (.cells #[a, b, c] 25)
  exact ⟨(h.cell (p := ⟨w.heap.size, 0, none⟩) hl).trans (cell_of_row _ _ 0 _ 25 (0, 0) hn), (h.cell (p := ⟨w.heap.size, 1, none⟩) hl).trans (cell_of_row _ _ 1 _ 25 (0, 0) hn), (h.cell (p := ⟨w.heap.size, 2, none⟩) hl).trans (cell_of_row _ _ 2 _ 25 (0, 0) hn)⟩
/-- the second of two boxes -/
theorem box3' {w wr : World} {a b c : Value} {o : Obj} (h : Below ((w.alloc o).alloc (.cells #[a, b, c] 25)).heap.size ((w.alloc o).alloc (.cells #[a, b, c] 25)) wr) : wr.cell? ⟨w.heap.size + 1, 0, none⟩ = some a ∧ wr.cell? ⟨w.heap.size + 1, 1, none⟩ = some b ∧ wr.cell? ⟨w.heap.size + 1, 2, none⟩ = some c := by
  have e : (w.alloc o).heap.size = w.heap.size + 1 := by simp
  have := box3 h
  rw [e] at this
  exact this

theorem row25 : (Try.prog.info? 25).map (·.size) = some 3 := by kernel_rfl
/-- two results, of which the first lies in a block -/
theorem results_row_tmp {P : Program} {fn : Func} {p u : Tmp} {ty : TypeId} (h : fn.results = #[.cell p ty, .tmp u]) (tmps : Array Value) (w : World) (g : Nat) (t : TypeId) (cs : Array Value) (fr : Nat × Nat) (d : TypeDesc)
    (hp : tmps.getD p undef = .pointer (some ⟨g, 0, none⟩)) (hg : w.heap[g]? = some (.cells cs t fr))
    (hu : P.underlying ty = some d) (hd : (match d with | .struct _ | .array _ _ => true | _ => false) = true) (hi : (P.info? ty).map (·.size) = some cs.size) :
    (results fn tmps).run P w = .ok (.tuple #[.agg cs, tmps.getD u undef]) w := by
  rw [results_cell_tmp h, hp]
  simp [asAddr, run_loadVar_row w g t ty cs fr d hg hu hd hi]
theorem second (w : World) (a b : Obj) : ((w.alloc a).alloc b).heap[w.heap.size + 1]? = some b := by
  have s1 : (w.alloc a).heap.size = w.heap.size + 1 := by simp
  rw [← s1]
  exact heap_alloc_new _ _

def both (x y : Int) : Int := if x = 0 then y else x
set_option maxHeartbeats 1000000 in
theorem both_any (a b : M) (va vb : Value) (x y : Int) (w : World) (ha : IsM w va a) (hb : IsM w vb b) (hx : checkP a x) (hy : checkP b y) : Calls Try.prog 22 #[va, vb] w fun e w' => e = .returned (.int .i64 (both x y)) ∧ Below w.heap.size w w' := by
  have cA : ∀ W, Below w.heap.size w W → Calls Try.prog 26 #[va] W fun e W' => e = .returned (.int .i64 x) ∧ Below W.heap.size W W' := fun W hW => (CkP.check_any a va W (ha.below hW)).mono (fun e W' ⟨⟨z, h1, h2⟩, h3⟩ => ⟨by rw [h1, checkP_one h2 hx], h3⟩)
  have cB : ∀ W, Below w.heap.size w W → Calls Try.prog 26 #[vb] W fun e W' => e = .returned (.int .i64 y) ∧ Below W.heap.size W W' := fun W hW => (CkP.check_any b vb W (hb.below hW)).mono (fun e W' ⟨⟨z, h1, h2⟩, h3⟩ => ⟨by rw [h1, checkP_one h2 hy], h3⟩)
  obtain ⟨a1, a2, rfl, _, _⟩ := ha
  obtain ⟨b1, b2, rfl, _, _⟩ := hb
  have hb0 : ∀ o o', Below w.heap.size w ((w.alloc o).alloc o') := fun o o' => ((Below.refl _ w).alloc (Nat.le_refl _) o).alloc (by simp) o'
  clear hx hy
  by_cases h : x = 0
  · have HR : Hid (both x y = y) := if_pos h
    subst h
    go_enter Try.func22, Try.ntmps22
    go_wp2_with (first | (go_at_call 26; with_reducible refine (cA _ (hb0 _ _)).mono ?_; rintro e w1 ⟨rfl, hb1⟩; have hw1 : Below w.heap.size w w1 := (hb0 _ _).trans (hb1.mono (by simp; omega)); have bx := box3' hb1; obtain ⟨bx0, bx1, bx2⟩ := bx) | (go_at_call 26; with_reducible refine (cB w1 hw1).mono ?_; rintro e w2 ⟨rfl, hb2⟩; have hw2 : Below w.heap.size w w2 := hw1.trans (hb2.mono hw1.size)))
    go_ret
    exact ⟨by rw [HR.out]; rfl, hw2⟩
  · have HR : Hid (both x y = x) := if_neg h
    have e0 : (x != 0) = true := by simpa using h
    go_enter Try.func22, Try.ntmps22
    go_wp2_with (go_at_call 26; with_reducible refine (cA _ (hb0 _ _)).mono ?_; rintro e w1 ⟨rfl, hb1⟩; have hw1 : Below w.heap.size w w1 := (hb0 _ _).trans (hb1.mono (by simp; omega)); have bx := box3' hb1; obtain ⟨bx0, bx1, bx2⟩ := bx)
    go_ret
    exact ⟨by rw [HR.out]; rfl, hw1⟩

set_option maxHeartbeats 1000000 in
theorem few_any' (st : Int) (aa af : Option Addr) (na ca nf cf : Nat) (w : World) (h1 : st ≤ 3000) (h2 : na ≤ 20000) : Calls Try.prog 25 #[.agg #[.int .i64 st, .slice aa na ca, .slice af nf cf]] w fun e w' => e = .returned (.tuple #[.agg #[.int .i64 st, .slice aa na ca, .slice af nf cf], .int .i64 0]) ∧ Below w.heap.size w w' := by
  have e1 : ¬ (3000 : Int) < st := by omega
  have e2 : ¬ (20000 : Int) < (na : Int) := by omega
  go_enter Try.func25, Try.ntmps25
  go_wp2
  repeat (go_quiet (fail); go_wp2)
  exact bodyPost_ret (results_row_tmp rfl _ _ (w.heap.size + 1) 25 _ (0, 0) _ rfl (second w _ _) Try.underlying25 rfl row25) rfl ⟨rfl, ((Below.refl _ w).alloc (Nat.le_refl _) _).alloc (by simp) _⟩
end Go.Proofs.Ytegfhbjdfcoajaa.Mc
