/- asksRight. No conditions. -/
import Derived.Test.YtbmgkgoghgdbhaaRj
import Derived.Test.YtbmgkgoghgdbhaaRk
import Derived.Test.YtbmgkgoghgdbhaaRn
namespace Go.Proofs.Ytbmgkgoghgdbhaa.Te
open Go.RowKit

set_option maxRecDepth 100000 in
set_option maxHeartbeats 1000000 in
theorem asks_any {P : Nat → Prop} {d e : Nat} (p : Pf) (x : Pl) (w : World) (h : PfAt P w d e p x) : Calls Try.prog 18 #[vpf p x] w fun e w' => e = .returned (.int .i64 (rtE p)) ∧ Below w.heap.size w w' := by
  obtain ⟨O, hO⟩ : ∃ O, O = Obj.cells #[.int .i64 p.step, .slice x.la p.left.length x.lc, .int .i64 p.goal.kind, .int .i64 p.goal.n, .slice x.ga p.goal.kids.length x.gc, .int .i64 p.ix, .int .i64 p.n, .slice x.ka p.kids.length x.kc] 37 (0, 0) := ⟨_, rfl⟩
  have hVb : Below w.heap.size w (w.alloc O) := (Below.refl _ w).alloc (Nat.le_refl _) _
  have x1 := heap_alloc_new w O
  have K49 := psize_any e p x (w.alloc O) 200 (h.below hVb) (by omega)
  have HP : Hid (PfAt P w d e p x) := h
  obtain ⟨r, hr⟩ : ∃ r, rtE p = r := ⟨_, rfl⟩
  rw [hr]
  have HR : Hid (rtE p = r) := hr
  clear h hr
  rw [show ((200 : Nat) : Int) = 200 from rfl] at K49
  unfold vpf at K49 ⊢
  subst hO
  go_enter Try.func18, Try.ntmps18
  go_upto_region 1 with fail
  generalize hV : w.alloc (.cells #[.int .i64 p.step, .slice x.la p.left.length x.lc, .int .i64 p.goal.kind, .int .i64 p.goal.n, .slice x.ga p.goal.kids.length x.gc, .int .i64 p.ix, .int .i64 p.n, .slice x.ka p.kids.length x.kc] 37) = V at *
  clear hV
  have i0 := cell_of_row _ _ 0 _ _ _ x1
  have i1 := cell_of_row _ _ 1 _ _ _ x1
  have i2 := cell_of_row _ _ 2 _ _ _ x1
  have i3 := cell_of_row _ _ 3 _ _ _ x1
  have i4 := cell_of_row _ _ 4 _ _ _ x1
  have i5 := cell_of_row _ _ 5 _ _ _ x1
  have i6 := cell_of_row _ _ 6 _ _ _ x1
  have i7 := cell_of_row _ _ 7 _ _ _ x1
  go_upto_region 2 with (go_at_call 49; (with_reducible refine K49.mono ?_); rintro e1 w1 ⟨L, rfl, hL, hb1⟩; clear K49)
  have hB1 := hVb.trans (hb1.mono hVb.size)
  have x1 := (hb1.block _ (lt_of_get x1)).trans x1
  clear i0 i1 i2 i3 i4 i5 i6 i7
  have K50 := pparts_any e p x w1 (HP.out.below hB1)
  unfold vpf at K50
  have HLL : Hid (szp p ≤ 200 → (20 < L ↔ lgp p = true)) := hL
  clear hL
  obtain ⟨cc, hcc⟩ : ∃ cc, cap (szp p) 200 = cc := ⟨_, rfl⟩
  have hcb := cap_gt (szp p) 200
  rw [hcc] at hcb ⊢
  have HCB : Hid ((200 < cc) = (200 < szp p)) := hcb
  clear hcc hcb
  have i0 := cell_of_row _ _ 0 _ _ _ x1
  have i1 := cell_of_row _ _ 1 _ _ _ x1
  have i2 := cell_of_row _ _ 2 _ _ _ x1
  have i3 := cell_of_row _ _ 3 _ _ _ x1
  have i4 := cell_of_row _ _ 4 _ _ _ x1
  have i5 := cell_of_row _ _ 5 _ _ _ x1
  have i6 := cell_of_row _ _ 6 _ _ _ x1
  have i7 := cell_of_row _ _ 7 _ _ _ x1
  by_cases h200 : 200 < cc
  · have h200' : (200 : Int) < (cc : Int) := by omega
    have hr7 : r = 7 := by
      rw [← HR.out]
      unfold rtE
      rw [if_pos (.inl (HCB.out ▸ h200))]
    subst hr7
    go_wp2_with fail
    go_ret
    exact ⟨rfl, hB1⟩
  · have h200' : ¬ (200 : Int) < (cc : Int) := by omega
    have hsz : szp p ≤ 200 := by
      have := HCB.out
      rw [eq_iff_iff] at this
      omega
    have hLL := HLL.out hsz
    by_cases hL : 20 < L
    · have hr7 : r = 7 := by
        rw [← HR.out]
        unfold rtE
        rw [if_pos (.inr (hLL.1 hL))]
      subst hr7
      clear hLL hsz
      go_wp2_with fail
      go_ret
      exact ⟨rfl, hB1⟩
    · have hrr : cpf p = r := by
        rw [← HR.out]
        unfold rtE
        rw [if_neg (by
          rintro (h | h)
          · omega
          · exact hL (hLL.2 h))]
      clear hLL hsz
      rw [hrr] at K50
      go_wp2_with (go_at_call 50; (with_reducible refine K50.mono ?_); rintro e5 w5 ⟨rfl, hb5⟩; clear K50)
      go_ret
      exact ⟨rfl, hB1.trans (hb5.mono hB1.size)⟩
end Go.Proofs.Ytbmgkgoghgdbhaa.Te
