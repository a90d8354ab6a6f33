/- More on a machine that is being made: its first arcs; arcs more. -/
import Derived.Test.YtegfhbjdfcoajaaTu
namespace Go.Proofs.Ytegfhbjdfcoajaa.Rb
open Go.RowKit Mv Ps Bw Ma Mc Eb Tb Tu

section
variable {W0 W : World} {st : Int} {A : List A5} {x : Value} {F : List (Int × Int)} {y : Value}
theorem Em.arcs0 {w' : World} {A' : List A5} {x' : Value} (h : Em W0 st A x F y W) (hb : Below W.heap.size W w') (ho : w'.ownsRow W.heap.size 46 5 x' A'.length (acs A')) :
    (w'.cell? ⟨W0.heap.size, 1, none⟩ = some x ∧ w'.frozen? ⟨W0.heap.size, 1, none⟩ = false) ∧ Em W0 st A' x' F y (w'.setCell ⟨W0.heap.size, 1, none⟩ x') := by
  have h2 := h.below hb
  have hz := h.big
  have e1 := heap_setCell_same w' W0.heap.size 1 _ 25 x' h2.gb
  refine ⟨⟨h2.c1, frozen_of_row _ _ 1 _ 25 h2.gb⟩, ⟨h2.bel.setCell (p := ⟨W0.heap.size, 1, none⟩) (Nat.le_refl _) x', e1, ownsRow_setCell_below (ho.mono hz) (a := ⟨W0.heap.size, 1, none⟩) (Nat.lt_succ_self _) x', ownsRow_setCell_below h2.rf (a := ⟨W0.heap.size, 1, none⟩) (Nat.lt_succ_self _) x', ?_⟩⟩
  intro k hk hyk
  have h3 := (h.rf.lt _ hyk).2
  have h4 := (ho.lt _ hk).1
  omega
end
section
variable {W V : World} {st : Int} {A : List A5} {x : Value} {F : List (Int × Int)} {y : Value} {G : Nat}
theorem Tm.arcs0 {w' : World} {A' : List A5} {x' : Value} (h : Tm W st A x F y G V) (hb : Below V.heap.size V w') (ho : w'.ownsRow V.heap.size 46 5 x' A'.length (acs A')) :
    (w'.cell? ⟨G, 1, none⟩ = some x ∧ w'.frozen? ⟨G, 1, none⟩ = false) ∧ Tm W st A' x' F y G (w'.setCell ⟨G, 1, none⟩ x') := by
  have h2 := h.below hb
  have hGl := (Array.getElem?_eq_some_iff.1 h.gb).1
  have e1 := heap_setCell_same w' G 1 _ 25 x' h2.gb
  have ax : x'.ownBlock ≠ some G := fun e => by have := (ho.lt _ e).1; omega
  refine ⟨⟨h2.c1, frozen_of_row _ _ 1 _ 25 h2.gb⟩, ⟨h2.bel.setCell (p := ⟨G, 1, none⟩) h.lo x', h.lo, e1, own_set' (ho.mono h.bel.size) ax _ _, own_set' h2.rf h.ay _ _, ?_, ax, h.ay⟩⟩
  intro k hk hyk
  have h3 := (h.rf.lt _ hyk).2
  have h4 := (ho.lt _ hk).1
  omega
theorem Tm.arcs {V2 w' : World} {B : List A5} {x' : Value} (h : Tm W st A x F y G V) (hb : Below V.heap.size V V2) (ho : w'.ownsRow W.heap.size 46 5 x' (A.length + B.length) (acs A ++ acs B)) (hg : V2.grownBy w' x.ownBlock) (hx : x'.ownBlock = x.ownBlock ∨ x'.ownBlock = some V2.heap.size) :
    (w'.cell? ⟨G, 1, none⟩ = some x ∧ w'.frozen? ⟨G, 1, none⟩ = false) ∧ Tm W st (A ++ B) x' F y G (w'.setCell ⟨G, 1, none⟩ x') := by
  have h2 := h.below hb
  have hGl := (Array.getElem?_eq_some_iff.1 h2.gb).1
  have hz := h2.bel.size
  have hB : Below W.heap.size V2 w' := below_of_grown hg h2.ra hz
  have g1 : w'.heap[G]? = some (.cells #[.int .i64 st, x, y] 25 (0, 0)) := (hg.block _ hGl (fun e => h2.ax e.symm)).trans h2.gb
  have e1 := heap_setCell_same w' G 1 _ 25 x' g1
  have ax : x'.ownBlock ≠ some G := by
    rcases hx with hx | hx
    · rw [hx]; exact h.ax
    · rw [hx]; intro e; cases e; omega
  have ap : ∀ k, x'.ownBlock = some k → y.ownBlock ≠ some k := by
    intro k hk hyk
    rcases hx with hx | hx
    · exact h.ap k (hx ▸ hk) hyk
    · rw [hx] at hk
      cases hk
      have := (h2.rf.lt _ hyk).2
      omega
  refine ⟨⟨cell_of_row _ _ 1 _ 25 (0, 0) g1, frozen_of_row _ _ 1 _ 25 g1⟩, ⟨(h2.bel.trans hB).setCell (p := ⟨G, 1, none⟩) h.lo x', h.lo, e1, ?_, ?_, ap, ax, h.ay⟩⟩
  · have := own_set' ho ax 1 x'
    rw [List.length_append]
    have e : acs (A ++ B) = acs A ++ acs B := by simp [acs]
    rw [e]
    exact this
  · refine own_set' (h2.rf.kept hg ?_) h.ay _ _
    cases hy : y.ownBlock with
    | none => exact .inl rfl
    | some k => exact .inr (fun e => h2.ap k e.symm hy)
/-- a machine without arcs, its one final laid ahead of it -/
theorem Tm.first (W : World) (st : Int) : Tm W st [] nilS [(0, 0)] (.slice (some ⟨W.heap.size, 0, none⟩) 1 1) (W.heap.size + 1) ((W.alloc (.cells #[.int .i64 0, .int .i64 0] 48)).alloc (.cells #[.int .i64 st, nilS, .slice (some ⟨W.heap.size, 0, none⟩) 1 1] 25)) := by
  have e : (W.alloc (.cells #[.int .i64 0, .int .i64 0] 48)).heap.size = W.heap.size + 1 := by simp
  have h := tm_new (W := W) (V := W.alloc (.cells #[.int .i64 0, .int .i64 0] 48)) (st := st) (A := []) (x := nilS) (F := [(0, 0)]) (y := .slice (some ⟨W.heap.size, 0, none⟩) 1 1) ((Below.refl _ W).alloc (Nat.le_refl _) _) (World.ownsRow_nil _ _ _ _) (World.ownsRow_lit W #[.int .i64 0, .int .i64 0] 1 (Nat.le_refl _) (by unfold maxLen; omega) rfl) (fun k h => by simp [Value.ownBlock] at h)
  rw [e] at h
  exact h
end
/-- what comes of the finals, as arcs -/
theorem fins_next {α β : Type} (f : α → β) (l : List α) (k : Nat) (h : k < l.length) : (l.take (k + 1)).map f = (l.take k).map f ++ [f l[k]] := by
  rw [List.take_succ_eq_append_getElem h, List.map_append]; rfl
end Go.Proofs.Ytegfhbjdfcoajaa.Rb
