/- joinedOf (37): many rows of numbers that grow side by side, each in a block of its own; how the parts of the smaller scores lie while they are made. No conditions. -/
import Derived.Test.YtpolnkdbebjpnaaMf
namespace Go.Proofs.Ytpolnkdbebjpnaa.Hd
open Go.RowKit

abbrev Tm := Nat → Value × List Value
def upT (T : Tm) (k : Nat) (v : Value × List Value) : Tm := fun j => if j = k then v else T j
theorem upT_same (T : Tm) (k : Nat) (v : Value × List Value) : upT T k v k = v := if_pos rfl
theorem upT_ne (T : Tm) {k j : Nat} (v : Value × List Value) (h : j ≠ k) : upT T k v j = T j := if_neg h
/-- rows of numbers, none in another one's block -/
structure Ths (w wr : World) (T : Tm) : Prop where
  own : ∀ k, wr.ownsRow w.heap.size 3 1 (T k).1 (T k).2.length (T k).2
  sep : ∀ j k b, j ≠ k → (T j).1.ownBlock = some b → (T k).1.ownBlock ≠ some b
section
variable {w wr w1 : World} {T : Tm}
theorem Ths.kept {X : Nat → Prop} (h : Ths w wr T) (hk : Kp X wr w1) (hX : ∀ b c, wr.heap[b]? = some (.cells c 3 (0, 0)) → w.heap.size ≤ b → ¬ X b) : Ths w w1 T :=
  ⟨fun k => own_kp2 (h.own k) hk (fun b hb => by obtain ⟨d, hd⟩ := own_ty (h.own k) hb; exact hX b d hd ((h.own k).lt b hb).1), h.sep⟩
theorem Ths.laid (h : Ths w wr T) (hb : Below wr.heap.size wr w1) : Ths w w1 T := h.kept (kp_below hb (fun _ => False)) (fun _ _ _ _ => id)
/-- a new box -/
theorem Ths.box (h : Ths w wr T) (hs : w.heap.size ≤ wr.heap.size) (k : Nat) (x : Value) : Ths w (wr.alloc (.cells #[x] 3)) (upT T k (.slice (some ⟨wr.heap.size, 0, none⟩) 1 1, [x])) := by
  have hl := h.laid (below_al wr (.cells #[x] 3))
  have hlt : ∀ j b, (T j).1.ownBlock = some b → b ≠ wr.heap.size := fun j b hb => by have := ((h.own j).lt b hb).2; omega
  refine ⟨fun j => ?_, fun i j b hij hi hj => ?_⟩
  · by_cases e : j = k
    · subst e; rw [upT_same]; exact own_nil_new wr x w.heap.size 3 hs
    · rw [upT_ne T _ e]; exact hl.own j
  · by_cases e : i = k
    · subst e
      rw [upT_same] at hi
      rw [upT_ne T _ (fun e => hij e.symm)] at hj
      have hi : some wr.heap.size = some b := hi
      injection hi with hi
      exact hlt j b hj hi.symm
    · rw [upT_ne T _ e] at hi
      by_cases e2 : j = k
      · subst e2
        rw [upT_same] at hj
        have hj : some wr.heap.size = some b := hj
        injection hj with hj
        exact hlt i b hi hj.symm
      · rw [upT_ne T _ e2] at hj
        exact h.sep i j b hij hi hj
/-- a row is let go -/
theorem Ths.drop (h : Ths w wr T) (k : Nat) : Ths w wr (upT T k (.slice none 0 0, [])) := by
  refine ⟨fun j => ?_, fun i j b hij hi hj => ?_⟩
  · by_cases e : j = k
    · subst e; rw [upT_same]; exact World.ownsRow_nil _ _ _ _
    · rw [upT_ne T _ e]; exact h.own j
  · by_cases e : i = k
    · subst e; rw [upT_same] at hi; cases hi
    · by_cases e2 : j = k
      · subst e2; rw [upT_same] at hj; cases hj
      · rw [upT_ne T _ e] at hi; rw [upT_ne T _ e2] at hj; exact h.sep i j b hij hi hj
/-- a row is handed on: from place k to place l -/
theorem Ths.move (h : Ths w wr T) {k l : Nat} (hkl : k ≠ l) : Ths w wr (upT (upT T l (T k)) k (.slice none 0 0, [])) := by
  refine ⟨fun j => ?_, fun i j b hij hi hj => ?_⟩
  · by_cases e : j = k
    · subst e; rw [upT_same]; exact World.ownsRow_nil _ _ _ _
    · rw [upT_ne _ _ e]
      by_cases e2 : j = l
      · subst e2; rw [upT_same]; exact h.own k
      · rw [upT_ne _ _ e2]; exact h.own j
  · by_cases e : i = k
    · subst e; rw [upT_same] at hi; cases hi
    · by_cases e2 : j = k
      · subst e2; rw [upT_same] at hj; cases hj
      · rw [upT_ne _ _ e] at hi; rw [upT_ne _ _ e2] at hj
        by_cases e3 : i = l
        · subst e3
          rw [upT_same] at hi
          rw [upT_ne _ _ (fun e => hij e.symm)] at hj
          exact h.sep k j b (fun e4 => e2 e4.symm) hi hj
        · rw [upT_ne _ _ e3] at hi
          by_cases e4 : j = l
          · subst e4; rw [upT_same] at hj; exact h.sep i k b e hi hj
          · rw [upT_ne _ _ e4] at hj; exact h.sep i j b hij hi hj
/-- a row grows -/
theorem Ths.grow {k n : Nat} {v1 : Value} {xs : List Value} {wa : World} (h : Ths w wr T) (hb : Below wr.heap.size wr wa) (hv : w1.ownsRow w.heap.size 3 1 v1 n xs) (hn : n = xs.length) (hg : wa.grownBy w1 (T k).1.ownBlock) (hnew : v1.ownBlock = (T k).1.ownBlock ∨ v1.ownBlock = some wa.heap.size) : Ths w w1 (upT T k (v1, xs)) := by
  have hl := h.laid hb
  have hkk : Kp (fun b => (T k).1.ownBlock = some b) wa w1 := (Kp.refl _ wa).grown hg (fun b hb _ => hb)
  have hlt : ∀ j b, (T j).1.ownBlock = some b → b < wa.heap.size := fun j b hb => ((hl.own j).lt b hb).2
  have hnk : ∀ j, j ≠ k → ∀ b, (T j).1.ownBlock = some b → v1.ownBlock ≠ some b := fun j hj b hb e => by
    rcases hnew with h1 | h1
    · exact h.sep j k b hj hb (h1.symm.trans e)
    · rw [h1] at e; injection e with e; have := hlt j b hb; omega
  refine ⟨fun j => ?_, fun i j b hij hi hj => ?_⟩
  · by_cases e : j = k
    · subst e; rw [upT_same]; subst hn; exact hv
    · rw [upT_ne T _ e]
      exact own_kp2 (hl.own j) hkk (fun b hb e2 => h.sep j k b e hb e2)
  · by_cases e : i = k
    · subst e
      rw [upT_same] at hi
      rw [upT_ne T _ (fun e => hij e.symm)] at hj
      exact hnk j (fun e => hij e.symm) b hj hi
    · rw [upT_ne T _ e] at hi
      by_cases e2 : j = k
      · subst e2; rw [upT_same] at hj; exact hnk i e b hi hj
      · rw [upT_ne T _ e2] at hj; exact h.sep i j b hij hi hj
end
/-- what is made: boxes and rows; T 0: outside, T 1: into, T 2: outOf, T 3: the row that is made, T 4: a box, T (5 + h): the rows of scores -/
structure Jn (w wr : World) (p3 p4 p6 p7 : Nat) (sv gv vsc : Value) (T : Tm) (k : Nat) : Prop where
  b3 : wr.heap[p3]? = some (.cells #[sv] 22 (0, 0))
  b4 : wr.heap[p4]? = some (.cells #[gv] 26 (0, 0))
  b6 : wr.heap[p6]? = some (.cells #[.slice none 0 0, .slice none 0 0, .slice none 0 0, .slice none 0 0] 47 (0, 0))
  b7 : wr.heap[p7]? = some (.cells #[vsc, (T 0).1, (T 1).1, (T 2).1] 47 (0, 0))
  n67 : p6 ≠ p7
  l3 : w.heap.size ≤ p3
  l4 : w.heap.size ≤ p4
  l6 : w.heap.size ≤ p6
  l7 : w.heap.size ≤ p7
  n4 : vsc.ownBlock ≠ some p4
  sc : wr.ownsRow w.heap.size 26 1 vsc k ((List.range k).map fun h => (T (5 + h)).1)
  ths : Ths w wr T
  below : Below w.heap.size w wr
section
variable {w wr w1 : World} {p3 p4 p6 p7 k : Nat} {sv gv vsc : Value} {T : Tm}
theorem Jn.laid (h : Jn w wr p3 p4 p6 p7 sv gv vsc T k) (hb : Below wr.heap.size wr w1) : Jn w w1 p3 p4 p6 p7 sv gv vsc T k :=
  ⟨(hb.block _ (lt_at h.b3)).trans h.b3, (hb.block _ (lt_at h.b4)).trans h.b4, (hb.block _ (lt_at h.b6)).trans h.b6, (hb.block _ (lt_at h.b7)).trans h.b7, h.n67, h.l3, h.l4, h.l6, h.l7, h.n4, own_kp2 h.sc (kp_below hb (fun _ => False)) (fun _ _ => id), h.ths.laid hb, h.below.trans (hb.mono h.below.size)⟩
theorem Jn.box (h : Jn w wr p3 p4 p6 p7 sv gv vsc T k) (x : Value) : Jn w (wr.alloc (.cells #[x] 3)) p3 p4 p6 p7 sv gv vsc (upT T 4 (.slice (some ⟨wr.heap.size, 0, none⟩) 1 1, [x])) k := by
  have hl := h.laid (below_al wr (.cells #[x] 3))
  exact ⟨hl.b3, hl.b4, hl.b6, by rw [upT_ne _ _ (by decide), upT_ne _ _ (by decide), upT_ne _ _ (by decide)]; exact hl.b7, hl.n67, hl.l3, hl.l4, hl.l6, hl.l7, hl.n4, by
    have e : (List.range k).map (fun h => (upT T 4 (.slice (some ⟨wr.heap.size, 0, none⟩) 1 1, [x]) (5 + h)).1) = (List.range k).map fun h => (T (5 + h)).1 := List.map_congr_left fun h _ => by rw [upT_ne _ _ (by omega)]
    rw [e]; exact hl.sc, h.ths.box h.below.size 4 x, hl.below⟩
/-- what is in the boxes, at any time behind -/
theorem Jn.at4 (h : Jn w wr p3 p4 p6 p7 sv gv vsc T k) {g : Nat} {x : Value} (e : T 4 = (.slice (some ⟨g, 0, none⟩) 1 1, [x])) : wr.cell? ⟨g, 0, none⟩ = some x := by
  have h4 := h.ths.own 4
  rw [e] at h4
  exact (h4.cellAt 0 (by show 0 < 1; omega)).trans rfl
theorem Jn.grown {j n : Nat} {v1 : Value} {xs : List Value} {wa : World} (h : Jn w wr p3 p4 p6 p7 sv gv vsc T k) (hb : Below wr.heap.size wr wa) (hv : w1.ownsRow w.heap.size 3 1 v1 n xs) (hn : n = xs.length) (hg : wa.grownBy w1 (T j).1.ownBlock) (hnew : v1.ownBlock = (T j).1.ownBlock ∨ v1.ownBlock = some wa.heap.size) :
    w1.heap[p3]? = some (.cells #[sv] 22 (0, 0)) ∧ w1.heap[p4]? = some (.cells #[gv] 26 (0, 0)) ∧ w1.heap[p6]? = some (.cells #[.slice none 0 0, .slice none 0 0, .slice none 0 0, .slice none 0 0] 47 (0, 0)) ∧ w1.heap[p7]? = some (.cells #[vsc, (T 0).1, (T 1).1, (T 2).1] 47 (0, 0)) ∧ w1.ownsRow w.heap.size 26 1 vsc k ((List.range k).map fun h => (T (5 + h)).1) ∧ Ths w w1 (upT T j (v1, xs)) ∧ Below w.heap.size w w1 := by
  have hl := h.laid hb
  have hkk : Kp (fun b => (T j).1.ownBlock = some b) wa w1 := (Kp.refl _ wa).grown hg (fun b hb _ => hb)
  have nt : ∀ {b : Nat} {d : Array Value} {ty : TypeId}, wa.heap[b]? = some (.cells d ty (0, 0)) → ty ≠ 3 → ¬ (T j).1.ownBlock = some b := fun {b d ty} hb2 hne e => by
    obtain ⟨d', hd'⟩ := own_ty (hl.ths.own j) e; exact ty_ne hb2 hd' hne
  refine ⟨(hkk.block _ (lt_at hl.b3) (nt hl.b3 (by decide))).trans hl.b3, (hkk.block _ (lt_at hl.b4) (nt hl.b4 (by decide))).trans hl.b4, (hkk.block _ (lt_at hl.b6) (nt hl.b6 (by decide))).trans hl.b6, (hkk.block _ (lt_at hl.b7) (nt hl.b7 (by decide))).trans hl.b7, own_kp2 hl.sc hkk (fun b hb2 => by obtain ⟨d, hd⟩ := own_ty hl.sc hb2; exact nt hd (by decide)), h.ths.grow hb hv hn hg hnew, below_kp hl.below hkk (fun b hb2 e => by have := ((hl.ths.own j).lt b e).1; omega)⟩
/-- a row that is no part of the box grows (the row that is made) -/
theorem Jn.row {n : Nat} {v1 : Value} {xs : List Value} {wa : World} (h : Jn w wr p3 p4 p6 p7 sv gv vsc T k) (hb : Below wr.heap.size wr wa) (hv : w1.ownsRow w.heap.size 3 1 v1 n xs) (hn : n = xs.length) (hg : wa.grownBy w1 (T 3).1.ownBlock) (hnew : v1.ownBlock = (T 3).1.ownBlock ∨ v1.ownBlock = some wa.heap.size) : Jn w w1 p3 p4 p6 p7 sv gv vsc (upT T 3 (v1, xs)) k := by
  obtain ⟨h3, h4, h6, h7, hs, ht, hbe⟩ := h.grown (j := 3) hb hv hn hg hnew
  refine ⟨h3, h4, h6, by rw [upT_ne _ _ (by decide), upT_ne _ _ (by decide), upT_ne _ _ (by decide)]; exact h7, h.n67, h.l3, h.l4, h.l6, h.l7, h.n4, ?_, ht, hbe⟩
  have e : (List.range k).map (fun h => (upT T 3 (v1, xs) (5 + h)).1) = (List.range k).map fun h => (T (5 + h)).1 := List.map_congr_left fun h _ => by rw [upT_ne _ _ (by omega)]
  rw [e]; exact hs
/-- a list of the box grows, and is stored -/
theorem Jn.list {j n : Nat} {v1 : Value} {xs : List Value} {wa : World} (hj : j < 3) (h : Jn w wr p3 p4 p6 p7 sv gv vsc T k) (hb : Below wr.heap.size wr wa) (hv : w1.ownsRow w.heap.size 3 1 v1 n xs) (hn : n = xs.length) (hg : wa.grownBy w1 (T j).1.ownBlock) (hnew : v1.ownBlock = (T j).1.ownBlock ∨ v1.ownBlock = some wa.heap.size) : w1.heap[p7]? = some (.cells #[vsc, (T 0).1, (T 1).1, (T 2).1] 47 (0, 0)) ∧ Jn w (w1.setCell ⟨p7, j + 1, none⟩ v1) p3 p4 p6 p7 sv gv vsc (upT T j (v1, xs)) k := by
  obtain ⟨h3, h4, h6, h7, hs, ht, hbe⟩ := h.grown (j := j) hb hv hn hg hnew
  have hk : Kp (fun b => b = p7) w1 (w1.setCell ⟨p7, j + 1, none⟩ v1) := (Kp.refl _ w1).setCell _ _ _ (fun _ => rfl)
  have n7 : ∀ {b : Nat} {d : Array Value} {ty : TypeId}, w1.heap[b]? = some (.cells d ty (0, 0)) → ty ≠ 47 → ¬ b = p7 := fun {b d ty} hb2 hne e => by subst e; exact ty_ne hb2 h7 hne
  refine ⟨h7, (hk.block _ (lt_at h3) (n7 h3 (by decide))).trans h3, (hk.block _ (lt_at h4) (n7 h4 (by decide))).trans h4, (hk.block _ (lt_at h6) h.n67).trans h6, ?_, h.n67, h.l3, h.l4, h.l6, h.l7, h.n4, ?_, ht.kept hk (fun b c hb2 _ => n7 hb2 (by decide)), below_kp hbe hk (fun b hb2 e => by have e2 : b = p7 := e; have := h.l7; omega)⟩
  · have hh := heap_setCell_same w1 p7 (j + 1) _ 47 v1 h7
    rw [hh]
    match j, hj with
    | 0, _ => rw [upT_same, upT_ne _ _ (by decide), upT_ne _ _ (by decide)]; rfl
    | 1, _ => rw [upT_same, upT_ne _ _ (by decide), upT_ne _ _ (by decide)]; rfl
    | 2, _ => rw [upT_same, upT_ne _ _ (by decide), upT_ne _ _ (by decide)]; rfl
  · have e : (List.range k).map (fun h => (upT T j (v1, xs) (5 + h)).1) = (List.range k).map fun h => (T (5 + h)).1 := List.map_congr_left fun h _ => by rw [upT_ne _ _ (by omega)]
    rw [e]
    exact own_kp2 hs hk (fun b hb2 => by obtain ⟨d, hd⟩ := own_ty hs hb2; exact n7 hd (by decide))
/-- the row that is made is handed on into the rows of scores, and stored -/
theorem Jn.push {v1 x : Value} {xs : List Value} {wa : World} (h : Jn w wr p3 p4 p6 p7 sv gv vsc T k) (hx : T 3 = (x, xs)) (hb : Below wr.heap.size wr wa) (hv : w1.ownsRow w.heap.size 26 1 v1 (k + 1) (((List.range k).map fun h => (T (5 + h)).1) ++ [x])) (hg : wa.grownBy w1 vsc.ownBlock) (hnew : v1.ownBlock = vsc.ownBlock ∨ v1.ownBlock = some wa.heap.size) : w1.heap[p7]? = some (.cells #[vsc, (T 0).1, (T 1).1, (T 2).1] 47 (0, 0)) ∧ Jn w (w1.setCell ⟨p7, 0, none⟩ v1) p3 p4 p6 p7 sv gv v1 (upT (upT T (5 + k) (T 3)) 3 (.slice none 0 0, [])) (k + 1) := by
  have hl := h.laid hb
  have hkk : Kp (fun b => vsc.ownBlock = some b) wa w1 := (Kp.refl _ wa).grown hg (fun b hb _ => hb)
  have nt : ∀ {b : Nat} {d : Array Value} {ty : TypeId}, wa.heap[b]? = some (.cells d ty (0, 0)) → ty ≠ 26 → ¬ vsc.ownBlock = some b := fun {b d ty} hb2 hne e => by
    obtain ⟨d', hd'⟩ := own_ty hl.sc e; exact ty_ne hb2 hd' hne
  have h3 := (hkk.block _ (lt_at hl.b3) (nt hl.b3 (by decide))).trans hl.b3
  have h4 := (hkk.block _ (lt_at hl.b4) h.n4).trans hl.b4
  have h6 := (hkk.block _ (lt_at hl.b6) (nt hl.b6 (by decide))).trans hl.b6
  have h7 := (hkk.block _ (lt_at hl.b7) (nt hl.b7 (by decide))).trans hl.b7
  have ht := hl.ths.kept hkk (fun b c hb2 _ => nt hb2 (by decide))
  have hbe := below_kp hl.below hkk (fun b hb2 e => by have := (hl.sc.lt b e).1; omega)
  have hk : Kp (fun b => b = p7) w1 (w1.setCell ⟨p7, 0, none⟩ v1) := (Kp.refl _ w1).setCell _ _ _ (fun _ => rfl)
  have n7 : ∀ {b : Nat} {d : Array Value} {ty : TypeId}, w1.heap[b]? = some (.cells d ty (0, 0)) → ty ≠ 47 → ¬ b = p7 := fun {b d ty} hb2 hne e => by subst e; exact ty_ne hb2 h7 hne
  refine ⟨h7, (hk.block _ (lt_at h3) (n7 h3 (by decide))).trans h3, (hk.block _ (lt_at h4) (n7 h4 (by decide))).trans h4, (hk.block _ (lt_at h6) h.n67).trans h6, ?_, h.n67, h.l3, h.l4, h.l6, h.l7, fun e => ?_, ?_, (ht.kept hk (fun b c hb2 _ => n7 hb2 (by decide))).move (by omega), below_kp hbe hk (fun b hb2 e => by have e2 : b = p7 := e; have := h.l7; omega)⟩
  · have hh := heap_setCell_same w1 p7 0 _ 47 v1 h7
    rw [hh, upT_ne _ _ (by decide), upT_ne _ _ (by omega), upT_ne _ _ (by decide), upT_ne _ _ (by omega), upT_ne _ _ (by decide), upT_ne _ _ (by omega)]
    rfl
  · rcases hnew with h1 | h1
    · exact h.n4 (h1.symm.trans e)
    · rw [h1] at e; injection e with e; have := lt_at hl.b4; omega
  · have e : (List.range (k + 1)).map (fun h => (upT (upT T (5 + k) (T 3)) 3 (.slice none 0 0, []) (5 + h)).1) = ((List.range k).map fun h => (T (5 + h)).1) ++ [x] := by
      rw [List.range_succ, List.map_append]
      congr 1
      · exact List.map_congr_left fun h hh => by
          have := List.mem_range.1 hh
          rw [upT_ne _ _ (by omega), upT_ne _ _ (by omega)]
      · rw [List.map_singleton, upT_ne _ _ (by omega), upT_same, hx]
    rw [e]
    exact own_kp2 hv hk (fun b hb2 => by obtain ⟨d, hd⟩ := own_ty hv hb2; exact n7 hd (by decide))
end
end Go.Proofs.Ytpolnkdbebjpnaa.Hd
