/- A machine of which first the arcs and finals are made, in either order, its box before, between or behind them; arcs turned in place. -/
import Derived.Test.YtegfhbjdfcoajaaEb
import Derived.Test.YtegfhbjdfcoajaaCz
namespace Go.Proofs.Ytegfhbjdfcoajaa.Tb
open Go.RowKit Mv Ps Bw Ma Mc Eb

abbrev z25 : Obj := .cells #[.int .i64 0, nilS, nilS] 25
/-- what a call made: new, in memory of its own -/
def Fr (V V' : World) (e size : Nat) (r : Value) (n : Nat) (xs : List Value) : Prop := Below V.heap.size V V' ∧ V'.ownsRow (V.heap.size + 1) e size r n xs
structure Tm (W0 : World) (st : Int) (A : List A5) (x : Value) (F : List (Int × Int)) (y : Value) (G : Nat) (W : World) : Prop where
  bel : Below W0.heap.size W0 W
  lo : W0.heap.size ≤ G
  gb : W.heap[G]? = some (.cells #[.int .i64 st, x, y] 25 (0, 0))
  ra : W.ownsRow W0.heap.size 46 5 x A.length (acs A)
  rf : W.ownsRow W0.heap.size 48 2 y F.length (fcs F)
  ap : ∀ k, x.ownBlock = some k → y.ownBlock ≠ some k
  ax : x.ownBlock ≠ some G
  ay : y.ownBlock ≠ some G
theorem grown_set (w : World) (g j : Nat) (u : Value) : w.grownBy (w.setCell ⟨g, j, none⟩ u) (some g) :=
  ⟨rfl, rfl, rfl, by show _ ≤ (w.heap.modify _ _).size; simp, fun k _ hne => Below.heap_setCell w ⟨g, j, none⟩ u k (fun e => hne (by rw [e]))⟩
theorem own_set' {w : World} {base e size n : Nat} {v : Value} {xs : List Value} (h : w.ownsRow base e size v n xs) {g : Nat} (hne : v.ownBlock ≠ some g) (j : Nat) (u : Value) : (w.setCell ⟨g, j, none⟩ u).ownsRow base e size v n xs :=
  h.kept (grown_set w g j u) (.inr hne)
section
variable {W V : World} {st : Int} {A : List A5} {x : Value} {F : List (Int × Int)} {y : Value} {G : Nat}
theorem tm_set {p0 p1 p2 : Value} (bel : Below W.heap.size W V) (lo : W.heap.size ≤ G) (hG : V.heap[G]? = some (.cells #[p0, p1, p2] 25 (0, 0))) (ra : V.ownsRow W.heap.size 46 5 x A.length (acs A)) (rf : V.ownsRow W.heap.size 48 2 y F.length (fcs F)) (ap : ∀ k, x.ownBlock = some k → y.ownBlock ≠ some k) (ax : x.ownBlock ≠ some G) (ay : y.ownBlock ≠ some G) :
    Tm W st A x F y G (((V.setCell ⟨G, 0, none⟩ (.int .i64 st)).setCell ⟨G, 1, none⟩ x).setCell ⟨G, 2, none⟩ y) := by
  have hl := laid3 (x := .int .i64 st) (y := x) (z := y) hG bel lo
  exact ⟨hl.2, lo, hl.1, own_set' (own_set' (own_set' ra ax _ _) ax _ _) ax _ _, own_set' (own_set' (own_set' rf ay _ _) ay _ _) ay _ _, ap, ax, ay⟩
theorem tm_new (bel : Below W.heap.size W V) (ra : V.ownsRow W.heap.size 46 5 x A.length (acs A)) (rf : V.ownsRow W.heap.size 48 2 y F.length (fcs F)) (ap : ∀ k, x.ownBlock = some k → y.ownBlock ≠ some k) :
    Tm W st A x F y V.heap.size (V.alloc (.cells #[.int .i64 st, x, y] 25)) :=
  ⟨bel.alloc bel.size _, bel.size, heap_alloc_new _ _, ra.alloc _, rf.alloc _, ap, fun e => Nat.lt_irrefl _ (ra.lt _ e).2, fun e => Nat.lt_irrefl _ (rf.lt _ e).2⟩
variable {wx wy : World}
theorem oXYL (h1 : Fr W wx 46 5 x A.length (acs A)) (h2 : Fr wx wy 48 2 y F.length (fcs F)) : Tm W st A x F y wy.heap.size (wy.alloc (.cells #[.int .i64 st, x, y] 25)) := by
  have s := h1.1.size
  refine tm_new (h1.1.trans (h2.1.mono s)) ((own_below h1.2 h2.1).mono (by omega)) (h2.2.mono (by omega)) fun k e1 e2 => ?_
  have a := (h1.2.lt _ e1).2
  have b := (h2.2.lt _ e2).1
  omega
theorem oYXL (h1 : Fr W wy 48 2 y F.length (fcs F)) (h2 : Fr wy wx 46 5 x A.length (acs A)) : Tm W st A x F y wx.heap.size (wx.alloc (.cells #[.int .i64 st, x, y] 25)) := by
  have s := h1.1.size
  refine tm_new (h1.1.trans (h2.1.mono s)) (h2.2.mono (by omega)) ((own_below h1.2 h2.1).mono (by omega)) fun k e1 e2 => ?_
  have a := (h1.2.lt _ e2).2
  have b := (h2.2.lt _ e1).1
  omega
theorem oXLY (h1 : Fr W wx 46 5 x A.length (acs A)) (h2 : Fr (wx.alloc z25) wy 48 2 y F.length (fcs F)) : Tm W st A x F y wx.heap.size (((wy.setCell ⟨wx.heap.size, 0, none⟩ (.int .i64 st)).setCell ⟨wx.heap.size, 1, none⟩ x).setCell ⟨wx.heap.size, 2, none⟩ y) := by
  have s := h1.1.size
  have e : (wx.alloc z25).heap.size = wx.heap.size + 1 := by simp
  have hb : Below wx.heap.size wx wy := ((Below.refl _ wx).alloc (Nat.le_refl _) z25).trans (h2.1.mono (by omega))
  refine tm_set (h1.1.trans (hb.mono s)) s ((h2.1.block _ (by omega)).trans (heap_alloc_new wx z25)) ((own_below h1.2 hb).mono (by omega)) (h2.2.mono (by omega)) (fun k e1 e2 => ?_) (fun e1 => ?_) (fun e2 => ?_)
  · have a := (h1.2.lt _ e1).2
    have b := (h2.2.lt _ e2).1
    omega
  · have a := (h1.2.lt _ e1).2
    omega
  · have b := (h2.2.lt _ e2).1
    omega
theorem oYLX (h1 : Fr W wy 48 2 y F.length (fcs F)) (h2 : Fr (wy.alloc z25) wx 46 5 x A.length (acs A)) : Tm W st A x F y wy.heap.size (((wx.setCell ⟨wy.heap.size, 0, none⟩ (.int .i64 st)).setCell ⟨wy.heap.size, 1, none⟩ x).setCell ⟨wy.heap.size, 2, none⟩ y) := by
  have s := h1.1.size
  have e : (wy.alloc z25).heap.size = wy.heap.size + 1 := by simp
  have hb : Below wy.heap.size wy wx := ((Below.refl _ wy).alloc (Nat.le_refl _) z25).trans (h2.1.mono (by omega))
  refine tm_set (h1.1.trans (hb.mono s)) s ((h2.1.block _ (by omega)).trans (heap_alloc_new wy z25)) (h2.2.mono (by omega)) ((own_below h1.2 hb).mono (by omega)) (fun k e1 e2 => ?_) (fun e1 => ?_) (fun e2 => ?_)
  · have a := (h1.2.lt _ e2).2
    have b := (h2.2.lt _ e1).1
    omega
  · have b := (h2.2.lt _ e1).1
    omega
  · have a := (h1.2.lt _ e2).2
    omega
theorem oLXY (h1 : Fr (W.alloc z25) wx 46 5 x A.length (acs A)) (h2 : Fr wx wy 48 2 y F.length (fcs F)) : Tm W st A x F y W.heap.size (((wy.setCell ⟨W.heap.size, 0, none⟩ (.int .i64 st)).setCell ⟨W.heap.size, 1, none⟩ x).setCell ⟨W.heap.size, 2, none⟩ y) := by
  have e : (W.alloc z25).heap.size = W.heap.size + 1 := by simp
  have s := h1.1.size
  have hb1 : Below (W.alloc z25).heap.size (W.alloc z25) wy := h1.1.trans (h2.1.mono s)
  have hb : Below W.heap.size W wy := ((Below.refl _ W).alloc (Nat.le_refl _) z25).trans (hb1.mono (by omega))
  refine tm_set hb (Nat.le_refl _) ((hb1.block _ (by omega)).trans (heap_alloc_new W z25)) ((own_below h1.2 h2.1).mono (by omega)) (h2.2.mono (by omega)) (fun k e1 e2 => ?_) (fun e1 => ?_) (fun e2 => ?_)
  · have a := (h1.2.lt _ e1).2
    have b := (h2.2.lt _ e2).1
    omega
  · have a := (h1.2.lt _ e1).1
    omega
  · have b := (h2.2.lt _ e2).1
    omega
theorem oLYX (h1 : Fr (W.alloc z25) wy 48 2 y F.length (fcs F)) (h2 : Fr wy wx 46 5 x A.length (acs A)) : Tm W st A x F y W.heap.size (((wx.setCell ⟨W.heap.size, 0, none⟩ (.int .i64 st)).setCell ⟨W.heap.size, 1, none⟩ x).setCell ⟨W.heap.size, 2, none⟩ y) := by
  have e : (W.alloc z25).heap.size = W.heap.size + 1 := by simp
  have s := h1.1.size
  have hb1 : Below (W.alloc z25).heap.size (W.alloc z25) wx := h1.1.trans (h2.1.mono s)
  have hb : Below W.heap.size W wx := ((Below.refl _ W).alloc (Nat.le_refl _) z25).trans (hb1.mono (by omega))
  refine tm_set hb (Nat.le_refl _) ((hb1.block _ (by omega)).trans (heap_alloc_new W z25)) (h2.2.mono (by omega)) ((own_below h1.2 h2.1).mono (by omega)) (fun k e1 e2 => ?_) (fun e1 => ?_) (fun e2 => ?_)
  · have a := (h1.2.lt _ e2).2
    have b := (h2.2.lt _ e1).1
    omega
  · have b := (h2.2.lt _ e1).1
    omega
  · have a := (h1.2.lt _ e2).1
    omega
theorem Tm.c1 (h : Tm W st A x F y G V) : V.cell? ⟨G, 1, none⟩ = some x := cell_of_row _ _ 1 _ 25 (0, 0) h.gb
theorem Tm.below {V' : World} (h : Tm W st A x F y G V) (hb : Below V.heap.size V V') : Tm W st A x F y G V' :=
  ⟨h.bel.trans (hb.mono h.bel.size), h.lo, (hb.block _ (Array.getElem?_eq_some_iff.1 h.gb).1).trans h.gb, own_below h.ra hb, own_below h.rf hb, h.ap, h.ax, h.ay⟩
/-- a store into an arc -/
theorem Tm.set {g cap n : Nat} (h : Tm W st A (.slice (some ⟨g, 0, none⟩) n cap) F y G V) (j : Nat) (u : Value) {A' : List A5} (hl : A'.length = A.length) (hA : (acs A).set j u = acs A') : Tm W st A' (.slice (some ⟨g, 0, none⟩) n cap) F y G (V.setCell ⟨g, j, none⟩ u) := by
  have hn : n = A.length := by
    obtain ⟨_, _, e⟩ := own_slice h.ra
    simp only [Value.slice.injEq] at e
    exact e.2.1
  subst hn
  have hs := h.ra.stored j u
  have hg : W.heap.size ≤ g := (h.ra.lt g rfl).1
  refine ⟨h.bel.setCell (p := ⟨g, j, none⟩) hg u, h.lo, ?_, ?_, own_set' h.rf (fun e => h.ap g rfl e) _ _, h.ap, h.ax, h.ay⟩
  · refine (Below.heap_setCell V ⟨g, j, none⟩ u G ?_).trans h.gb
    intro e
    exact h.ax (by rw [e]; rfl)
  · rw [hl, ← hA]
    exact hs.1
theorem Tm.out {R : Nat} {a b c : Value} (h : Tm W st A x F y G V) (hR : R < W.heap.size) (hA : A.length ≤ 1000) (hF : F.length ≤ 1000) {w : World} (hw : Below w.heap.size w V) (hwR : w.heap.size ≤ R) (hr : V.heap[R]? = some (.cells #[a, b, c] 25 (0, 0))) :
    (((V.setCell ⟨R, 0, none⟩ (.int .i64 st)).setCell ⟨R, 1, none⟩ x).setCell ⟨R, 2, none⟩ y).heap[R]? = some (.cells #[.int .i64 st, x, y] 25 (0, 0)) ∧ IsM (((V.setCell ⟨R, 0, none⟩ (.int .i64 st)).setCell ⟨R, 1, none⟩ x).setCell ⟨R, 2, none⟩ y) (.agg #[.int .i64 st, x, y]) ⟨st, A, F⟩ ∧ Below w.heap.size w (((V.setCell ⟨R, 0, none⟩ (.int .i64 st)).setCell ⟨R, 1, none⟩ x).setCell ⟨R, 2, none⟩ y) := by
  have hl := laid3 (x := .int .i64 st) (y := x) (z := y) hr hw hwR
  have k : ∀ j : Nat, (⟨R, j, none⟩ : Addr).block < W.heap.size := fun j => hR
  exact ⟨hl.1, rows_isM (ownsRow_setCell_below (ownsRow_setCell_below (ownsRow_setCell_below h.ra (k 0) _) (k 1) _) (k 2) _) (ownsRow_setCell_below (ownsRow_setCell_below (ownsRow_setCell_below h.rf (k 0) _) (k 1) _) (k 2) _) hA hF, hl.2⟩
end
theorem acs_set (L : List A5) (k : Nat) (hk : k < L.length) (j : Nat) (hj : j < 5) (u : Value) (a' : A5) (h : (ac L[k]).set j u = ac a') : (acs L).set (k * 5 + j) u = acs (L.set k a') := by
  induction L generalizing k with
  | nil => simp at hk
  | cons a l ih =>
    cases k with
    | zero =>
      simp only [List.getElem_cons_zero] at h
      show (ac a ++ acs l).set (0 * 5 + j) u = ac a' ++ acs l
      rw [Nat.zero_mul, Nat.zero_add, List.set_append_left _ _ (by simp [ac]; omega), h]
    | succ k =>
      have hi := ih k (by simpa using hk) (by simpa using h)
      show (ac a ++ acs l).set ((k + 1) * 5 + j) u = ac a ++ acs (l.set k a')
      rw [List.set_append_right _ _ (by simp [ac]; omega), ← hi]
      congr 2
      simp [ac]
      omega
/-- turned as far as a place -/
def upA (f : A5 → A5) (L : List A5) (k : Nat) : List A5 := (L.take k).map f ++ L.drop k
theorem upA_length (f : A5 → A5) (L : List A5) (k : Nat) : (upA f L k).length = L.length := by unfold upA; simp; omega
theorem upA_at (f : A5 → A5) (L : List A5) (k : Nat) (hk : k < L.length) : (upA f L k)[k]'(by rw [upA_length]; exact hk) = L[k] := by
  unfold upA
  rw [List.getElem_append_right (by simp; omega)]
  simp [Nat.min_eq_left (Nat.le_of_lt hk)]
theorem upA_set (f : A5 → A5) (L : List A5) (k : Nat) (hk : k < L.length) : (upA f L k).set k (f L[k]) = upA f L (k + 1) := by
  unfold upA
  have e : ((L.take k).map f).length = k := by simp; omega
  rw [List.set_append_right _ _ (by omega), e, Nat.sub_self, List.drop_eq_getElem_cons hk, List.take_succ_eq_append_getElem hk, List.map_append, List.set_cons_zero, List.append_assoc]
  rfl
theorem upA_end (f : A5 → A5) (L : List A5) : upA f L L.length = L.map f := by unfold upA; simp
theorem mv_zero (L : List A5) : L.map (mvA 0) = L := by
  have : (mvA 0 : A5 → A5) = id := by funext a; simp [mvA]
  rw [this]; simp
theorem mvF_zero (L : List (Int × Int)) : L.map (mvF 0) = L := by
  have : (mvF 0 : Int × Int → Int × Int) = id := by funext a; simp [mvF]
  rw [this]; simp
end Go.Proofs.Ytegfhbjdfcoajaa.Tb
