/- proofCopy: what it hands back lies in new blocks. Condition: no list of the proof has more than 900 parts in it. -/
import Derived.Test.YtbmgkgoghgdbhaaRe
import Derived.Deep.CutRange
namespace Go.Proofs.Ytbmgkgoghgdbhaa.Te
open Go.RowKit Zz

/-- a proof whose lists are short -/
def Smp (p : Pf) : Prop := szs p.left ≤ 900 ∧ sz p.goal ≤ 900 ∧ p.kids.length ≤ 900 ∧ ∀ x : {y // y ∈ p.kids}, Smp x.1
termination_by SizeOf.sizeOf p
decreasing_by exact Pf.lt_kids x.2
theorem Smp.kid {p : Pf} (h : Smp p) {x : Pf} (hx : x ∈ p.kids) : Smp x := by
  rw [Smp] at h
  exact h.2.2.2 ⟨x, hx⟩
theorem Smp.here {p : Pf} (h : Smp p) : szs p.left ≤ 900 ∧ sz p.goal ≤ 900 ∧ p.kids.length ≤ 900 := by
  rw [Smp] at h
  exact ⟨h.1, h.2.1, h.2.2.1⟩
theorem info37 : (Try.prog.info? 37).map (fun i => (i.zero, i.size, i.bytes)) = some (some (.agg #[.int .i64 0, .slice none 0 0, .int .i64 0, .int .i64 0, .slice none 0 0, .int .i64 0, .int .i64 0, .slice none 0 0]), 8, 112) := by kernel_rfl
def pfc (p : Pf) (x : Pl) : List Value := [.int .i64 p.step, .slice x.la p.left.length x.lc, .int .i64 p.goal.kind, .int .i64 p.goal.n, .slice x.ga p.goal.kids.length x.gc, .int .i64 p.ix, .int .i64 p.n, .slice x.ka p.kids.length x.kc]
theorem pfc_one (p : Pf) (x : Pl) : ∀ u ∈ pfc p x, u.oneCell' = true := by
  intro u hu
  simp only [pfc, List.mem_cons, List.not_mem_nil, or_false] at hu
  rcases hu with rfl | rfl | rfl | rfl | rfl | rfl | rfl | rfl <;> rfl
theorem cell_one8 (w : World) (n : Nat) (hn : w.heap.size = n) (p : Pf) (x : Pl) : ∀ j u, (pfc p x)[j]? = some u → (w.alloc (.cells #[.int .i64 p.step, .slice x.la p.left.length x.lc, .int .i64 p.goal.kind, .int .i64 p.goal.n, .slice x.ga p.goal.kids.length x.gc, .int .i64 p.ix, .int .i64 p.n, .slice x.ka p.kids.length x.kc] 37)).cell? ((⟨n, 0, none⟩ : Addr).add j) = some u := by
  intro j u hu
  rw [Zz.addr_add0, ← hn, cell_of_row _ _ j _ 37 (0, 0) (heap_alloc_new w _), ← hu]
  simp [pfc]
theorem slice_of1 {w : World} {base e size : Nat} {v : Value} {n : Nat} {xs : List Value} (h : w.ownsRow base e size v (n + 1) xs) : ∃ g k, v = .slice (some ⟨g, 0, none⟩) (n + 1) k ∧ base ≤ g := by
  rcases h.2 with ⟨_, h'⟩ | ⟨g, cap, cur, h, hg, _⟩
  · omega
  · exact ⟨g, cap, h, hg⟩
/-- the first j of these proofs lie so in a row -/
def PRow (P : Nat → Prop) (wr : World) (d e : Nat) (ks : List Pf) (j : Nat) (xs : List Value) : Prop := ∀ i (_ : i < ks.length), i < j → ∃ y, (∀ t (_ : t < 8), xs[i * 8 + t]? = (pfc ks[i] y)[t]?) ∧ PfAt P wr d e ks[i] y
theorem PRow.keep {P Q : Nat → Prop} {w w' : World} {d e : Nat} {ks : List Pf} {j : Nat} {xs : List Value} (h : PRow P w d e ks j xs) (hs : w.heap.size ≤ w'.heap.size) (hk : ∀ g, g < w.heap.size → P g → Q g ∧ w'.heap[g]? = w.heap[g]?) : PRow Q w' d e ks j xs := fun i hi hj => by
  obtain ⟨y, h0, h3⟩ := h i hi hj
  exact ⟨y, h0, h3.keep hs hk⟩
theorem PRow.push {P : Nat → Prop} {w : World} {d e : Nat} {ks : List Pf} {j : Nat} {xs : List Value} (h : PRow P w d e ks j xs) (hl : xs.length = j * 8) (hj : j < ks.length) {y : Pl} (ht : PfAt P w d e ks[j] y) : PRow P w d e ks (j + 1) (xs ++ pfc ks[j] y) := fun i hi hij => by
  by_cases e : i = j
  · subst e
    refine ⟨y, fun t ht => ?_, ht⟩
    rw [List.getElem?_append_right (by omega), hl, Nat.add_sub_cancel_left]
  · obtain ⟨y2, h0, h3⟩ := h i hi (by omega)
    exact ⟨y2, fun t ht => by rw [List.getElem?_append_left (by omega)]; exact h0 t ht, h3⟩
theorem PRow.all {P : Nat → Prop} {w : World} {d e base : Nat} {p : Pf} {xs : List Value} {y : Pl} (h : PRow P w d e p.kids p.kids.length xs) (ho : w.ownsRow base 37 8 (.slice y.ka p.kids.length y.kc) p.kids.length xs) (h1 : i64B p.step) (h2 : i64B p.ix) (h3 : i64B p.n) (h4 : LsAt P w d p.left y.la y.lc) (h5 : TyP P w d p.goal y.ga y.gc) (hl : p.kids.length ≤ 140737488355328) (hP : ∀ g, y.ka = some ⟨g, 0, none⟩ → base ≤ g → P g) : PfAt P w d (e + 1) p y := by
  refine ⟨h1, h2, h3, h4, h5, hl, ?_⟩
  obtain ⟨q1, ⟨_, h0⟩ | ⟨g, cap, cur, hv, hg, hh, hr⟩⟩ := ho
  · exact .inl h0
  · have ho2 : w.ownsRow base 37 8 (.slice (some ⟨g, 0, none⟩) p.kids.length cap) p.kids.length xs := ⟨q1, .inr ⟨g, cap, cur, rfl, hg, hh, hr⟩⟩
    simp only [Value.slice.injEq, true_and] at hv
    have hcell : ∀ q, q < p.kids.length * 8 → w.cell? ⟨g, q, none⟩ = xs[q]? := fun q hq => ho2.cellAt q hq
    refine .inr ⟨g, 0, hv.1, (Array.getElem?_eq_some_iff.1 hh).1, hP g hv.1 hg, fun j hj => ?_⟩
    obtain ⟨y', q0, q3⟩ := h j hj hj
    have cc : ∀ t (_ : t < 8), w.cell? ⟨g, 0 + j * 8 + t, none⟩ = (pfc p.kids[j] y')[t]? := fun t ht => by rw [Nat.zero_add, hcell _ (by omega)]; exact q0 t ht
    exact ⟨y', ⟨cc 0 (by decide), cc 1 (by decide), cc 2 (by decide), cc 3 (by decide), cc 4 (by decide), cc 5 (by decide), cc 6 (by decide), cc 7 (by decide)⟩, q3⟩
theorem set1 {w : World} {b : Nat} {u0 u1 u2 u3 u4 u5 u6 u7 : Value} (h : w.heap[b]? = some (.cells #[u0, u1, u2, u3, u4, u5, u6, u7] 37 (0, 0))) (v : Value) : (w.setCell ⟨b, 1, none⟩ v).heap[b]? = some (.cells #[u0, v, u2, u3, u4, u5, u6, u7] 37 (0, 0)) := by
  have := heap_setCell_same w b 1 _ 37 v h
  simpa using this
theorem set7 {w : World} {b : Nat} {u0 u1 u2 u3 u4 u5 u6 u7 : Value} (h : w.heap[b]? = some (.cells #[u0, u1, u2, u3, u4, u5, u6, u7] 37 (0, 0))) (v : Value) : (w.setCell ⟨b, 7, none⟩ v).heap[b]? = some (.cells #[u0, u1, u2, u3, u4, u5, u6, v] 37 (0, 0)) := by
  have := heap_setCell_same w b 7 _ 37 v h
  simpa using this
theorem set234 {w : World} {b : Nat} {u0 u1 u2 u3 u4 u5 u6 u7 : Value} (h : w.heap[b]? = some (.cells #[u0, u1, u2, u3, u4, u5, u6, u7] 37 (0, 0))) (v2 v3 v4 : Value) : (((w.setCell ⟨b, 2, none⟩ v2).setCell ⟨b, 3, none⟩ v3).setCell ⟨b, 4, none⟩ v4).heap[b]? = some (.cells #[u0, u1, v2, v3, v4, u5, u6, u7] 37 (0, 0)) := by
  have h2 := heap_setCell_same w b 2 _ 37 v2 h
  have h3 := heap_setCell_same _ b 3 _ 37 v3 h2
  have h4 := heap_setCell_same _ b 4 _ 37 v4 h3
  simpa using h4
theorem ko234 (w : World) (b : Nat) (v2 v3 v4 : Value) (g : Nat) (hg : g ≠ b) : (((w.setCell ⟨b, 2, none⟩ v2).setCell ⟨b, 3, none⟩ v3).setCell ⟨b, 4, none⟩ v4).heap[g]? = w.heap[g]? := by
  rw [heap_setCell_other _ _ _ _ hg, heap_setCell_other _ _ _ _ hg, heap_setCell_other _ _ _ _ hg]
/-- a list and a part that were copied -/
structure Cd (N : Nat) (d : Nat) (left : List Ty) (a1 : Option Addr) (c1 : Nat) (goal : Ty) (a2 : Option Addr) (c2 : Nat) (W : World) : Prop where
  l : LsAt (fun g => N + 2 ≤ g) W d left a1 c1
  t : TyP (fun g => N + 2 ≤ g) W d goal a2 c2
theorem Cd.set {N d : Nat} {left : List Ty} {a1 : Option Addr} {c1 : Nat} {goal : Ty} {a2 : Option Addr} {c2 : Nat} {W : World} {v : Value} (h : Cd N d left a1 c1 goal a2 c2 W) (i : Nat) : Cd N d left a1 c1 goal a2 c2 (W.setCell ⟨N, i, none⟩ v) := by
  have k : ∀ g, g < W.heap.size → N + 2 ≤ g → N + 2 ≤ g ∧ (W.setCell ⟨N, i, none⟩ v).heap[g]? = W.heap[g]? := fun g _ hg => ⟨hg, heap_setCell_other _ _ _ _ (by show g ≠ N; omega)⟩
  exact ⟨⟨h.l.1.keep (by simp) k, h.l.2⟩, h.t.keep (by simp) k⟩
theorem copied {N d : Nat} {left : List Ty} {a1 : Option Addr} {c1 : Nat} {goal : Ty} {a2 : Option Addr} {c2 : Nat} {V w1 w2 : World} (hs : V.heap.size = N + 2) (hL : LsAt (fun g => V.heap.size ≤ g) w1 d left a1 c1) (hb1 : Below V.heap.size V w1) (hG : TyP (fun g => w1.heap.size ≤ g) w2 d goal a2 c2) (hb2 : Below w1.heap.size w1 w2) : Cd N d left a1 c1 goal a2 c2 w2 := by
  have h1 := hb1.size
  exact ⟨⟨hL.1.keep hb2.size (fun g hg hP => ⟨by have hP' : V.heap.size ≤ g := hP; omega, hb2.block g hg⟩), hL.2⟩, hG.keep (Nat.le_refl _) (fun g _ hP => ⟨by have hP' : w1.heap.size ≤ g := hP; omega, rfl⟩)⟩
/-- what is copied so far -/
structure Cq (w : World) (d e : Nat) (step : Int) (left : List Ty) (a1 : Option Addr) (c1 : Nat) (goal : Ty) (a2 : Option Addr) (c2 : Nat) (ix n : Int) (ks : List Pf) (j : Nat) (wr : World) : Prop where
  bel : Below w.heap.size w wr
  hi : w.heap.size + 2 ≤ wr.heap.size
  row : ∃ x m xs, wr.heap[w.heap.size]? = some (.cells #[.int .i64 step, .slice a1 left.length c1, .int .i64 goal.kind, .int .i64 goal.n, .slice a2 goal.kids.length c2, .int .i64 ix, .int .i64 n, .slice x j m] 37 (0, 0)) ∧ wr.ownsRow (w.heap.size + 2) 37 8 (.slice x j m) j xs ∧ PRow (fun g => w.heap.size + 2 ≤ g ∧ some g ≠ (Value.slice x j m).ownBlock) wr d e ks j xs ∧ LsAt (fun g => w.heap.size + 2 ≤ g ∧ some g ≠ (Value.slice x j m).ownBlock) wr d left a1 c1 ∧ TyP (fun g => w.heap.size + 2 ≤ g ∧ some g ≠ (Value.slice x j m).ownBlock) wr d goal a2 c2
  res : wr.heap[w.heap.size + 1]? = some (.cells #[.int .i64 0, .slice none 0 0, .int .i64 0, .int .i64 0, .slice none 0 0, .int .i64 0, .int .i64 0, .slice none 0 0] 37 (0, 0))
theorem Cq.push {w : World} {d e : Nat} {step : Int} {left : List Ty} {a1 : Option Addr} {c1 : Nat} {goal : Ty} {a2 : Option Addr} {c2 : Nat} {ix n : Int} {ks : List Pf} {j : Nat} {w5 W6 : World} {x : Option Addr} {m : Nat} {xs : List Value} {B : Nat} (hbel : Below w.heap.size w w5) (hB0 : w.heap.size + 2 ≤ B) (hB5 : B ≤ w5.heap.size)
    (hbox : w5.heap[w.heap.size]? = some (.cells #[.int .i64 step, .slice a1 left.length c1, .int .i64 goal.kind, .int .i64 goal.n, .slice a2 goal.kids.length c2, .int .i64 ix, .int .i64 n, .slice x j m] 37 (0, 0))) (hres : w5.heap[w.heap.size + 1]? = some (.cells #[.int .i64 0, .slice none 0 0, .int .i64 0, .int .i64 0, .slice none 0 0, .int .i64 0, .int .i64 0, .slice none 0 0] 37 (0, 0)))
    (hxB : ∀ g, (Value.slice x j m).ownBlock = some g → w.heap.size + 2 ≤ g ∧ g < B) (hl : xs.length = j * 8) (hrow : PRow (fun g => w.heap.size + 2 ≤ g ∧ some g ≠ (Value.slice x j m).ownBlock) w5 d e ks j xs) (hL : LsAt (fun g => w.heap.size + 2 ≤ g ∧ some g ≠ (Value.slice x j m).ownBlock) w5 d left a1 c1) (hG : TyP (fun g => w.heap.size + 2 ≤ g ∧ some g ≠ (Value.slice x j m).ownBlock) w5 d goal a2 c2) (hj : j < ks.length) {q : Pf} (hq : ks[j] = q) {y' : Pl} (ht : PfAt (fun g => B ≤ g) w5 d e q y') {g6 c6 : Nat} {o : Obj}
    (ho6 : W6.ownsRow (w.heap.size + 2) 37 8 (.slice (some ⟨g6, 0, none⟩) (j + 1) c6) (j + 1) (xs ++ pfc q y')) (hg6 : (w5.alloc o).grownBy W6 (Value.slice x j m).ownBlock) (hat : some g6 = (Value.slice x j m).ownBlock ∨ some g6 = some (w5.alloc o).heap.size) :
    Cq w d e step left a1 c1 goal a2 c2 ix n ks (j + 1) (W6.setCell ⟨w.heap.size, 7, none⟩ (.slice (some ⟨g6, 0, none⟩) (j + 1) c6)) := by
  subst hq
  have hs5 : (w5.alloc o).heap.size = w5.heap.size + 1 := by simp
  have hba : Below w5.heap.size w5 (w5.alloc o) := (Below.refl _ w5).alloc (Nat.le_refl _) o
  have hs6 := hg6.size
  have k6 : ∀ g, g < w5.heap.size → some g ≠ (Value.slice x j m).ownBlock → W6.heap[g]? = w5.heap[g]? := fun g hl hne => (hg6.block g (by omega) hne).trans (hba.block g hl)
  have hg6b : w.heap.size + 2 ≤ g6 := (ho6.lt g6 rfl).1
  have kk : ∀ g, g < w5.heap.size → w.heap.size + 2 ≤ g → some g ≠ (Value.slice x j m).ownBlock → (W6.setCell ⟨w.heap.size, 7, none⟩ (.slice (some ⟨g6, 0, none⟩) (j + 1) c6)).heap[g]? = w5.heap[g]? := fun g h1 h2 h3 => (heap_setCell_other _ _ _ _ (by show g ≠ w.heap.size; omega)).trans (k6 g h1 h3)
  have hne : ∀ g, g < w5.heap.size → some g ≠ (Value.slice x j m).ownBlock → some g ≠ some g6 := fun g h1 h2 e => by
    rcases hat with h' | h'
    · exact h2 (e.trans h')
    · rw [h'] at e
      simp only [Option.some.injEq] at e
      omega
  have lowne : ∀ g, g < w.heap.size + 2 → some g ≠ (Value.slice x j m).ownBlock := fun g hg e => by
    have := (hxB g e.symm).1
    omega
  have hbel6 : Below w.heap.size w W6 := (hbel.alloc hbel.size o).grown hg6 (by have := hbel.size; omega) (fun q hq => by have := (hxB q hq).1; omega)
  have hbox6 := (k6 _ (by omega) (lowne _ (by omega))).trans hbox
  have KQ : ∀ g, g < w5.heap.size → (w.heap.size + 2 ≤ g ∧ some g ≠ (Value.slice x j m).ownBlock) → (w.heap.size + 2 ≤ g ∧ some g ≠ some g6) ∧ (W6.setCell ⟨w.heap.size, 7, none⟩ (.slice (some ⟨g6, 0, none⟩) (j + 1) c6)).heap[g]? = w5.heap[g]? := fun g hg hP => ⟨⟨hP.1, hne g hg hP.2⟩, kk g hg hP.1 hP.2⟩
  refine ⟨hbel6.setCell (p := ⟨w.heap.size, 7, none⟩) (Nat.le_refl _) _, by simp; omega, ⟨some ⟨g6, 0, none⟩, c6, xs ++ pfc ks[j] y', set7 hbox6 _, ?_, ?_, ⟨hL.1.keep (by simp; omega) KQ, hL.2⟩, hG.keep (by simp; omega) KQ⟩, ?_⟩
  · exact own_keep ho6 (fun g _ _ hg _ => heap_setCell_other _ _ _ _ (by show g ≠ w.heap.size; omega))
  · have r1 := hrow.keep (Q := fun g => w.heap.size + 2 ≤ g ∧ some g ≠ some g6) (w' := W6.setCell ⟨w.heap.size, 7, none⟩ (.slice (some ⟨g6, 0, none⟩) (j + 1) c6)) (by simp; omega) KQ
    have t1 := ht.keep (Q := fun g => w.heap.size + 2 ≤ g ∧ some g ≠ some g6) (w' := W6.setCell ⟨w.heap.size, 7, none⟩ (.slice (some ⟨g6, 0, none⟩) (j + 1) c6)) (by simp; omega) (fun g hg hP => by
      have e : some g ≠ (Value.slice x j m).ownBlock := fun e => by
        have := (hxB g e.symm).2
        have hP' : B ≤ g := hP
        omega
      have hP' : B ≤ g := hP
      exact ⟨⟨by omega, hne g hg e⟩, kk g hg (by omega) e⟩)
    exact r1.push hl hj t1
  · exact (heap_setCell_other _ _ _ _ (by show w.heap.size + 1 ≠ w.heap.size; omega)).trans ((k6 _ (by omega) (lowne _ (by omega))).trans hres)
theorem results_37o {fn : Func} {p : Tmp} (h : fn.results = #[.cell p 37]) (tmps : Array Value) (w : World) (g1 : Nat) (cs : Array Value) (hp : tmps.getD p undef = .pointer (some ⟨g1, 0, none⟩)) (h1 : w.heap[g1]? = some (.cells cs 37 (0, 0))) (hc : cs.size = 8) : (results fn tmps).run Try.prog w = .ok (.agg cs) w :=
  results_cell_row h tmps w g1 37 cs (0, 0) _ hp h1 Try.underlying37 rfl (by rw [hc]; exact size37)
def CopyOk (d e : Nat) : Prop := ∀ (P : Nat → Prop) (p : Pf) (x : Pl) (w : World), PfAt P w d e p x → Smp p → Calls Try.prog 55 #[vpf p x] w fun en w' => ∃ x', en = .returned (vpf p x') ∧ PfAt (fun g => w.heap.size ≤ g) w' d e p x' ∧ Below w.heap.size w w'
set_option maxRecDepth 100000 in
set_option maxHeartbeats 4000000 in
theorem pcopy_any (d : Nat) : ∀ e, CopyOk d e := by
  intro e
  induction e with
  | zero => intro P p x w h; exact h.elim
  | succ e ih =>
    intro P p x w h hs
    have hh := hs.here
    have hkk := fun j (hj : j < p.kids.length) => hs.kid (List.getElem_mem hj)
    obtain ⟨hb1, hb2, hb3, hL, hG, hk, hK⟩ := h
    obtain ⟨step, left, goal, ix, n, kids⟩ := p
    obtain ⟨la, lc, ga, gc, ka, kc⟩ := x
    dsimp only at hb1 hb2 hb3 hL hG hk hK hh hkk
    have HB : Hid (i64B step ∧ i64B ix ∧ i64B n) := ⟨hb1, hb2, hb3⟩
    have HL : Hid (TyAt w (d + 1) ⟨0, 0, left⟩ la lc) := hL.1.at
    have HG : Hid (TyAt w d goal ga gc) := hG.at
    have HK : Hid (KidsAt P w d e kids ka) := hK
    have HSM : Hid (∀ j (hj : j < kids.length), Smp kids[j]) := hkk
    have HSL : Hid (szs left ≤ 900) := hh.1
    have HSG : Hid (sz goal ≤ 900) := hh.2.1
    have hkl : kids.length ≤ 900 := hh.2.2
    have IH : Hid (CopyOk d e) := ih
    obtain ⟨i37, hi37, hz370, hz371, hz372⟩ := info_parts info37
    clear hb1 hb2 hb3 hL hG hK hh hkk hs ih hk
    unfold vpf
    dsimp only
    go_enter Try.func55, Try.ntmps55
    go_upto_region 1 with fail
    obtain ⟨x1, x2, hVs, hVb⟩ := two_boxes w (.cells #[.int .i64 step, .slice la left.length lc, .int .i64 goal.kind, .int .i64 goal.n, .slice ga goal.kids.length gc, .int .i64 ix, .int .i64 n, .slice ka kids.length kc] 37) (.cells #[.int .i64 0, .slice none 0 0, .int .i64 0, .int .i64 0, .slice none 0 0, .int .i64 0, .int .i64 0, .slice none 0 0] 37)
    generalize hV : (w.alloc (.cells #[.int .i64 step, .slice la left.length lc, .int .i64 goal.kind, .int .i64 goal.n, .slice ga goal.kids.length gc, .int .i64 ix, .int .i64 n, .slice ka kids.length kc] 37)).alloc (.cells #[.int .i64 0, .slice none 0 0, .int .i64 0, .int .i64 0, .slice none 0 0, .int .i64 0, .int .i64 0, .slice none 0 0] 37) = V at *
    clear hV
    have i7 := cell_of_row _ _ 7 _ _ _ x1
    go_upto_region 2 with fail
    clear i7
    go_cut [] from 8 to 17 (fun wx => ∃ a1 c1 a2 c2, wx.heap[w.heap.size]? = some (.cells #[.int .i64 step, .slice a1 left.length c1, .int .i64 goal.kind, .int .i64 goal.n, .slice a2 goal.kids.length c2, .int .i64 ix, .int .i64 n, .slice none 0 0] 37 (0, 0)) ∧ wx.heap[w.heap.size + 1]? = some (.cells #[.int .i64 0, .slice none 0 0, .int .i64 0, .int .i64 0, .slice none 0 0, .int .i64 0, .int .i64 0, .slice none 0 0] 37 (0, 0)) ∧ Below w.heap.size w wx ∧ LsAt (fun g => w.heap.size + 2 ≤ g) wx d left a1 c1 ∧ TyP (fun g => w.heap.size + 2 ≤ g) wx d goal a2 c2)
    case first =>
      have hVb : Below w.heap.size w V.drew := hVb.drew
      have x1 : V.drew.heap[w.heap.size]? = some (.cells #[.int .i64 step, .slice la left.length lc, .int .i64 goal.kind, .int .i64 goal.n, .slice ga goal.kids.length gc, .int .i64 ix, .int .i64 n, .slice ka kids.length kc] 37 (0, 0)) := x1
      have x2 : V.drew.heap[w.heap.size + 1]? = some (.cells #[.int .i64 0, .slice none 0 0, .int .i64 0, .int .i64 0, .slice none 0 0, .int .i64 0, .int .i64 0, .slice none 0 0] 37 (0, 0)) := x2
      have hVs : V.drew.heap.size = w.heap.size + 2 := hVs
      have K74 := parts_any d left la lc V.drew (HL.out.below hVb) HSL.out
      have i0 := cell_of_row _ _ 0 _ _ _ x1
      have i1 := cell_of_row _ _ 1 _ _ _ x1
      have i2 := cell_of_row _ _ 2 _ _ _ x1
      have i3 := cell_of_row _ _ 3 _ _ _ x1
      have i4 := cell_of_row _ _ 4 _ _ _ x1
      have i5 := cell_of_row _ _ 5 _ _ _ x1
      have i6 := cell_of_row _ _ 6 _ _ _ x1
      have i7 := cell_of_row _ _ 7 _ _ _ x1
      refine wp_region_held_drew (S := fun _ => True) (by kernel_rfl) (trivial) (fun hHeld => ?_)
      generalize hV : V.drew = V0 at *
      clear hV
      refine wpAnyH_take (i := 0) (oi := { dst := some 8, op := Op.fieldAddr 37 (Operand.tmp 1) 1, type := 0, pos := "parts.go:45", after := #[], guard := none }) (v := ?_) rfl (by kernel_rfl) (by kernel_rfl) (by kernel_rfl) (fun _ _ _ h => h) (Or.inl ⟨by rfl, ?_⟩) (by assumption) ?_
      case refine_2 => intro w hSw; (try dsimp only at hSw); go_simp; (try with_reducible rfl)
      simp only [Act.put, List.setIfInBounds_toArray, List.set_cons_zero, List.set_cons_succ]
      refine wpAnyH_take (i := 3) (oi := { dst := some 11, op := Op.fieldAddr 37 (Operand.tmp 1) 2, type := 0, pos := "parts.go:45", after := #[], guard := none }) (v := ?_) rfl (by kernel_rfl) (by kernel_rfl) (by kernel_rfl) (fun _ _ _ h => h) (Or.inl ⟨by rfl, ?_⟩) (by assumption) ?_
      case refine_2 => intro w hSw; (try dsimp only at hSw); go_simp; (try with_reducible rfl)
      simp only [Act.put, List.setIfInBounds_toArray, List.set_cons_zero, List.set_cons_succ]
      refine wpAnyH_ready (rs := [1, 4]) (by kernel_rfl) (by simp) ?_
      refine (AllReadyH.cons (o := { dst := some 9, op := Op.load 22 (Operand.tmp 8), type := 22, pos := "parts.go:45", after := #[{ on := 0, ground := Ground.data }], guard := none }) rfl (fun K hK => ?_) (AllReadyH.cons (o := { dst := some 12, op := Op.load 24 (Operand.tmp 11), type := 24, pos := "parts.go:45", after := #[{ on := 3, ground := Ground.data }], guard := none }) rfl (fun K hK => ?_) AllReadyH.nil))
      · skip
        go_simp
        refine hK.out _ _ ?_ (fun hHeld => ?_)
        · exact trivial
        clear hK K
        try simp only [Act.put, List.setIfInBounds_toArray, List.set_cons_zero, List.set_cons_succ]
        refine wpAnyH_ready (rs := [2, 4]) (by kernel_rfl) (by simp) ?_
        refine (AllReadyH.cons (o := { dst := some 10, op := Op.call { callee := Callee.value (Operand.func 74), args := #[Operand.tmp 9], argTypes := #[22] }, type := 22, pos := "parts.go:45", after := #[{ on := 1, ground := Ground.data }], guard := none }) rfl (fun K hK => ?_) (AllReadyH.cons (o := { dst := some 12, op := Op.load 24 (Operand.tmp 11), type := 24, pos := "parts.go:45", after := #[{ on := 3, ground := Ground.data }], guard := none }) rfl (fun K hK => ?_) AllReadyH.nil))
        · skip
          go_simp
          (with_reducible refine K74.mono ?_)
          rintro e1 w1 ⟨a1, c1, rfl, hL1, hb1⟩
          clear K74
          dsimp only
          have hB1 := hVb.trans (hb1.mono hVb.size)
          have y1 := (hb1.block _ (lt_of_get x1)).trans x1
          have y2 := (hb1.block _ (lt_of_get x2)).trans x2
          clear i0 i1 i2 i3 i4 i5 i6 i7
          have i2 := cell_of_row _ _ 2 _ _ _ y1
          have i3 := cell_of_row _ _ 3 _ _ _ y1
          have i4 := cell_of_row _ _ 4 _ _ _ y1
          have K75 := part_any d goal ga gc w1 (HG.out.below hB1) HSG.out
          unfold vty at K75
          refine hK.out _ _ ?_ (fun hHeld => ?_)
          · exact trivial
          clear hK K
          try simp only [Act.put, List.setIfInBounds_toArray, List.set_cons_zero, List.set_cons_succ]
          refine wpAnyH_ready (rs := [4]) (by kernel_rfl) (by simp) ?_
          refine (AllReadyH.cons (o := { dst := some 12, op := Op.load 24 (Operand.tmp 11), type := 24, pos := "parts.go:45", after := #[{ on := 3, ground := Ground.data }], guard := none }) rfl (fun K hK => ?_) AllReadyH.nil)
          go_simp
          refine hK.out _ _ ?_ (fun hHeld => ?_)
          · exact trivial
          clear hK K
          try simp only [Act.put, List.setIfInBounds_toArray, List.set_cons_zero, List.set_cons_succ]
          refine wpAnyH_take (i := 6) (oi := { dst := some 14, op := Op.fieldAddr 37 (Operand.tmp 1) 1, type := 0, pos := "parts.go:45", after := #[{ on := 0, ground := Ground.phase }, { on := 1, ground := Ground.phase }, { on := 2, ground := Ground.phase }, { on := 3, ground := Ground.phase }, { on := 4, ground := Ground.phase }, { on := 5, ground := Ground.textOnly Departure.lateStoresUnsure }], guard := none }) (v := ?_) rfl (by kernel_rfl) (by kernel_rfl) (by kernel_rfl) (fun _ _ _ h => h) (Or.inl ⟨by rfl, ?_⟩) (by assumption) ?_
          case refine_2 => intro w hSw; (try dsimp only at hSw); go_simp; (try with_reducible rfl)
          simp only [Act.put, List.setIfInBounds_toArray, List.set_cons_zero, List.set_cons_succ]
          refine wpAnyH_ready (rs := [5]) (by kernel_rfl) (by simp) ?_
          refine (AllReadyH.cons (o := { dst := some 13, op := Op.call { callee := Callee.value (Operand.func 75), args := #[Operand.tmp 12], argTypes := #[24] }, type := 24, pos := "parts.go:45", after := #[{ on := 4, ground := Ground.data }, { on := 2, ground := Ground.chain }], guard := none }) rfl (fun K hK => ?_) AllReadyH.nil)
          go_simp
          (with_reducible refine K75.mono ?_)
          rintro e2 w2 ⟨a2, c2, rfl, hG2, hb2⟩
          clear K75
          dsimp only
          have hB2 := hB1.trans (hb2.mono hB1.size)
          have z1 := (hb2.block _ (lt_of_get y1)).trans y1
          have z2 := (hb2.block _ (lt_of_get y2)).trans y2
          have HF2 : Hid (Cd w.heap.size d left a1 c1 goal a2 c2 w2) := copied hVs hL1 hb1 hG2 hb2
          clear i2 i3 i4 hL1 hG2 hb1 hb2
          have i1 := cell_of_row _ _ 1 _ _ _ z1
          have k1 := frozen_of_row _ _ 1 _ 37 z1
          refine hK.out _ _ ?_ (fun hHeld => ?_)
          · exact trivial
          clear hK K
          try simp only [Act.put, List.setIfInBounds_toArray, List.set_cons_zero, List.set_cons_succ]
          refine wpAnyH_ready (rs := [7]) (by kernel_rfl) (by simp) ?_
          refine (AllReadyH.cons (o := { dst := none, op := Op.store 22 (Operand.tmp 14) (Operand.tmp 10), type := 0, pos := "parts.go:45", after := #[{ on := 6, ground := Ground.data }, { on := 2, ground := Ground.data }, { on := 5, ground := Ground.chain }, { on := 0, ground := Ground.phase }, { on := 1, ground := Ground.phase }, { on := 2, ground := Ground.phase }, { on := 3, ground := Ground.phase }, { on := 4, ground := Ground.phase }, { on := 5, ground := Ground.textOnly Departure.lateStoresUnsure }], guard := none }) rfl (fun K hK => ?_) AllReadyH.nil)
          go_simp
          refine hK.out _ _ ?_ (fun hHeld => ?_)
          · exact trivial
          clear hK K
          try simp only [Act.put, List.setIfInBounds_toArray, List.set_cons_zero, List.set_cons_succ]
          have u1 := set1 z1 (.slice a1 left.length c1)
          have v1 : (w2.setCell ⟨w.heap.size, 1, none⟩ (.slice a1 left.length c1)).heap[w.heap.size + 1]? = _ := (heap_setCell_other _ _ _ _ (by show w.heap.size + 1 ≠ w.heap.size; omega)).trans z2
          have HW3 : Hid (w2.setCell ⟨w.heap.size, 1, none⟩ (.slice a1 left.length c1) = w2.setCell ⟨w.heap.size, 1, none⟩ (.slice a1 left.length c1)) := rfl
          have hB3 := hB2.setCell (p := ⟨w.heap.size, 1, none⟩) (Nat.le_refl _) (.slice a1 left.length c1)
          have HF3 : Hid _ := HF2.out.set (v := .slice a1 left.length c1) 1
          clear z1 z2 i1 k1 HF2 hB2 HW3
          generalize hV : w2.setCell ⟨w.heap.size, 1, none⟩ (.slice a1 left.length c1) = w3 at *
          clear hV
          have i2 := cell_of_row _ _ 2 _ _ _ u1
          have i3 := cell_of_row _ _ 3 _ _ _ u1
          have i4 := cell_of_row _ _ 4 _ _ _ u1
          have k2 := frozen_of_row _ _ 2 _ 37 u1
          have k3 := frozen_of_row _ _ 3 _ 37 u1
          have k4 := frozen_of_row _ _ 4 _ 37 u1
          refine wpAnyH_take (i := 8) (oi := { dst := some 15, op := Op.fieldAddr 37 (Operand.tmp 1) 2, type := 0, pos := "parts.go:45", after := #[{ on := 0, ground := Ground.phase }, { on := 1, ground := Ground.phase }, { on := 2, ground := Ground.phase }, { on := 3, ground := Ground.phase }, { on := 4, ground := Ground.phase }, { on := 5, ground := Ground.phase }, { on := 6, ground := Ground.phase }, { on := 7, ground := Ground.phase }], guard := none }) (v := ?_) rfl (by kernel_rfl) (by kernel_rfl) (by kernel_rfl) (fun _ _ _ h => h) (Or.inl ⟨by rfl, ?_⟩) (by assumption) ?_
          case refine_2 => intro w hSw; (try dsimp only at hSw); go_simp; (try with_reducible rfl)
          simp only [Act.put, List.setIfInBounds_toArray, List.set_cons_zero, List.set_cons_succ]
          refine wpAnyH_ready (rs := [9]) (by kernel_rfl) (by simp) ?_
          refine (AllReadyH.cons (o := { dst := none, op := Op.store 24 (Operand.tmp 15) (Operand.tmp 13), type := 0, pos := "parts.go:45", after := #[{ on := 8, ground := Ground.data }, { on := 5, ground := Ground.data }, { on := 7, ground := Ground.chain }, { on := 0, ground := Ground.phase }, { on := 1, ground := Ground.phase }, { on := 2, ground := Ground.phase }, { on := 3, ground := Ground.phase }, { on := 4, ground := Ground.phase }, { on := 5, ground := Ground.phase }, { on := 6, ground := Ground.phase }, { on := 7, ground := Ground.phase }], guard := none }) rfl (fun K hK => ?_) AllReadyH.nil)
          go_simp
          refine hK.out _ _ ?_ (fun hHeld => ?_)
          · exact trivial
          clear hK K
          try simp only [Act.put, List.setIfInBounds_toArray, List.set_cons_zero, List.set_cons_succ]
          have u2 := set234 u1 (.int .i64 goal.kind) (.int .i64 goal.n) (.slice a2 goal.kids.length c2)
          have v2 := (ko234 w3 w.heap.size (.int .i64 goal.kind) (.int .i64 goal.n) (.slice a2 goal.kids.length c2) (w.heap.size + 1) (by omega)).trans v1
          have hB4 := ((hB3.setCell (p := ⟨w.heap.size, 2, none⟩) (Nat.le_refl _) (.int .i64 goal.kind)).setCell (p := ⟨w.heap.size, 3, none⟩) (Nat.le_refl _) (.int .i64 goal.n)).setCell (p := ⟨w.heap.size, 4, none⟩) (Nat.le_refl _) (.slice a2 goal.kids.length c2)
          have HF4 : Hid _ := ((HF3.out.set (v := .int .i64 goal.kind) 2).set (v := .int .i64 goal.n) 3).set (v := .slice a2 goal.kids.length c2) 4
          clear u1 v1 i2 i3 i4 k2 k3 k4 HF3 hB3
          generalize hV : ((w3.setCell ⟨w.heap.size, 2, none⟩ (.int .i64 goal.kind)).setCell ⟨w.heap.size, 3, none⟩ (.int .i64 goal.n)).setCell ⟨w.heap.size, 4, none⟩ (.slice a2 goal.kids.length c2) = w4 at *
          clear hV
          have i7 := cell_of_row _ _ 7 _ _ _ u2
          have k7 := frozen_of_row _ _ 7 _ 37 u2
          refine wpAnyH_take (i := 10) (oi := { dst := some 16, op := Op.fieldAddr 37 (Operand.tmp 1) 5, type := 0, pos := "parts.go:45", after := #[{ on := 0, ground := Ground.phase }, { on := 1, ground := Ground.phase }, { on := 2, ground := Ground.phase }, { on := 3, ground := Ground.phase }, { on := 4, ground := Ground.phase }, { on := 5, ground := Ground.phase }, { on := 6, ground := Ground.phase }, { on := 7, ground := Ground.phase }, { on := 8, ground := Ground.phase }, { on := 9, ground := Ground.phase }], guard := none }) (v := ?_) rfl (by kernel_rfl) (by kernel_rfl) (by kernel_rfl) (fun _ _ _ h => h) (Or.inl ⟨by rfl, ?_⟩) (by assumption) ?_
          case refine_2 => intro w hSw; (try dsimp only at hSw); go_simp; (try with_reducible rfl)
          simp only [Act.put, List.setIfInBounds_toArray, List.set_cons_zero, List.set_cons_succ]
          refine wpAnyH_ready (rs := [11]) (by kernel_rfl) (by simp) ?_
          refine (AllReadyH.cons (o := { dst := none, op := Op.store 35 (Operand.tmp 16) (Operand.const (Value.slice none 0 0)), type := 0, pos := "parts.go:45", after := #[{ on := 10, ground := Ground.data }, { on := 9, ground := Ground.chain }, { on := 0, ground := Ground.phase }, { on := 1, ground := Ground.phase }, { on := 2, ground := Ground.phase }, { on := 3, ground := Ground.phase }, { on := 4, ground := Ground.phase }, { on := 5, ground := Ground.phase }, { on := 6, ground := Ground.phase }, { on := 7, ground := Ground.phase }, { on := 8, ground := Ground.phase }, { on := 9, ground := Ground.phase }], guard := none }) rfl (fun K hK => ?_) AllReadyH.nil)
          go_simp
          refine hK.out _ _ ?_ (fun hHeld => ?_)
          · exact trivial
          clear hK K
          try simp only [Act.put, List.setIfInBounds_toArray, List.set_cons_zero, List.set_cons_succ]
          refine wpAnyH_done (by kernel_rfl) ?_ _
          go_wp2_with fail
          go_meet
          case rel => exact ⟨a1, c1, a2, c2, set7 u2 _, (heap_setCell_other _ _ _ _ (by show w.heap.size + 1 ≠ w.heap.size; omega)).trans v2, hB4.setCell (p := ⟨w.heap.size, 7, none⟩) (Nat.le_refl _) _, (HF4.out.set 7).1, (HF4.out.set 7).2⟩
        · skip
          go_simp
          refine hK.out _ _ ?_ (fun hHeld => ?_)
          · exact trivial
          clear hK K
          try simp only [Act.put, List.setIfInBounds_toArray, List.set_cons_zero, List.set_cons_succ]
          refine wpAnyH_ready (rs := [2]) (by kernel_rfl) (by simp) ?_
          refine (AllReadyH.cons (o := { dst := some 10, op := Op.call { callee := Callee.value (Operand.func 74), args := #[Operand.tmp 9], argTypes := #[22] }, type := 22, pos := "parts.go:45", after := #[{ on := 1, ground := Ground.data }], guard := none }) rfl (fun K hK => ?_) AllReadyH.nil)
          go_simp
          (with_reducible refine K74.mono ?_)
          rintro e1 w1 ⟨a1, c1, rfl, hL1, hb1⟩
          clear K74
          dsimp only
          have hB1 := hVb.trans (hb1.mono hVb.size)
          have y1 := (hb1.block _ (lt_of_get x1)).trans x1
          have y2 := (hb1.block _ (lt_of_get x2)).trans x2
          clear i0 i1 i2 i3 i4 i5 i6 i7
          have i2 := cell_of_row _ _ 2 _ _ _ y1
          have i3 := cell_of_row _ _ 3 _ _ _ y1
          have i4 := cell_of_row _ _ 4 _ _ _ y1
          have K75 := part_any d goal ga gc w1 (HG.out.below hB1) HSG.out
          unfold vty at K75
          refine hK.out _ _ ?_ (fun hHeld => ?_)
          · exact trivial
          clear hK K
          try simp only [Act.put, List.setIfInBounds_toArray, List.set_cons_zero, List.set_cons_succ]
          refine wpAnyH_take (i := 6) (oi := { dst := some 14, op := Op.fieldAddr 37 (Operand.tmp 1) 1, type := 0, pos := "parts.go:45", after := #[{ on := 0, ground := Ground.phase }, { on := 1, ground := Ground.phase }, { on := 2, ground := Ground.phase }, { on := 3, ground := Ground.phase }, { on := 4, ground := Ground.phase }, { on := 5, ground := Ground.textOnly Departure.lateStoresUnsure }], guard := none }) (v := ?_) rfl (by kernel_rfl) (by kernel_rfl) (by kernel_rfl) (fun _ _ _ h => h) (Or.inl ⟨by rfl, ?_⟩) (by assumption) ?_
          case refine_2 => intro w hSw; (try dsimp only at hSw); go_simp; (try with_reducible rfl)
          simp only [Act.put, List.setIfInBounds_toArray, List.set_cons_zero, List.set_cons_succ]
          refine wpAnyH_ready (rs := [5]) (by kernel_rfl) (by simp) ?_
          refine (AllReadyH.cons (o := { dst := some 13, op := Op.call { callee := Callee.value (Operand.func 75), args := #[Operand.tmp 12], argTypes := #[24] }, type := 24, pos := "parts.go:45", after := #[{ on := 4, ground := Ground.data }, { on := 2, ground := Ground.chain }], guard := none }) rfl (fun K hK => ?_) AllReadyH.nil)
          go_simp
          (with_reducible refine K75.mono ?_)
          rintro e2 w2 ⟨a2, c2, rfl, hG2, hb2⟩
          clear K75
          dsimp only
          have hB2 := hB1.trans (hb2.mono hB1.size)
          have z1 := (hb2.block _ (lt_of_get y1)).trans y1
          have z2 := (hb2.block _ (lt_of_get y2)).trans y2
          have HF2 : Hid (Cd w.heap.size d left a1 c1 goal a2 c2 w2) := copied hVs hL1 hb1 hG2 hb2
          clear i2 i3 i4 hL1 hG2 hb1 hb2
          have i1 := cell_of_row _ _ 1 _ _ _ z1
          have k1 := frozen_of_row _ _ 1 _ 37 z1
          refine hK.out _ _ ?_ (fun hHeld => ?_)
          · exact trivial
          clear hK K
          try simp only [Act.put, List.setIfInBounds_toArray, List.set_cons_zero, List.set_cons_succ]
          refine wpAnyH_ready (rs := [7]) (by kernel_rfl) (by simp) ?_
          refine (AllReadyH.cons (o := { dst := none, op := Op.store 22 (Operand.tmp 14) (Operand.tmp 10), type := 0, pos := "parts.go:45", after := #[{ on := 6, ground := Ground.data }, { on := 2, ground := Ground.data }, { on := 5, ground := Ground.chain }, { on := 0, ground := Ground.phase }, { on := 1, ground := Ground.phase }, { on := 2, ground := Ground.phase }, { on := 3, ground := Ground.phase }, { on := 4, ground := Ground.phase }, { on := 5, ground := Ground.textOnly Departure.lateStoresUnsure }], guard := none }) rfl (fun K hK => ?_) AllReadyH.nil)
          go_simp
          refine hK.out _ _ ?_ (fun hHeld => ?_)
          · exact trivial
          clear hK K
          try simp only [Act.put, List.setIfInBounds_toArray, List.set_cons_zero, List.set_cons_succ]
          have u1 := set1 z1 (.slice a1 left.length c1)
          have v1 : (w2.setCell ⟨w.heap.size, 1, none⟩ (.slice a1 left.length c1)).heap[w.heap.size + 1]? = _ := (heap_setCell_other _ _ _ _ (by show w.heap.size + 1 ≠ w.heap.size; omega)).trans z2
          have HW3 : Hid (w2.setCell ⟨w.heap.size, 1, none⟩ (.slice a1 left.length c1) = w2.setCell ⟨w.heap.size, 1, none⟩ (.slice a1 left.length c1)) := rfl
          have hB3 := hB2.setCell (p := ⟨w.heap.size, 1, none⟩) (Nat.le_refl _) (.slice a1 left.length c1)
          have HF3 : Hid _ := HF2.out.set (v := .slice a1 left.length c1) 1
          clear z1 z2 i1 k1 HF2 hB2 HW3
          generalize hV : w2.setCell ⟨w.heap.size, 1, none⟩ (.slice a1 left.length c1) = w3 at *
          clear hV
          have i2 := cell_of_row _ _ 2 _ _ _ u1
          have i3 := cell_of_row _ _ 3 _ _ _ u1
          have i4 := cell_of_row _ _ 4 _ _ _ u1
          have k2 := frozen_of_row _ _ 2 _ 37 u1
          have k3 := frozen_of_row _ _ 3 _ 37 u1
          have k4 := frozen_of_row _ _ 4 _ 37 u1
          refine wpAnyH_take (i := 8) (oi := { dst := some 15, op := Op.fieldAddr 37 (Operand.tmp 1) 2, type := 0, pos := "parts.go:45", after := #[{ on := 0, ground := Ground.phase }, { on := 1, ground := Ground.phase }, { on := 2, ground := Ground.phase }, { on := 3, ground := Ground.phase }, { on := 4, ground := Ground.phase }, { on := 5, ground := Ground.phase }, { on := 6, ground := Ground.phase }, { on := 7, ground := Ground.phase }], guard := none }) (v := ?_) rfl (by kernel_rfl) (by kernel_rfl) (by kernel_rfl) (fun _ _ _ h => h) (Or.inl ⟨by rfl, ?_⟩) (by assumption) ?_
          case refine_2 => intro w hSw; (try dsimp only at hSw); go_simp; (try with_reducible rfl)
          simp only [Act.put, List.setIfInBounds_toArray, List.set_cons_zero, List.set_cons_succ]
          refine wpAnyH_ready (rs := [9]) (by kernel_rfl) (by simp) ?_
          refine (AllReadyH.cons (o := { dst := none, op := Op.store 24 (Operand.tmp 15) (Operand.tmp 13), type := 0, pos := "parts.go:45", after := #[{ on := 8, ground := Ground.data }, { on := 5, ground := Ground.data }, { on := 7, ground := Ground.chain }, { on := 0, ground := Ground.phase }, { on := 1, ground := Ground.phase }, { on := 2, ground := Ground.phase }, { on := 3, ground := Ground.phase }, { on := 4, ground := Ground.phase }, { on := 5, ground := Ground.phase }, { on := 6, ground := Ground.phase }, { on := 7, ground := Ground.phase }], guard := none }) rfl (fun K hK => ?_) AllReadyH.nil)
          go_simp
          refine hK.out _ _ ?_ (fun hHeld => ?_)
          · exact trivial
          clear hK K
          try simp only [Act.put, List.setIfInBounds_toArray, List.set_cons_zero, List.set_cons_succ]
          have u2 := set234 u1 (.int .i64 goal.kind) (.int .i64 goal.n) (.slice a2 goal.kids.length c2)
          have v2 := (ko234 w3 w.heap.size (.int .i64 goal.kind) (.int .i64 goal.n) (.slice a2 goal.kids.length c2) (w.heap.size + 1) (by omega)).trans v1
          have hB4 := ((hB3.setCell (p := ⟨w.heap.size, 2, none⟩) (Nat.le_refl _) (.int .i64 goal.kind)).setCell (p := ⟨w.heap.size, 3, none⟩) (Nat.le_refl _) (.int .i64 goal.n)).setCell (p := ⟨w.heap.size, 4, none⟩) (Nat.le_refl _) (.slice a2 goal.kids.length c2)
          have HF4 : Hid _ := ((HF3.out.set (v := .int .i64 goal.kind) 2).set (v := .int .i64 goal.n) 3).set (v := .slice a2 goal.kids.length c2) 4
          clear u1 v1 i2 i3 i4 k2 k3 k4 HF3 hB3
          generalize hV : ((w3.setCell ⟨w.heap.size, 2, none⟩ (.int .i64 goal.kind)).setCell ⟨w.heap.size, 3, none⟩ (.int .i64 goal.n)).setCell ⟨w.heap.size, 4, none⟩ (.slice a2 goal.kids.length c2) = w4 at *
          clear hV
          have i7 := cell_of_row _ _ 7 _ _ _ u2
          have k7 := frozen_of_row _ _ 7 _ 37 u2
          refine wpAnyH_take (i := 10) (oi := { dst := some 16, op := Op.fieldAddr 37 (Operand.tmp 1) 5, type := 0, pos := "parts.go:45", after := #[{ on := 0, ground := Ground.phase }, { on := 1, ground := Ground.phase }, { on := 2, ground := Ground.phase }, { on := 3, ground := Ground.phase }, { on := 4, ground := Ground.phase }, { on := 5, ground := Ground.phase }, { on := 6, ground := Ground.phase }, { on := 7, ground := Ground.phase }, { on := 8, ground := Ground.phase }, { on := 9, ground := Ground.phase }], guard := none }) (v := ?_) rfl (by kernel_rfl) (by kernel_rfl) (by kernel_rfl) (fun _ _ _ h => h) (Or.inl ⟨by rfl, ?_⟩) (by assumption) ?_
          case refine_2 => intro w hSw; (try dsimp only at hSw); go_simp; (try with_reducible rfl)
          simp only [Act.put, List.setIfInBounds_toArray, List.set_cons_zero, List.set_cons_succ]
          refine wpAnyH_ready (rs := [11]) (by kernel_rfl) (by simp) ?_
          refine (AllReadyH.cons (o := { dst := none, op := Op.store 35 (Operand.tmp 16) (Operand.const (Value.slice none 0 0)), type := 0, pos := "parts.go:45", after := #[{ on := 10, ground := Ground.data }, { on := 9, ground := Ground.chain }, { on := 0, ground := Ground.phase }, { on := 1, ground := Ground.phase }, { on := 2, ground := Ground.phase }, { on := 3, ground := Ground.phase }, { on := 4, ground := Ground.phase }, { on := 5, ground := Ground.phase }, { on := 6, ground := Ground.phase }, { on := 7, ground := Ground.phase }, { on := 8, ground := Ground.phase }, { on := 9, ground := Ground.phase }], guard := none }) rfl (fun K hK => ?_) AllReadyH.nil)
          go_simp
          refine hK.out _ _ ?_ (fun hHeld => ?_)
          · exact trivial
          clear hK K
          try simp only [Act.put, List.setIfInBounds_toArray, List.set_cons_zero, List.set_cons_succ]
          refine wpAnyH_done (by kernel_rfl) ?_ _
          go_wp2_with fail
          go_meet
          case rel => exact ⟨a1, c1, a2, c2, set7 u2 _, (heap_setCell_other _ _ _ _ (by show w.heap.size + 1 ≠ w.heap.size; omega)).trans v2, hB4.setCell (p := ⟨w.heap.size, 7, none⟩) (Nat.le_refl _) _, (HF4.out.set 7).1, (HF4.out.set 7).2⟩
      · skip
        go_simp
        refine hK.out _ _ ?_ (fun hHeld => ?_)
        · exact trivial
        clear hK K
        try simp only [Act.put, List.setIfInBounds_toArray, List.set_cons_zero, List.set_cons_succ]
        refine wpAnyH_ready (rs := [1]) (by kernel_rfl) (by simp) ?_
        refine (AllReadyH.cons (o := { dst := some 9, op := Op.load 22 (Operand.tmp 8), type := 22, pos := "parts.go:45", after := #[{ on := 0, ground := Ground.data }], guard := none }) rfl (fun K hK => ?_) AllReadyH.nil)
        go_simp
        refine hK.out _ _ ?_ (fun hHeld => ?_)
        · exact trivial
        clear hK K
        try simp only [Act.put, List.setIfInBounds_toArray, List.set_cons_zero, List.set_cons_succ]
        refine wpAnyH_ready (rs := [2]) (by kernel_rfl) (by simp) ?_
        refine (AllReadyH.cons (o := { dst := some 10, op := Op.call { callee := Callee.value (Operand.func 74), args := #[Operand.tmp 9], argTypes := #[22] }, type := 22, pos := "parts.go:45", after := #[{ on := 1, ground := Ground.data }], guard := none }) rfl (fun K hK => ?_) AllReadyH.nil)
        go_simp
        (with_reducible refine K74.mono ?_)
        rintro e1 w1 ⟨a1, c1, rfl, hL1, hb1⟩
        clear K74
        dsimp only
        have hB1 := hVb.trans (hb1.mono hVb.size)
        have y1 := (hb1.block _ (lt_of_get x1)).trans x1
        have y2 := (hb1.block _ (lt_of_get x2)).trans x2
        clear i0 i1 i2 i3 i4 i5 i6 i7
        have i2 := cell_of_row _ _ 2 _ _ _ y1
        have i3 := cell_of_row _ _ 3 _ _ _ y1
        have i4 := cell_of_row _ _ 4 _ _ _ y1
        have K75 := part_any d goal ga gc w1 (HG.out.below hB1) HSG.out
        unfold vty at K75
        refine hK.out _ _ ?_ (fun hHeld => ?_)
        · exact trivial
        clear hK K
        try simp only [Act.put, List.setIfInBounds_toArray, List.set_cons_zero, List.set_cons_succ]
        refine wpAnyH_take (i := 6) (oi := { dst := some 14, op := Op.fieldAddr 37 (Operand.tmp 1) 1, type := 0, pos := "parts.go:45", after := #[{ on := 0, ground := Ground.phase }, { on := 1, ground := Ground.phase }, { on := 2, ground := Ground.phase }, { on := 3, ground := Ground.phase }, { on := 4, ground := Ground.phase }, { on := 5, ground := Ground.textOnly Departure.lateStoresUnsure }], guard := none }) (v := ?_) rfl (by kernel_rfl) (by kernel_rfl) (by kernel_rfl) (fun _ _ _ h => h) (Or.inl ⟨by rfl, ?_⟩) (by assumption) ?_
        case refine_2 => intro w hSw; (try dsimp only at hSw); go_simp; (try with_reducible rfl)
        simp only [Act.put, List.setIfInBounds_toArray, List.set_cons_zero, List.set_cons_succ]
        refine wpAnyH_ready (rs := [5]) (by kernel_rfl) (by simp) ?_
        refine (AllReadyH.cons (o := { dst := some 13, op := Op.call { callee := Callee.value (Operand.func 75), args := #[Operand.tmp 12], argTypes := #[24] }, type := 24, pos := "parts.go:45", after := #[{ on := 4, ground := Ground.data }, { on := 2, ground := Ground.chain }], guard := none }) rfl (fun K hK => ?_) AllReadyH.nil)
        go_simp
        (with_reducible refine K75.mono ?_)
        rintro e2 w2 ⟨a2, c2, rfl, hG2, hb2⟩
        clear K75
        dsimp only
        have hB2 := hB1.trans (hb2.mono hB1.size)
        have z1 := (hb2.block _ (lt_of_get y1)).trans y1
        have z2 := (hb2.block _ (lt_of_get y2)).trans y2
        have HF2 : Hid (Cd w.heap.size d left a1 c1 goal a2 c2 w2) := copied hVs hL1 hb1 hG2 hb2
        clear i2 i3 i4 hL1 hG2 hb1 hb2
        have i1 := cell_of_row _ _ 1 _ _ _ z1
        have k1 := frozen_of_row _ _ 1 _ 37 z1
        refine hK.out _ _ ?_ (fun hHeld => ?_)
        · exact trivial
        clear hK K
        try simp only [Act.put, List.setIfInBounds_toArray, List.set_cons_zero, List.set_cons_succ]
        refine wpAnyH_ready (rs := [7]) (by kernel_rfl) (by simp) ?_
        refine (AllReadyH.cons (o := { dst := none, op := Op.store 22 (Operand.tmp 14) (Operand.tmp 10), type := 0, pos := "parts.go:45", after := #[{ on := 6, ground := Ground.data }, { on := 2, ground := Ground.data }, { on := 5, ground := Ground.chain }, { on := 0, ground := Ground.phase }, { on := 1, ground := Ground.phase }, { on := 2, ground := Ground.phase }, { on := 3, ground := Ground.phase }, { on := 4, ground := Ground.phase }, { on := 5, ground := Ground.textOnly Departure.lateStoresUnsure }], guard := none }) rfl (fun K hK => ?_) AllReadyH.nil)
        go_simp
        refine hK.out _ _ ?_ (fun hHeld => ?_)
        · exact trivial
        clear hK K
        try simp only [Act.put, List.setIfInBounds_toArray, List.set_cons_zero, List.set_cons_succ]
        have u1 := set1 z1 (.slice a1 left.length c1)
        have v1 : (w2.setCell ⟨w.heap.size, 1, none⟩ (.slice a1 left.length c1)).heap[w.heap.size + 1]? = _ := (heap_setCell_other _ _ _ _ (by show w.heap.size + 1 ≠ w.heap.size; omega)).trans z2
        have HW3 : Hid (w2.setCell ⟨w.heap.size, 1, none⟩ (.slice a1 left.length c1) = w2.setCell ⟨w.heap.size, 1, none⟩ (.slice a1 left.length c1)) := rfl
        have hB3 := hB2.setCell (p := ⟨w.heap.size, 1, none⟩) (Nat.le_refl _) (.slice a1 left.length c1)
        have HF3 : Hid _ := HF2.out.set (v := .slice a1 left.length c1) 1
        clear z1 z2 i1 k1 HF2 hB2 HW3
        generalize hV : w2.setCell ⟨w.heap.size, 1, none⟩ (.slice a1 left.length c1) = w3 at *
        clear hV
        have i2 := cell_of_row _ _ 2 _ _ _ u1
        have i3 := cell_of_row _ _ 3 _ _ _ u1
        have i4 := cell_of_row _ _ 4 _ _ _ u1
        have k2 := frozen_of_row _ _ 2 _ 37 u1
        have k3 := frozen_of_row _ _ 3 _ 37 u1
        have k4 := frozen_of_row _ _ 4 _ 37 u1
        refine wpAnyH_take (i := 8) (oi := { dst := some 15, op := Op.fieldAddr 37 (Operand.tmp 1) 2, type := 0, pos := "parts.go:45", after := #[{ on := 0, ground := Ground.phase }, { on := 1, ground := Ground.phase }, { on := 2, ground := Ground.phase }, { on := 3, ground := Ground.phase }, { on := 4, ground := Ground.phase }, { on := 5, ground := Ground.phase }, { on := 6, ground := Ground.phase }, { on := 7, ground := Ground.phase }], guard := none }) (v := ?_) rfl (by kernel_rfl) (by kernel_rfl) (by kernel_rfl) (fun _ _ _ h => h) (Or.inl ⟨by rfl, ?_⟩) (by assumption) ?_
        case refine_2 => intro w hSw; (try dsimp only at hSw); go_simp; (try with_reducible rfl)
        simp only [Act.put, List.setIfInBounds_toArray, List.set_cons_zero, List.set_cons_succ]
        refine wpAnyH_ready (rs := [9]) (by kernel_rfl) (by simp) ?_
        refine (AllReadyH.cons (o := { dst := none, op := Op.store 24 (Operand.tmp 15) (Operand.tmp 13), type := 0, pos := "parts.go:45", after := #[{ on := 8, ground := Ground.data }, { on := 5, ground := Ground.data }, { on := 7, ground := Ground.chain }, { on := 0, ground := Ground.phase }, { on := 1, ground := Ground.phase }, { on := 2, ground := Ground.phase }, { on := 3, ground := Ground.phase }, { on := 4, ground := Ground.phase }, { on := 5, ground := Ground.phase }, { on := 6, ground := Ground.phase }, { on := 7, ground := Ground.phase }], guard := none }) rfl (fun K hK => ?_) AllReadyH.nil)
        go_simp
        refine hK.out _ _ ?_ (fun hHeld => ?_)
        · exact trivial
        clear hK K
        try simp only [Act.put, List.setIfInBounds_toArray, List.set_cons_zero, List.set_cons_succ]
        have u2 := set234 u1 (.int .i64 goal.kind) (.int .i64 goal.n) (.slice a2 goal.kids.length c2)
        have v2 := (ko234 w3 w.heap.size (.int .i64 goal.kind) (.int .i64 goal.n) (.slice a2 goal.kids.length c2) (w.heap.size + 1) (by omega)).trans v1
        have hB4 := ((hB3.setCell (p := ⟨w.heap.size, 2, none⟩) (Nat.le_refl _) (.int .i64 goal.kind)).setCell (p := ⟨w.heap.size, 3, none⟩) (Nat.le_refl _) (.int .i64 goal.n)).setCell (p := ⟨w.heap.size, 4, none⟩) (Nat.le_refl _) (.slice a2 goal.kids.length c2)
        have HF4 : Hid _ := ((HF3.out.set (v := .int .i64 goal.kind) 2).set (v := .int .i64 goal.n) 3).set (v := .slice a2 goal.kids.length c2) 4
        clear u1 v1 i2 i3 i4 k2 k3 k4 HF3 hB3
        generalize hV : ((w3.setCell ⟨w.heap.size, 2, none⟩ (.int .i64 goal.kind)).setCell ⟨w.heap.size, 3, none⟩ (.int .i64 goal.n)).setCell ⟨w.heap.size, 4, none⟩ (.slice a2 goal.kids.length c2) = w4 at *
        clear hV
        have i7 := cell_of_row _ _ 7 _ _ _ u2
        have k7 := frozen_of_row _ _ 7 _ 37 u2
        refine wpAnyH_take (i := 10) (oi := { dst := some 16, op := Op.fieldAddr 37 (Operand.tmp 1) 5, type := 0, pos := "parts.go:45", after := #[{ on := 0, ground := Ground.phase }, { on := 1, ground := Ground.phase }, { on := 2, ground := Ground.phase }, { on := 3, ground := Ground.phase }, { on := 4, ground := Ground.phase }, { on := 5, ground := Ground.phase }, { on := 6, ground := Ground.phase }, { on := 7, ground := Ground.phase }, { on := 8, ground := Ground.phase }, { on := 9, ground := Ground.phase }], guard := none }) (v := ?_) rfl (by kernel_rfl) (by kernel_rfl) (by kernel_rfl) (fun _ _ _ h => h) (Or.inl ⟨by rfl, ?_⟩) (by assumption) ?_
        case refine_2 => intro w hSw; (try dsimp only at hSw); go_simp; (try with_reducible rfl)
        simp only [Act.put, List.setIfInBounds_toArray, List.set_cons_zero, List.set_cons_succ]
        refine wpAnyH_ready (rs := [11]) (by kernel_rfl) (by simp) ?_
        refine (AllReadyH.cons (o := { dst := none, op := Op.store 35 (Operand.tmp 16) (Operand.const (Value.slice none 0 0)), type := 0, pos := "parts.go:45", after := #[{ on := 10, ground := Ground.data }, { on := 9, ground := Ground.chain }, { on := 0, ground := Ground.phase }, { on := 1, ground := Ground.phase }, { on := 2, ground := Ground.phase }, { on := 3, ground := Ground.phase }, { on := 4, ground := Ground.phase }, { on := 5, ground := Ground.phase }, { on := 6, ground := Ground.phase }, { on := 7, ground := Ground.phase }, { on := 8, ground := Ground.phase }, { on := 9, ground := Ground.phase }], guard := none }) rfl (fun K hK => ?_) AllReadyH.nil)
        go_simp
        refine hK.out _ _ ?_ (fun hHeld => ?_)
        · exact trivial
        clear hK K
        try simp only [Act.put, List.setIfInBounds_toArray, List.set_cons_zero, List.set_cons_succ]
        refine wpAnyH_done (by kernel_rfl) ?_ _
        go_wp2_with fail
        go_meet
        case rel => exact ⟨a1, c1, a2, c2, set7 u2 _, (heap_setCell_other _ _ _ _ (by show w.heap.size + 1 ≠ w.heap.size; omega)).trans v2, hB4.setCell (p := ⟨w.heap.size, 7, none⟩) (Nat.le_refl _) _, (HF4.out.set 7).1, (HF4.out.set 7).2⟩
    case rest =>
      clear x1 x2 hVs hVb
      obtain ⟨a1, c1, a2, c2, x1, x2, hB0, hL0, hG0⟩ := hcut
      have hs0 : w.heap.size + 2 ≤ wc.heap.size := by have := lt_of_get x2; omega
      have HC : Hid (Cq w d e step left a1 c1 goal a2 c2 ix n kids 0 wc) := ⟨hB0, hs0, ⟨none, 0, [], x1, ⟨by simp, .inl ⟨rfl, rfl⟩⟩, (fun i _ h => by omega), ⟨hL0.1.keep (Nat.le_refl _) (fun g _ hP => ⟨⟨hP, by simp [Value.ownBlock]⟩, rfl⟩), hL0.2⟩, hG0.keep (Nat.le_refl _) (fun g _ hP => ⟨⟨hP, by simp [Value.ownBlock]⟩, rfl⟩)⟩, x2⟩
      clear x1 x2 hL0 hG0 hs0
      go_wp2
      go_loopw [5, 19] (fun _ iv wr => ∃ j : Nat, iv = .int .i64 (j : Int) ∧ j ≤ kids.length ∧ Cq w d e step left a1 c1 goal a2 c2 ix n kids j wr) (fun _ iv _ => kids.length - (intOf iv).toNat)
      case atStart => exact ⟨0, rfl, by omega, HC.out⟩
      case round =>
        clear HC
        obtain ⟨j, rfl, hj, hC⟩ := hrel
        have HC : Hid (Cq w d e step left a1 c1 goal a2 c2 ix n kids j wr) := hC
        by_cases hjl : j < kids.length
        · have hjl' : (j : Int) < (kids.length : Int) := by omega
          obtain ⟨kg, ko, rfl, hkg, _, hkk⟩ : ∃ g off, ka = some ⟨g, off, none⟩ ∧ g < wr.heap.size ∧ P g ∧ ∀ j (h : j < kids.length), ∃ y, C8 wr g (off + j * 8) kids[j] y ∧ PfAt P wr d e kids[j] y := by
            rcases HK.out.below hC.bel with h | h
            · omega
            · exact h
          obtain ⟨y, hc8, hpk⟩ := hkk j hjl
          have hsm := HSM.out j hjl
          obtain ⟨q, hq⟩ : ∃ q, kids[j] = q := ⟨_, rfl⟩
          rw [hq] at hc8 hpk hsm
          have HQ : Hid (kids[j] = q) := hq
          obtain ⟨c0, c1', c2', c3, c4, c5, c6, c7⟩ := hc8
          have HTJ : Hid (PfAt P wr d e q y) := hpk
          clear hpk hkk hC hq
          go_upto_region 6 with fail
          obtain ⟨Wb, hWb⟩ : ∃ Wb, wr.alloc (.cells #[.int .i64 q.step, .slice y.la q.left.length y.lc, .int .i64 q.goal.kind, .int .i64 q.goal.n, .slice y.ga q.goal.kids.length y.gc, .int .i64 q.ix, .int .i64 q.n, .slice y.ka q.kids.length y.kc] 37) = Wb := ⟨_, rfl⟩
          have hbb : Below wr.heap.size wr Wb := hWb ▸ (Below.refl _ wr).alloc (Nat.le_refl _) _
          have hbx : Wb.heap[wr.heap.size]? = some (.cells #[.int .i64 q.step, .slice y.la q.left.length y.lc, .int .i64 q.goal.kind, .int .i64 q.goal.n, .slice y.ga q.goal.kids.length y.gc, .int .i64 q.ix, .int .i64 q.n, .slice y.ka q.kids.length y.kc] 37 (0, 0)) := hWb ▸ heap_alloc_new _ _
          have hsb : wr.heap.size < Wb.heap.size := hWb ▸ (by simp)
          rw [hWb]
          obtain ⟨B, hB⟩ : ∃ B, wr.heap.size = B := ⟨_, rfl⟩
          have K55 := IH.out P q y Wb.drew ((HTJ.out.below hbb).below (Below.refl _ _).drew) hsm
          rw [hB] at hbx hsb ⊢
          have z0 := cell_of_row _ _ 0 _ _ _ hbx
          have z1 := cell_of_row _ _ 1 _ _ _ hbx
          have z2 := cell_of_row _ _ 2 _ _ _ hbx
          have z3 := cell_of_row _ _ 3 _ _ _ hbx
          have z4 := cell_of_row _ _ 4 _ _ _ hbx
          have z5 := cell_of_row _ _ 5 _ _ _ hbx
          have z6 := cell_of_row _ _ 6 _ _ _ hbx
          have z7 := cell_of_row _ _ 7 _ _ _ hbx
          obtain ⟨p1, p2, ⟨x, m, xs, p3, p4, p5, p7, p8⟩, p6⟩ := HC.out
          have q1 := p1.trans (hbb.mono p1.size)
          have q3 := (hbb.block _ (by omega)).trans p3
          have q4 := own_below p4 hbb
          have q5 := p5.keep (Q := fun g => w.heap.size + 2 ≤ g ∧ some g ≠ (Value.slice x j m).ownBlock) hbb.size (fun g hg hP => ⟨hP, hbb.block g hg⟩)
          have q7 : LsAt (fun g => w.heap.size + 2 ≤ g ∧ some g ≠ (Value.slice x j m).ownBlock) Wb d left a1 c1 := ⟨p7.1.keep hbb.size (fun g hg hP => ⟨hP, hbb.block g hg⟩), p7.2⟩
          have q8 := p8.keep (Q := fun g => w.heap.size + 2 ≤ g ∧ some g ≠ (Value.slice x j m).ownBlock) hbb.size (fun g hg hP => ⟨hP, hbb.block g hg⟩)
          have q6 := (hbb.block _ (by omega)).trans p6
          have HXB : Hid (∀ g, (Value.slice x j m).ownBlock = some g → g < B) := fun g hg => by have := (p4.lt g hg).2; omega
          clear p1 p2 p3 p4 p5 p6 p7 p8
          have b7 := cell_of_row _ _ 7 _ _ _ q3
          have hxl : xs.length = j * 8 := q4.1
          have hB3 : w.heap.size + 1 < B := by have := HC.out.hi; omega
          have hfz := frozen_of_row _ _ 7 _ 37 q3
          unfold vpf at K55
          have Q1 : Hid (Below w.heap.size w Wb) := q1
          have Q4 : Hid (Wb.ownsRow (w.heap.size + 2) 37 8 (.slice x j m) j xs) := q4
          have Q5 : Hid (PRow (fun g => w.heap.size + 2 ≤ g ∧ some g ≠ (Value.slice x j m).ownBlock) Wb d e kids j xs) := q5
          have Q6 : Hid (Wb.heap[w.heap.size + 1]? = some (.cells #[.int .i64 0, .slice none 0 0, .int .i64 0, .int .i64 0, .slice none 0 0, .int .i64 0, .int .i64 0, .slice none 0 0] 37 (0, 0))) := q6
          have Q7 : Hid (LsAt (fun g => w.heap.size + 2 ≤ g ∧ some g ≠ (Value.slice x j m).ownBlock) Wb d left a1 c1) := q7
          have Q8 : Hid (TyP (fun g => w.heap.size + 2 ≤ g ∧ some g ≠ (Value.slice x j m).ownBlock) Wb d goal a2 c2) := q8
          have Q3 : Hid (Wb.heap[w.heap.size]? = some (.cells #[.int .i64 step, .slice a1 left.length c1, .int .i64 goal.kind, .int .i64 goal.n, .slice a2 goal.kids.length c2, .int .i64 ix, .int .i64 n, .slice x j m] 37 (0, 0))) := q3
          clear q1 q3 q4 q5 q6 q7 q8 hWb hbb hB c0 c1' c2' c3 c4 c5 c6 c7 HTJ HC
          refine region_z (S := fun W => W.cell? ⟨w.heap.size, 7, none⟩ = some (.slice x j m) ∧ W.cell? ⟨B, 0, none⟩ = some (.int .i64 q.step) ∧ W.cell? ⟨B, 1, none⟩ = some (.slice y.la q.left.length y.lc) ∧ W.cell? ⟨B, 2, none⟩ = some (.int .i64 q.goal.kind) ∧ W.cell? ⟨B, 3, none⟩ = some (.int .i64 q.goal.n) ∧ W.cell? ⟨B, 4, none⟩ = some (.slice y.ga q.goal.kids.length y.gc) ∧ W.cell? ⟨B, 5, none⟩ = some (.int .i64 q.ix) ∧ W.cell? ⟨B, 6, none⟩ = some (.int .i64 q.n) ∧ W.cell? ⟨B, 7, none⟩ = some (.slice y.ka q.kids.length y.kc)) 7 (by kernel_rfl) (by exact ⟨b7, z0, z1, z2, z3, z4, z5, z6, z7⟩) (fun hHeld => ?_)
          refine take_z (z := 7) (i := 0) (oi := { dst := some 23, op := Op.fieldAddr 37 (Operand.tmp 1) 5, type := 0, pos := "parts.go:47", after := #[], guard := none }) (v := ?_) (by kernel_rfl) (by decide) rfl (by kernel_rfl) (by kernel_rfl) (by kernel_rfl) (fun _ _ _ h => h) (Or.inl ⟨by rfl, ?_⟩) (by assumption) ?_
          case refine_2 => intro w hSw; (try dsimp only at hSw); obtain ⟨hA, hB, hC, hD, hE, hF, hG, hH, hI⟩ := hSw; go_simp; (try with_reducible rfl)
          simp only [Act.put, List.setIfInBounds_toArray, List.set_cons_zero, List.set_cons_succ]
          refine take_z (z := 7) (i := 1) (oi := { dst := some 24, op := Op.load 35 (Operand.tmp 23), type := 35, pos := "parts.go:47", after := #[{ on := 0, ground := Ground.data }], guard := none }) (v := ?_) (by kernel_rfl) (by decide) rfl (by kernel_rfl) (by kernel_rfl) (by kernel_rfl) (fun _ _ _ h => h) (Or.inl ⟨by rfl, ?_⟩) (by assumption) ?_
          case refine_2 => intro w hSw; (try dsimp only at hSw); obtain ⟨hA, hB, hC, hD, hE, hF, hG, hH, hI⟩ := hSw; go_simp; (try with_reducible rfl)
          simp only [Act.put, List.setIfInBounds_toArray, List.set_cons_zero, List.set_cons_succ]
          refine take_z (z := 7) (i := 2) (oi := { dst := some 25, op := Op.load 37 (Operand.tmp 5), type := 37, pos := "parts.go:47", after := #[], guard := none }) (v := ?_) (by kernel_rfl) (by decide) rfl (by kernel_rfl) (by kernel_rfl) (by kernel_rfl) (fun _ _ _ h => h) (Or.inl ⟨by rfl, ?_⟩) (by assumption) ?_
          case refine_2 => intro w hSw; (try dsimp only at hSw); obtain ⟨hA, hB, hC, hD, hE, hF, hG, hH, hI⟩ := hSw; go_simp; (try with_reducible rfl)
          simp only [Act.put, List.setIfInBounds_toArray, List.set_cons_zero, List.set_cons_succ]
          refine ready_z (rs := [3]) (by kernel_rfl) (by simp) ?_
          refine (AllZ.cons (o := { dst := some 26, op := Op.call { callee := Callee.value (Operand.func 55), args := #[Operand.tmp 25], argTypes := #[37] }, type := 37, pos := "parts.go:47", after := #[{ on := 2, ground := Ground.data }], guard := none }) rfl (fun K hK => ?_) AllZ.nil)
          go_simp
          (with_reducible refine K55.mono ?_)
          rintro e w5 ⟨y', rfl, ht5, hb5⟩
          clear K55
          dsimp only
          have hb5' : Below Wb.heap.size Wb w5 := (Below.refl _ Wb).drew.trans hb5
          have s5 := hb5'.size
          have hcc : w5.cell? ⟨w.heap.size, 7, none⟩ = some (.slice x j m) ∧ w5.cell? ⟨B, 0, none⟩ = some (.int .i64 q.step) ∧ w5.cell? ⟨B, 1, none⟩ = some (.slice y.la q.left.length y.lc) ∧ w5.cell? ⟨B, 2, none⟩ = some (.int .i64 q.goal.kind) ∧ w5.cell? ⟨B, 3, none⟩ = some (.int .i64 q.goal.n) ∧ w5.cell? ⟨B, 4, none⟩ = some (.slice y.ga q.goal.kids.length y.gc) ∧ w5.cell? ⟨B, 5, none⟩ = some (.int .i64 q.ix) ∧ w5.cell? ⟨B, 6, none⟩ = some (.int .i64 q.n) ∧ w5.cell? ⟨B, 7, none⟩ = some (.slice y.ka q.kids.length y.kc) := ⟨(hb5'.cell (p := ⟨w.heap.size, 7, none⟩) (by show w.heap.size < Wb.heap.size; omega)).trans b7, (hb5'.cell (p := ⟨B, 0, none⟩) hsb).trans z0, (hb5'.cell (p := ⟨B, 1, none⟩) hsb).trans z1, (hb5'.cell (p := ⟨B, 2, none⟩) hsb).trans z2, (hb5'.cell (p := ⟨B, 3, none⟩) hsb).trans z3, (hb5'.cell (p := ⟨B, 4, none⟩) hsb).trans z4, (hb5'.cell (p := ⟨B, 5, none⟩) hsb).trans z5, (hb5'.cell (p := ⟨B, 6, none⟩) hsb).trans z6, (hb5'.cell (p := ⟨B, 7, none⟩) hsb).trans z7⟩
          have ow5 := own_below Q4.out hb5'
          have HT5 : Hid (PfAt (fun g => Wb.heap.size ≤ g) w5 d e q y') := ht5
          clear ht5 hb5
          refine hK.out _ _ ?_ (fun hHeld => ?_)
          · exact hcc
          clear hK K
          try simp only [Act.put, List.setIfInBounds_toArray, List.set_cons_zero, List.set_cons_succ]
          refine ready_z (rs := [4]) (by kernel_rfl) (by simp) ?_
          refine (AllZ.cons (o := { dst := some 27, op := Op.buildSlice 35 1 #[(0, Operand.tmp 26)], type := 35, pos := "parts.go:47", after := #[{ on := 3, ground := Ground.data }], guard := none }) rfl (fun K hK => ?_) AllZ.nil)
          go_simp
          refine hK.out _ _ ?_ (fun hHeld => ?_)
          · (obtain ⟨g7, h0, h1, h2, h3, h4, h5, h6, h7⟩ := hcc; exact ⟨(((Below.refl _ w5).alloc (Nat.le_refl _) _).cell (p := ⟨w.heap.size, 7, none⟩) (by show w.heap.size < w5.heap.size; omega)).trans g7, (((Below.refl _ w5).alloc (Nat.le_refl _) _).cell (p := ⟨B, 0, none⟩) (by show B < w5.heap.size; omega)).trans h0, (((Below.refl _ w5).alloc (Nat.le_refl _) _).cell (p := ⟨B, 1, none⟩) (by show B < w5.heap.size; omega)).trans h1, (((Below.refl _ w5).alloc (Nat.le_refl _) _).cell (p := ⟨B, 2, none⟩) (by show B < w5.heap.size; omega)).trans h2, (((Below.refl _ w5).alloc (Nat.le_refl _) _).cell (p := ⟨B, 3, none⟩) (by show B < w5.heap.size; omega)).trans h3, (((Below.refl _ w5).alloc (Nat.le_refl _) _).cell (p := ⟨B, 4, none⟩) (by show B < w5.heap.size; omega)).trans h4, (((Below.refl _ w5).alloc (Nat.le_refl _) _).cell (p := ⟨B, 5, none⟩) (by show B < w5.heap.size; omega)).trans h5, (((Below.refl _ w5).alloc (Nat.le_refl _) _).cell (p := ⟨B, 6, none⟩) (by show B < w5.heap.size; omega)).trans h6, (((Below.refl _ w5).alloc (Nat.le_refl _) _).cell (p := ⟨B, 7, none⟩) (by show B < w5.heap.size; omega)).trans h7⟩)
          clear hK K
          try simp only [Act.put, List.setIfInBounds_toArray, List.set_cons_zero, List.set_cons_succ]
          refine ready_z (rs := [5]) (by kernel_rfl) (by simp) ?_
          refine (AllZ.cons (o := { dst := some 28, op := Op.call { callee := Callee.builtin Builtin.append, args := #[Operand.tmp 24, Operand.tmp 27], argTypes := #[35, 35] }, type := 35, pos := "parts.go:47", after := #[{ on := 1, ground := Ground.data }, { on := 4, ground := Ground.data }, { on := 3, ground := Ground.chain }], guard := none }) rfl (fun K hK => ?_) AllZ.nil)
          refine step_append_at rfl (.tmp 24) (.tmp 27) 35 rfl (w.heap.size + 2) 37 i37 (.agg #[.int .i64 0, .slice none 0 0, .int .i64 0, .int .i64 0, .slice none 0 0, .int .i64 0, .int .i64 0, .slice none 0 0]) 8 112 Try.underlying35 hi37 hz370 hz371 hz372 rfl (by decide) (.slice x j m) _ _ rfl (ow5.alloc _) ⟨_, 0, none⟩ 1 1 (pfc q y') rfl rfl (cell_one8 _ _ rfl _ _) (pfc_one q y') (by unfold maxLen; omega) (by omega) (by simp; omega) ?_
          intro v6 W6 ho6 hg6 hat6
          obtain ⟨g6, c6, rfl, hg6b⟩ := slice_of1 ho6
          have hx6 : ∀ g, (Value.slice x j m).ownBlock = some g → w.heap.size + 2 ≤ g ∧ g < Wb.heap.size := fun g hg => Q4.out.lt g hg
          have HCP : Hid _ := Cq.push (Q1.out.trans (hb5'.mono Q1.out.size)) (by omega) s5 ((hb5'.block _ (by omega)).trans Q3.out) ((hb5'.block _ (by omega)).trans Q6.out) hx6 hxl (Q5.out.keep s5 (fun g hg hP => ⟨hP, hb5'.block g hg⟩)) (Q7.out.keep s5 (fun g hg hP => ⟨hP, hb5'.block g hg⟩)) (Q8.out.keep s5 (fun g hg hP => ⟨hP, hb5'.block g hg⟩)) hjl HQ.out HT5.out ho6 hg6 hat6
          have hb6 : ∀ b k, b < w.heap.size + 2 → W6.cell? ⟨b, k, none⟩ = w5.cell? ⟨b, k, none⟩ := fun b k hb => cell_same ((hg6.block b (by simp; omega) (fun e => by have := (hx6 b e.symm).1; omega)).trans (((Below.refl _ w5).alloc (Nat.le_refl _) _).block b (by omega)))
          have cY6 := (hb6 w.heap.size 7 (by omega)).trans hcc.1
          have hB6 : ∀ k, W6.cell? ⟨B, k, none⟩ = w5.cell? ⟨B, k, none⟩ := fun k => cell_same ((hg6.block B (by simp; omega) (fun e => by have := HXB.out B e.symm; omega)).trans (((Below.refl _ w5).alloc (Nat.le_refl _) _).block B (by omega)))
          have HS6 : Hid (W6.cell? ⟨w.heap.size, 7, none⟩ = some (.slice x j m) ∧ W6.cell? ⟨B, 0, none⟩ = some (.int .i64 q.step) ∧ W6.cell? ⟨B, 1, none⟩ = some (.slice y.la q.left.length y.lc) ∧ W6.cell? ⟨B, 2, none⟩ = some (.int .i64 q.goal.kind) ∧ W6.cell? ⟨B, 3, none⟩ = some (.int .i64 q.goal.n) ∧ W6.cell? ⟨B, 4, none⟩ = some (.slice y.ga q.goal.kids.length y.gc) ∧ W6.cell? ⟨B, 5, none⟩ = some (.int .i64 q.ix) ∧ W6.cell? ⟨B, 6, none⟩ = some (.int .i64 q.n) ∧ W6.cell? ⟨B, 7, none⟩ = some (.slice y.ka q.kids.length y.kc)) := by
            obtain ⟨_, h0, h1, h2, h3, h4, h5, h6, h7⟩ := hcc
            exact ⟨cY6, (hB6 0).trans h0, (hB6 1).trans h1, (hB6 2).trans h2, (hB6 3).trans h3, (hB6 4).trans h4, (hB6 5).trans h5, (hB6 6).trans h6, (hB6 7).trans h7⟩
          have fz6 : W6.frozen? ⟨w.heap.size, 7, none⟩ = false := by
            unfold World.frozen?
            rw [(hg6.block w.heap.size (by simp; omega) (fun e => by have := (hx6 _ e.symm).1; omega)).trans ((((Below.refl _ w5).alloc (Nat.le_refl _) _).block _ (by omega)).trans ((hb5'.block _ (by omega)).trans Q3.out))]
            rfl
          refine hK.out _ _ ?_ (fun hHeld => ?_)
          · exact HS6.out
          clear hK K
          try simp only [Act.put, List.setIfInBounds_toArray, List.set_cons_zero, List.set_cons_succ]
          refine take_z (z := 7) (i := 6) (oi := { dst := some 29, op := Op.fieldAddr 37 (Operand.tmp 1) 5, type := 0, pos := "parts.go:47", after := #[{ on := 0, ground := Ground.phase }, { on := 1, ground := Ground.phase }, { on := 2, ground := Ground.phase }, { on := 3, ground := Ground.phase }, { on := 4, ground := Ground.phase }, { on := 5, ground := Ground.phase }], guard := none }) (v := ?_) (by kernel_rfl) (by decide) rfl (by kernel_rfl) (by kernel_rfl) (by kernel_rfl) (fun _ _ _ h => h) (Or.inl ⟨by rfl, ?_⟩) (by assumption) ?_
          case refine_2 => intro w hSw; (try dsimp only at hSw); obtain ⟨hA, hB, hC, hD, hE, hF, hG, hH, hI⟩ := hSw; go_simp; (try with_reducible rfl)
          simp only [Act.put, List.setIfInBounds_toArray, List.set_cons_zero, List.set_cons_succ]
          refine ready_z (rs := [7]) (by kernel_rfl) (by simp) ?_
          refine (AllZ.last (o := { dst := none, op := Op.store 35 (Operand.tmp 29) (Operand.tmp 28), type := 0, pos := "parts.go:47", after := #[{ on := 6, ground := Ground.data }, { on := 5, ground := Ground.data }, { on := 5, ground := Ground.chain }, { on := 0, ground := Ground.phase }, { on := 1, ground := Ground.phase }, { on := 2, ground := Ground.phase }, { on := 3, ground := Ground.phase }, { on := 4, ground := Ground.phase }, { on := 5, ground := Ground.phase }], guard := none }) rfl (fun K hK => ?_) AllZ.nil)
          go_simp
          refine hK.out _ _ ?_
          clear hK K
          try simp only [Act.put, List.setIfInBounds_toArray, List.set_cons_zero, List.set_cons_succ]
          refine done_z (by kernel_rfl) ?_ _
          go_wp2_with fail
          go_roundw
          case rel => exact ⟨j + 1, by go_num, by omega, HCP.out⟩
          case measure => simp [intOf]; omega
        · have hjl' : ¬ (j : Int) < (kids.length : Int) := by omega
          have ej : j = kids.length := by omega
          subst ej
          obtain ⟨q1, q2, ⟨x, m, xs, q3, q4, q5, q7, q8⟩, q6⟩ := hC
          have b0 := cell_of_row _ _ 0 _ _ _ q3
          have b1 := cell_of_row _ _ 1 _ _ _ q3
          have b2 := cell_of_row _ _ 2 _ _ _ q3
          have b3 := cell_of_row _ _ 3 _ _ _ q3
          have b4 := cell_of_row _ _ 4 _ _ _ q3
          have b5 := cell_of_row _ _ 5 _ _ _ q3
          have b6 := cell_of_row _ _ 6 _ _ _ q3
          have b7 := cell_of_row _ _ 7 _ _ _ q3
          have r0 := cell_of_row _ _ 0 _ _ _ q6
          have r1 := cell_of_row _ _ 1 _ _ _ q6
          have r2 := cell_of_row _ _ 2 _ _ _ q6
          have r3 := cell_of_row _ _ 3 _ _ _ q6
          have r4 := cell_of_row _ _ 4 _ _ _ q6
          have r5 := cell_of_row _ _ 5 _ _ _ q6
          have r6 := cell_of_row _ _ 6 _ _ _ q6
          have r7 := cell_of_row _ _ 7 _ _ _ q6
          have f0 := frozen_of_row _ _ 0 _ 37 q6
          have f1 := frozen_of_row _ _ 1 _ 37 q6
          have f2 := frozen_of_row _ _ 2 _ 37 q6
          have f3 := frozen_of_row _ _ 3 _ 37 q6
          have f4 := frozen_of_row _ _ 4 _ 37 q6
          have f5 := frozen_of_row _ _ 5 _ 37 q6
          have f6 := frozen_of_row _ _ 6 _ 37 q6
          have f7 := frozen_of_row _ _ 7 _ 37 q6
          have K2 : ∀ g, g < wr.heap.size → (w.heap.size + 2 ≤ g ∧ some g ≠ (Value.slice x kids.length m).ownBlock) → w.heap.size + 2 ≤ g ∧ wr.heap[g]? = wr.heap[g]? := fun g _ hP => ⟨hP.1, rfl⟩
          have HF : Hid (PfAt (fun g => w.heap.size + 2 ≤ g) wr d (e + 1) ⟨step, left, goal, ix, n, kids⟩ ⟨a1, c1, a2, c2, x, m⟩) := PRow.all (q5.keep (Q := fun g => w.heap.size + 2 ≤ g) (Nat.le_refl _) K2) q4 HB.out.1 HB.out.2.1 HB.out.2.2 ⟨q7.1.keep (Nat.le_refl _) K2, q7.2⟩ (q8.keep (Nat.le_refl _) K2) (by (show kids.length ≤ 140737488355328); omega) (fun g _ hg => hg)
          have HQ6 : Hid _ := q6
          clear q3 q4 q5 q7 q8 HC q6
          go_wp2_with fail
          have hB8 := below8 q1 (b := w.heap.size + 1) (by omega) (.int .i64 step) (.slice a1 left.length c1) (.int .i64 goal.kind) (.int .i64 goal.n) (.slice a2 goal.kids.length c2) (.int .i64 ix) (.int .i64 n) (.slice x kids.length m)
          have k8 := ko8 wr (w.heap.size + 1) (.int .i64 step) (.slice a1 left.length c1) (.int .i64 goal.kind) (.int .i64 goal.n) (.slice a2 goal.kids.length c2) (.int .i64 ix) (.int .i64 n) (.slice x kids.length m)
          refine bodyPost_ret (results_37o rfl _ _ (w.heap.size + 1) _ rfl (laid8 HQ6.out _ _ _ _ _ _ _ _) rfl) rfl ⟨⟨a1, c1, a2, c2, x, m⟩, rfl, ?_, hB8⟩
          exact HF.out.keep (by simp) (fun g _ hP => ⟨by have hP' : w.heap.size + 2 ≤ g := hP; omega, k8 g (by have hP' : w.heap.size + 2 ≤ g := hP; omega)⟩)
end Go.Proofs.Ytbmgkgoghgdbhaa.Te
