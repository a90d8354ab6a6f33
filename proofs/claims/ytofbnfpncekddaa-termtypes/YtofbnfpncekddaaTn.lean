/- typeOfFn's own memory, step by step. No conditions. -/
import Derived.Test.YtofbnfpncekddaaTm
namespace Go.Proofs.Ytofbnfpncekddaa.Te
open Go.RowKit

/-- as all lies while typeOfFn goes on: al: the box for what comes; bl: where the type is laid that is appended; ap: the longer row; tp: what has come, if q -/
structure Fs (w0 w : World) (ar cons : List Ty) (xa : Option Addr) (ca : Nat) (ac : Option Addr) (cc : Nat) (own : Option Nat) (tb : Obj) (y : Ty) (bt : Option Addr × Nat) (q : Prop) (W : World) (al bl : Option Nat) (ap : Option (Option Addr × Nat)) (tp : Option (Ty × Option Addr × Nat)) : Prop where
  ctx : Ctx w0 W ar cons xa ca ac cc
  kb : Kb w W own
  hi : w.heap.size + 2 ≤ W.heap.size
  tb : W.heap[w.heap.size]? = some tb
  rb : W.heap[w.heap.size + 1]? = some (.cells #[.int .i64 0, .int .i64 0, .slice none 0 0] 24 (0, 0))
  ab : ∀ R, al = some R → w.heap.size + 2 ≤ R ∧ W.heap[R]? = some (.cells #[.int .i64 0, .int .i64 0, .slice none 0 0] 24 (0, 0))
  ap : ∀ x c, ap = some (x, c) → Ctx w0 W (ar ++ [y]) cons x c ac cc ∧ ∀ g, (Value.slice x (ar ++ [y]).length c).ownBlock = some g → own = some g ∨ (w.heap.size + 2 ≤ g ∧ al ≠ some g)
  bb : ∀ B, bl = some B → ∃ b e, W.heap[B]? = some (.cells #[.int .i64 y.kind, .int .i64 y.n, .slice b y.kids.length e] 24 (0, 0)) ∧ bt = (b, e)
  tt : ∀ z a c, tp = some (z, a, c) → q → ∃ d, TyP (fun g => g < w0.heap.size ∨ (w.heap.size + 2 ≤ g ∧ al ≠ some g)) W d z a c
theorem lt_of_get {w : World} {g : Nat} {o : Obj} (h : w.heap[g]? = some o) : g < w.heap.size := (Array.getElem?_eq_some_iff.1 h).1
section
variable {w0 w : World} {ar cons : List Ty} {xa : Option Addr} {ca : Nat} {ac : Option Addr} {cc : Nat} {own : Option Nat} {tb : Obj} {y : Ty} {bt : Option Addr × Nat} {q : Prop} {W W' : World} {al bl : Option Nat} {ap : Option (Option Addr × Nat)} {tp : Option (Ty × Option Addr × Nat)}
theorem Fs.below (h : Fs w0 w ar cons xa ca ac cc own tb y bt q W al bl ap tp) (hb : Below W.heap.size W W') : Fs w0 w ar cons xa ca ac cc own tb y bt q W' al bl ap tp := by
  have hi := h.hi
  refine ⟨h.ctx.below hb, h.kb.trans (kb_below hb), Nat.le_trans hi hb.size, (hb.block _ (by omega)).trans h.tb, (hb.block _ (by omega)).trans h.rb, fun R hR => ?_, fun x c hx => ?_, fun B hB => ?_, fun z a c hz hq => ?_⟩
  · obtain ⟨h1, h2⟩ := h.ab R hR
    exact ⟨h1, (hb.block _ (lt_of_get h2)).trans h2⟩
  · obtain ⟨h1, h2⟩ := h.ap x c hx
    exact ⟨h1.below hb, h2⟩
  · obtain ⟨b, e, h2, h3⟩ := h.bb B hB
    exact ⟨b, e, (hb.block _ (lt_of_get h2)).trans h2, h3⟩
  · obtain ⟨d, h2⟩ := h.tt z a c hz hq
    exact ⟨d, h2.below hb⟩
theorem Fs.box (h : Fs w0 w ar cons xa ca ac cc own tb y bt q W none bl ap tp) : Fs w0 w ar cons xa ca ac cc own tb y bt q (W.alloc (.cells #[.int .i64 0, .int .i64 0, .slice none 0 0] 24)) (some W.heap.size) bl ap tp := by
  have k := h.below ((Below.refl _ W).alloc (Nat.le_refl _) (.cells #[.int .i64 0, .int .i64 0, .slice none 0 0] 24))
  refine ⟨k.ctx, k.kb, k.hi, k.tb, k.rb, fun R hR => ?_, fun x c hx => ?_, k.bb, fun z a c hz hq => ?_⟩
  · cases hR
    exact ⟨h.hi, heap_alloc_new _ _⟩
  · obtain ⟨h1, h2⟩ := h.ap x c hx
    refine ⟨(k.ap x c hx).1, fun g hg => ?_⟩
    rcases h2 g hg with h3 | ⟨h3, _⟩
    · exact .inl h3
    · refine .inr ⟨h3, fun e => ?_⟩
      have := (h1.own g hg).2
      simp only [Option.some.injEq] at e
      omega
  · obtain ⟨d, h2⟩ := h.tt z a c hz hq
    refine ⟨d, h2.keep (by simp) (fun g hg hP => ⟨?_, ((Below.refl _ W).alloc (Nat.le_refl _) _).block g hg⟩)⟩
    rcases hP with hP | ⟨hP, _⟩
    · exact .inl hP
    · exact .inr ⟨hP, fun e => by simp only [Option.some.injEq] at e; omega⟩
theorem Fs.built (h : Fs w0 w ar cons xa ca ac cc own tb y bt q W al none ap tp) : Fs w0 w ar cons xa ca ac cc own tb y bt q (W.alloc (.cells #[.int .i64 y.kind, .int .i64 y.n, .slice bt.1 y.kids.length bt.2] 24)) al (some W.heap.size) ap tp := by
  have k := h.below ((Below.refl _ W).alloc (Nat.le_refl _) (.cells #[.int .i64 y.kind, .int .i64 y.n, .slice bt.1 y.kids.length bt.2] 24))
  exact ⟨k.ctx, k.kb, k.hi, k.tb, k.rb, k.ab, k.ap, fun B hB => ⟨_, _, by cases hB; exact heap_alloc_new _ _, rfl⟩, k.tt⟩
theorem row_left {P : Nat → Prop} {d : Nat} {xs : List Value} (h : RowOf P W d ar ar.length xs) : RowOf P W d (ar ++ [y]) ar.length xs := fun i hi hj => by
  obtain ⟨a', c', h0⟩ := h i hj hj
  refine ⟨a', c', ?_⟩
  rw [List.getElem_append_left hj]
  exact h0
theorem row_upto {P : Nat → Prop} {d e j : Nat} {l : List Ty} {xs : List Value} (h : RowOf P W d l j xs) (hd : d ≤ e) : RowOf P W e l j xs := fun i hi hj => by
  obtain ⟨a', c', h0, h1, h2, h3⟩ := h i hi hj
  exact ⟨a', c', h0, h1, h2, h3.upto hd⟩
theorem Fs.push (h : Fs w0 w ar cons xa ca ac cc own tb y bt q W al bl none none) (hown : (Value.slice xa ar.length ca).ownBlock = own) (ho : ∀ g, own = some g → g < w.heap.size) {dy : Nat} {b : Option Addr} {e0 : Nat} (hy : TyAt w0 dy y b e0) {xs : List Value} {d : Nat} (hr : RowOf (fun g => g < w0.heap.size) W d ar ar.length xs) {v' : Value}
    (hn : W'.ownsRow w0.heap.size 24 3 v' (ar.length + 1) (xs ++ tyc y b e0)) (hg : W.grownBy W' own) (hat : v'.ownBlock = own ∨ v'.ownBlock = some W.heap.size) (hold : W'.ownsRow w0.heap.size 24 3 (.slice xa ar.length ca) ar.length xs) :
    ∃ x c, v' = .slice x (ar.length + 1) c ∧ Fs w0 w ar cons xa ca ac cc own tb y bt q W' al none (some (x, c)) none := by
  obtain ⟨g6, c6, rfl, hb6⟩ := slice_of1 hn
  have hlo : ∀ g, own = some g → w0.heap.size ≤ g := fun g hg => (h.ctx.own g (hown.trans hg)).1
  have hw0 := h.ctx.bel.size
  have hi := h.hi
  have hbel : Below w0.heap.size w0 W' := h.ctx.bel.grown hg hw0 hlo
  have hxl : xs.length = ar.length * 3 := hold.1
  have hr' : RowOf (fun g => g < w0.heap.size) W' d ar ar.length xs := hr.keep hg.size (fun g hgl hP => ⟨hP, hg.block g hgl (fun e => by have := hlo g e.symm; have hP' : g < w0.heap.size := hP; omega)⟩)
  refine ⟨_, _, rfl, ⟨⟨hbel, h.ctx.cons, xs, d, hold, hr'⟩, h.kb.trans (kb_grown hg), Nat.le_trans hi hg.size, (hg.block _ (by omega) (fun e => by have := ho _ e.symm; omega)).trans h.tb, (hg.block _ (by omega) (fun e => by have := ho _ e.symm; omega)).trans h.rb, fun R hR => ?_, fun x c hx => ?_, (fun _ e => by cases e), (fun _ _ _ e => by cases e)⟩⟩
  · obtain ⟨h1, h2⟩ := h.ab R hR
    exact ⟨h1, (hg.block _ (lt_of_get h2) (fun e => by have := ho _ e.symm; omega)).trans h2⟩
  · simp only [Option.some.injEq, Prod.mk.injEq] at hx
    obtain ⟨rfl, rfl⟩ := hx
    have hty : TyP (fun g => g < w0.heap.size) W' (max d dy) y b e0 := (hy.within.keep hbel.size (fun g hgl hP => ⟨hP, hbel.block g hgl⟩)).upto (Nat.le_max_right _ _)
    have hrow : RowOf (fun g => g < w0.heap.size) W' (max d dy) (ar ++ [y]) (ar.length + 1) (xs ++ tyc y b e0) := by
      have := (row_left (y := y) (row_upto hr' (Nat.le_max_left d dy))).push hxl (by simp) (a' := b) (c' := e0) (by simpa using hty)
      simpa using this
    have hl : (ar ++ [y]).length = ar.length + 1 := by simp
    refine ⟨⟨hbel, h.ctx.cons, xs ++ tyc y b e0, _, by rw [hl]; exact hn, by rw [hl]; exact hrow⟩, fun g hgg => ?_⟩
    have hgg' : some g6 = some g := hgg
    rcases hat with e | e
    · exact .inl (e.symm.trans hgg')
    · have e' : some g6 = some W.heap.size := e
      rw [hgg'] at e'
      simp only [Option.some.injEq] at e'
      subst e'
      refine .inr ⟨hi, fun e => ?_⟩
      have := lt_of_get (h.ab _ e).2
      omega
theorem Fs.called {x : Option Addr} {c : Nat} (h : Fs w0 w ar cons xa ca ac cc own tb y bt q W al bl (some (x, c)) none) (ho : ∀ g, own = some g → g < w.heap.size) (hk : Kb W W' (Value.slice x (ar ++ [y]).length c).ownBlock) (hc : Ctx w0 W' (ar ++ [y]) cons x c ac cc) {z : Ty} {a1 : Option Addr} {c1 : Nat} (hz : q → ∃ d, TyP (fun g => g < w0.heap.size ∨ W.heap.size ≤ g) W' d z a1 c1) : Fs w0 w ar cons xa ca ac cc own tb y bt q W' al none none (some (z, a1, c1)) := by
  obtain ⟨hC2, hO2⟩ := h.ap x c rfl
  have hi := h.hi
  have hl : (ar ++ [y]).length = ar.length + 1 := by simp
  refine ⟨⟨hc.bel, h.ctx.cons, ?_⟩, h.kb.other hk ?_, Nat.le_trans hi hk.size, (hk.block _ (by omega) (fun e => ?_)).trans h.tb, (hk.block _ (by omega) (fun e => ?_)).trans h.rb, fun R hR => ?_, (fun _ _ e => by cases e), (fun _ e => by cases e), fun z' a' c' hz' hq => ?_⟩
  · obtain ⟨xs, d, ho1, hr1⟩ := h.ctx.row
    obtain ⟨xs2, d2, ho2, hr2⟩ := hC2.row
    obtain ⟨xs3, d3, ho3, hr3⟩ := hc.row
    have hlo2 : ∀ g, (Value.slice x (ar ++ [y]).length c).ownBlock = some g → w0.heap.size ≤ g := fun g hg => (hC2.own g hg).1
    have keepRow : RowOf (fun g => g < w0.heap.size) W' d ar ar.length xs := hr1.keep hk.size (fun g hgl hP => ⟨hP, hk.block g hgl (fun e => by have := hlo2 g e.symm; have hP' : g < w0.heap.size := hP; omega)⟩)
    by_cases he : ∃ g, (Value.slice xa ar.length ca).ownBlock = some g ∧ (Value.slice x (ar ++ [y]).length c).ownBlock = some g
    · obtain ⟨g, e1, e2⟩ := he
      obtain ⟨k1, ⟨hv1, _⟩ | ⟨g1, cap1, cur1, hv1, hg1, hh1, p1, p2, p3, p4⟩⟩ := ho1
      · rw [hv1] at e1; cases e1
      obtain ⟨k2, ⟨hv2, _⟩ | ⟨g2, cap2, cur2, hv2, hg2, hh2, q1, q2, q3, q4⟩⟩ := ho2
      · rw [hv2] at e2; cases e2
      obtain ⟨k3, ⟨hv3, _⟩ | ⟨g3, cap3, cur3, hv3, hg3, hh3, r1, r2, r3, r4⟩⟩ := ho3
      · rw [hv3] at e2; cases e2
      have b1 : g1 = g := by rw [hv1] at e1; exact Option.some.inj e1
      have b2 : g2 = g := by rw [hv2] at e2; exact Option.some.inj e2
      have b3 : g3 = g := by rw [hv3] at e2; exact Option.some.inj e2
      subst b1 b2 b3
      rw [hh1] at hh2
      simp only [Option.some.injEq, Obj.cells.injEq, and_true] at hh2
      have hcc : cap2 = cap3 := by
        rw [hv2] at hv3
        simp only [Value.slice.injEq, true_and] at hv3
        exact hv3
      have hcap : cap1 = cap3 := by
        rw [← hh2, p3] at q3
        omega
      rw [hl] at r4 k3 hr3
      have e3 : cur3.toList.take (ar.length * 3) = xs3.take (ar.length * 3) := by
        rw [← r4, List.take_take, Nat.min_eq_left (by omega)]
      refine ⟨xs3.take (ar.length * 3), d3, ⟨by rw [List.length_take, k3]; omega, .inr ⟨g3, cap1, cur3, hv1, hg3, hh3, p1, p2, by rw [r3, hcap], e3⟩⟩, fun i hi' hj => ?_⟩
      obtain ⟨a', c', s0, s1, s2, s3⟩ := hr3 i (by simp; omega) (by omega)
      rw [List.getElem_append_left hi'] at s0 s1 s2 s3
      refine ⟨a', c', ?_, ?_, ?_, s3⟩
      · rw [List.getElem?_take_of_lt (by omega)]; exact s0
      · rw [List.getElem?_take_of_lt (by omega)]; exact s1
      · rw [List.getElem?_take_of_lt (by omega)]; exact s2
    · refine ⟨xs, d, own_keep ho1 (fun g _ hg _ hh => hk.block g (lt_of_get hh) (fun e => he ⟨g, hg, e.symm⟩)), keepRow⟩
  · cases hq : (Value.slice x (ar ++ [y]).length c).ownBlock with
    | none =>
      obtain ⟨_, _, ho2, _⟩ := hC2.row
      obtain ⟨_, ⟨_, h0⟩ | ⟨g2, cap2, cur2, hv2, _⟩⟩ := ho2
      · omega
      · rw [hv2] at hq; cases hq
    | some g =>
      rcases hO2 g hq with e | ⟨e, _⟩
      · exact .inl e.symm
      · exact .inr ⟨g, rfl, by omega⟩
  · rcases hO2 _ e.symm with e' | ⟨e', _⟩
    · have := ho _ e'; omega
    · omega
  · rcases hO2 _ e.symm with e' | ⟨e', _⟩
    · have := ho _ e'; omega
    · omega
  · obtain ⟨h1, h2⟩ := h.ab R hR
    refine ⟨h1, (hk.block _ (lt_of_get h2) (fun e => ?_)).trans h2⟩
    rcases hO2 _ e.symm with e' | ⟨_, e'⟩
    · have := ho _ e'; omega
    · exact e' hR
  · cases hz'
    obtain ⟨d, h2⟩ := hz hq
    refine ⟨d, h2.keep (Nat.le_refl _) (fun g _ hP => ⟨?_, rfl⟩)⟩
    rcases hP with hP | hP
    · exact .inl hP
    · refine .inr ⟨by omega, fun e => ?_⟩
      have := lt_of_get (h.ab g e).2
      omega
/-- what has come is laid into its box -/
theorem Fs.laid {R : Nat} {z : Ty} {a1 : Option Addr} {c1 : Nat} (h : Fs w0 w ar cons xa ca ac cc own tb y bt q W (some R) none none (some (z, a1, c1))) (hown : (Value.slice xa ar.length ca).ownBlock = own) (ho : ∀ g, own = some g → g < w.heap.size) (hw : w0.heap.size ≤ w.heap.size) :
    Fs w0 w ar cons xa ca ac cc own tb y bt q (((W.setCell ⟨R, 0, none⟩ (.int .i64 z.kind)).setCell ⟨R, 1, none⟩ (.int .i64 z.n)).setCell ⟨R, 2, none⟩ (.slice a1 z.kids.length c1)) none none none none ∧ w.heap.size + 2 ≤ R ∧ (((W.setCell ⟨R, 0, none⟩ (.int .i64 z.kind)).setCell ⟨R, 1, none⟩ (.int .i64 z.n)).setCell ⟨R, 2, none⟩ (.slice a1 z.kids.length c1)).heap[R]? = some (.cells #[.int .i64 z.kind, .int .i64 z.n, .slice a1 z.kids.length c1] 24 (0, 0)) ∧ (q → ∃ d, TyP (fun g => g < w0.heap.size ∨ (w.heap.size + 2 ≤ g ∧ g ≠ R)) (((W.setCell ⟨R, 0, none⟩ (.int .i64 z.kind)).setCell ⟨R, 1, none⟩ (.int .i64 z.n)).setCell ⟨R, 2, none⟩ (.slice a1 z.kids.length c1)) d z a1 c1) := by
  obtain ⟨hR, hb⟩ := h.ab R rfl
  have k3 := ko3 W R (.int .i64 z.kind) (.int .i64 z.n) (.slice a1 z.kids.length c1)
  have hf := fin_set hown h.kb h.ctx hw (by omega) (fun e => by have := ho _ e.symm; omega) (R := R) (.int .i64 z.kind) (.int .i64 z.n) (.slice a1 z.kids.length c1)
  refine ⟨⟨hf.2, hf.1, by simpa using h.hi, (k3 _ (by omega)).trans h.tb, (k3 _ (by omega)).trans h.rb, (fun _ e => by cases e), (fun _ _ e => by cases e), (fun _ e => by cases e), (fun _ _ _ e => by cases e)⟩, hR, laid_box hb _ _ _ _ _, fun hq => ?_⟩
  obtain ⟨d, h2⟩ := h.tt z a1 c1 rfl hq
  refine ⟨d, h2.keep (by simp) (fun g _ hP => ⟨?_, k3 g ?_⟩)⟩
  · rcases hP with hP | ⟨hP, hn⟩
    · exact .inl hP
    · exact .inr ⟨hP, fun e => hn (by rw [e])⟩
  · rcases hP with hP | ⟨hP, hn⟩
    · omega
    · exact fun e => hn (by rw [e])
end
end Go.Proofs.Ytofbnfpncekddaa.Te
