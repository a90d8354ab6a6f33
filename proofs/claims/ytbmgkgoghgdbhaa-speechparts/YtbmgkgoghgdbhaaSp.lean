/- proveGoal, on condition of what it calls for less. Condition: the sequent is small. -/
import Derived.Test.YtbmgkgoghgdbhaaSo
namespace Go.Proofs.Ytbmgkgoghgdbhaa.Te
open Go.RowKit

theorem pf_one {P : Nat → Prop} {w : World} {d e1 b : Nat} {l : List Ty} {g : Ty} {a ag : Option Addr} {c cg : Nat} {st ix n : Int} {p1 : Pf} {x1 : Pl} (hl : LsAt P w d l a c) (hg : TyP P w d g ag cg) (h1 : i64B st) (h2 : i64B ix) (h3 : i64B n) (hb : P b)
    (hh : w.heap[b]? = some (.cells #[.int .i64 p1.step, .slice x1.la p1.left.length x1.lc, .int .i64 p1.goal.kind, .int .i64 p1.goal.n, .slice x1.ga p1.goal.kids.length x1.gc, .int .i64 p1.ix, .int .i64 p1.n, .slice x1.ka p1.kids.length x1.kc] 37 (0, 0)))
    (hp1 : PfAt P w d e1 p1 x1) : PfAt P w d (e1 + 1) ⟨st, l, g, ix, n, [p1]⟩ ⟨a, c, ag, cg, some ⟨b, 0, none⟩, 1⟩ := by
  refine ⟨h1, h2, h3, hl, hg, by simp, .inr ⟨b, 0, rfl, lt_of_get hh, hb, fun j hj => ?_⟩⟩
  have hj2 : j = 0 := by simp at hj; omega
  subst hj2
  exact ⟨x1, ⟨cell_of_row _ _ 0 _ _ _ hh, cell_of_row _ _ 1 _ _ _ hh, cell_of_row _ _ 2 _ _ _ hh, cell_of_row _ _ 3 _ _ _ hh, cell_of_row _ _ 4 _ _ _ hh, cell_of_row _ _ 5 _ _ _ hh, cell_of_row _ _ 6 _ _ _ hh, cell_of_row _ _ 7 _ _ _ hh⟩, hp1⟩
set_option maxRecDepth 100000 in
set_option maxHeartbeats 1500000 in
theorem goal_any {P : Nat → Prop} {d M : Nat} (st : Int) (l : List Ty) (a : Option Addr) (c : Nat) (g : Ty) (ag : Option Addr) (cg : Nat) (l1 : List Ty) (g1 : Ty) (w : World) (r : Bool) (hst : st = 2 ∨ st = 3) (hbf : ∀ ks, bef ⟨st, l, g, 0, 0, ks⟩ = some [(l1, g1)]) (hne : l1 ≠ []) (hle : l.length < 700) (hsz : szs l1 + sz g1 < M) (hP : ∀ q, w.heap.size ≤ q → P q) (hl : LsAt P w d l a c) (hg : TyP P w d g ag cg) (gl : ∀ t ∈ l, Gp t) (gg : Gp g) (gl1 : ∀ t ∈ l1, Gp t) (gg1 : Gp g1) (hr : r = true ↔ E l1 g1) (ihP : ∀ M', M' < M → ProveOk d M') :
    Calls Try.prog 71 #[vsq l a c g ag cg, .int .i64 st] w fun e w' => PrQ P d l g r w e w' := by
  have IS1 : Hid (i64B st) := by rcases hst with rfl | rfl <;> constructor <;> decide
  have HL : Hid (LsAt P w d l a c) := hl
  have HG : Hid (TyP P w d g ag cg) := hg
  have GL : Hid (∀ t ∈ l, Gp t) := gl
  have GG : Hid (Gp g) := gg
  have HP : Hid (∀ q, w.heap.size ≤ q → P q) := hP
  have HB : Hid (∀ ks, bef ⟨st, l, g, 0, 0, ks⟩ = some [(l1, g1)]) := hbf
  have HST : Hid (st = 2 ∨ st = 3) := hst
  have I54 : Hid (ProveOk d (szs l1 + sz g1)) := ihP _ hsz
  have HX : Hid ((∀ t ∈ l1, Gp t) ∧ Gp g1 ∧ l1 ≠ [] ∧ (r = true ↔ E l1 g1)) := ⟨gl1, gg1, hne, hr⟩
  clear hl hg gl gg hP hbf hst ihP gl1 gg1 hr hne hsz
  unfold vsq
  go_enter Try.func71, Try.ntmps71
  go_upto_region 2 with fail
  obtain ⟨x1, x2, x3, hVs, hVb⟩ := three_boxes w (.cells #[.slice a l.length c, .int .i64 g.kind, .int .i64 g.n, .slice ag g.kids.length cg] 79) (.cells #[.int .i64 0, .slice none 0 0, .int .i64 0, .int .i64 0, .slice none 0 0, .int .i64 0, .int .i64 0, .slice none 0 0] 37) (.cells #[.int .i64 st, .slice a l.length c, .int .i64 g.kind, .int .i64 g.n, .slice ag g.kids.length cg, .int .i64 0, .int .i64 0, .slice none 0 0] 37)
  generalize hV : ((w.alloc (.cells #[.slice a l.length c, .int .i64 g.kind, .int .i64 g.n, .slice ag g.kids.length cg] 79)).alloc (.cells #[.int .i64 0, .slice none 0 0, .int .i64 0, .int .i64 0, .slice none 0 0, .int .i64 0, .int .i64 0, .slice none 0 0] 37)).alloc (.cells #[.int .i64 st, .slice a l.length c, .int .i64 g.kind, .int .i64 g.n, .slice ag g.kids.length cg, .int .i64 0, .int .i64 0, .slice none 0 0] 37) = V at *
  clear hV x1
  have K66 := bef_any (P := fun q => P q ∧ q ≠ w.heap.size + 1 ∧ q ≠ w.heap.size + 1 + 1) (d := d) (e0 := 0) ⟨st, l, g, 0, 0, []⟩ ⟨a, c, ag, cg, none, 0⟩ V (pf_bare (HL.out.keep hVb.size (fun q hq hp => ⟨⟨hp, by omega, by omega⟩, hVb.block q hq⟩)) (HG.out.keep hVb.size (fun q hq hp => ⟨⟨hp, by omega, by omega⟩, hVb.block q hq⟩)) IS1.out (by constructor <;> decide) (by constructor <;> decide)) GL.out GG.out (by dsimp only; omega) (fun q hq => ⟨HP.out q (by omega), by omega, by omega⟩)
  unfold vpf at K66
  dsimp only at K66
  rw [show ([] : List Pf).length = 0 from rfl] at K66
  have m0 := cell_of_row _ _ 0 _ _ _ x3
  have m1 := cell_of_row _ _ 1 _ _ _ x3
  have m2 := cell_of_row _ _ 2 _ _ _ x3
  have m3 := cell_of_row _ _ 3 _ _ _ x3
  have m4 := cell_of_row _ _ 4 _ _ _ x3
  have m5 := cell_of_row _ _ 5 _ _ _ x3
  have m6 := cell_of_row _ _ 6 _ _ _ x3
  have m7 := cell_of_row _ _ 7 _ _ _ x3
  go_upto_region 3 with (go_at_call 66; (with_reducible refine K66.mono ?_); rintro e2 w2 ⟨v2, r2, rfl, hb2, hn2, hs2⟩; clear K66)
  clear m0 m1 m2 m3 m4 m5 m6 m7
  obtain ⟨hr2, hsq⟩ := hs2 _ (HB.out [])
  subst hr2
  obtain ⟨bq, hv2, hq⟩ := hsq
  rw [show ([(l1, g1)] : List (List Ty × Ty)).length = 1 from rfl] at hv2
  subst hv2
  rcases hq with hq | ⟨gq, rfl, hgq, hqq⟩
  · simp at hq
  obtain ⟨a1, c1, ay, cy, C1, hl1, hty1⟩ := hqq 0 (by simp)
  simp only [List.getElem_cons_zero, Nat.zero_mul] at C1 hl1 hty1
  have d0 : w2.cell? ⟨gq, 0, none⟩ = some (.slice a1 l1.length c1) := C1.c0
  have d1 : w2.cell? ⟨gq, 1, none⟩ = some (.int .i64 g1.kind) := C1.c1
  have d2 : w2.cell? ⟨gq, 2, none⟩ = some (.int .i64 g1.n) := C1.c2
  have d3 : w2.cell? ⟨gq, 3, none⟩ = some (.slice ay g1.kids.length cy) := C1.c3
  have hs2' := hb2.size
  have hB2 := hVb.trans (hb2.mono hVb.size)
  have x2 := (hb2.block _ (lt_of_get x2)).trans x2
  have x3 := (hb2.block _ (lt_of_get x3)).trans x3
  have K54 := I54.out (fun q => P q ∧ q ≠ w.heap.size + 1 ∧ q ≠ w.heap.size + 1 + 1) l1 a1 c1 g1 ay cy w2 r (Nat.le_refl _) (fun q hq => ⟨HP.out q (by omega), by omega, by omega⟩) hl1 hty1 HX.out.1 HX.out.2.1 HX.out.2.2.1 HX.out.2.2.2
  unfold vsq at K54
  clear hl1 hty1 C1 hqq hn2 hs2
  go_upto_region 4 with (go_at_call 54; (with_reducible refine K54.mono ?_); rintro e3 w3 ⟨p3, q3, rfl, hb3, hg3⟩; clear K54; unfold vpf)
  have x14 := heap_alloc_new w3 (.cells #[.int .i64 p3.step, .slice q3.la p3.left.length q3.lc, .int .i64 p3.goal.kind, .int .i64 p3.goal.n, .slice q3.ga p3.goal.kids.length q3.gc, .int .i64 p3.ix, .int .i64 p3.n, .slice q3.ka p3.kids.length q3.kc] 37)
  have hb14 : Below w3.heap.size w3 (w3.alloc (.cells #[.int .i64 p3.step, .slice q3.la p3.left.length q3.lc, .int .i64 p3.goal.kind, .int .i64 p3.goal.n, .slice q3.ga p3.goal.kids.length q3.gc, .int .i64 p3.ix, .int .i64 p3.n, .slice q3.ka p3.kids.length q3.kc] 37)) := (Below.refl _ w3).alloc (Nat.le_refl _) _
  have HS14 : Hid ((w3.alloc (.cells #[.int .i64 p3.step, .slice q3.la p3.left.length q3.lc, .int .i64 p3.goal.kind, .int .i64 p3.goal.n, .slice q3.ga p3.goal.kids.length q3.gc, .int .i64 p3.ix, .int .i64 p3.n, .slice q3.ka p3.kids.length q3.kc] 37)).heap.size = w3.heap.size + 1) := by show _ = _; simp
  have hbW := hb3.trans (hb14.mono hb3.size)
  have hB3 := hB2.trans (hbW.mono hB2.size)
  have x2 := (hbW.block _ (lt_of_get x2)).trans x2
  have x3 := (hbW.block _ (lt_of_get x3)).trans x3
  have HG3 : Hid (r = true → ∃ e0, PfAt (fun q => P q ∧ q ≠ w.heap.size + 1 ∧ q ≠ w.heap.size + 1 + 1) w3 d e0 p3 q3 ∧ Good l1 g1 p3) := hg3
  have hs3 := hb3.size
  clear hg3 d0 d1 d2 d3
  generalize hV : w3.alloc (.cells #[.int .i64 p3.step, .slice q3.la p3.left.length q3.lc, .int .i64 p3.goal.kind, .int .i64 p3.goal.n, .slice q3.ga p3.goal.kids.length q3.gc, .int .i64 p3.ix, .int .i64 p3.n, .slice q3.ka p3.kids.length q3.kc] 37) = W3 at *
  clear hV
  have v0 := cell_of_row _ _ 0 _ _ _ x14
  have v1 := cell_of_row _ _ 1 _ _ _ x14
  have v2 := cell_of_row _ _ 2 _ _ _ x14
  have v3 := cell_of_row _ _ 3 _ _ _ x14
  have v4 := cell_of_row _ _ 4 _ _ _ x14
  have v5 := cell_of_row _ _ 5 _ _ _ x14
  have v6 := cell_of_row _ _ 6 _ _ _ x14
  have v7 := cell_of_row _ _ 7 _ _ _ x14
  have hb16 : Below W3.heap.size W3 (W3.alloc (.cells #[.int .i64 p3.step, .slice q3.la p3.left.length q3.lc, .int .i64 p3.goal.kind, .int .i64 p3.goal.n, .slice q3.ga p3.goal.kids.length q3.gc, .int .i64 p3.ix, .int .i64 p3.n, .slice q3.ka p3.kids.length q3.kc] 37)) := (Below.refl _ W3).alloc (Nat.le_refl _) _
  have x16 := heap_alloc_new W3 (.cells #[.int .i64 p3.step, .slice q3.la p3.left.length q3.lc, .int .i64 p3.goal.kind, .int .i64 p3.goal.n, .slice q3.ga p3.goal.kids.length q3.gc, .int .i64 p3.ix, .int .i64 p3.n, .slice q3.ka p3.kids.length q3.kc] 37)
  have y3 := (hb16.block _ (lt_of_get x3)).trans x3
  have g7 := cell_of_row _ _ 7 _ _ _ y3
  have k7 := frozen_of_row _ _ 7 _ 37 y3
  have HY3 : Hid _ := y3
  have HX16 : Hid _ := x16
  clear y3 x16
  go_upto_region 5 with fail
  have y3 := HY3.out
  have x16 := HX16.out
  clear HY3 HX16
  have y2 := (hb16.block _ (lt_of_get x2)).trans x2
  have h7 := heap_setCell_same _ (w.heap.size + 1 + 1) 7 _ 37 (.slice (some ⟨W3.heap.size, 0, none⟩) 1 1) y3
  have ko : ∀ q, q ≠ w.heap.size + 1 + 1 → ((W3.alloc (.cells #[.int .i64 p3.step, .slice q3.la p3.left.length q3.lc, .int .i64 p3.goal.kind, .int .i64 p3.goal.n, .slice q3.ga p3.goal.kids.length q3.gc, .int .i64 p3.ix, .int .i64 p3.n, .slice q3.ka p3.kids.length q3.kc] 37)).setCell ⟨w.heap.size + 1 + 1, 7, none⟩ (.slice (some ⟨W3.heap.size, 0, none⟩) 1 1)).heap[q]? = (W3.alloc (.cells #[.int .i64 p3.step, .slice q3.la p3.left.length q3.lc, .int .i64 p3.goal.kind, .int .i64 p3.goal.n, .slice q3.ga p3.goal.kids.length q3.gc, .int .i64 p3.ix, .int .i64 p3.n, .slice q3.ka p3.kids.length q3.kc] 37)).heap[q]? := fun q hq => heap_setCell_other _ _ _ _ hq
  have hrow : ((W3.alloc (.cells #[.int .i64 p3.step, .slice q3.la p3.left.length q3.lc, .int .i64 p3.goal.kind, .int .i64 p3.goal.n, .slice q3.ga p3.goal.kids.length q3.gc, .int .i64 p3.ix, .int .i64 p3.n, .slice q3.ka p3.kids.length q3.kc] 37)).setCell ⟨w.heap.size + 1 + 1, 7, none⟩ (.slice (some ⟨W3.heap.size, 0, none⟩) 1 1)).heap[w.heap.size + 1 + 1]? = some (.cells #[.int .i64 st, .slice a l.length c, .int .i64 g.kind, .int .i64 g.n, .slice ag g.kids.length cg, .int .i64 0, .int .i64 0, .slice (some ⟨W3.heap.size, 0, none⟩) 1 1] 37 (0, 0)) := by simpa using h7
  have hl10 : w.heap.size + 1 + 1 < W3.heap.size := lt_of_get x3
  have u16 := (ko W3.heap.size (by omega)).trans x16
  have u2 := (ko (w.heap.size + 1) (by omega)).trans y2
  have hBU := (hB3.trans (hb16.mono hB3.size)).setCell (p := ⟨w.heap.size + 1 + 1, 7, none⟩) (by show w.heap.size ≤ w.heap.size + 1 + 1; omega) (.slice (some ⟨W3.heap.size, 0, none⟩) 1 1)
  have kU : ∀ q, q < W3.heap.size → q ≠ w.heap.size + 1 + 1 → ((W3.alloc (.cells #[.int .i64 p3.step, .slice q3.la p3.left.length q3.lc, .int .i64 p3.goal.kind, .int .i64 p3.goal.n, .slice q3.ga p3.goal.kids.length q3.gc, .int .i64 p3.ix, .int .i64 p3.n, .slice q3.ka p3.kids.length q3.kc] 37)).setCell ⟨w.heap.size + 1 + 1, 7, none⟩ (.slice (some ⟨W3.heap.size, 0, none⟩) 1 1)).heap[q]? = W3.heap[q]? := fun q hq hn => (ko q hn).trans (hb16.block q hq)
  have sU : ((W3.alloc (.cells #[.int .i64 p3.step, .slice q3.la p3.left.length q3.lc, .int .i64 p3.goal.kind, .int .i64 p3.goal.n, .slice q3.ga p3.goal.kids.length q3.gc, .int .i64 p3.ix, .int .i64 p3.n, .slice q3.ka p3.kids.length q3.kc] 37)).setCell ⟨w.heap.size + 1 + 1, 7, none⟩ (.slice (some ⟨W3.heap.size, 0, none⟩) 1 1)).heap.size = W3.heap.size + 1 := by simp
  clear h7 ko v0 v1 v2 v3 v4 v5 v6 v7 g7 k7 y2 y3
  generalize hV : (W3.alloc (.cells #[.int .i64 p3.step, .slice q3.la p3.left.length q3.lc, .int .i64 p3.goal.kind, .int .i64 p3.goal.n, .slice q3.ga p3.goal.kids.length q3.gc, .int .i64 p3.ix, .int .i64 p3.n, .slice q3.ka p3.kids.length q3.kc] 37)).setCell ⟨w.heap.size + 1 + 1, 7, none⟩ (.slice (some ⟨W3.heap.size, 0, none⟩) 1 1) = U at *
  clear hV
  have hB16 : w.heap.size ≤ W3.heap.size := hB3.size
  have HSU : Hid _ := sU
  clear sU
  generalize hb16e : W3.heap.size = b16 at *
  have zp0 := cell_of_row _ _ 0 _ _ _ hrow
  have zp1 := cell_of_row _ _ 1 _ _ _ hrow
  have zp2 := cell_of_row _ _ 2 _ _ _ hrow
  have zp3 := cell_of_row _ _ 3 _ _ _ hrow
  have zp4 := cell_of_row _ _ 4 _ _ _ hrow
  have zp5 := cell_of_row _ _ 5 _ _ _ hrow
  have zp6 := cell_of_row _ _ 6 _ _ _ hrow
  have zp7 := cell_of_row _ _ 7 _ _ _ hrow
  have zq0 := cell_of_row _ _ 0 _ _ _ u2
  have zq1 := cell_of_row _ _ 1 _ _ _ u2
  have zq2 := cell_of_row _ _ 2 _ _ _ u2
  have zq3 := cell_of_row _ _ 3 _ _ _ u2
  have zq4 := cell_of_row _ _ 4 _ _ _ u2
  have zq5 := cell_of_row _ _ 5 _ _ _ u2
  have zq6 := cell_of_row _ _ 6 _ _ _ u2
  have zq7 := cell_of_row _ _ 7 _ _ _ u2
  have ze0 := frozen_of_row _ _ 0 _ 37 u2
  have ze1 := frozen_of_row _ _ 1 _ 37 u2
  have ze2 := frozen_of_row _ _ 2 _ 37 u2
  have ze3 := frozen_of_row _ _ 3 _ 37 u2
  have ze4 := frozen_of_row _ _ 4 _ 37 u2
  have ze5 := frozen_of_row _ _ 5 _ 37 u2
  have ze6 := frozen_of_row _ _ 6 _ 37 u2
  have ze7 := frozen_of_row _ _ 7 _ 37 u2
  go_wp2_with fail
  refine bodyPost_ret (results_37 rfl _ _ (w.heap.size + 1) _ rfl (laid8 u2 _ _ _ _ _ _ _ _) rfl) rfl ?_
  have sU := HSU.out
  have hs14 := HS14.out
  have hF := below8 hBU (b := w.heap.size + 1) (by omega) (.int .i64 st) (.slice a l.length c) (.int .i64 g.kind) (.int .i64 g.n) (.slice ag g.kids.length cg) (.int .i64 0) (.int .i64 0) (.slice (some ⟨b16, 0, none⟩) 1 1)
  have kF := ko8 U (w.heap.size + 1) (.int .i64 st) (.slice a l.length c) (.int .i64 g.kind) (.int .i64 g.n) (.slice ag g.kids.length cg) (.int .i64 0) (.int .i64 0) (.slice (some ⟨b16, 0, none⟩) 1 1)
  have sF : U.heap.size = ((((((((U.setCell ⟨w.heap.size + 1, 0, none⟩ (.int .i64 st)).setCell ⟨w.heap.size + 1, 1, none⟩ (.slice a l.length c)).setCell ⟨w.heap.size + 1, 2, none⟩ (.int .i64 g.kind)).setCell ⟨w.heap.size + 1, 3, none⟩ (.int .i64 g.n)).setCell ⟨w.heap.size + 1, 4, none⟩ (.slice ag g.kids.length cg)).setCell ⟨w.heap.size + 1, 5, none⟩ (.int .i64 0)).setCell ⟨w.heap.size + 1, 6, none⟩ (.int .i64 0)).setCell ⟨w.heap.size + 1, 7, none⟩ (.slice (some ⟨b16, 0, none⟩) 1 1)).heap.size := by simp
  generalize (((((((U.setCell ⟨w.heap.size + 1, 0, none⟩ (.int .i64 st)).setCell ⟨w.heap.size + 1, 1, none⟩ (.slice a l.length c)).setCell ⟨w.heap.size + 1, 2, none⟩ (.int .i64 g.kind)).setCell ⟨w.heap.size + 1, 3, none⟩ (.int .i64 g.n)).setCell ⟨w.heap.size + 1, 4, none⟩ (.slice ag g.kids.length cg)).setCell ⟨w.heap.size + 1, 5, none⟩ (.int .i64 0)).setCell ⟨w.heap.size + 1, 6, none⟩ (.int .i64 0)).setCell ⟨w.heap.size + 1, 7, none⟩ (.slice (some ⟨b16, 0, none⟩) 1 1) = F at *
  refine ⟨⟨st, l, g, 0, 0, [p3]⟩, ⟨a, c, ag, cg, some ⟨b16, 0, none⟩, 1⟩, by rfl, hF, fun hr => ?_⟩
  obtain ⟨e3', hp3, good3⟩ := HG3.out hr
  refine ⟨e3' + 1, ?_, good_one HST.out HB.out good3⟩
  refine pf_one (HL.out.below hF) (HG.out.below hF) IS1.out (by constructor <;> decide) (by constructor <;> decide) (HP.out _ (by omega)) ((kF b16 (by omega)).trans u16) ?_
  exact hp3.keep (by omega) (fun q hq hp => ⟨hp.1, (kF q hp.2.1).trans ((kU q (by omega) hp.2.2).trans (hb14.block q hq))⟩)
end Go.Proofs.Ytbmgkgoghgdbhaa.Te
