/- SpeechProves walked: it returns true. No conditions. -/
import Derived.Test.YtbmgkgoghgdbhaaVf
import Derived.Test.YtbmgkgoghgdbhaaVb
import Derived.Test.YtbmgkgoghgdbhaaVc
namespace Go.Proofs.Ytbmgkgoghgdbhaa.Te
open Go.RowKit

set_option maxRecDepth 100000 in
set_option maxHeartbeats 2000000 in
theorem proves_law {d dg : Nat} (l : List Ty) (a : Option Addr) (c : Nat) (g : Ty) (ag : Option Addr) (cg : Nat) (w : World) (hl : LsQ w d l a c) (hg : TyQ w dg g ag cg) :
    Calls Try.prog 5 #[.slice a l.length c, vty g ag cg] w fun e w' => e = .returned (.bool true) ∧ Below w.heap.size w w' := by
  obtain ⟨r, hr⟩ := fix_bool (cseq l g = 0 ∧ E l g)
  have K20 := fun W hW => Prove_any l a c g ag cg W r (hl.at.below hW) hl.1 (hg.at.below hW) hr
  have K21 := fun W hW => asksp_any l a c g ag cg W (hl.at.below hW) (hg.at.below hW)
  have HL : Hid (LsQ w d l a c) := hl
  have HG : Hid (TyQ w dg g ag cg) := hg
  have HR : Hid (r = true ↔ cseq l g = 0 ∧ E l g) := hr
  obtain ⟨e0, he0⟩ : ∃ e0, cseq l g = e0 := ⟨_, rfl⟩
  have HE : Hid (cseq l g = e0) := he0
  rw [he0] at K20 K21
  clear hl hg hr he0
  unfold vty at K20 K21 ⊢
  go_enter Try.func5, Try.ntmps5
  go_upto_region 1 with fail
  have hVb : Below w.heap.size w (w.alloc (.cells #[.int .i64 g.kind, .int .i64 g.n, .slice ag g.kids.length cg] 24)) := (Below.refl _ w).alloc (Nat.le_refl _) _
  have x1 := heap_alloc_new w (.cells #[.int .i64 g.kind, .int .i64 g.n, .slice ag g.kids.length cg] 24)
  have K20 := K20 _ hVb
  generalize hV : w.alloc (.cells #[.int .i64 g.kind, .int .i64 g.n, .slice ag g.kids.length cg] 24) = V at *
  clear hV
  have i0 := cell_of_row _ _ 0 _ _ _ x1
  have i1 := cell_of_row _ _ 1 _ _ _ x1
  have i2 := cell_of_row _ _ 2 _ _ _ x1
  go_upto_region 2 with (go_at_call 20; (with_reducible refine K20.mono ?_); rintro e1 w1 ⟨p, x, rfl, hb1, hpt, hpf⟩; clear K20; unfold vpf)
  have hn := heap_alloc_new w1 (.cells #[.int .i64 p.step, .slice x.la p.left.length x.lc, .int .i64 p.goal.kind, .int .i64 p.goal.n, .slice x.ga p.goal.kids.length x.gc, .int .i64 p.ix, .int .i64 p.n, .slice x.ka p.kids.length x.kc] 37)
  have hbn : Below w1.heap.size w1 (w1.alloc (.cells #[.int .i64 p.step, .slice x.la p.left.length x.lc, .int .i64 p.goal.kind, .int .i64 p.goal.n, .slice x.ga p.goal.kids.length x.gc, .int .i64 p.ix, .int .i64 p.n, .slice x.ka p.kids.length x.kc] 37)) := (Below.refl _ w1).alloc (Nat.le_refl _) _
  have hb2 := hb1.trans (hbn.mono hb1.size)
  have hB2 := hVb.trans (hb2.mono hVb.size)
  have x1 := (hb2.block _ (lt_of_get x1)).trans x1
  have HPT : Hid (r = true → ∃ d e0, PfAt (fun q => V.heap.size ≤ q) (w1.alloc (.cells #[.int .i64 p.step, .slice x.la p.left.length x.lc, .int .i64 p.goal.kind, .int .i64 p.goal.n, .slice x.ga p.goal.kids.length x.gc, .int .i64 p.ix, .int .i64 p.n, .slice x.ka p.kids.length x.kc] 37)) d e0 p x ∧ Good l g p) := fun h => by
    obtain ⟨d, e0, h1, h2⟩ := hpt h
    exact ⟨d, e0, h1.below hbn, h2⟩
  have HPF : Hid (r = false → p = pf0 ∧ x = pl0) := hpf
  clear hpt hpf i0 i1 i2 hb1 hb2 hbn
  generalize hV : w1.alloc (.cells #[.int .i64 p.step, .slice x.la p.left.length x.lc, .int .i64 p.goal.kind, .int .i64 p.goal.n, .slice x.ga p.goal.kids.length x.gc, .int .i64 p.ix, .int .i64 p.n, .slice x.ka p.kids.length x.kc] 37) = W2 at *
  clear hV
  generalize w1.heap.size = B at *
  have i0 := cell_of_row _ _ 0 _ _ _ x1
  have i1 := cell_of_row _ _ 1 _ _ _ x1
  have i2 := cell_of_row _ _ 2 _ _ _ x1
  have K21 := K21 _ hB2
  go_upto_region 3 with (go_at_call 21; (with_reducible refine K21.mono ?_); rintro e3 W3 ⟨rfl, hb3⟩; clear K21)
  have hB3 := hB2.trans (hb3.mono hB2.size)
  have x1 := (hb3.block _ (lt_of_get x1)).trans x1
  have hn := (hb3.block _ (lt_of_get hn)).trans hn
  clear i0 i1 i2
  have K11 := begun_any W3
  go_upto_region 5 with (go_at_call 11; (with_reducible refine K11.mono ?_); rintro e4 W4 ⟨rfl, hb4⟩; clear K11)
  have hB4 := hB3.trans (hb4.mono hB3.size)
  have x1 := (hb4.block _ (lt_of_get x1)).trans x1
  have hn := (hb4.block _ (lt_of_get hn)).trans hn
  have HPT4 : Hid (r = true → ∃ d e0, PfAt (fun q => V.heap.size ≤ q) W4 d e0 p x ∧ Good l g p) := fun h => by
    obtain ⟨d, e0, h1, h2⟩ := HPT.out h
    exact ⟨d, e0, (h1.below hb3).below hb4, h2⟩
  clear HPT hb3 hb4
  have i0 := cell_of_row _ _ 0 _ _ _ x1
  have i1 := cell_of_row _ _ 1 _ _ _ x1
  have i2 := cell_of_row _ _ 2 _ _ _ x1
  by_cases h0 : e0 = 0
  rotate_left
  · have hrf : r = false := bool_false HR.out (fun h => h0 (HE.out.symm.trans h.1))
    obtain ⟨rfl, rfl⟩ := HPF.out hrf
    subst hrf
    have h0b : (e0 != 0) = true := bne_iff_ne.2 h0
    have K23 := noproof_any W4
    unfold vpf pf0 pl0 at K23
    dsimp only at K23
    rw [show ([] : List Ty).length = 0 from rfl, show ([] : List Pf).length = 0 from rfl] at K23
    unfold pf0 pl0 at hn
    dsimp only at hn
    rw [show ([] : List Ty).length = 0 from rfl, show ([] : List Pf).length = 0 from rfl] at hn
    have k0 := cell_of_row _ _ 0 _ _ _ hn
    have k1 := cell_of_row _ _ 1 _ _ _ hn
    have k2 := cell_of_row _ _ 2 _ _ _ hn
    have k3 := cell_of_row _ _ 3 _ _ _ hn
    have k4 := cell_of_row _ _ 4 _ _ _ hn
    have k5 := cell_of_row _ _ 5 _ _ _ hn
    have k6 := cell_of_row _ _ 6 _ _ _ hn
    have k7 := cell_of_row _ _ 7 _ _ _ hn
    go_wp2_with (go_at_call 23; (with_reducible refine K23.mono ?_); rintro e5 W5 ⟨rfl, hb5⟩; clear K23)
    go_ret
    exact ⟨rfl, hB4.trans (hb5.mono hB4.size)⟩
  subst h0
  obtain ⟨hsm, gl, gg, hne⟩ := cseq_small HE.out
  have hrE : r = true ↔ E l g := ⟨fun h => (HR.out.1 h).2, fun h => HR.out.2 ⟨HE.out, h⟩⟩
  have K22 := pv_any 900 (Nat.le_refl _) d dg l a c g ag cg W4 r (by omega) (HL.out.below hB4) (HG.out.below hB4) gl gg hne hrE
  unfold vty at K22
  clear hsm gl gg hne hrE
  obtain rfl | rfl : r = false ∨ r = true := by cases r <;> simp
  · obtain ⟨rfl, rfl⟩ := HPF.out rfl
    have K23 := fun W => noproof_any W
    unfold vpf pf0 pl0 at K23
    dsimp only at K23
    rw [show ([] : List Ty).length = 0 from rfl, show ([] : List Pf).length = 0 from rfl] at K23
    unfold pf0 pl0 at hn
    dsimp only at hn
    rw [show ([] : List Ty).length = 0 from rfl, show ([] : List Pf).length = 0 from rfl] at hn
    go_upto_region 6 with (go_at_call 22; (with_reducible refine K22.mono ?_); rintro e5 W5 ⟨rfl, hb5⟩; clear K22)
    have hn := (hb5.block _ (lt_of_get hn)).trans hn
    have hB5 := hB4.trans (hb5.mono hB4.size)
    have k0 := cell_of_row _ _ 0 _ _ _ hn
    have k1 := cell_of_row _ _ 1 _ _ _ hn
    have k2 := cell_of_row _ _ 2 _ _ _ hn
    have k3 := cell_of_row _ _ 3 _ _ _ hn
    have k4 := cell_of_row _ _ 4 _ _ _ hn
    have k5 := cell_of_row _ _ 5 _ _ _ hn
    have k6 := cell_of_row _ _ 6 _ _ _ hn
    have k7 := cell_of_row _ _ 7 _ _ _ hn
    go_wp2_with (go_at_call 23; (with_reducible refine (K23 _).mono ?_); rintro e6 W6 ⟨rfl, hb6⟩; clear K23)
    go_ret
    exact ⟨rfl, hB5.trans (hb6.mono hB5.size)⟩
  · obtain ⟨dp, ep, hp, hgd⟩ := HPT4.out rfl
    have HP : Hid (PfAt (fun q => V.heap.size ≤ q) W4 dp ep p x) := hp
    have HGD : Hid (Good l g p) := hgd
    clear hp hgd HPT4 HPF
    go_upto_region 7 with (go_at_call 22; (with_reducible refine K22.mono ?_); rintro e5 W5 ⟨rfl, hb5⟩; clear K22)
    have hn := (hb5.block _ (lt_of_get hn)).trans hn
    have x1 := (hb5.block _ (lt_of_get x1)).trans x1
    have hB5 := hB4.trans (hb5.mono hB4.size)
    have K24 := shows_any p x l a c g ag cg W5 (HP.out.below hb5) (HL.out.at.below hB5) (HG.out.at.below hB5) HE.out HGD.out
    unfold vpf vty at K24
    clear i0 i1 i2
    have i0 := cell_of_row _ _ 0 _ _ _ x1
    have i1 := cell_of_row _ _ 1 _ _ _ x1
    have i2 := cell_of_row _ _ 2 _ _ _ x1
    have k0 := cell_of_row _ _ 0 _ _ _ hn
    have k1 := cell_of_row _ _ 1 _ _ _ hn
    have k2 := cell_of_row _ _ 2 _ _ _ hn
    have k3 := cell_of_row _ _ 3 _ _ _ hn
    have k4 := cell_of_row _ _ 4 _ _ _ hn
    have k5 := cell_of_row _ _ 5 _ _ _ hn
    have k6 := cell_of_row _ _ 6 _ _ _ hn
    have k7 := cell_of_row _ _ 7 _ _ _ hn
    go_wp2_with (go_at_call 24; (with_reducible refine K24.mono ?_); rintro e6 W6 ⟨rfl, hb6⟩; clear K24)
    go_ret
    exact ⟨rfl, hB5.trans (hb6.mono hB5.size)⟩
end Go.Proofs.Ytbmgkgoghgdbhaa.Te
