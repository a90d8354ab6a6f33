/- SpeechCutless walked: it returns true. No conditions. -/
import Derived.Test.YtbmgkgoghgdbhaaYc
import Derived.Test.YtbmgkgoghgdbhaaVc
namespace Go.Proofs.Ytbmgkgoghgdbhaa.Te
open Go.RowKit

theorem rtE_zero' {p : Pf} (h : rtE p = 0) : Gpf p ∧ Lpf p := by
  unfold rtE at h
  by_cases h1 : 200 < szp p ∨ lgp p = true
  · rw [if_pos h1] at h; cases h
  · rw [if_neg h1] at h
    refine ⟨gpf_of _ p (Nat.le_refl _) h, lpf_of _ p (Nat.le_refl _) ?_⟩
    cases hl : lgp p
    · rfl
    · exact absurd (.inr hl) h1
set_option maxRecDepth 100000 in
set_option maxHeartbeats 2000000 in
theorem cutless_law {P : Nat → Prop} {d e : Nat} (p : Pf) (x : Pl) (w : World) (h : PfAt P w d e p x) : Calls Try.prog 6 #[vpf p x] w fun e w' => e = .returned (.bool true) ∧ Below w.heap.size w w' := by
  obtain ⟨r, hr⟩ := fix_bool (Rt p)
  obtain ⟨e', rfl⟩ := h.pos
  have hpe := h
  obtain ⟨_, _, _, hL, hG, _, _⟩ := hpe
  have HLT : Hid (TyAt w (d + 1) ⟨0, 0, p.left⟩ x.la x.lc) := hL.1.at
  have HGT : Hid (TyAt w d p.goal x.ga x.gc) := hG.at
  have K25 := fun W hW => cutless_any p x W r (h.below hW) hr
  unfold ct at K25
  have HP : Hid (PfAt P w d (e' + 1) p x) := h
  have HR : Hid (r = true ↔ Rt p) := hr
  obtain ⟨q, hq⟩ : ∃ q, rtE p = q := ⟨_, rfl⟩
  obtain ⟨u, hu⟩ : ∃ u, cseq p.left p.goal = u := ⟨_, rfl⟩
  have HQ : Hid (rtE p = q) := hq
  have HU : Hid (cseq p.left p.goal = u) := hu
  rw [hq, hu] at K25
  obtain ⟨e1, he1⟩ : ∃ e1, (if q = 0 then (if r = true then u else 1) else q) = e1 := ⟨_, rfl⟩
  rw [he1] at K25
  have HE1 : Hid ((if q = 0 then (if r = true then u else 1) else q) = e1) := he1
  clear h hr hL hG hq hu he1
  unfold vpf at K25 ⊢
  go_enter Try.func6, Try.ntmps6
  go_upto_region 1 with fail
  have hVb : Below w.heap.size w (w.alloc (.cells #[.int .i64 p.step, .slice x.la p.left.length x.lc, .int .i64 p.goal.kind, .int .i64 p.goal.n, .slice x.ga p.goal.kids.length x.gc, .int .i64 p.ix, .int .i64 p.n, .slice x.ka p.kids.length x.kc] 37)) := (Below.refl _ w).alloc (Nat.le_refl _) _
  have x1 := heap_alloc_new w (.cells #[.int .i64 p.step, .slice x.la p.left.length x.lc, .int .i64 p.goal.kind, .int .i64 p.goal.n, .slice x.ga p.goal.kids.length x.gc, .int .i64 p.ix, .int .i64 p.n, .slice x.ka p.kids.length x.kc] 37)
  have K25 := K25 _ hVb
  generalize hV : w.alloc (.cells #[.int .i64 p.step, .slice x.la p.left.length x.lc, .int .i64 p.goal.kind, .int .i64 p.goal.n, .slice x.ga p.goal.kids.length x.gc, .int .i64 p.ix, .int .i64 p.n, .slice x.ka p.kids.length x.kc] 37) = V at *
  clear hV
  have i0 := cell_of_row _ _ 0 _ _ _ x1
  have i1 := cell_of_row _ _ 1 _ _ _ x1
  have i2 := cell_of_row _ _ 2 _ _ _ x1
  have i3 := cell_of_row _ _ 3 _ _ _ x1
  have i4 := cell_of_row _ _ 4 _ _ _ x1
  have i5 := cell_of_row _ _ 5 _ _ _ x1
  have i6 := cell_of_row _ _ 6 _ _ _ x1
  have i7 := cell_of_row _ _ 7 _ _ _ x1
  go_upto_region 2 with (go_at_call 25; (with_reducible refine K25.mono ?_); rintro e2 w2 ⟨p', x', rfl, hb2, hpt, hpf⟩; clear K25; unfold vpf)
  have hn := heap_alloc_new w2 (.cells #[.int .i64 p'.step, .slice x'.la p'.left.length x'.lc, .int .i64 p'.goal.kind, .int .i64 p'.goal.n, .slice x'.ga p'.goal.kids.length x'.gc, .int .i64 p'.ix, .int .i64 p'.n, .slice x'.ka p'.kids.length x'.kc] 37)
  have hbn : Below w2.heap.size w2 (w2.alloc (.cells #[.int .i64 p'.step, .slice x'.la p'.left.length x'.lc, .int .i64 p'.goal.kind, .int .i64 p'.goal.n, .slice x'.ga p'.goal.kids.length x'.gc, .int .i64 p'.ix, .int .i64 p'.n, .slice x'.ka p'.kids.length x'.kc] 37)) := (Below.refl _ w2).alloc (Nat.le_refl _) _
  have hb3 := hb2.trans (hbn.mono hb2.size)
  have hB3 := hVb.trans (hb3.mono hVb.size)
  have x1 := (hb3.block _ (lt_of_get x1)).trans x1
  have HPT : Hid (e1 = 0 → ∃ d e0, PfAt (fun _ => True) (w2.alloc (.cells #[.int .i64 p'.step, .slice x'.la p'.left.length x'.lc, .int .i64 p'.goal.kind, .int .i64 p'.goal.n, .slice x'.ga p'.goal.kids.length x'.gc, .int .i64 p'.ix, .int .i64 p'.n, .slice x'.ka p'.kids.length x'.kc] 37)) d e0 p' x' ∧ Good p.left p.goal p' ∧ cseq p.left p.goal = 0) := fun h => by
    obtain ⟨d, e0, h1, h2⟩ := hpt h
    exact ⟨d, e0, h1.below hbn, h2⟩
  have HPF : Hid (e1 ≠ 0 → p' = pf0 ∧ x' = pl0) := hpf
  clear hpt hpf i0 i1 i2 i3 i4 i5 i6 i7 hb2 hb3 hbn
  generalize hV : w2.alloc (.cells #[.int .i64 p'.step, .slice x'.la p'.left.length x'.lc, .int .i64 p'.goal.kind, .int .i64 p'.goal.n, .slice x'.ga p'.goal.kids.length x'.gc, .int .i64 p'.ix, .int .i64 p'.n, .slice x'.ka p'.kids.length x'.kc] 37) = W3 at *
  clear hV
  generalize w2.heap.size = B at *
  have K18 := asks_any p x W3 (HP.out.below hB3)
  rw [HQ.out] at K18
  unfold vpf at K18
  have i0 := cell_of_row _ _ 0 _ _ _ x1
  have i1 := cell_of_row _ _ 1 _ _ _ x1
  have i2 := cell_of_row _ _ 2 _ _ _ x1
  have i3 := cell_of_row _ _ 3 _ _ _ x1
  have i4 := cell_of_row _ _ 4 _ _ _ x1
  have i5 := cell_of_row _ _ 5 _ _ _ x1
  have i6 := cell_of_row _ _ 6 _ _ _ x1
  have i7 := cell_of_row _ _ 7 _ _ _ x1
  go_upto_region 3 with (go_at_call 18; (with_reducible refine K18.mono ?_); rintro e4 W4 ⟨rfl, hb4⟩; clear K18)
  have hB4 := hB3.trans (hb4.mono hB3.size)
  have x1 := (hb4.block _ (lt_of_get x1)).trans x1
  have hn := (hb4.block _ (lt_of_get hn)).trans hn
  have HPT4 : Hid (e1 = 0 → ∃ d e0, PfAt (fun _ => True) W4 d e0 p' x' ∧ Good p.left p.goal p' ∧ cseq p.left p.goal = 0) := fun h => by
    obtain ⟨d, e0, h1, h2⟩ := HPT.out h
    exact ⟨d, e0, h1.below hb4, h2⟩
  clear HPT i0 i1 i2 i3 i4 i5 i6 i7 hb4
  have K11 := fun W => begun_any W
  by_cases h0 : q = 0
  rotate_left
  · have he : e1 = q := by have := HE1.out; rw [if_neg h0] at this; exact this.symm
    have h0b : (q != 0) = true := bne_iff_ne.2 h0
    have h0c : (q == 0) = false := by simpa using h0
    obtain ⟨rfl, rfl⟩ := HPF.out (by rw [he]; exact h0)
    subst he
    have K23 := fun W => noproof_any W
    unfold vpf pf0 pl0 at K23
    dsimp only at K23
    rw [show ([] : List Ty).length = 0 from rfl, show ([] : List Pf).length = 0 from rfl] at K23
    unfold pf0 pl0 at hn
    dsimp only at hn
    rw [show ([] : List Ty).length = 0 from rfl, show ([] : List Pf).length = 0 from rfl] at hn
    go_upto_region 10 with (go_at_call 11; (with_reducible refine (K11 _).mono ?_); rintro e5 W5 ⟨rfl, hb5⟩; clear K11)
    have hn := (hb5.block _ (lt_of_get hn)).trans hn
    have hB5 := hB4.trans (hb5.mono hB4.size)
    have k0 := cell_of_row _ _ 0 _ _ _ hn
    have k1 := cell_of_row _ _ 1 _ _ _ hn
    have k2 := cell_of_row _ _ 2 _ _ _ hn
    have k3 := cell_of_row _ _ 3 _ _ _ hn
    have k4 := cell_of_row _ _ 4 _ _ _ hn
    have k5 := cell_of_row _ _ 5 _ _ _ hn
    have k6 := cell_of_row _ _ 6 _ _ _ hn
    have k7 := cell_of_row _ _ 7 _ _ _ hn
    go_wp2_with (go_at_call 23; (with_reducible refine (K23 _).mono ?_); rintro e6 W6 ⟨rfl, hb6⟩; clear K23)
    go_ret
    exact ⟨rfl, hB5.trans (hb6.mono hB5.size)⟩
  subst h0
  have hz := rtE_zero' HQ.out
  have K19 := rp_any (e' + 1) p x W4 r (HP.out.below hB4) hz.1 hz.2 HR.out
  unfold vpf at K19
  clear hz
  have i0 := cell_of_row _ _ 0 _ _ _ x1
  have i1 := cell_of_row _ _ 1 _ _ _ x1
  have i2 := cell_of_row _ _ 2 _ _ _ x1
  have i3 := cell_of_row _ _ 3 _ _ _ x1
  have i4 := cell_of_row _ _ 4 _ _ _ x1
  have i5 := cell_of_row _ _ 5 _ _ _ x1
  have i6 := cell_of_row _ _ 6 _ _ _ x1
  have i7 := cell_of_row _ _ 7 _ _ _ x1
  obtain rfl | rfl : r = false ∨ r = true := by cases r <;> simp
  · have he : e1 = 1 := by have := HE1.out; simpa using this.symm
    obtain ⟨rfl, rfl⟩ := HPF.out (by rw [he]; decide)
    subst he
    have K23 := fun W => noproof_any W
    unfold vpf pf0 pl0 at K23
    dsimp only at K23
    rw [show ([] : List Ty).length = 0 from rfl, show ([] : List Pf).length = 0 from rfl] at K23
    unfold pf0 pl0 at hn
    dsimp only at hn
    rw [show ([] : List Ty).length = 0 from rfl, show ([] : List Pf).length = 0 from rfl] at hn
    go_upto_region 7 with (go_at_call 19; (with_reducible refine K19.mono ?_); rintro e5 W5 ⟨rfl, hb5⟩; clear K19)
    have hn := (hb5.block _ (lt_of_get hn)).trans hn
    have hB5 := hB4.trans (hb5.mono hB4.size)
    clear i0 i1 i2 i3 i4 i5 i6 i7
    go_upto_region 10 with (go_at_call 11; (with_reducible refine (K11 _).mono ?_); rintro e6 W6 ⟨rfl, hb6⟩; clear K11)
    have hn := (hb6.block _ (lt_of_get hn)).trans hn
    have hB6 := hB5.trans (hb6.mono hB5.size)
    have k0 := cell_of_row _ _ 0 _ _ _ hn
    have k1 := cell_of_row _ _ 1 _ _ _ hn
    have k2 := cell_of_row _ _ 2 _ _ _ hn
    have k3 := cell_of_row _ _ 3 _ _ _ hn
    have k4 := cell_of_row _ _ 4 _ _ _ hn
    have k5 := cell_of_row _ _ 5 _ _ _ hn
    have k6 := cell_of_row _ _ 6 _ _ _ hn
    have k7 := cell_of_row _ _ 7 _ _ _ hn
    go_wp2_with (go_at_call 23; (with_reducible refine (K23 _).mono ?_); rintro e7 W7 ⟨rfl, hb7⟩; clear K23)
    go_ret
    exact ⟨rfl, hB6.trans (hb7.mono hB6.size)⟩
  have he : e1 = u := by have := HE1.out; simpa using this.symm
  subst he
  go_upto_region 6 with (go_at_call 19; (with_reducible refine K19.mono ?_); rintro e5 W5 ⟨rfl, hb5⟩; clear K19)
  have hn := (hb5.block _ (lt_of_get hn)).trans hn
  have x1 := (hb5.block _ (lt_of_get x1)).trans x1
  have hB5 := hB4.trans (hb5.mono hB4.size)
  clear i0 i1 i2 i3 i4 i5 i6 i7
  have K21 := asksp_any p.left x.la x.lc p.goal x.ga x.gc W5 (HLT.out.below hB5) (HGT.out.below hB5)
  rw [HU.out] at K21
  unfold vty at K21
  have i0 := cell_of_row _ _ 0 _ _ _ x1
  have i1 := cell_of_row _ _ 1 _ _ _ x1
  have i2 := cell_of_row _ _ 2 _ _ _ x1
  have i3 := cell_of_row _ _ 3 _ _ _ x1
  have i4 := cell_of_row _ _ 4 _ _ _ x1
  have i5 := cell_of_row _ _ 5 _ _ _ x1
  have i6 := cell_of_row _ _ 6 _ _ _ x1
  have i7 := cell_of_row _ _ 7 _ _ _ x1
  go_upto_region 7 with (go_at_call 21; (with_reducible refine K21.mono ?_); rintro e6 W6 ⟨rfl, hb6⟩; clear K21)
  have hn := (hb6.block _ (lt_of_get hn)).trans hn
  have x1 := (hb6.block _ (lt_of_get x1)).trans x1
  have hB6 := hB5.trans (hb6.mono hB5.size)
  clear i0 i1 i2 i3 i4 i5 i6 i7
  by_cases hu0 : e1 = 0
  rotate_left
  · have hub : (e1 != 0) = true := bne_iff_ne.2 hu0
    obtain ⟨rfl, rfl⟩ := HPF.out hu0
    have K23 := fun W => noproof_any W
    unfold vpf pf0 pl0 at K23
    dsimp only at K23
    rw [show ([] : List Ty).length = 0 from rfl, show ([] : List Pf).length = 0 from rfl] at K23
    unfold pf0 pl0 at hn
    dsimp only at hn
    rw [show ([] : List Ty).length = 0 from rfl, show ([] : List Pf).length = 0 from rfl] at hn
    go_upto_region 10 with (go_at_call 11; (with_reducible refine (K11 _).mono ?_); rintro e7 W7 ⟨rfl, hb7⟩; clear K11)
    have hn := (hb7.block _ (lt_of_get hn)).trans hn
    have hB7 := hB6.trans (hb7.mono hB6.size)
    have k0 := cell_of_row _ _ 0 _ _ _ hn
    have k1 := cell_of_row _ _ 1 _ _ _ hn
    have k2 := cell_of_row _ _ 2 _ _ _ hn
    have k3 := cell_of_row _ _ 3 _ _ _ hn
    have k4 := cell_of_row _ _ 4 _ _ _ hn
    have k5 := cell_of_row _ _ 5 _ _ _ hn
    have k6 := cell_of_row _ _ 6 _ _ _ hn
    have k7 := cell_of_row _ _ 7 _ _ _ hn
    go_wp2_with (go_at_call 23; (with_reducible refine (K23 _).mono ?_); rintro e8 W8 ⟨rfl, hb8⟩; clear K23)
    go_ret
    exact ⟨rfl, hB7.trans (hb8.mono hB7.size)⟩
  subst hu0
  obtain ⟨dp, ep, hp, hgd, hcs⟩ := HPT4.out rfl
  have HPP : Hid (PfAt (fun _ => True) W4 dp ep p' x') := hp
  have HGD : Hid (Good p.left p.goal p') := hgd
  clear hp hgd hcs HPT4 HPF
  go_upto_region 11 with (go_at_call 11; (with_reducible refine (K11 _).mono ?_); rintro e7 W7 ⟨rfl, hb7⟩; clear K11)
  have hn := (hb7.block _ (lt_of_get hn)).trans hn
  have x1 := (hb7.block _ (lt_of_get x1)).trans x1
  have hB7 := hB6.trans (hb7.mono hB6.size)
  have K24 := shows_any p' x' p.left x.la x.lc p.goal x.ga x.gc W7 (((HPP.out.below hb5).below hb6).below hb7) (HLT.out.below hB7) (HGT.out.below hB7) HU.out HGD.out
  unfold vpf vty at K24
  have i0 := cell_of_row _ _ 0 _ _ _ x1
  have i1 := cell_of_row _ _ 1 _ _ _ x1
  have i2 := cell_of_row _ _ 2 _ _ _ x1
  have i3 := cell_of_row _ _ 3 _ _ _ x1
  have i4 := cell_of_row _ _ 4 _ _ _ x1
  have i5 := cell_of_row _ _ 5 _ _ _ x1
  have i6 := cell_of_row _ _ 6 _ _ _ x1
  have i7 := cell_of_row _ _ 7 _ _ _ x1
  have k0 := cell_of_row _ _ 0 _ _ _ hn
  have k1 := cell_of_row _ _ 1 _ _ _ hn
  have k2 := cell_of_row _ _ 2 _ _ _ hn
  have k3 := cell_of_row _ _ 3 _ _ _ hn
  have k4 := cell_of_row _ _ 4 _ _ _ hn
  have k5 := cell_of_row _ _ 5 _ _ _ hn
  have k6 := cell_of_row _ _ 6 _ _ _ hn
  have k7 := cell_of_row _ _ 7 _ _ _ hn
  go_wp2_with (go_at_call 24; (with_reducible refine K24.mono ?_); rintro e8 W8 ⟨rfl, hb8⟩; clear K24)
  go_ret
  exact ⟨rfl, hB7.trans (hb8.mono hB7.size)⟩
end Go.Proofs.Ytbmgkgoghgdbhaa.Te
