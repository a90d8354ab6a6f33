/- SpeechParts walked: it returns true. Condition: the text is no longer than any that comes in. -/
import Derived.Test.YtbmgkgoghgdbhaaKg
import Derived.Test.YtbmgkgoghgdbhaaRi
namespace Go.Proofs.Ytbmgkgoghgdbhaa.Te
open Go.RowKit

/-- what Print says -/
def prS (p : Ty) : ByteArray := if ck p = 0 then tb (tx p) else ⟨#[]⟩
theorem ckg {p : Ty} (h : ck p = 0) : Gp p ∧ sz p ≤ 15 := by
  unfold ck at h
  by_cases h15 : 15 < sz p
  · rw [if_pos h15] at h; simp at h
  · rw [if_neg h15] at h; exact ⟨h, by omega⟩
set_option maxRecDepth 100000 in
theorem print_any {d : Nat} (p : Ty) (a : Option Addr) (c : Nat) (w : World) (h : TyAt w d p a c) : Calls Try.prog 10 #[vty p a c] w fun e w' => e = .returned (.tuple #[.string (prS p), .int .i64 (ck p)]) ∧ Below w.heap.size w w' := by
  have K12 := fun W (hb : Below w.heap.size w W) => check_any d p a c W (h.below hb)
  by_cases h0 : ck p = 0
  · obtain ⟨gp, h15⟩ := ckg h0
    have K35 := fun W (hb : Below w.heap.size w W) => text_any d p a c W (h.below hb) gp h15
    rw [prS, if_pos h0, h0]
    rw [h0] at K12
    clear h h0
    unfold vty at K12 K35 ⊢
    go_enter Try.func10, Try.ntmps10
    go_upto_region 1 with fail
    have hVb : Below w.heap.size w (w.alloc (.cells #[.int .i64 p.kind, .int .i64 p.n, .slice a p.kids.length c] 24)) := (Below.refl _ w).alloc (Nat.le_refl _) _
    have x1 := heap_alloc_new w (.cells #[.int .i64 p.kind, .int .i64 p.n, .slice a p.kids.length c] 24)
    generalize hV : w.alloc (.cells #[.int .i64 p.kind, .int .i64 p.n, .slice a p.kids.length c] 24) = V at *
    clear hV
    have i0 := cell_of_row _ _ 0 _ _ _ x1
    have i1 := cell_of_row _ _ 1 _ _ _ x1
    have i2 := cell_of_row _ _ 2 _ _ _ x1
    have K12 := K12 V hVb
    go_upto_region 4 with (go_at_call 12; (with_reducible refine K12.mono ?_); rintro e1 w1 ⟨rfl, hb1⟩; clear K12)
    have x1 := (hb1.block _ (lt_of_get x1)).trans x1
    have hB1 := hVb.trans (hb1.mono hVb.size)
    clear i0 i1 i2
    have i0 := cell_of_row _ _ 0 _ _ _ x1
    have i1 := cell_of_row _ _ 1 _ _ _ x1
    have i2 := cell_of_row _ _ 2 _ _ _ x1
    have K35 := K35 w1 hB1
    go_wp2_with (go_at_call 35; (with_reducible refine K35.mono ?_); rintro e2 w2 ⟨rfl, hb2⟩; clear K35)
    go_ret2
    exact ⟨rfl, hB1.trans (hb2.mono hB1.size)⟩
  · rw [prS, if_neg h0]
    have h0b : (ck p != 0) = true := bne_iff_ne.2 h0
    clear h0 h
    generalize ck p = e0 at *
    unfold vty at K12 ⊢
    go_enter Try.func10, Try.ntmps10
    go_upto_region 1 with fail
    have hVb : Below w.heap.size w (w.alloc (.cells #[.int .i64 p.kind, .int .i64 p.n, .slice a p.kids.length c] 24)) := (Below.refl _ w).alloc (Nat.le_refl _) _
    have x1 := heap_alloc_new w (.cells #[.int .i64 p.kind, .int .i64 p.n, .slice a p.kids.length c] 24)
    generalize hV : w.alloc (.cells #[.int .i64 p.kind, .int .i64 p.n, .slice a p.kids.length c] 24) = V at *
    clear hV
    have i0 := cell_of_row _ _ 0 _ _ _ x1
    have i1 := cell_of_row _ _ 1 _ _ _ x1
    have i2 := cell_of_row _ _ 2 _ _ _ x1
    have K12 := K12 V hVb
    go_wp2_with (go_at_call 12; (with_reducible refine K12.mono ?_); rintro e1 w1 ⟨rfl, hb1⟩; clear K12)
    go_ret2
    exact ⟨rfl, hVb.trans (hb1.mono hVb.size)⟩
set_option maxRecDepth 100000 in
set_option maxHeartbeats 4000000 in
theorem parts_law {d : Nat} (p : Ty) (a : Option Addr) (c : Nat) (s : ByteArray) (w : World) (h : TyAt w d p a c) (hs : s.size ≤ 140737488355328) : Calls Try.prog 3 #[vty p a c, .string s] w fun e w' => e = .returned (.bool true) ∧ Below w.heap.size w w' := by
  have K9 := fun W (hb : Below w.heap.size w W) => check_doc d p a c W (h.below hb)
  have K10 := fun W (hb : Below w.heap.size w W) => print_any p a c W (h.below hb)
  have K12 := fun W (hb : Below w.heap.size w W) => check_any d p a c W (h.below hb)
  have K13 : ck p = 0 → ∀ W, Below w.heap.size w W → Calls Try.prog 13 #[vty p a c] W fun e w' => e = .returned (.string (prS p)) ∧ Below W.heap.size W w' := fun h0 W hb => by
    obtain ⟨gp, h15⟩ := ckg h0
    rw [prS, if_pos h0]
    exact textd_any d p a c W (h.below hb) gp h15
  have hpr : ck p ≠ 0 → prS p = ⟨#[]⟩ := fun h0 => by rw [prS, if_neg h0]
  obtain ⟨t, x, hr⟩ : ∃ t x, rdP (nb s) = (t, x) := ⟨_, _, rfl⟩
  have K14 := fun W => Read_any s t x W hs hr
  have K15 := fun W => readpart_any s t x W hs hr
  have K11 := fun W => begun_any W
  clear h hr hs
  generalize ck p = e0 at *
  generalize prS p = z at *
  have HPR : Hid (e0 ≠ 0 → z = ⟨#[]⟩) := hpr
  clear hpr
  unfold vty at K9 K10 K12 K13 ⊢
  go_enter Try.func3, Try.ntmps3
  go_upto_region 1 with fail
  have hVb : Below w.heap.size w (w.alloc (.cells #[.int .i64 p.kind, .int .i64 p.n, .slice a p.kids.length c] 24)) := (Below.refl _ w).alloc (Nat.le_refl _) _
  have x1 := heap_alloc_new w (.cells #[.int .i64 p.kind, .int .i64 p.n, .slice a p.kids.length c] 24)
  generalize hV : w.alloc (.cells #[.int .i64 p.kind, .int .i64 p.n, .slice a p.kids.length c] 24) = V at *
  clear hV
  have i0 := cell_of_row _ _ 0 _ _ _ x1
  have i1 := cell_of_row _ _ 1 _ _ _ x1
  have i2 := cell_of_row _ _ 2 _ _ _ x1
  have K9 := K9 V hVb
  go_upto_region 2 with (go_at_call 9; (with_reducible refine K9.mono ?_); rintro e1 w1 ⟨rfl, hb1⟩; clear K9)
  have x1 := (hb1.block _ (lt_of_get x1)).trans x1
  have hB1 := hVb.trans (hb1.mono hVb.size)
  clear i0 i1 i2 hb1 hVb
  have i0 := cell_of_row _ _ 0 _ _ _ x1
  have i1 := cell_of_row _ _ 1 _ _ _ x1
  have i2 := cell_of_row _ _ 2 _ _ _ x1
  have K10 := K10 w1 hB1
  go_upto_region 3 with (go_at_call 10; (with_reducible refine K10.mono ?_); rintro e2 w2 ⟨rfl, hb2⟩; clear K10)
  have x2 := (hb2.block _ (lt_of_get x1)).trans x1
  have hB2 := hB1.trans (hb2.mono hB1.size)
  clear i0 i1 i2 hb2 hB1 x1
  have K11 := K11 w2
  have K12 := fun W (hb : Below w2.heap.size w2 W) => K12 W (hB2.trans (hb.mono hB2.size))
  have y0 := fun W (hb : Below w2.heap.size w2 W) => (hb.cell (p := ⟨w.heap.size, 0, none⟩) (lt_of_get x2)).trans (cell_of_row _ _ 0 _ _ _ x2)
  have y1 := fun W (hb : Below w2.heap.size w2 W) => (hb.cell (p := ⟨w.heap.size, 1, none⟩) (lt_of_get x2)).trans (cell_of_row _ _ 1 _ _ _ x2)
  have y2 := fun W (hb : Below w2.heap.size w2 W) => (hb.cell (p := ⟨w.heap.size, 2, none⟩) (lt_of_get x2)).trans (cell_of_row _ _ 2 _ _ _ x2)
  by_cases h0 : e0 = 0
  · subst h0
    have K13b := fun W (hb : Below w2.heap.size w2 W) => K13 rfl W (hB2.trans (hb.mono hB2.size))
    clear K13
    go_upto_region 5 with (first | (go_at_call 11; (with_reducible refine K11.mono ?_); rintro e3 w3 ⟨rfl, hb3⟩; clear K11; have K12 := K12 _ hb3; have z0 := y0 _ hb3; have z1 := y1 _ hb3; have z2 := y2 _ hb3) | (go_at_call 12; (with_reducible refine K12.mono ?_); rintro e4 w4 ⟨rfl, hb4⟩; clear K12; have hb34 := hb3.trans (hb4.mono hb3.size); have K13 := K13b _ hb34; have u0 := y0 _ hb34; have u1 := y1 _ hb34; have u2 := y2 _ hb34) | (go_at_call 13; (with_reducible refine K13.mono ?_); rintro e5 w5 ⟨rfl, hb5⟩; clear K13 K13b))
    have hB5 := hB2.trans ((hb34.trans (hb5.mono hb34.size)).mono hB2.size)
    clear z0 z1 z2 u0 u1 u2 y0 y1 y2 hb3 hb4 hb5 hb34 x2 HPR
    have K14 := K14 w5
    go_upto_region 6 with (go_at_call 14; (with_reducible refine K14.mono ?_); rintro e6 w6 ⟨a6, c6, d6, rfl, hT6, hb6⟩; clear K14; unfold vty)
    have hbn : Below w6.heap.size w6 (w6.alloc (.cells #[.int .i64 t.kind, .int .i64 t.n, .slice a6 t.kids.length c6] 24)) := (Below.refl _ w6).alloc (Nat.le_refl _) _
    have x6 := heap_alloc_new w6 (.cells #[.int .i64 t.kind, .int .i64 t.n, .slice a6 t.kids.length c6] 24)
    have hB6 := hB5.trans ((hb6.trans (hbn.mono hb6.size)).mono hB5.size)
    have HT6 : Hid (TyAt (w6.alloc (.cells #[.int .i64 t.kind, .int .i64 t.n, .slice a6 t.kids.length c6] 24)) d6 t a6 c6) := hT6.below hbn
    clear hbn hb6 hT6
    generalize hV : w6.alloc (.cells #[.int .i64 t.kind, .int .i64 t.n, .slice a6 t.kids.length c6] 24) = W7 at *
    clear hV
    generalize w6.heap.size = B6 at *
    have K15 := K15 W7
    go_upto_region 7 with (go_at_call 15; (with_reducible refine K15.mono ?_); rintro e8 w8 ⟨a8, c8, d8, rfl, hT8, hb8⟩; clear K15; unfold vty)
    have hbn : Below w8.heap.size w8 (w8.alloc (.cells #[.int .i64 t.kind, .int .i64 t.n, .slice a8 t.kids.length c8] 24)) := (Below.refl _ w8).alloc (Nat.le_refl _) _
    have x8 := heap_alloc_new w8 (.cells #[.int .i64 t.kind, .int .i64 t.n, .slice a8 t.kids.length c8] 24)
    have hb9 := hb8.trans (hbn.mono hb8.size)
    have x6 := (hb9.block _ (lt_of_get x6)).trans x6
    have hB9 := hB6.trans (hb9.mono hB6.size)
    have K16 := fun W (hb : Below (w8.alloc (.cells #[.int .i64 t.kind, .int .i64 t.n, .slice a8 t.kids.length c8] 24)).heap.size (w8.alloc (.cells #[.int .i64 t.kind, .int .i64 t.n, .slice a8 t.kids.length c8] 24)) W) => same_doc d6 t a6 c6 d8 t a8 c8 W true (by simp) ((HT6.out.below hb9).below hb) ((hT8.below hbn).below hb)
    unfold vty at K16
    clear hbn hb8 hT8 HT6
    generalize hV : w8.alloc (.cells #[.int .i64 t.kind, .int .i64 t.n, .slice a8 t.kids.length c8] 24) = W9 at *
    clear hV
    generalize w8.heap.size = B8 at *
    have K16 := K16 W9 (Below.refl _ _)
    have i0 := cell_of_row _ _ 0 _ _ _ x6
    have i1 := cell_of_row _ _ 1 _ _ _ x6
    have i2 := cell_of_row _ _ 2 _ _ _ x6
    have j0 := cell_of_row _ _ 0 _ _ _ x8
    have j1 := cell_of_row _ _ 1 _ _ _ x8
    have j2 := cell_of_row _ _ 2 _ _ _ x8
    go_wp2_with (go_at_call 16; (with_reducible refine K16.mono ?_); rintro e10 w10 ⟨rfl, hb10⟩; clear K16)
    go_ret
    exact ⟨rfl, hB9.trans (hb10.mono hB9.size)⟩
  · have h0b : (e0 == 0) = false := by simpa using h0
    have h0c : (e0 != 0) = true := bne_iff_ne.2 h0
    obtain rfl := HPR.out h0
    clear h0 K13 HPR
    go_upto_region 5 with (first | (go_at_call 11; (with_reducible refine K11.mono ?_); rintro e3 w3 ⟨rfl, hb3⟩; clear K11; have K12 := K12 _ hb3; have z0 := y0 _ hb3; have z1 := y1 _ hb3; have z2 := y2 _ hb3) | (go_at_call 12; (with_reducible refine K12.mono ?_); rintro e4 w4 ⟨rfl, hb4⟩; clear K12; have hb34 := hb3.trans (hb4.mono hb3.size)))
    have hB5 := hB2.trans (hb34.mono hB2.size)
    clear z0 z1 z2 y0 y1 y2 hb3 hb4 hb34 x2
    have K14 := K14 w4
    go_upto_region 6 with (go_at_call 14; (with_reducible refine K14.mono ?_); rintro e6 w6 ⟨a6, c6, d6, rfl, hT6, hb6⟩; clear K14; unfold vty)
    have hbn : Below w6.heap.size w6 (w6.alloc (.cells #[.int .i64 t.kind, .int .i64 t.n, .slice a6 t.kids.length c6] 24)) := (Below.refl _ w6).alloc (Nat.le_refl _) _
    have x6 := heap_alloc_new w6 (.cells #[.int .i64 t.kind, .int .i64 t.n, .slice a6 t.kids.length c6] 24)
    have hB6 := hB5.trans ((hb6.trans (hbn.mono hb6.size)).mono hB5.size)
    have HT6 : Hid (TyAt (w6.alloc (.cells #[.int .i64 t.kind, .int .i64 t.n, .slice a6 t.kids.length c6] 24)) d6 t a6 c6) := hT6.below hbn
    clear hbn hb6 hT6
    generalize hV : w6.alloc (.cells #[.int .i64 t.kind, .int .i64 t.n, .slice a6 t.kids.length c6] 24) = W7 at *
    clear hV
    generalize w6.heap.size = B6 at *
    have K15 := K15 W7
    go_upto_region 7 with (go_at_call 15; (with_reducible refine K15.mono ?_); rintro e8 w8 ⟨a8, c8, d8, rfl, hT8, hb8⟩; clear K15; unfold vty)
    have hbn : Below w8.heap.size w8 (w8.alloc (.cells #[.int .i64 t.kind, .int .i64 t.n, .slice a8 t.kids.length c8] 24)) := (Below.refl _ w8).alloc (Nat.le_refl _) _
    have x8 := heap_alloc_new w8 (.cells #[.int .i64 t.kind, .int .i64 t.n, .slice a8 t.kids.length c8] 24)
    have hb9 := hb8.trans (hbn.mono hb8.size)
    have x6 := (hb9.block _ (lt_of_get x6)).trans x6
    have hB9 := hB6.trans (hb9.mono hB6.size)
    have K16 := fun W (hb : Below (w8.alloc (.cells #[.int .i64 t.kind, .int .i64 t.n, .slice a8 t.kids.length c8] 24)).heap.size (w8.alloc (.cells #[.int .i64 t.kind, .int .i64 t.n, .slice a8 t.kids.length c8] 24)) W) => same_doc d6 t a6 c6 d8 t a8 c8 W true (by simp) ((HT6.out.below hb9).below hb) ((hT8.below hbn).below hb)
    unfold vty at K16
    clear hbn hb8 hT8 HT6
    generalize hV : w8.alloc (.cells #[.int .i64 t.kind, .int .i64 t.n, .slice a8 t.kids.length c8] 24) = W9 at *
    clear hV
    generalize w8.heap.size = B8 at *
    have K16 := K16 W9 (Below.refl _ _)
    have i0 := cell_of_row _ _ 0 _ _ _ x6
    have i1 := cell_of_row _ _ 1 _ _ _ x6
    have i2 := cell_of_row _ _ 2 _ _ _ x6
    have j0 := cell_of_row _ _ 0 _ _ _ x8
    have j1 := cell_of_row _ _ 1 _ _ _ x8
    have j2 := cell_of_row _ _ 2 _ _ _ x8
    go_wp2_with (go_at_call 16; (with_reducible refine K16.mono ?_); rintro e10 w10 ⟨rfl, hb10⟩; clear K16)
    go_ret
    exact ⟨rfl, hB9.trans (hb10.mono hB9.size)⟩
end Go.Proofs.Ytbmgkgoghgdbhaa.Te
