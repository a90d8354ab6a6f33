/- TermTypes walked. No conditions. -/
import Derived.Test.YtofbnfpncekddaaVh
namespace Go.Proofs.Ytofbnfpncekddaa.Te
open Go.RowKit

set_option maxHeartbeats 8000000 in
theorem law_any (d dc : Nat) (t : Tm) (b : Option Addr) (e0 : Nat) (a : Option Addr) (c : Nat) (cons : List Ty) (ac : Option Addr) (cc : Nat) (w : World) (h : TmAt w d t b e0 a c) (hcs : TysAt w dc cons ac cc) :
    Calls Try.prog 3 #[vtm t b e0 a c, .slice ac cons.length cc] w fun e w' => e = .returned (.bool true) ∧ Below w.heap.size w w' := by
  have hf := hcs.few.1
  dsimp only at hf
  have K4 := fun W (hb : Below w.heap.size w W) => typeOf_any d dc t b e0 a c cons ac cc W (h.below hb) (TyAt.below hb hcs)
  have K5 := fun W (hb : Below w.heap.size w W) => typeOf_doc d dc t b e0 a c cons ac cc W (h.below hb) (TyAt.below hb hcs)
  have K7 := fun W (hb : Below w.heap.size w W) => checkm_any d t b e0 a c W (h.below hb)
  have K8 := fun W (hb : Below w.heap.size w W) => checkm_doc d t b e0 a c W (h.below hb)
  have HT : Hid (TyAt w (dc + 1) ⟨0, 0, cons⟩ ac cc) := hcs
  obtain ⟨⟨r, ⟨zk, zn, zks⟩⟩, hr⟩ : ∃ r, typR t cons = r := ⟨_, rfl⟩
  rw [hr] at K4 K5
  obtain ⟨ce, hce⟩ : ∃ x, ckm t = x := ⟨_, rfl⟩
  rw [hce] at K7 K8
  clear hr hce h hcs
  obtain ⟨k, n, y, ks⟩ := t
  unfold vtm at K4 K5 K7 K8 ⊢
  dsimp only at K4 K5 K7 K8 ⊢
  go_enter Try.func3, Try.ntmps3
  go_upto_region 1 with fail
  have x1 := heap_alloc_new w (.cells #[.int .i64 k, .int .i64 n, .int .i64 y.kind, .int .i64 y.n, .slice b y.kids.length e0, .slice a ks.length c] 27)
  have hb : Below w.heap.size w (w.alloc (.cells #[.int .i64 k, .int .i64 n, .int .i64 y.kind, .int .i64 y.n, .slice b y.kids.length e0, .slice a ks.length c] 27)) := (Below.refl _ w).alloc (Nat.le_refl _) _
  have hs : (w.alloc (.cells #[.int .i64 k, .int .i64 n, .int .i64 y.kind, .int .i64 y.n, .slice b y.kids.length e0, .slice a ks.length c] 27)).heap.size = w.heap.size + 1 := by simp
  generalize hV : w.alloc (.cells #[.int .i64 k, .int .i64 n, .int .i64 y.kind, .int .i64 y.n, .slice b y.kids.length e0, .slice a ks.length c] 27) = V0 at *
  clear hV
  have t0 := cell_of_row _ _ 0 _ _ _ x1
  have t1 := cell_of_row _ _ 1 _ _ _ x1
  have t2 := cell_of_row _ _ 2 _ _ _ x1
  have t3 := cell_of_row _ _ 3 _ _ _ x1
  have t4 := cell_of_row _ _ 4 _ _ _ x1
  have t5 := cell_of_row _ _ 5 _ _ _ x1
  go_upto_region 2 with (go_at_call 4; (with_reducible refine (K4 _ hb).mono ?_); rintro e w1 ⟨⟨a1, c1, d1, rfl, hz1⟩, hb1⟩; unfold vty; dsimp only; have HZ1 : Hid (TyAt w1 d1 ⟨zk, zn, zks⟩ a1 c1) := hz1; clear hz1)
  have hb1' : Below w1.heap.size w1 (w1.alloc (.cells #[.int .i64 zk, .int .i64 zn, .slice a1 zks.length c1] 24)) := (Below.refl _ _).alloc (Nat.le_refl _) _
  have x2 := heap_alloc_new w1 (.cells #[.int .i64 zk, .int .i64 zn, .slice a1 zks.length c1] 24)
  have hs1 : (w1.alloc (.cells #[.int .i64 zk, .int .i64 zn, .slice a1 zks.length c1] 24)).heap.size = w1.heap.size + 1 := by simp
  generalize hV : w1.alloc (.cells #[.int .i64 zk, .int .i64 zn, .slice a1 zks.length c1] 24) = V1 at *
  have hsz1 := hb1.size
  have hb01 : Below V0.heap.size V0 V1 := hb1.trans (hb1'.mono hb1.size)
  have hbw1 : Below w.heap.size w V1 := hb.trans (hb01.mono hb.size)
  have x1' := (hb01.block w.heap.size (by omega)).trans x1
  clear hV t0 t1 t2 t3 t4 t5 x1 K4
  have t0 := cell_of_row _ _ 0 _ _ _ x1'
  have t1 := cell_of_row _ _ 1 _ _ _ x1'
  have t2 := cell_of_row _ _ 2 _ _ _ x1'
  have t3 := cell_of_row _ _ 3 _ _ _ x1'
  have t4 := cell_of_row _ _ 4 _ _ _ x1'
  have t5 := cell_of_row _ _ 5 _ _ _ x1'
  go_upto_region 3 with (go_at_call 5; (with_reducible refine (K5 _ hbw1).mono ?_); rintro e w2 ⟨⟨a2, c2, d2, rfl, hz2⟩, hb2⟩; unfold vty; dsimp only; have HZ2 : Hid (TyAt w2 d2 ⟨zk, zn, zks⟩ a2 c2) := hz2; clear hz2)
  have hb2' : Below w2.heap.size w2 (w2.alloc (.cells #[.int .i64 zk, .int .i64 zn, .slice a2 zks.length c2] 24)) := (Below.refl _ _).alloc (Nat.le_refl _) _
  have x3 := heap_alloc_new w2 (.cells #[.int .i64 zk, .int .i64 zn, .slice a2 zks.length c2] 24)
  have hs2 : (w2.alloc (.cells #[.int .i64 zk, .int .i64 zn, .slice a2 zks.length c2] 24)).heap.size = w2.heap.size + 1 := by simp
  generalize hV : w2.alloc (.cells #[.int .i64 zk, .int .i64 zn, .slice a2 zks.length c2] 24) = V at *
  have hsz2 := hb2.size
  have hb12 : Below V1.heap.size V1 V := hb2.trans (hb2'.mono hb2.size)
  have hbw : Below w.heap.size w V := hbw1.trans (hb12.mono hbw1.size)
  have y1 := (hb12.block w.heap.size (by omega)).trans x1'
  have y2 := (hb12.block w1.heap.size (by omega)).trans x2
  have T1 : TyAt V d1 ⟨zk, zn, zks⟩ a1 c1 := (HZ1.out.below hb1').below hb12
  have T2 : TyAt V d2 ⟨zk, zn, zks⟩ a2 c2 := HZ2.out.below hb2'
  clear hV t0 t1 t2 t3 t4 t5 x1' x2 K5 HZ1 HZ2
  haveI : Inhabited (After V) := ⟨⟨_, Below.refl _ _⟩⟩
  have L6 := fun p : After V => begun_any p.W
  have L7 := fun p : After V => K7 p.W (hbw.trans (p.h.mono hbw.size))
  have L8 := fun p : After V => K8 p.W (hbw.trans (p.h.mono hbw.size))
  have L9 := fun p : After V => same_doc d1 ⟨zk, zn, zks⟩ a1 c1 d2 ⟨zk, zn, zks⟩ a2 c2 p.W true (by simp) (T1.below p.h) (T2.below p.h)
  unfold vty at L9
  dsimp only at L9
  have t0 := fun p : After V => (p.h.cell (p := ⟨w.heap.size, 0, none⟩) (by show w.heap.size < V.heap.size; omega)).trans (cell_of_row _ _ 0 _ 27 (0, 0) y1)
  have t1 := fun p : After V => (p.h.cell (p := ⟨w.heap.size, 1, none⟩) (by show w.heap.size < V.heap.size; omega)).trans (cell_of_row _ _ 1 _ 27 (0, 0) y1)
  have t2 := fun p : After V => (p.h.cell (p := ⟨w.heap.size, 2, none⟩) (by show w.heap.size < V.heap.size; omega)).trans (cell_of_row _ _ 2 _ 27 (0, 0) y1)
  have t3 := fun p : After V => (p.h.cell (p := ⟨w.heap.size, 3, none⟩) (by show w.heap.size < V.heap.size; omega)).trans (cell_of_row _ _ 3 _ 27 (0, 0) y1)
  have t4 := fun p : After V => (p.h.cell (p := ⟨w.heap.size, 4, none⟩) (by show w.heap.size < V.heap.size; omega)).trans (cell_of_row _ _ 4 _ 27 (0, 0) y1)
  have t5 := fun p : After V => (p.h.cell (p := ⟨w.heap.size, 5, none⟩) (by show w.heap.size < V.heap.size; omega)).trans (cell_of_row _ _ 5 _ 27 (0, 0) y1)
  have g0 := fun p : After V => (p.h.cell (p := ⟨w1.heap.size, 0, none⟩) (by show w1.heap.size < V.heap.size; omega)).trans (cell_of_row _ _ 0 _ 24 (0, 0) y2)
  have g1 := fun p : After V => (p.h.cell (p := ⟨w1.heap.size, 1, none⟩) (by show w1.heap.size < V.heap.size; omega)).trans (cell_of_row _ _ 1 _ 24 (0, 0) y2)
  have g2 := fun p : After V => (p.h.cell (p := ⟨w1.heap.size, 2, none⟩) (by show w1.heap.size < V.heap.size; omega)).trans (cell_of_row _ _ 2 _ 24 (0, 0) y2)
  have h0 := fun p : After V => (p.h.cell (p := ⟨w2.heap.size, 0, none⟩) (by show w2.heap.size < V.heap.size; omega)).trans (cell_of_row _ _ 0 _ 24 (0, 0) x3)
  have h1 := fun p : After V => (p.h.cell (p := ⟨w2.heap.size, 1, none⟩) (by show w2.heap.size < V.heap.size; omega)).trans (cell_of_row _ _ 1 _ 24 (0, 0) x3)
  have h2 := fun p : After V => (p.h.cell (p := ⟨w2.heap.size, 2, none⟩) (by show w2.heap.size < V.heap.size; omega)).trans (cell_of_row _ _ 2 _ 24 (0, 0) x3)
  have bce : (ce != ce) = false := by simp
  have brr : (r != r) = false := by simp
  clear T1 T2 K7 K8
  refine wp_region_after (by kernel_rfl) (by kernel_rfl) ?_
  repeat (go_big_quiet_step (first | (go_at_call 6; (with_reducible refine after_of (L6 _))) | (go_at_call 7; (with_reducible refine after_of (L7 _))) | (go_at_call 8; (with_reducible refine after_of (L8 _))) | (go_at_call 9; (with_reducible refine after_of (L9 _)))))
  refine wpQuiet_nil ?_
  rintro w3 ⟨P3, hP3⟩
  have hb3 := P3.h
  rw [← hP3] at hb3
  have hbw3 : Below w.heap.size w w3 := hbw.trans (hb3.mono hbw.size)
  clear hP3 P3 t0 t1 t2 t3 t4 t5 g0 g1 g2 h0 h1 h2 L6 L7 L8 L9 y1 y2 x3
  go_wp2
  go_loopw [9] (fun iv wr => ∃ j : Nat, iv = .int .i64 (j : Int) ∧ j ≤ cons.length ∧ Below w.heap.size w wr) (fun iv _ => cons.length - (intOf iv).toNat)
  case atStart => exact ⟨0, rfl, by omega, hbw3⟩
  case round =>
    obtain ⟨j, rfl, hj, hB⟩ := hrel
    by_cases hjl : j < cons.length
    · have hjl' : (j : Int) < (cons.length : Int) := by omega
      obtain ⟨g, off, a', c', rfl, hg, c0, c1', c2', ht⟩ := (HT.out.below hB).kid hjl
      dsimp only at c0 c1' c2' ht
      obtain ⟨x, hx⟩ : ∃ x, ck cons[j] = x := ⟨_, rfl⟩
      haveI : Inhabited (After wr) := ⟨⟨_, Below.refl _ _⟩⟩
      have L10 := fun p : After wr => check_any dc cons[j] a' c' p.W (ht.below p.h)
      have L11 := fun p : After wr => check_doc dc cons[j] a' c' p.W (ht.below p.h)
      rw [hx] at L10 L11
      unfold vty at L10 L11
      have q0 := fun p : After wr => (p.h.cell (p := ⟨g, _, none⟩) hg).trans c0
      have q1 := fun p : After wr => (p.h.cell (p := ⟨g, _, none⟩) hg).trans c1'
      have q2 := fun p : After wr => (p.h.cell (p := ⟨g, _, none⟩) hg).trans c2'
      have bxx : (x != x) = false := by simp
      clear ht hx c0 c1' c2'
      go_upto_region 8 with fail
      refine wp_region_after (by kernel_rfl) (by kernel_rfl) ?_
      repeat (go_big_quiet_step (first | (go_at_call 10; (with_reducible refine after_of (L10 _))) | (go_at_call 11; (with_reducible refine after_of (L11 _)))))
      refine wpQuiet_nil ?_
      rintro w4 ⟨P4, hP4⟩
      have hb4 := P4.h
      rw [← hP4] at hb4
      clear hP4 P4 L10 L11 q0 q1 q2
      go_wp2
      go_roundw
      case rel => exact ⟨j + 1, by go_num, by omega, hB.trans (hb4.mono hB.size)⟩
      case measure => simp [intOf]; omega
    · have hjl' : ¬ (j : Int) < (cons.length : Int) := by omega
      go_wp2
      go_ret
      exact ⟨rfl, hB⟩
end Go.Proofs.Ytofbnfpncekddaa.Te
