/- TypeOf, and the document's. No conditions. -/
import Derived.Test.YtofbnfpncekddaaTt
namespace Go.Proofs.Ytofbnfpncekddaa.Te
open Go.RowKit

theorem tyOf_bad {t : Tm} {ar cons : List Ty} (hw : wtm t = 0) (h : (tyOf t ar cons).1 ≠ 0) : (tyOf t ar cons).2 = noTy := by
  rcases right_cases hw with ⟨hk, _, _⟩ | ⟨hk, _, _⟩ | ⟨hk, x, hx, _, _⟩ | ⟨hk, f, x, hx, hwf, _⟩
  · rw [tyOf, if_pos hk] at h ⊢
    cases hr : ar.reverse[t.n.toNat]? with
    | none => rfl
    | some y => rw [hr] at h; exact absurd rfl h
  · rw [tyOf, if_neg (by omega), if_pos hk] at h ⊢
    cases hr : cons[t.n.toNat]? with
    | none => rfl
    | some y => rw [hr] at h; exact absurd rfl h
  · obtain ⟨k, n, y, ks⟩ := t
    dsimp only at hk hx
    subst hk hx
    have hc := fn_cases (n := n) (y := y) (x := x) ar cons
    by_cases h1 : (tyOf x (ar ++ [y]) cons).1 = 0
    · by_cases h2 : 60 < sz ⟨2, 0, [y, (tyOf x (ar ++ [y]) cons).2]⟩
      · rw [(hc.2 h1).1 h2]
      · rw [(hc.2 h1).2 h2] at h; exact absurd rfl h
    · rw [hc.1 h1]
  · obtain ⟨k, n, y, ks⟩ := t
    dsimp only at hk hx
    subst hk hx
    rw [ty_app] at h ⊢
    split
    · rfl
    · split
      · rfl
      · split
        · split
          · split
            · rename_i q1 q2 q3 _ _ _ q4 q5
              rw [if_neg q1, if_neg q2, if_pos q3, q4] at h
              dsimp only at h
              rw [if_pos q5] at h
              exact absurd rfl h
            · rfl
          · rfl
        · rfl
/-- what TypeOf answers -/
def typR (t : Tm) (cons : List Ty) : Int × Ty := if ckc cons ≠ 0 then (ckc cons, noTy) else if ckm t ≠ 0 then (ckm t, noTy) else tyOf t [] cons
theorem ckc_ok {cons : List Ty} (h : ckc cons = 0) : cons.length ≤ 20 ∧ ∀ y ∈ cons, Good y := by
  unfold ckc at h
  split at h
  · cases h
  · exact ⟨by omega, fun y hy => good_ck (fz_all h _ (List.mem_map.2 ⟨y, hy, rfl⟩))⟩
theorem ckm_ok {t : Tm} (h : ckm t = 0) : szm t ≤ 400 ∧ wtm t = 0 := by
  unfold ckm at h
  split at h
  · cases h
  · exact ⟨by omega, h⟩
/-- a type lies where it is said, in new memory -/
structure AnsT (w : World) (r : Int × Ty) (e : Ending) (w' : World) : Prop where
  ret : ∃ (a' : Option Addr) (c' d : Nat), e = .returned (.tuple #[vty r.2 a' c', .int .i64 r.1]) ∧ TyAt w' d r.2 a' c'
  bel : Below w.heap.size w w'
theorem ansT_set {w W : World} (hb : Below w.heap.size w W) {R : Nat} (hR : w.heap.size ≤ R) {e : Int} {y : Ty} {a' : Option Addr} {c' d : Nat} (ht : TyP (fun g => g ≠ R) W d y a' c') {r : Int × Ty} (hr : r = (e, y)) :
    AnsT w r (.returned (.tuple #[.agg #[.int .i64 y.kind, .int .i64 y.n, .slice a' y.kids.length c'], .int .i64 e])) (((W.setCell ⟨R, 0, none⟩ (.int .i64 y.kind)).setCell ⟨R, 1, none⟩ (.int .i64 y.n)).setCell ⟨R, 2, none⟩ (.slice a' y.kids.length c')) := by
  subst hr
  have k3 := ko3 W R (.int .i64 y.kind) (.int .i64 y.n) (.slice a' y.kids.length c')
  refine ⟨⟨a', c', d, rfl, (ht.keep (Q := fun _ => True) (by simp) (fun g _ hP => ⟨trivial, k3 g hP⟩)).at⟩, ?_⟩
  exact ((hb.setCell (p := ⟨R, 0, none⟩) hR _).setCell (p := ⟨R, 1, none⟩) hR _).setCell (p := ⟨R, 2, none⟩) hR _
theorem ansT_bad {w W : World} (hb : Below w.heap.size w W) {R : Nat} (hR : w.heap.size ≤ R) {e : Int} {r : Int × Ty} (hr : r = (e, noTy)) :
    AnsT w r (.returned (.tuple #[.agg #[.int .i64 0, .int .i64 0, .slice none 0 0], .int .i64 e])) (((W.setCell ⟨R, 0, none⟩ (.int .i64 0)).setCell ⟨R, 1, none⟩ (.int .i64 0)).setCell ⟨R, 2, none⟩ (.slice none 0 0)) := ansT_set hb hR (noty_at _ _) hr
theorem ctx_nil (w : World) {dc : Nat} {cons : List Ty} {ac : Option Addr} {cc : Nat} (h : TysAt w dc cons ac cc) : Ctx w w [] cons none 0 ac cc := ⟨Below.refl _ _, ⟨dc, h⟩, [], 0, ⟨rfl, .inl ⟨rfl, rfl⟩⟩, fun i hi => by simp at hi⟩
set_option maxHeartbeats 8000000 in
theorem typeOf_any (d dc : Nat) (t : Tm) (b : Option Addr) (e0 : Nat) (a : Option Addr) (c : Nat) (cons : List Ty) (ac : Option Addr) (cc : Nat) (w : World) (h : TmAt w d t b e0 a c) (hcs : TysAt w dc cons ac cc) :
    Calls Try.prog 4 #[vtm t b e0 a c, .slice ac cons.length cc] w fun e w' => AnsT w (typR t cons) e w' := by
  obtain ⟨k, n, y, ks⟩ := t
  have hb2 := two_boxes w (.cells #[.int .i64 k, .int .i64 n, .int .i64 y.kind, .int .i64 y.n, .slice b y.kids.length e0, .slice a ks.length c] 27) (.cells #[.int .i64 0, .int .i64 0, .slice none 0 0] 24)
  obtain ⟨W0, hW0⟩ : ∃ W0, (w.alloc (.cells #[.int .i64 k, .int .i64 n, .int .i64 y.kind, .int .i64 y.n, .slice b y.kids.length e0, .slice a ks.length c] 27)).alloc (.cells #[.int .i64 0, .int .i64 0, .slice none 0 0] 24) = W0 := ⟨_, rfl⟩
  rw [hW0] at hb2
  obtain ⟨hx1, hx2, hs0, hb0⟩ := hb2
  have HW0 : Hid ((w.alloc (.cells #[.int .i64 k, .int .i64 n, .int .i64 y.kind, .int .i64 y.n, .slice b y.kids.length e0, .slice a ks.length c] 27)).alloc (.cells #[.int .i64 0, .int .i64 0, .slice none 0 0] 24) = W0) := hW0
  have hsW : w.heap.size + 2 ≤ W0.heap.size := by omega
  have K12 := cons_any dc cons ac cc W0 (TyAt.below hb0 hcs)
  have K7 := fun w1 (hb : Below w.heap.size w w1) => checkm_any d ⟨k, n, y, ks⟩ b e0 a c w1 (h.below hb)
  have K13 := fun (h1 : ckc cons = 0) (h2 : ckm ⟨k, n, y, ks⟩ = 0) w1 (hb : Below w.heap.size w w1) => does_all d ⟨k, n, y, ks⟩ b e0 a c w1 w1 [] cons none 0 ac cc (h.below hb) (ckm_ok h2).2 (fun _ hy => by cases hy) (ckc_ok h1).2 (by have := (ckm_ok h2).1; simp; omega) (ckc_ok h1).1 (ctx_nil w1 (TyAt.below hb hcs))
  have HG : Hid (ckc cons = 0 → ckm ⟨k, n, y, ks⟩ = 0 → ((tyOf ⟨k, n, y, ks⟩ [] cons).1 = 0 → Good (tyOf ⟨k, n, y, ks⟩ [] cons).2) ∧ ((tyOf ⟨k, n, y, ks⟩ [] cons).1 ≠ 0 → (tyOf ⟨k, n, y, ks⟩ [] cons).2 = noTy)) := fun h1 h2 => ⟨tyOf_good _ _ _ _ (Nat.le_refl _) (ckm_ok h2).2 (fun _ hy => by cases hy) (ckc_ok h1).2, tyOf_bad (ckm_ok h2).2⟩
  obtain ⟨r, hr⟩ : ∃ r, typR ⟨k, n, y, ks⟩ cons = r := ⟨_, rfl⟩
  rw [hr]
  have HR : Hid ((ckc cons ≠ 0 → r = (ckc cons, noTy)) ∧ (ckc cons = 0 → ckm ⟨k, n, y, ks⟩ ≠ 0 → r = (ckm ⟨k, n, y, ks⟩, noTy)) ∧ (ckc cons = 0 → ckm ⟨k, n, y, ks⟩ = 0 → r = tyOf ⟨k, n, y, ks⟩ [] cons)) := by
    rw [← hr]
    unfold typR
    exact ⟨fun h1 => by rw [if_pos h1], fun h1 h2 => by rw [if_neg (by simp [h1]), if_pos h2], fun h1 h2 => by rw [if_neg (by simp [h1]), if_neg (by simp [h2])]⟩
  generalize ckc cons = r1 at *
  generalize ckm ⟨k, n, y, ks⟩ = r2 at *
  generalize tyOf ⟨k, n, y, ks⟩ [] cons = r3 at *
  obtain ⟨r3, y3⟩ := r3
  unfold vtm at K7 K13 ⊢
  dsimp only at K7 K13 HG ⊢
  rw [show ([] : List Ty).length = 0 from rfl] at K13
  clear hW0 h hcs hr hs0
  go_enter Try.func4, Try.ntmps4
  go_upto_region 2 with (first | (go_at_call 12; (rw [HW0.out]); (with_reducible refine K12.mono ?_); rintro e w1 ⟨rfl, hb1⟩))
  have hbw1 : Below w.heap.size w w1 := hb0.trans (hb1.mono hb0.size)
  have hs1 := hb1.size
  have hX1 := (hb1.block w.heap.size (by omega)).trans hx1
  have hX2 := (hb1.block (w.heap.size + 1) (by omega)).trans hx2
  clear HW0 hx1 hx2 K12 hb1
  by_cases h1 : r1 = 0
  · subst h1
    have t0 := cell_of_row _ _ 0 _ _ _ hX1
    have t1 := cell_of_row _ _ 1 _ _ _ hX1
    have t2 := cell_of_row _ _ 2 _ _ _ hX1
    have t3 := cell_of_row _ _ 3 _ _ _ hX1
    have t4 := cell_of_row _ _ 4 _ _ _ hX1
    have t5 := cell_of_row _ _ 5 _ _ _ hX1
    go_upto_region 5 with (go_at_call 7; (with_reducible refine (K7 _ hbw1).mono ?_); rintro e w2 ⟨rfl, hb2⟩)
    have hbw2 : Below w.heap.size w w2 := hbw1.trans (hb2.mono hbw1.size)
    have hs2 := hb2.size
    have hY1 := (hb2.block w.heap.size (by omega)).trans hX1
    have hY2 := (hb2.block (w.heap.size + 1) (by omega)).trans hX2
    clear hX1 hX2 K7 hb2 t0 t1 t2 t3 t4 t5
    by_cases h2 : r2 = 0
    · subst h2
      have K13 := K13 (by first | trivial | rfl) (by first | trivial | rfl) w2 hbw2
      have t0 := cell_of_row _ _ 0 _ _ _ hY1
      have t1 := cell_of_row _ _ 1 _ _ _ hY1
      have t2 := cell_of_row _ _ 2 _ _ _ hY1
      have t3 := cell_of_row _ _ 3 _ _ _ hY1
      have t4 := cell_of_row _ _ 4 _ _ _ hY1
      have t5 := cell_of_row _ _ 5 _ _ _ hY1
      go_upto_region 8 with (go_at_call 13; (with_reducible refine K13.mono ?_); rintro e w3 ⟨⟨⟨⟨zk, zn, zks⟩, a1, c1, rfl, hz1⟩, hk1⟩, hC1⟩; unfold vty; dsimp only; have HZ : Hid (r3 = 0 → (⟨zk, zn, zks⟩ : Ty) = y3 ∧ ∃ d, TyP (fun g => g < w2.heap.size ∨ w2.heap.size ≤ g) w3 d ⟨zk, zn, zks⟩ a1 c1) := hz1; clear hz1 hC1)
      have hb3 : Below w2.heap.size w2 w3 := hk1.toBelow (Nat.le_refl _) (fun g hg => by cases hg)
      have hb4 : Below w3.heap.size w3 (w3.alloc (.cells #[.int .i64 zk, .int .i64 zn, .slice a1 zks.length c1] 24)) := (Below.refl _ w3).alloc (Nat.le_refl _) _
      have hbx := heap_alloc_new w3 (.cells #[.int .i64 zk, .int .i64 zn, .slice a1 zks.length c1] 24)
      generalize hV : w3.alloc (.cells #[.int .i64 zk, .int .i64 zn, .slice a1 zks.length c1] 24) = V at *
      have hs3 := hb3.size
      have hs4 := hb4.size
      have hbV : Below w2.heap.size w2 V := hb3.trans (hb4.mono hb3.size)
      have hbwV : Below w.heap.size w V := hbw2.trans (hbV.mono hbw2.size)
      have hZ2 := (hbV.block (w.heap.size + 1) (by omega)).trans hY2
      clear hV hY1 hY2 K13 hk1 t0 t1 t2 t3 t4 t5
      have HR3 : Hid (r = (r3, y3)) := HR.out.2.2 (by first | trivial | rfl) (by first | trivial | rfl)
      have HG3 := HG.out (by first | trivial | rfl) (by first | trivial | rfl)
      by_cases h3 : r3 = 0
      · subst h3
        obtain ⟨hz, dz, hT⟩ := HZ.out (by first | trivial | rfl)
        subst hz
        have hgd := HG3.1 (by first | trivial | rfl)
        have K14 := copy_any dz ⟨zk, zn, zks⟩ a1 c1 V (hT.at.below hb4) (by have := hgd.sz; omega)
        unfold vty at K14
        dsimp only at K14
        have n0 := cell_of_row _ _ 0 _ _ _ hbx
        have n1 := cell_of_row _ _ 1 _ _ _ hbx
        have n2 := cell_of_row _ _ 2 _ _ _ hbx
        clear hgd hT HG3
        go_upto_region 10 with fail
        go_wp2_with (go_at_call 14; (with_reducible refine K14.mono ?_); rintro e w4 ⟨a2, c2, rfl, ht4, hb5⟩; have HT4 : Hid (TyP (fun g => V.heap.size ≤ g) w4 dz ⟨zk, zn, zks⟩ a2 c2) := ht4; clear ht4; have hU := (hb5.block (w.heap.size + 1) (by omega)).trans hZ2; have m0 := cell_of_row _ _ 0 _ _ _ hU; have m1 := cell_of_row _ _ 1 _ _ _ hU; have m2 := cell_of_row _ _ 2 _ _ _ hU; have f0 := frozen_of_row _ _ 0 _ 24 hU; have f1 := frozen_of_row _ _ 1 _ 24 hU; have f2 := frozen_of_row _ _ 2 _ 24 hU)
        have hl3 := laid_box hU zk zn a2 zks.length c2
        refine bodyPost_ret (results_row_tmp rfl _ _ (w.heap.size + 1) 24 _ (0, 0) _ rfl hl3 Try.underlying24 rfl size24) rfl ?_
        exact ansT_set (y := ⟨zk, zn, zks⟩) (hbwV.trans (hb5.mono hbwV.size)) (by omega) (HT4.out.keep (Nat.le_refl _) (fun g _ hP => ⟨by have hP' : V.heap.size ≤ g := hP; omega, rfl⟩)) HR3.out
      · have b3 : (r3 != 0) = true := bne_iff_ne.2 h3
        have HRR : Hid (r = (r3, noTy)) := by (show r = (r3, noTy); rw [HR3.out, HG3.2 h3])
        have m0 := cell_of_row _ _ 0 _ _ _ hZ2
        have m1 := cell_of_row _ _ 1 _ _ _ hZ2
        have m2 := cell_of_row _ _ 2 _ _ _ hZ2
        have f0 := frozen_of_row _ _ 0 _ 24 hZ2
        have f1 := frozen_of_row _ _ 1 _ 24 hZ2
        have f2 := frozen_of_row _ _ 2 _ 24 hZ2
        clear HG3
        go_wp2
        have hl3 := laid_box hZ2 0 0 none 0 0
        refine bodyPost_ret (results_row_tmp rfl _ _ (w.heap.size + 1) 24 _ (0, 0) _ rfl hl3 Try.underlying24 rfl size24) rfl ?_
        exact ansT_bad hbwV (by omega) HRR.out
    · have b2 : (r2 != 0) = true := bne_iff_ne.2 h2
      have HRR : Hid (r = (r2, noTy)) := HR.out.2.1 (by first | trivial | rfl) h2
      have m0 := cell_of_row _ _ 0 _ _ _ hY2
      have m1 := cell_of_row _ _ 1 _ _ _ hY2
      have m2 := cell_of_row _ _ 2 _ _ _ hY2
      have f0 := frozen_of_row _ _ 0 _ 24 hY2
      have f1 := frozen_of_row _ _ 1 _ 24 hY2
      have f2 := frozen_of_row _ _ 2 _ 24 hY2
      go_wp2
      have hl3 := laid_box hY2 0 0 none 0 0
      refine bodyPost_ret (results_row_tmp rfl _ _ (w.heap.size + 1) 24 _ (0, 0) _ rfl hl3 Try.underlying24 rfl size24) rfl ?_
      exact ansT_bad hbw2 (by omega) HRR.out
  · have b1 : (r1 != 0) = true := bne_iff_ne.2 h1
    have HRR : Hid (r = (r1, noTy)) := HR.out.1 h1
    have m0 := cell_of_row _ _ 0 _ _ _ hX2
    have m1 := cell_of_row _ _ 1 _ _ _ hX2
    have m2 := cell_of_row _ _ 2 _ _ _ hX2
    have f0 := frozen_of_row _ _ 0 _ 24 hX2
    have f1 := frozen_of_row _ _ 1 _ 24 hX2
    have f2 := frozen_of_row _ _ 2 _ 24 hX2
    go_wp2
    have hl3 := laid_box hX2 0 0 none 0 0
    refine bodyPost_ret (results_row_tmp rfl _ _ (w.heap.size + 1) 24 _ (0, 0) _ rfl hl3 Try.underlying24 rfl size24) rfl ?_
    exact ansT_bad hbw1 (by omega) HRR.out
end Go.Proofs.Ytofbnfpncekddaa.Te
