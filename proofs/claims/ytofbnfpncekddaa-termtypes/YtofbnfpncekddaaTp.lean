/- typeOf. No conditions but that the term is right and small. -/
import Derived.Test.YtofbnfpncekddaaTo
namespace Go.Proofs.Ytofbnfpncekddaa.Te
open Go.RowKit

/-- what came is handed on -/
theorem ans_pass {w0 w W : World} {ar cons : List Ty} {xa : Option Addr} {ca : Nat} {ac : Option Addr} {cc : Nat} {own : Option Nat} (hown : (Value.slice xa ar.length ca).ownBlock = own) (hK : Kb w W own) (hC : Ctx w0 W ar cons xa ca ac cc) {R : Nat} (hw : w0.heap.size ≤ w.heap.size) (hR : w.heap.size ≤ R) (hRo : some R ≠ own) {y : Ty} {a' : Option Addr} {c' : Nat} {r : Int × Ty} (ht : r.1 = 0 → y = r.2 ∧ ∃ d, TyP (fun g => g < w0.heap.size ∨ R < g) W d y a' c') :
    Ans w0 w own r (.returned (.tuple #[.agg #[.int .i64 y.kind, .int .i64 y.n, .slice a' y.kids.length c'], .int .i64 r.1])) (((W.setCell ⟨R, 0, none⟩ (.int .i64 y.kind)).setCell ⟨R, 1, none⟩ (.int .i64 y.n)).setCell ⟨R, 2, none⟩ (.slice a' y.kids.length c')) ∧ Ctx w0 (((W.setCell ⟨R, 0, none⟩ (.int .i64 y.kind)).setCell ⟨R, 1, none⟩ (.int .i64 y.n)).setCell ⟨R, 2, none⟩ (.slice a' y.kids.length c')) ar cons xa ca ac cc := by
  have h := fin_set hown hK hC hw hR hRo (.int .i64 y.kind) (.int .i64 y.n) (.slice a' y.kids.length c')
  refine ⟨⟨⟨y, a', c', rfl, fun h0 => ?_⟩, h.1⟩, h.2⟩
  obtain ⟨h1, d, h2⟩ := ht h0
  exact ⟨h1, d, h2.keep (by simp) (fun g _ hP => ⟨by rcases hP with hP | hP; exact .inl hP; (right; show w.heap.size ≤ g; omega), ko3 W R _ _ _ g (by rcases hP with hP | hP <;> omega)⟩)⟩
set_option maxHeartbeats 8000000 in
theorem does_all : ∀ d, Does d := by
  intro d
  induction d with
  | zero => intro t b e0 a c w0 w ar cons xa ca ac cc h; exact h.elim
  | succ d ih =>
    intro t b e0 a c w0 w ar cons xa ca ac cc h hw ha hc hs h20 hC
    obtain ⟨own, hown⟩ : ∃ own, (Value.slice xa ar.length ca).ownBlock = own := ⟨_, rfl⟩
    have HOW : Hid (∀ g, own = some g → w0.heap.size ≤ g ∧ g < w.heap.size) := fun g hg => hC.own g (hown.trans hg)
    have hRo : ∀ g, w.heap.size ≤ g → some g ≠ own := fun g hg e => by have := (HOW.out g e.symm).2; omega
    have hw0 : w0.heap.size ≤ w.heap.size := hC.bel.size
    have hal : ar.length ≤ 1000 := by omega
    obtain ⟨k, n, y, ks⟩ := t
    have hb := two_boxes w (.cells #[.int .i64 k, .int .i64 n, .int .i64 y.kind, .int .i64 y.n, .slice b y.kids.length e0, .slice a ks.length c] 27) (.cells #[.int .i64 0, .int .i64 0, .slice none 0 0] 24)
    obtain ⟨W0, hW0⟩ : ∃ W0, (w.alloc (.cells #[.int .i64 k, .int .i64 n, .int .i64 y.kind, .int .i64 y.n, .slice b y.kids.length e0, .slice a ks.length c] 27)).alloc (.cells #[.int .i64 0, .int .i64 0, .slice none 0 0] 24) = W0 := ⟨_, rfl⟩
    rw [hW0] at hb
    obtain ⟨hx1, hx2, hs0, hb0⟩ := hb
    have HW0 : Hid ((w.alloc (.cells #[.int .i64 k, .int .i64 n, .int .i64 y.kind, .int .i64 y.n, .slice b y.kids.length e0, .slice a ks.length c] 27)).alloc (.cells #[.int .i64 0, .int .i64 0, .slice none 0 0] 24) = W0) := hW0
    have HC0 : Hid (Ctx w0 W0 ar cons xa ca ac cc) := hC.below hb0
    have HK0 : Hid (Kb w W0 own) := kb_below hb0
    have HOWN : Hid ((Value.slice xa ar.length ca).ownBlock = own) := hown
    have hsW : w.heap.size + 2 ≤ W0.heap.size := by omega
    have m0 := cell_of_row _ _ 0 _ _ _ hx2
    have m1 := cell_of_row _ _ 1 _ _ _ hx2
    have m2 := cell_of_row _ _ 2 _ _ _ hx2
    have f0 := frozen_of_row _ _ 0 _ 24 hx2
    have f1 := frozen_of_row _ _ 1 _ 24 hx2
    have f2 := frozen_of_row _ _ 2 _ 24 hx2
    have t0 := cell_of_row _ _ 0 _ _ _ hx1
    have t1 := cell_of_row _ _ 1 _ _ _ hx1
    have t2 := cell_of_row _ _ 2 _ _ _ hx1
    have t3 := cell_of_row _ _ 3 _ _ _ hx1
    have t4 := cell_of_row _ _ 4 _ _ _ hx1
    have t5 := cell_of_row _ _ 5 _ _ _ hx1
    rw [hown]
    rcases right_cases hw with ⟨hk, hks, hn0⟩ | ⟨hk, hks, hn0⟩ | ⟨hk, x, hks, hwx, hgy⟩ | ⟨hk, f, x, hks, hwf, hwx⟩
    · dsimp only at hk hks hn0
      subst hk hks
      rw [show ([] : List Tm).length = 0 from rfl] at HW0 t5
      obtain ⟨m, rfl⟩ : ∃ m : Nat, n = (m : Int) := ⟨n.toNat, by omega⟩
      have hty : tyOf ⟨1, (m : Int), y, []⟩ ar cons = (match ar.reverse[m]? with
        | some y => (0, y)
        | none => (8, noTy)) := by rw [tyOf, if_pos rfl]; rfl
      by_cases hm : m < ar.length
      · have hj : ar.length - 1 - m < ar.length := by omega
        rw [List.getElem?_reverse hm, List.getElem?_eq_getElem hj] at hty
        dsimp only at hty
        obtain ⟨g1, a1, c1, d1, rfl, hg1, q0, q1, q2, hT⟩ := HC0.out.at hj
        have hm' : ¬ (ar.length : Int) ≤ (m : Int) := by omega
        have hix : IntKind.i64.wrap (IntKind.i64.wrap ((ar.length : Int) - 1) - (m : Int)) = ((ar.length - 1 - m : Nat) : Int) := by
          rw [wrap_id (x := (ar.length : Int) - 1) (by omega) (by omega), wrap_id (by omega) (by omega)]
          omega
        have hix1 : IntKind.i64.wrap ((ar.length : Int) - 1) = ((ar.length - 1 : Nat) : Int) := by
          rw [wrap_id (by omega) (by omega)]
          omega
        have hix2 : IntKind.i64.wrap (((ar.length - 1 : Nat) : Int) - (m : Int)) = ((ar.length - 1 - m : Nat) : Int) := by
          rw [wrap_id (by omega) (by omega)]
          omega
        rw [hty]
        have HT : Hid (TyP (fun g => g < w0.heap.size) W0 d1 ar[ar.length - 1 - m] a1 c1) := hT
        generalize hyy : ar[ar.length - 1 - m] = yy at *
        clear hyy hT
        obtain ⟨J, hJ⟩ : ∃ J, ar.length - 1 - m = J := ⟨_, rfl⟩
        rw [hJ] at hix hix2 q0 q1 q2 hj
        have HJL : Hid (J < ar.length) := hj
        have hJi : (J : Int) < (ar.length : Int) := by omega
        have hJ0 : (0 : Int) ≤ (J : Int) := by omega
        unfold vtm
        dsimp only
        clear hW0 h hC ha hc hw hs hown hx1 hs0 hb0 hJ hm hty
        go_enter Try.func13, Try.ntmps13
        go_upto_region 1 with fail
        rw [HW0.out]
        clear HW0
        go_wp2
        have hl3 := laid_box hx2 yy.kind yy.n a1 yy.kids.length c1
        refine bodyPost_ret (results_row_tmp rfl _ _ (w.heap.size + 1) 24 _ (0, 0) _ rfl hl3 Try.underlying24 rfl size24) rfl ?_
        exact ans_ok HOWN.out HK0.out HC0.out hw0 (by omega) (hRo _ (by omega)) (HT.out.keep (Nat.le_refl _) (fun g _ hP => ⟨.inl hP, rfl⟩)) rfl
      · have hty2 : tyOf ⟨1, (m : Int), y, []⟩ ar cons = (8, noTy) := by rw [hty, List.getElem?_eq_none (by simpa using hm)]
        have hm' : (ar.length : Int) ≤ (m : Int) := by omega
        rw [hty2]
        unfold vtm
        dsimp only
        clear hW0 h hC ha hc hw hs hown hx1 hs0 hb0 hm hty hty2
        go_enter Try.func13, Try.ntmps13
        go_upto_region 1 with fail
        rw [HW0.out]
        clear HW0
        go_wp2
        have hl3 := laid_box hx2 0 0 none 0 0
        refine bodyPost_ret (results_row_tmp rfl _ _ (w.heap.size + 1) 24 _ (0, 0) _ rfl hl3 Try.underlying24 rfl size24) rfl ?_
        exact ans_bad HOWN.out HK0.out HC0.out hw0 (by omega) (hRo _ (by omega)) (by decide) rfl
    · dsimp only at hk hks hn0
      subst hk hks
      rw [show ([] : List Tm).length = 0 from rfl] at HW0 t5
      obtain ⟨m, rfl⟩ : ∃ m : Nat, n = (m : Int) := ⟨n.toNat, by omega⟩
      have hty : tyOf ⟨2, (m : Int), y, []⟩ ar cons = (match cons[m]? with
        | some y => (0, y)
        | none => (8, noTy)) := by rw [tyOf, if_neg (by simp), if_pos rfl]; rfl
      by_cases hm : m < cons.length
      · rw [List.getElem?_eq_getElem hm] at hty
        dsimp only at hty
        obtain ⟨dc, hcs⟩ := hC.cons
        obtain ⟨g1, off1, a1, c1, hca, hg1, q0, q1, q2, hT⟩ := TyAt.kid hcs hm
        dsimp only at q0 q1 q2 hT
        subst hca
        have q0' := (HC0.out.bel.cell (p := ⟨g1, _, none⟩) hg1).trans q0
        have q1' := (HC0.out.bel.cell (p := ⟨g1, _, none⟩) hg1).trans q1
        have q2' := (HC0.out.bel.cell (p := ⟨g1, _, none⟩) hg1).trans q2
        have hm' : ¬ (cons.length : Int) ≤ (m : Int) := by omega
        have hm2 : (m : Int) < (cons.length : Int) := by omega
        rw [hty]
        have HT : Hid (TyP (fun g => g < w0.heap.size) W0 dc cons[m] a1 c1) := hT.within.keep HC0.out.bel.size (fun g hg hP => ⟨hP, HC0.out.bel.block g hg⟩)
        generalize hyy : cons[m] = yy at *
        clear hyy hT q0 q1 q2
        unfold vtm
        dsimp only
        clear hW0 h hC ha hc hw hs hown hx1 hs0 hb0 hm hty hcs
        go_enter Try.func13, Try.ntmps13
        go_upto_region 1 with fail
        rw [HW0.out]
        clear HW0
        go_wp2
        have hl3 := laid_box hx2 yy.kind yy.n a1 yy.kids.length c1
        refine bodyPost_ret (results_row_tmp rfl _ _ (w.heap.size + 1) 24 _ (0, 0) _ rfl hl3 Try.underlying24 rfl size24) rfl ?_
        exact ans_ok HOWN.out HK0.out HC0.out hw0 (by omega) (hRo _ (by omega)) (HT.out.keep (Nat.le_refl _) (fun g _ hP => ⟨.inl hP, rfl⟩)) rfl
      · have hty2 : tyOf ⟨2, (m : Int), y, []⟩ ar cons = (8, noTy) := by rw [hty, List.getElem?_eq_none (by omega)]
        have hm' : (cons.length : Int) ≤ (m : Int) := by omega
        rw [hty2]
        unfold vtm
        dsimp only
        clear hW0 h hC ha hc hw hs hown hx1 hs0 hb0 hm hty hty2
        go_enter Try.func13, Try.ntmps13
        go_upto_region 1 with fail
        rw [HW0.out]
        clear HW0
        go_wp2
        have hl3 := laid_box hx2 0 0 none 0 0
        refine bodyPost_ret (results_row_tmp rfl _ _ (w.heap.size + 1) 24 _ (0, 0) _ rfl hl3 Try.underlying24 rfl size24) rfl ?_
        exact ans_bad HOWN.out HK0.out HC0.out hw0 (by omega) (hRo _ (by omega)) (by decide) rfl
    · dsimp only at hk hks hgy
      subst hk hks
      rw [show ([x] : List Tm).length = 1 from rfl] at HW0 t5
      have K := fn_any ih n y x b e0 a c w0 W0 ar cons xa ca ac cc h hwx hgy ha hc hs h20 HC0.out
      rw [hown] at K
      generalize tyOf _ ar cons = r at *
      obtain ⟨r1, y1⟩ := r
      unfold vtm at K ⊢
      dsimp only at K ⊢
      rw [show ([x] : List Tm).length = 1 from rfl] at K
      clear hW0 h hC ha hc hw hs hown hx1 hs0 hb0
      go_enter Try.func13, Try.ntmps13
      go_upto_region 1 with fail
      rw [HW0.out]
      clear HW0
      go_wp2_with (go_at_call 28; (with_reducible refine K.mono ?_); rintro e w1 ⟨⟨⟨⟨zk, zn, zks⟩, a1, c1, rfl, hz1⟩, hk1⟩, hC1⟩; unfold vty; dsimp only; have hY1 := (hk1.block (w.heap.size + 1) (by omega) (hRo _ (by omega))).trans hx2; have n0 := cell_of_row _ _ 0 _ _ _ hY1; have n1 := cell_of_row _ _ 1 _ _ _ hY1; have n2 := cell_of_row _ _ 2 _ _ _ hY1; have e0' := frozen_of_row _ _ 0 _ 24 hY1; have e1' := frozen_of_row _ _ 1 _ 24 hY1; have e2' := frozen_of_row _ _ 2 _ 24 hY1; have HZ1 : Hid (r1 = 0 → (⟨zk, zn, zks⟩ : Ty) = y1 ∧ ∃ d, TyP (fun g => g < w0.heap.size ∨ W0.heap.size ≤ g) w1 d ⟨zk, zn, zks⟩ a1 c1) := hz1; have HK1 : Hid (Kb w w1 own) := HK0.out.trans hk1; have HC1 : Hid (Ctx w0 w1 ar cons xa ca ac cc) := hC1; clear hz1 hk1 hC1)
      have hl3 := laid_box hY1 zk zn a1 zks.length c1
      refine bodyPost_ret (results_row_tmp rfl _ _ (w.heap.size + 1) 24 _ (0, 0) _ rfl hl3 Try.underlying24 rfl size24) rfl ?_
      exact ans_pass (y := ⟨zk, zn, zks⟩) (r := (r1, y1)) HOWN.out HK1.out HC1.out hw0 (by omega) (hRo _ (by omega)) (fun h0 => ⟨(HZ1.out h0).1, by obtain ⟨d, hd⟩ := (HZ1.out h0).2; exact ⟨d, hd.keep (Nat.le_refl _) (fun g _ hP => ⟨by rcases hP with hP | hP; exact .inl hP; (right; omega), rfl⟩)⟩⟩)
    · dsimp only at hk hks
      subst hk hks
      rw [show ([f, x] : List Tm).length = 2 from rfl] at HW0 t5
      have K := app_any ih n y f x b e0 a c w0 W0 ar cons xa ca ac cc h hwf hwx ha hc hs h20 HC0.out
      rw [hown] at K
      generalize tyOf _ ar cons = r at *
      obtain ⟨r1, y1⟩ := r
      unfold vtm at K ⊢
      dsimp only at K ⊢
      rw [show ([f, x] : List Tm).length = 2 from rfl] at K
      clear hW0 h hC ha hc hw hs hown hx1 hs0 hb0
      go_enter Try.func13, Try.ntmps13
      go_upto_region 1 with fail
      rw [HW0.out]
      clear HW0
      go_wp2_with (go_at_call 29; (with_reducible refine K.mono ?_); rintro e w1 ⟨⟨⟨⟨zk, zn, zks⟩, a1, c1, rfl, hz1⟩, hk1⟩, hC1⟩; unfold vty; dsimp only; have hY1 := (hk1.block (w.heap.size + 1) (by omega) (hRo _ (by omega))).trans hx2; have n0 := cell_of_row _ _ 0 _ _ _ hY1; have n1 := cell_of_row _ _ 1 _ _ _ hY1; have n2 := cell_of_row _ _ 2 _ _ _ hY1; have e0' := frozen_of_row _ _ 0 _ 24 hY1; have e1' := frozen_of_row _ _ 1 _ 24 hY1; have e2' := frozen_of_row _ _ 2 _ 24 hY1; have HZ1 : Hid (r1 = 0 → (⟨zk, zn, zks⟩ : Ty) = y1 ∧ ∃ d, TyP (fun g => g < w0.heap.size ∨ W0.heap.size ≤ g) w1 d ⟨zk, zn, zks⟩ a1 c1) := hz1; have HK1 : Hid (Kb w w1 own) := HK0.out.trans hk1; have HC1 : Hid (Ctx w0 w1 ar cons xa ca ac cc) := hC1; clear hz1 hk1 hC1)
      have hl3 := laid_box hY1 zk zn a1 zks.length c1
      refine bodyPost_ret (results_row_tmp rfl _ _ (w.heap.size + 1) 24 _ (0, 0) _ rfl hl3 Try.underlying24 rfl size24) rfl ?_
      exact ans_pass (y := ⟨zk, zn, zks⟩) (r := (r1, y1)) HOWN.out HK1.out HC1.out hw0 (by omega) (hRo _ (by omega)) (fun h0 => ⟨(HZ1.out h0).1, by obtain ⟨d, hd⟩ := (HZ1.out h0).2; exact ⟨d, hd.keep (Nat.le_refl _) (fun g _ hP => ⟨by rcases hP with hP | hP; exact .inl hP; (right; omega), rfl⟩)⟩⟩)
end Go.Proofs.Ytofbnfpncekddaa.Te
