/- The document's typed: variables, constants, applications. On condition of what is in the term. -/
import Derived.Test.YtofbnfpncekddaaTq
namespace Go.Proofs.Ytofbnfpncekddaa.Te
open Go.RowKit

/-- what is handed back -/
structure AnsD (w0 w : World) (r : Int × Ty) (e : Ending) (w' : World) : Prop where
  ret : ∃ (a' : Option Addr) (c' d : Nat), e = .returned (.tuple #[vty r.2 a' c', .int .i64 r.1]) ∧ TyP (fun g => g < w0.heap.size ∨ w.heap.size ≤ g) w' d r.2 a' c'
  bel : Below w.heap.size w w'
/-- what typed does, at terms of that depth -/
def DoesD (d : Nat) : Prop := ∀ (t : Tm) (b : Option Addr) (e0 : Nat) (a : Option Addr) (c : Nat) (w0 w : World) (br cons : List Ty) (xa : Option Addr) (ca : Nat) (ac : Option Addr) (cc : Nat), TmAt w0 d t b e0 a c → wtm t = 0 → (∀ y ∈ br, Good y) → (∀ y ∈ cons, Good y) → szm t + br.length ≤ 1000 → cons.length ≤ 20 → Below w0.heap.size w0 w → (∃ d, TysAt w0 d cons ac cc) → RowB w0 w br xa ca →
  Calls Try.prog 15 #[vtm t b e0 a c, .slice ac cons.length cc, .slice xa br.length ca] w fun e w' => AnsD w0 w (tyOf t br.reverse cons) e w'
theorem noty_at (P : Nat → Prop) (w : World) : TyP P w 1 noTy none 0 := ⟨by (unfold i64B noTy; dsimp only; omega), by (unfold i64B noTy; dsimp only; omega), by (show 0 ≤ 140737488355328; omega), .inl rfl⟩
theorem three_boxes (w : World) (a b c : Obj) : (((w.alloc a).alloc b).alloc c).heap[w.heap.size]? = some a ∧ (((w.alloc a).alloc b).alloc c).heap[w.heap.size + 1]? = some b ∧ (((w.alloc a).alloc b).alloc c).heap[w.heap.size + 2]? = some c ∧ (((w.alloc a).alloc b).alloc c).heap.size = w.heap.size + 3 ∧ Below w.heap.size w (((w.alloc a).alloc b).alloc c) := by
  obtain ⟨h1, h2, h3, h4⟩ := two_boxes w a b
  have hb : Below ((w.alloc a).alloc b).heap.size ((w.alloc a).alloc b) (((w.alloc a).alloc b).alloc c) := (Below.refl _ _).alloc (Nat.le_refl _) c
  refine ⟨(hb.block _ (by omega)).trans h1, (hb.block _ (by omega)).trans h2, ?_, by simp, h4.trans (hb.mono h4.size)⟩
  rw [← h3]
  exact heap_alloc_new _ _
/-- a type is handed back -/
theorem ansD_set {w0 w W : World} (hb : Below w.heap.size w W) {R : Nat} (hw : w0.heap.size ≤ w.heap.size) (hR : w.heap.size ≤ R) {e : Int} {y : Ty} {a' : Option Addr} {c' d : Nat} (ht : TyP (fun g => g < w0.heap.size ∨ R < g) W d y a' c') {r : Int × Ty} (hr : r = (e, y)) :
    AnsD w0 w r (.returned (.tuple #[.agg #[.int .i64 y.kind, .int .i64 y.n, .slice a' y.kids.length c'], .int .i64 e])) (((W.setCell ⟨R, 0, none⟩ (.int .i64 y.kind)).setCell ⟨R, 1, none⟩ (.int .i64 y.n)).setCell ⟨R, 2, none⟩ (.slice a' y.kids.length c')) := by
  subst hr
  have k3 := ko3 W R (.int .i64 y.kind) (.int .i64 y.n) (.slice a' y.kids.length c')
  refine ⟨⟨a', c', d, rfl, ht.keep (by simp) (fun g _ hP => ⟨by rcases hP with hP | hP; exact .inl hP; (right; show w.heap.size ≤ g; omega), k3 g (by rcases hP with hP | hP <;> omega)⟩)⟩, ?_⟩
  exact ((hb.setCell (p := ⟨R, 0, none⟩) hR _).setCell (p := ⟨R, 1, none⟩) hR _).setCell (p := ⟨R, 2, none⟩) hR _
theorem ansD_bad {w0 w W : World} (hb : Below w.heap.size w W) {R : Nat} (hw : w0.heap.size ≤ w.heap.size) (hR : w.heap.size ≤ R) {e : Int} {r : Int × Ty} (hr : r = (e, noTy)) :
    AnsD w0 w r (.returned (.tuple #[.agg #[.int .i64 0, .int .i64 0, .slice none 0 0], .int .i64 e])) (((W.setCell ⟨R, 0, none⟩ (.int .i64 0)).setCell ⟨R, 1, none⟩ (.int .i64 0)).setCell ⟨R, 2, none⟩ (.slice none 0 0)) := ansD_set hb hw hR (noty_at _ _) hr
set_option maxHeartbeats 4000000 in
theorem var_doc (n : Nat) (y : Ty) (b : Option Addr) (e0 : Nat) (a : Option Addr) (c : Nat) (w0 w : World) (br cons : List Ty) (xa : Option Addr) (ca : Nat) (ac : Option Addr) (cc : Nat) (_ : br.length ≤ 1000) (hB : Below w0.heap.size w0 w) (hr : RowB w0 w br xa ca) :
    Calls Try.prog 15 #[vtm ⟨1, (n : Int), y, []⟩ b e0 a c, .slice ac cons.length cc, .slice xa br.length ca] w fun e w' => AnsD w0 w (tyOf ⟨1, (n : Int), y, []⟩ br.reverse cons) e w' := by
  have hw0 := hB.size
  have hty : tyOf ⟨1, (n : Int), y, []⟩ br.reverse cons = (match br[n]? with
    | some y => (0, y)
    | none => (8, noTy)) := by rw [tyOf, if_pos rfl, List.reverse_reverse]; rfl
  unfold vtm
  dsimp only
  rw [show ([] : List Tm).length = 0 from rfl]
  have hb3 := three_boxes w (.cells #[.int .i64 1, .int .i64 (n : Int), .int .i64 y.kind, .int .i64 y.n, .slice b y.kids.length e0, .slice a 0 c] 27) (.cells #[.int .i64 0, .int .i64 0, .slice none 0 0] 24) (.cells #[.int .i64 0, .int .i64 0, .slice none 0 0] 24)
  obtain ⟨W0, hW0⟩ : ∃ W0, ((w.alloc (.cells #[.int .i64 1, .int .i64 (n : Int), .int .i64 y.kind, .int .i64 y.n, .slice b y.kids.length e0, .slice a 0 c] 27)).alloc (.cells #[.int .i64 0, .int .i64 0, .slice none 0 0] 24)).alloc (.cells #[.int .i64 0, .int .i64 0, .slice none 0 0] 24) = W0 := ⟨_, rfl⟩
  rw [hW0] at hb3
  obtain ⟨hx1, hx2, hx3, hs0, hb0⟩ := hb3
  have HW0 : Hid (((w.alloc (.cells #[.int .i64 1, .int .i64 (n : Int), .int .i64 y.kind, .int .i64 y.n, .slice b y.kids.length e0, .slice a 0 c] 27)).alloc (.cells #[.int .i64 0, .int .i64 0, .slice none 0 0] 24)).alloc (.cells #[.int .i64 0, .int .i64 0, .slice none 0 0] 24) = W0) := hW0
  have hsW : w.heap.size + 3 ≤ W0.heap.size := by omega
  have m0 := cell_of_row _ _ 0 _ _ _ hx2
  have m1 := cell_of_row _ _ 1 _ _ _ hx2
  have m2 := cell_of_row _ _ 2 _ _ _ hx2
  have f0 := frozen_of_row _ _ 0 _ 24 hx2
  have f1 := frozen_of_row _ _ 1 _ 24 hx2
  have f2 := frozen_of_row _ _ 2 _ 24 hx2
  have t0 := cell_of_row _ _ 0 _ _ _ hx1
  have t1 := cell_of_row _ _ 1 _ _ _ hx1
  have z0 := cell_of_row _ _ 0 _ _ _ hx3
  have z1 := cell_of_row _ _ 1 _ _ _ hx3
  have z2 := cell_of_row _ _ 2 _ _ _ hx3
  by_cases hm : n < br.length
  · rw [List.getElem?_eq_getElem hm] at hty
    dsimp only at hty
    rw [hty]
    rcases hr with ⟨h0, _⟩ | ⟨g1, rfl, hg1, hr⟩
    · rw [h0] at hm; simp at hm
    obtain ⟨a1, c1, d1, q0, q1, q2, hT⟩ := hr n hm
    have q0' := (hb0.cell (p := ⟨g1, _, none⟩) hg1).trans q0
    have q1' := (hb0.cell (p := ⟨g1, _, none⟩) hg1).trans q1
    have q2' := (hb0.cell (p := ⟨g1, _, none⟩) hg1).trans q2
    have hm' : ¬ (br.length : Int) ≤ (n : Int) := by omega
    have hm2 : (n : Int) < (br.length : Int) := by omega
    have HT : Hid (TyP (fun g => g < w0.heap.size ∨ w.heap.size + 1 < g) W0 d1 br[n] a1 c1) := hT.within.keep (Nat.le_trans hw0 hb0.size) (fun g hg _ => ⟨.inl hg, (hb0.block g (by omega)).trans (hB.block g hg)⟩)
    generalize hyy : br[n] = yy at *
    clear hyy hT q0 q1 q2 hW0 hx1 hs0 hm hty hr hB
    go_enter Try.func15, Try.ntmps15
    go_upto_region 2 with fail
    rw [HW0.out]
    clear HW0
    go_wp2
    have hl3 := laid_box hx2 yy.kind yy.n a1 yy.kids.length c1
    refine bodyPost_ret (results_row_tmp rfl _ _ (w.heap.size + 1) 24 _ (0, 0) _ rfl hl3 Try.underlying24 rfl size24) rfl ?_
    exact ansD_set hb0 hw0 (by omega) HT.out rfl
  · have hty2 : tyOf ⟨1, (n : Int), y, []⟩ br.reverse cons = (8, noTy) := by rw [hty, List.getElem?_eq_none (by omega)]
    have hm' : (br.length : Int) ≤ (n : Int) := by omega
    rw [hty2]
    clear hW0 hx1 hs0 hm hty hty2 hB hr
    go_enter Try.func15, Try.ntmps15
    go_upto_region 2 with fail
    rw [HW0.out]
    clear HW0
    go_wp2
    have hl3 := laid_box hx2 0 0 none 0 0
    refine bodyPost_ret (results_row_tmp rfl _ _ (w.heap.size + 1) 24 _ (0, 0) _ rfl hl3 Try.underlying24 rfl size24) rfl ?_
    exact ansD_bad hb0 hw0 (by omega) rfl
set_option maxHeartbeats 4000000 in
theorem con_doc (n : Nat) (y : Ty) (b : Option Addr) (e0 : Nat) (a : Option Addr) (c : Nat) (w0 w : World) (br cons : List Ty) (xa : Option Addr) (ca : Nat) (ac : Option Addr) (cc : Nat) (_ : cons.length ≤ 20) (hB : Below w0.heap.size w0 w) (hcs : ∃ d, TysAt w0 d cons ac cc) :
    Calls Try.prog 15 #[vtm ⟨2, (n : Int), y, []⟩ b e0 a c, .slice ac cons.length cc, .slice xa br.length ca] w fun e w' => AnsD w0 w (tyOf ⟨2, (n : Int), y, []⟩ br.reverse cons) e w' := by
  have hw0 := hB.size
  have hty : tyOf ⟨2, (n : Int), y, []⟩ br.reverse cons = (match cons[n]? with
    | some y => (0, y)
    | none => (8, noTy)) := by rw [tyOf, if_neg (by simp), if_pos rfl]; rfl
  unfold vtm
  dsimp only
  rw [show ([] : List Tm).length = 0 from rfl]
  have hb3 := three_boxes w (.cells #[.int .i64 2, .int .i64 (n : Int), .int .i64 y.kind, .int .i64 y.n, .slice b y.kids.length e0, .slice a 0 c] 27) (.cells #[.int .i64 0, .int .i64 0, .slice none 0 0] 24) (.cells #[.int .i64 0, .int .i64 0, .slice none 0 0] 24)
  obtain ⟨W0, hW0⟩ : ∃ W0, ((w.alloc (.cells #[.int .i64 2, .int .i64 (n : Int), .int .i64 y.kind, .int .i64 y.n, .slice b y.kids.length e0, .slice a 0 c] 27)).alloc (.cells #[.int .i64 0, .int .i64 0, .slice none 0 0] 24)).alloc (.cells #[.int .i64 0, .int .i64 0, .slice none 0 0] 24) = W0 := ⟨_, rfl⟩
  rw [hW0] at hb3
  obtain ⟨hx1, hx2, hx3, hs0, hb0⟩ := hb3
  have HW0 : Hid (((w.alloc (.cells #[.int .i64 2, .int .i64 (n : Int), .int .i64 y.kind, .int .i64 y.n, .slice b y.kids.length e0, .slice a 0 c] 27)).alloc (.cells #[.int .i64 0, .int .i64 0, .slice none 0 0] 24)).alloc (.cells #[.int .i64 0, .int .i64 0, .slice none 0 0] 24) = W0) := hW0
  have hsW : w.heap.size + 3 ≤ W0.heap.size := by omega
  have m0 := cell_of_row _ _ 0 _ _ _ hx2
  have m1 := cell_of_row _ _ 1 _ _ _ hx2
  have m2 := cell_of_row _ _ 2 _ _ _ hx2
  have f0 := frozen_of_row _ _ 0 _ 24 hx2
  have f1 := frozen_of_row _ _ 1 _ 24 hx2
  have f2 := frozen_of_row _ _ 2 _ 24 hx2
  have t0 := cell_of_row _ _ 0 _ _ _ hx1
  have t1 := cell_of_row _ _ 1 _ _ _ hx1
  have z0 := cell_of_row _ _ 0 _ _ _ hx3
  have z1 := cell_of_row _ _ 1 _ _ _ hx3
  have z2 := cell_of_row _ _ 2 _ _ _ hx3
  by_cases hm : n < cons.length
  · rw [List.getElem?_eq_getElem hm] at hty
    dsimp only at hty
    rw [hty]
    obtain ⟨dc, hcs⟩ := hcs
    obtain ⟨g1, off1, a1, c1, hca, hg1, q0, q1, q2, hT⟩ := TyAt.kid hcs hm
    dsimp only at q0 q1 q2 hT
    subst hca
    have hg1' : g1 < w.heap.size := by omega
    have q0' := (hb0.cell (p := ⟨g1, _, none⟩) hg1').trans ((hB.cell (p := ⟨g1, _, none⟩) hg1).trans q0)
    have q1' := (hb0.cell (p := ⟨g1, _, none⟩) hg1').trans ((hB.cell (p := ⟨g1, _, none⟩) hg1).trans q1)
    have q2' := (hb0.cell (p := ⟨g1, _, none⟩) hg1').trans ((hB.cell (p := ⟨g1, _, none⟩) hg1).trans q2)
    have hm' : ¬ (cons.length : Int) ≤ (n : Int) := by omega
    have hm2 : (n : Int) < (cons.length : Int) := by omega
    have HT : Hid (TyP (fun g => g < w0.heap.size ∨ w.heap.size + 1 < g) W0 dc cons[n] a1 c1) := hT.within.keep (Nat.le_trans hw0 hb0.size) (fun g hg _ => ⟨.inl hg, (hb0.block g (by omega)).trans (hB.block g hg)⟩)
    generalize hyy : cons[n] = yy at *
    clear hyy hT q0 q1 q2 hW0 hx1 hs0 hm hty hcs hB
    go_enter Try.func15, Try.ntmps15
    go_upto_region 2 with fail
    rw [HW0.out]
    clear HW0
    go_wp2
    have hl3 := laid_box hx2 yy.kind yy.n a1 yy.kids.length c1
    refine bodyPost_ret (results_row_tmp rfl _ _ (w.heap.size + 1) 24 _ (0, 0) _ rfl hl3 Try.underlying24 rfl size24) rfl ?_
    exact ansD_set hb0 hw0 (by omega) HT.out rfl
  · have hty2 : tyOf ⟨2, (n : Int), y, []⟩ br.reverse cons = (8, noTy) := by rw [hty, List.getElem?_eq_none (by omega)]
    have hm' : (cons.length : Int) ≤ (n : Int) := by omega
    rw [hty2]
    clear hW0 hx1 hs0 hm hty hty2 hB hcs
    go_enter Try.func15, Try.ntmps15
    go_upto_region 2 with fail
    rw [HW0.out]
    clear HW0
    go_wp2
    have hl3 := laid_box hx2 0 0 none 0 0
    refine bodyPost_ret (results_row_tmp rfl _ _ (w.heap.size + 1) 24 _ (0, 0) _ rfl hl3 Try.underlying24 rfl size24) rfl ?_
    exact ansD_bad hb0 hw0 (by omega) rfl
end Go.Proofs.Ytofbnfpncekddaa.Te
