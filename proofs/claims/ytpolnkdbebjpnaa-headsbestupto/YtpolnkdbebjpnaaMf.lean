/- open (39): the ring is opened. Conditions: the lists are those of joinedOf, the small tree is a tree, the tree's slice lies apart; at most 1000 words. -/
import Derived.Test.YtpolnkdbebjpnaaMe
namespace Go.Proofs.Ytpolnkdbebjpnaa.Hd
open Go.RowKit

/-- the slice of a tree that is turned -/
structure Up (base : Nat) (W : World) (g n : Nat) (ul : List Nat) : Prop where
  row : W.ownsRow base 3 1 (.slice (some ⟨g, 0, none⟩) n n) n (ns ul)
  len : ul.length = n
theorem Up.set {base : Nat} {W : World} {g n : Nat} {ul : List Nat} (h : Up base W g n ul) (i x : Nat) : Up base (W.setCell ⟨g, i, none⟩ (.int .i64 (x : Int))) g n (ul.set i x) := by
  have hs := (h.row.stored i (.int .i64 (x : Int))).1
  rw [ns_set] at hs
  exact ⟨hs, by rw [List.length_set]; exact h.len⟩
/-- behind some rounds: the first i words outside hang as they shall, all others as they did -/
structure Oin (m : Nat) (O X : List Nat) (u v u' : Nat → Nat) (i : Nat) : Prop where
  z : u' 0 = 0
  far : ∀ j, 1 ≤ j → j ≤ i → u' (O.getD j 0) = if v j = m + 1 then X.getD (j - 1) 0 else O.getD (v j) 0
  old : ∀ x, (∀ j, 1 ≤ j → j ≤ i → x ≠ O.getD j 0) → u' x = u x
theorem Oin.step {n m : Nat} {R O X : List Nat} {u v : Nat → Nat} {ul : List Nat} {i x : Nat} (hO : Os n R O) (hl : O.length = m + 1) (h : Oin m O X u v (uv ul) i) (hi : i < m) (hul : ul.length = n) (hx : x = if v (i + 1) = m + 1 then X.getD i 0 else O.getD (v (i + 1)) 0) : Oin m O X u v (uv (ul.set (O.getD (i + 1) 0 - 1) x)) (i + 1) := by
  have hp := hO.pos (i := i + 1) (by omega) (by omega)
  have hg := hO.get (i := i + 1) (by omega)
  have hs := fun w => uv_set (l := ul) (i := O.getD (i + 1) 0 - 1) (x := x) (by omega) w
  rw [show O.getD (i + 1) 0 - 1 + 1 = O.getD (i + 1) 0 by omega] at hs
  refine ⟨rfl, fun j h1 h2 => ?_, fun y hy => ?_⟩
  · rw [hs]
    by_cases e : j = i + 1
    · rw [e, if_pos rfl, hx, Nat.add_sub_cancel]
    · rw [if_neg (fun e2 => e (hO.inj (by omega) (by omega) e2)), h.far j h1 (by omega)]
  · rw [hs, if_neg (hy (i + 1) (by omega) (Nat.le_refl _))]
    exact h.old y fun j h1 h2 => hy j h1 (by omega)
/-- into and outOf, as lists tell -/
def inl (I : List Nat) : Nat → Nat := fun h => I.getD h 0
def oul (X : List Nat) : Nat → Nat := fun i => X.getD (i - 1) 0
theorem Oin.done {n m : Nat} {R O X I : List Nat} {u v : Nat → Nat} {ul : List Nat} {e' y : Nat} (h : Oin m O X u v (uv ul) m) (hO : Os n R O ∧ O.length = m + 1 ∧ v (m + 1) ≤ m ∧ True) (hI : ∀ h, h ≤ m → I.getD h 0 ∈ R) (he : I.getD (v (m + 1)) 0 = e' + 1) (hy : y = O.getD (v (m + 1)) 0) (hv : v (m + 1) ≤ m) (hul : ul.length = n) (h1 : e' < n) : Opn n m u v (uv (ul.set e' y)) R O (inl I) (oul X) := by
  have hs := fun w => uv_set (l := ul) (i := e') (x := y) (by omega) w
  have hm := hI _ hv
  rw [he] at hm
  have hne : ∀ j, j ≤ m → O.getD j 0 ≠ e' + 1 := fun j hj e => (hO.1.get (i := j) (by omega)).2 (e ▸ hm)
  refine ⟨rfl, fun i h1 h2 => ?_, ?_, fun r hr hne2 => ?_⟩
  · rw [hs, if_neg (hne i h2), h.far i h1 h2]
    rfl
  · show uv (ul.set e' y) (I.getD (v (m + 1)) 0) = _
    rw [he, hs, if_pos rfl, hy]
  · have hne3 : r ≠ I.getD (v (m + 1)) 0 := hne2
    rw [he] at hne3
    rw [hs, if_neg hne3]
    exact h.old r fun j h1 h2 e => (hO.1.get (i := j) (by omega)).2 (e ▸ hr)
set_option maxHeartbeats 4000000 in
set_option maxRecDepth 100000 in
theorem open_any (n m base g bo co bi ci bx cx bs : Nat) (ax : Option Addr) (sv : Value) (ul R O I X vl : List Nat) (w : World)
    (hU : Up base w g n ul) (hn : n ≤ 1000) (hmn : m ≤ n) (hO : Os n R O) (hOl : O.length = m + 1) (hI : ∀ h, h ≤ m → I.getD h 0 ∈ R) (hRp : ∀ r ∈ R, 1 ≤ r ∧ r ≤ n) (hX : ∀ i, i < m → X.getD i 0 ≤ n)
    (hvl : vl.length = m + 1) (hv : ∀ j, 1 ≤ j → j ≤ m + 1 → uv vl j ≤ m + 1) (hvm : uv vl (m + 1) ≤ m)
    (cO : ∀ j, j ≤ m → w.cell? ⟨bo, j, none⟩ = some (.int .i64 (O.getD j 0 : Int))) (cI : ∀ j, j ≤ m → w.cell? ⟨bi, j, none⟩ = some (.int .i64 (I.getD j 0 : Int))) (cX : 0 < m → ax = some ⟨bx, 0, none⟩ ∧ ∀ j, j < m → w.cell? ⟨bx, j, none⟩ = some (.int .i64 (X.getD j 0 : Int))) (cV : ∀ j, j ≤ m → w.cell? ⟨bs, j, none⟩ = some (.int .i64 (uv vl (j + 1) : Int)))
    (go : bo ≠ g) (gi : bi ≠ g) (gx : bx ≠ g) (gs : bs ≠ g) :
    Calls Try.prog 39 #[.agg #[sv, .slice (some ⟨bo, 0, none⟩) (m + 1) co, .slice (some ⟨bi, 0, none⟩) (m + 1) ci, .slice ax m cx], .slice (some ⟨g, 0, none⟩) n n, .slice (some ⟨bs, 0, none⟩) (m + 1) (m + 1)] w fun e w' => e = .returned (.tuple #[]) ∧ ∃ ul', Up base w' g n ul' ∧ Kp (fun b => b = g) w w' ∧ Opn n m (uv ul) (uv vl) (uv ul') R O (inl I) (oul X) := by
  obtain ⟨k, hk⟩ : ∃ k, m + 1 = k := ⟨_, rfl⟩
  have HK : Hid (m + 1 = k ∧ m ≤ n ∧ n ≤ 1000) := ⟨hk, hmn, hn⟩
  have HO : Hid (Os n R O ∧ O.length = m + 1 ∧ uv vl (m + 1) ≤ m ∧ True) := ⟨hO, hOl, hvm, trivial⟩
  have HIN : Hid (∀ h, h ≤ m → I.getD h 0 ∈ R) := hI
  have HRP : Hid (∀ r ∈ R, 1 ≤ r ∧ r ≤ n) := hRp
  have HV : Hid ((∀ j, 1 ≤ j → j ≤ m + 1 → uv vl j ≤ m + 1) ∧ ∀ i, i < m → X.getD i 0 ≤ n) := ⟨hv, hX⟩
  obtain ⟨w1, hw1⟩ : ∃ w1, w.alloc (.cells #[sv, .slice (some ⟨bo, 0, none⟩) (m + 1) co, .slice (some ⟨bi, 0, none⟩) (m + 1) ci, .slice ax m cx] 47) = w1 := ⟨_, rfl⟩
  have hkw : Kp (fun b => b = g) w w1 := by rw [← hw1]; exact (Kp.refl _ w).alloc _
  have HKW : Hid (Kp (fun b => b = g) w w1) := hkw
  have x1 : w1.heap[w.heap.size]? = some (.cells #[sv, .slice (some ⟨bo, 0, none⟩) (m + 1) co, .slice (some ⟨bi, 0, none⟩) (m + 1) ci, .slice ax m cx] 47 (0, 0)) := by rw [← hw1]; exact heap_alloc_new _ _
  have hgl := (hU.row.lt g rfl).2
  have up : ∀ {q j : Nat} {y : Value}, q ≠ g → w.cell? ⟨q, j, none⟩ = some y → ∀ W, Kp (fun b => b = g) w1 W → W.cell? ⟨q, j, none⟩ = some y := fun {q j y} hq hc W hW =>
    (Kp.cell (kp_then hkw hW (fun _ _ e => e)) (World.block_lt_of_cell? _ _ hc) hq).trans hc
  have HRD : Hid (∀ W, Kp (fun b => b = g) w1 W → W.heap[w.heap.size]? = some (.cells #[sv, .slice (some ⟨bo, 0, none⟩) k co, .slice (some ⟨bi, 0, none⟩) k ci, .slice ax m cx] 47 (0, 0))) := fun W hW => by
    rw [← hk]
    exact (hW.block _ (lt_at x1) (fun e => by have e2 : w.heap.size = g := e; omega)).trans x1
  have HCO : Hid (∀ j, j ≤ m → ∀ W, Kp (fun b => b = g) w1 W → W.cell? ⟨bo, j, none⟩ = some (.int .i64 (O.getD j 0 : Int))) := fun j hj => up go (cO j hj)
  have HCI : Hid (∀ j, j ≤ m → ∀ W, Kp (fun b => b = g) w1 W → W.cell? ⟨bi, j, none⟩ = some (.int .i64 (I.getD j 0 : Int))) := fun j hj => up gi (cI j hj)
  have HCX : Hid (0 < m → ax = some ⟨bx, 0, none⟩ ∧ ∀ j, j < m → ∀ W, Kp (fun b => b = g) w1 W → W.cell? ⟨bx, j, none⟩ = some (.int .i64 (X.getD j 0 : Int))) := fun h0 => ⟨(cX h0).1, fun j hj => up gx ((cX h0).2 j hj)⟩
  have HCV : Hid (∀ j, j ≤ m → ∀ W, Kp (fun b => b = g) w1 W → W.cell? ⟨bs, j, none⟩ = some (.int .i64 (uv vl (j + 1) : Int))) := fun j hj => up gs (cV j hj)
  have HI0 : Hid (Up base w1 g n ul ∧ Oin m O X (uv ul) (uv vl) (uv ul) 0) := ⟨⟨by rw [← hw1]; exact hU.row.alloc _, hU.len⟩, rfl, fun j h1 h2 => by omega, fun x _ => rfl⟩
  have hwk : wrap64 ((k : Int) - 1) = (m : Int) := by unfold wrap64; omega
  have hmk : (m : Int) < (k : Int) := by omega
  have hmk2 : (m : Int) ≤ (k : Int) := by omega
  rw [hk] at hw1
  rw [hk]
  clear hU hn hO hOl hI hRp hX hvl hv hvm cO cI cX cV go gi gx gs hkw x1 hgl up hk hmn
  go_enter Try.func39, Try.ntmps39
  go_upto_region 3 with fail
  have HWK : Hid (wrap64 ((k : Int) - 1) = (m : Int)) := hwk
  clear hwk
  go_loopw [18] (fun a wr => ∃ (i : Nat) (ul2 : List Nat), a = .int .i64 (i : Int) ∧ i ≤ m ∧ Up base wr g n ul2 ∧ Kp (fun b => b = g) w1 wr ∧ Oin m O X (uv ul) (uv vl) (uv ul2) i) (fun a _ => m - (intOf a).toNat)
  case atStart => exact ⟨0, ul, rfl, Nat.zero_le _, HI0.out.1, Kp.refl _ _, HI0.out.2⟩
  case round =>
    clear HI0
    obtain ⟨i, ul2, rfl, hi, hup, hkp, hoi⟩ := hrel
    have HI : Hid (Up base wr g n ul2 ∧ Kp (fun b => b = g) w1 wr ∧ Oin m O X (uv ul) (uv vl) (uv ul2) i) := ⟨hup, hkp, hoi⟩
    clear hup hkp hoi
    by_cases hlt : i < m
    · have hii : (i : Int) < (m : Int) := by omega
      obtain ⟨h, hh⟩ : ∃ h, uv vl (i + 1) = h := ⟨_, rfl⟩
      have c1 := HCV.out i hi wr HI.out.2.1
      rw [hh] at c1
      have HH : Hid (uv vl (i + 1) = h) := hh
      have hhk : h ≤ k := by have h1 := HV.out.1 (i + 1) (by omega) (by omega); have h2 := HK.out.1; omega
      obtain ⟨x, hx⟩ : ∃ x, O.getD (i + 1) 0 = x := ⟨_, rfl⟩
      have b1 := cell_of_row _ _ 1 _ _ _ (HRD.out wr HI.out.2.1)
      have b3 := cell_of_row _ _ 3 _ _ _ (HRD.out wr HI.out.2.1)
      have c2 := HCO.out (i + 1) (by omega) wr HI.out.2.1
      rw [hx] at c2
      have hx1 : 1 ≤ x := by have := HO.out.1.pos (i := i + 1) (by omega) (by rw [HO.out.2.1]; omega); omega
      have hx2 : x ≤ n := by have := (HO.out.1.get (i := i + 1) (by rw [HO.out.2.1]; omega)).1; omega
      obtain ⟨x', hx'⟩ : ∃ y, x = y + 1 := ⟨x - 1, by omega⟩
      have HX : Hid (O.getD (i + 1) 0 = x ∧ x = x' + 1) := ⟨hx, hx'⟩
      have hnb := HK.out
      have wx : wrap64 ((x : Int) - 1) = (x' : Int) := by unfold wrap64; omega
      have hxn : x' < n := by omega
      have hxi : (x' : Int) < (n : Int) := by omega
      have hik : (i : Int) + 1 < (k : Int) := by omega
      have hmb : m ≤ 1000 := by omega
      clear hnb hh hx hx'
      by_cases hk : h = k
      · subst hk
        have h0m : 0 < m := by omega
        obtain ⟨rfl, hcx⟩ := HCX.out h0m
        obtain ⟨y, hy⟩ : ∃ y, X.getD i 0 = y := ⟨_, rfl⟩
        have c3 := hcx i hlt wr HI.out.2.1
        rw [hy] at c3
        have HY : Hid (X.getD i 0 = y) := hy
        clear hcx hy
        have y0 := HI.out.1.row.cellAt x' (by omega)
        have f0 := HI.out.1.row.frozenAt x'
        obtain ⟨ux, hux⟩ : ∃ u, (ns ul2)[x']? = some u := ⟨_, List.getElem?_eq_getElem (by rw [ns_length, HI.out.1.len]; omega)⟩
        rw [hux] at y0
        clear hux
        go_wp2
        have HN : Hid (Up base (wr.setCell ⟨g, x', none⟩ (.int .i64 (y : Int))) g n (ul2.set x' y) ∧ Kp (fun b => b = g) w1 (wr.setCell ⟨g, x', none⟩ (.int .i64 (y : Int))) ∧ Oin m O X (uv ul) (uv vl) (uv (ul2.set x' y)) (i + 1)) := ⟨HI.out.1.set x' y, HI.out.2.1.setCell _ _ _ (fun _ => rfl), by
          have h := HI.out.2.2.step (n := n) (R := R) (x := y) HO.out.1 HO.out.2.1 hlt HI.out.1.len (by rw [HH.out]; rw [if_pos HK.out.1.symm]; exact HY.out.symm)
          rw [HX.out.1, show x - 1 = x' by have := HX.out.2; omega] at h
          exact h⟩
        go_roundw
        case rel => exact ⟨i + 1, _, by go_num, hlt, HN.out.1, HN.out.2.1, HN.out.2.2⟩
        case measure => simp [intOf]; omega
      · have q1 : ((h : Int) == (k : Int)) = false := by simp; omega
        have q2 : ¬ (h : Int) = (k : Int) := by omega
        have hhi : (h : Int) < (k : Int) := by omega
        obtain ⟨y, hy⟩ : ∃ y, O.getD h 0 = y := ⟨_, rfl⟩
        have c3 := HCO.out h (by have := HK.out.1; omega) wr HI.out.2.1
        rw [hy] at c3
        have HY : Hid (O.getD h 0 = y) := hy
        clear hy
        have y0 := HI.out.1.row.cellAt x' (by omega)
        have f0 := HI.out.1.row.frozenAt x'
        obtain ⟨ux, hux⟩ : ∃ u, (ns ul2)[x']? = some u := ⟨_, List.getElem?_eq_getElem (by rw [ns_length, HI.out.1.len]; omega)⟩
        rw [hux] at y0
        clear hux
        go_wp2
        have HN : Hid (Up base (wr.setCell ⟨g, x', none⟩ (.int .i64 (y : Int))) g n (ul2.set x' y) ∧ Kp (fun b => b = g) w1 (wr.setCell ⟨g, x', none⟩ (.int .i64 (y : Int))) ∧ Oin m O X (uv ul) (uv vl) (uv (ul2.set x' y)) (i + 1)) := ⟨HI.out.1.set x' y, HI.out.2.1.setCell _ _ _ (fun _ => rfl), by
          have h := HI.out.2.2.step (n := n) (R := R) (x := y) HO.out.1 HO.out.2.1 hlt HI.out.1.len (by rw [HH.out]; rw [if_neg (by have := HK.out.1; omega)]; exact HY.out.symm)
          rw [HX.out.1, show x - 1 = x' by have := HX.out.2; omega] at h
          exact h⟩
        go_roundw
        case rel => exact ⟨i + 1, _, by go_num, hlt, HN.out.1, HN.out.2.1, HN.out.2.2⟩
        case measure => simp [intOf]; omega
    · obtain rfl : i = m := by omega
      obtain ⟨h, hh⟩ : ∃ h, uv vl (i + 1) = h := ⟨_, rfl⟩
      have hhm : h ≤ i := by have h1 := HO.out.2.2.1; omega
      have c1 := HCV.out i (Nat.le_refl _) wr HI.out.2.1
      rw [hh] at c1
      obtain ⟨e1, he1⟩ : ∃ e, I.getD h 0 = e := ⟨_, rfl⟩
      obtain ⟨y, hy⟩ : ∃ y, O.getD h 0 = y := ⟨_, rfl⟩
      have hr := HRP.out _ (HIN.out h hhm)
      rw [he1] at hr
      obtain ⟨e', he'⟩ : ∃ y, e1 = y + 1 := ⟨e1 - 1, by omega⟩
      have hnb := HK.out
      have we : IntKind.i64.wrap ((e1 : Int) - 1) = (e' : Int) := by rw [IntKind.wrap_i64]; omega
      have hei : (e' : Int) < (n : Int) := by omega
      have hhk : (h : Int) < (k : Int) := by omega
      have HE : Hid (I.getD (uv vl (i + 1)) 0 = e' + 1 ∧ y = O.getD (uv vl (i + 1)) 0 ∧ e' < n) := ⟨by rw [hh, he1, he'], by rw [hh, hy], by omega⟩
      have HCI2 : Hid (∀ W, Kp (fun b => b = g) w1 W → W.cell? ⟨bi, h, none⟩ = some (.int .i64 (e1 : Int))) := fun W hW => by have h1 := HCI.out h hhm W hW; rw [he1] at h1; exact h1
      have HCO2 : Hid (∀ W, Kp (fun b => b = g) w1 W → W.cell? ⟨bo, h, none⟩ = some (.int .i64 (y : Int))) := fun W hW => by have h1 := HCO.out h hhm W hW; rw [hy] at h1; exact h1
      clear hnb hh he1 hy hr he'
      have hwk := HWK.out
      go_upto_region 11 with fail
      clear c1 hwk
      have HCE : Hid _ := fun (W : World) (hSw : Kp (fun b => b = g) w1 W) => (And.intro (cell_of_row _ _ 1 _ _ _ (HRD.out W hSw)) (And.intro (cell_of_row _ _ 2 _ _ _ (HRD.out W hSw)) (And.intro (HCI2.out W hSw) (HCO2.out W hSw))))
      refine wp_region_held_drew (S := fun W => Kp (fun b => b = g) w1 W) (by kernel_rfl) (by exact ⟨HI.out.2.1.os, HI.out.2.1.tape, HI.out.2.1.output, HI.out.2.1.size, HI.out.2.1.block⟩) (fun hHeld => ?_)
      have hS0 : Kp (fun b => b = g) w1 wr.drew := hHeld
      have HS0 : Hid (Up base wr.drew g n ul2) := ⟨HI.out.1.row, HI.out.1.len⟩
      generalize hV0 : wr.drew = V0 at *
      clear hV0
      refine wpAnyH_take (i := 0) (oi := { dst := some 57, op := Op.move (Operand.tmp 1), type := 26, pos := "best.go:95", after := #[], guard := none }) (v := ?_) rfl (by kernel_rfl) (by kernel_rfl) (by kernel_rfl) (fun _ _ _ h => h) (Or.inl ⟨by rfl, ?_⟩) (by assumption) ?_
      case refine_2 => intro w hSw; (try dsimp only at hSw); obtain ⟨z0, z1, z2, z3⟩ := HCE.out _ hSw; go_simp; (try with_reducible rfl)
      simp only [Act.put, List.setIfInBounds_toArray, List.set_cons_zero, List.set_cons_succ]
      refine wpAnyH_take (i := 1) (oi := { dst := some 58, op := Op.fieldAddr 47 (Operand.tmp 3) 2, type := 0, pos := "best.go:95", after := #[], guard := none }) (v := ?_) rfl (by kernel_rfl) (by kernel_rfl) (by kernel_rfl) (fun _ _ _ h => h) (Or.inl ⟨by rfl, ?_⟩) (by assumption) ?_
      case refine_2 => intro w hSw; (try dsimp only at hSw); obtain ⟨z0, z1, z2, z3⟩ := HCE.out _ hSw; go_simp; (try with_reducible rfl)
      simp only [Act.put, List.setIfInBounds_toArray, List.set_cons_zero, List.set_cons_succ]
      refine wpAnyH_take (i := 2) (oi := { dst := some 59, op := Op.load 26 (Operand.tmp 58), type := 26, pos := "best.go:95", after := #[{ on := 1, ground := Ground.data }], guard := none }) (v := ?_) rfl (by kernel_rfl) (by kernel_rfl) (by kernel_rfl) (fun _ _ _ h => h) (Or.inl ⟨by rfl, ?_⟩) (by assumption) ?_
      case refine_2 => intro w hSw; (try dsimp only at hSw); obtain ⟨z0, z1, z2, z3⟩ := HCE.out _ hSw; go_simp; (try with_reducible rfl)
      simp only [Act.put, List.setIfInBounds_toArray, List.set_cons_zero, List.set_cons_succ]
      refine wpAnyH_take (i := 3) (oi := { dst := some 60, op := Op.move (Operand.tmp 10), type := 3, pos := "best.go:95", after := #[], guard := none }) (v := ?_) rfl (by kernel_rfl) (by kernel_rfl) (by kernel_rfl) (fun _ _ _ h => h) (Or.inl ⟨by rfl, ?_⟩) (by assumption) ?_
      case refine_2 => intro w hSw; (try dsimp only at hSw); obtain ⟨z0, z1, z2, z3⟩ := HCE.out _ hSw; go_simp; (try with_reducible rfl)
      simp only [Act.put, List.setIfInBounds_toArray, List.set_cons_zero, List.set_cons_succ]
      refine wpAnyH_take (i := 4) (oi := { dst := some 61, op := Op.indexAddr 26 (Operand.tmp 59) (Operand.tmp 60), type := 0, pos := "best.go:95", after := #[{ on := 2, ground := Ground.data }, { on := 3, ground := Ground.data }], guard := none }) (v := ?_) rfl (by kernel_rfl) (by kernel_rfl) (by kernel_rfl) (fun _ _ _ h => h) (Or.inl ⟨by rfl, ?_⟩) (by assumption) ?_
      case refine_2 => intro w hSw; (try dsimp only at hSw); obtain ⟨z0, z1, z2, z3⟩ := HCE.out _ hSw; go_simp; (try with_reducible rfl)
      simp only [Act.put, List.setIfInBounds_toArray, List.set_cons_zero, List.set_cons_succ]
      refine wpAnyH_take (i := 5) (oi := { dst := some 62, op := Op.load 3 (Operand.tmp 61), type := 3, pos := "best.go:95", after := #[{ on := 4, ground := Ground.data }], guard := none }) (v := ?_) rfl (by kernel_rfl) (by kernel_rfl) (by kernel_rfl) (fun _ _ _ h => h) (Or.inl ⟨by rfl, ?_⟩) (by assumption) ?_
      case refine_2 => intro w hSw; (try dsimp only at hSw); obtain ⟨z0, z1, z2, z3⟩ := HCE.out _ hSw; go_simp; (try with_reducible rfl)
      simp only [Act.put, List.setIfInBounds_toArray, List.set_cons_zero, List.set_cons_succ]
      refine wpAnyH_take (i := 6) (oi := { dst := some 63, op := Op.binOp BinOp.sub 3 (Operand.tmp 62) (Operand.const (Value.int IntKind.i64 1)) 3, type := 3, pos := "best.go:95", after := #[{ on := 5, ground := Ground.data }], guard := none }) (v := ?_) rfl (by kernel_rfl) (by kernel_rfl) (by kernel_rfl) (fun _ _ _ h => h) (Or.inl ⟨by rfl, ?_⟩) (by assumption) ?_
      case refine_2 => intro w hSw; (try dsimp only at hSw); obtain ⟨z0, z1, z2, z3⟩ := HCE.out _ hSw; go_simp; (try with_reducible rfl)
      simp only [Act.put, List.setIfInBounds_toArray, List.set_cons_zero, List.set_cons_succ]
      refine wpAnyH_take (i := 7) (oi := { dst := some 64, op := Op.fieldAddr 47 (Operand.tmp 3) 1, type := 0, pos := "best.go:95", after := #[], guard := none }) (v := ?_) rfl (by kernel_rfl) (by kernel_rfl) (by kernel_rfl) (fun _ _ _ h => h) (Or.inl ⟨by rfl, ?_⟩) (by assumption) ?_
      case refine_2 => intro w hSw; (try dsimp only at hSw); obtain ⟨z0, z1, z2, z3⟩ := HCE.out _ hSw; go_simp; (try with_reducible rfl)
      simp only [Act.put, List.setIfInBounds_toArray, List.set_cons_zero, List.set_cons_succ]
      refine wpAnyH_take (i := 8) (oi := { dst := some 65, op := Op.load 26 (Operand.tmp 64), type := 26, pos := "best.go:95", after := #[{ on := 7, ground := Ground.data }], guard := none }) (v := ?_) rfl (by kernel_rfl) (by kernel_rfl) (by kernel_rfl) (fun _ _ _ h => h) (Or.inl ⟨by rfl, ?_⟩) (by assumption) ?_
      case refine_2 => intro w hSw; (try dsimp only at hSw); obtain ⟨z0, z1, z2, z3⟩ := HCE.out _ hSw; go_simp; (try with_reducible rfl)
      simp only [Act.put, List.setIfInBounds_toArray, List.set_cons_zero, List.set_cons_succ]
      refine wpAnyH_take (i := 9) (oi := { dst := some 66, op := Op.move (Operand.tmp 10), type := 3, pos := "best.go:95", after := #[], guard := none }) (v := ?_) rfl (by kernel_rfl) (by kernel_rfl) (by kernel_rfl) (fun _ _ _ h => h) (Or.inl ⟨by rfl, ?_⟩) (by assumption) ?_
      case refine_2 => intro w hSw; (try dsimp only at hSw); obtain ⟨z0, z1, z2, z3⟩ := HCE.out _ hSw; go_simp; (try with_reducible rfl)
      simp only [Act.put, List.setIfInBounds_toArray, List.set_cons_zero, List.set_cons_succ]
      refine wpAnyH_take (i := 10) (oi := { dst := some 67, op := Op.indexAddr 26 (Operand.tmp 65) (Operand.tmp 66), type := 0, pos := "best.go:95", after := #[{ on := 8, ground := Ground.data }, { on := 9, ground := Ground.data }], guard := none }) (v := ?_) rfl (by kernel_rfl) (by kernel_rfl) (by kernel_rfl) (fun _ _ _ h => h) (Or.inl ⟨by rfl, ?_⟩) (by assumption) ?_
      case refine_2 => intro w hSw; (try dsimp only at hSw); obtain ⟨z0, z1, z2, z3⟩ := HCE.out _ hSw; go_simp; (try with_reducible rfl)
      simp only [Act.put, List.setIfInBounds_toArray, List.set_cons_zero, List.set_cons_succ]
      refine wpAnyH_take (i := 11) (oi := { dst := some 68, op := Op.load 3 (Operand.tmp 67), type := 3, pos := "best.go:95", after := #[{ on := 10, ground := Ground.data }], guard := none }) (v := ?_) rfl (by kernel_rfl) (by kernel_rfl) (by kernel_rfl) (fun _ _ _ h => h) (Or.inl ⟨by rfl, ?_⟩) (by assumption) ?_
      case refine_2 => intro w hSw; (try dsimp only at hSw); obtain ⟨z0, z1, z2, z3⟩ := HCE.out _ hSw; go_simp; (try with_reducible rfl)
      simp only [Act.put, List.setIfInBounds_toArray, List.set_cons_zero, List.set_cons_succ]
      refine wpAnyH_take (i := 12) (oi := { dst := some 69, op := Op.indexAddr 26 (Operand.tmp 57) (Operand.tmp 63), type := 0, pos := "best.go:95", after := #[{ on := 0, ground := Ground.data }, { on := 6, ground := Ground.data }, { on := 0, ground := Ground.phase }, { on := 1, ground := Ground.phase }, { on := 2, ground := Ground.phase }, { on := 3, ground := Ground.phase }, { on := 4, ground := Ground.phase }, { on := 5, ground := Ground.phase }, { on := 6, ground := Ground.phase }, { on := 7, ground := Ground.phase }, { on := 8, ground := Ground.phase }, { on := 9, ground := Ground.phase }, { on := 10, ground := Ground.phase }, { on := 11, ground := Ground.phase }], guard := none }) (v := ?_) rfl (by kernel_rfl) (by kernel_rfl) (by kernel_rfl) (fun _ _ _ h => h) (Or.inl ⟨by rfl, ?_⟩) (by assumption) ?_
      case refine_2 => intro w hSw; (try dsimp only at hSw); obtain ⟨z0, z1, z2, z3⟩ := HCE.out _ hSw; go_simp; (try with_reducible rfl)
      simp only [Act.put, List.setIfInBounds_toArray, List.set_cons_zero, List.set_cons_succ]
      refine wpAnyH_ready (rs := [13]) (by kernel_rfl) (by simp) ?_
      refine (AllReadyH.cons (o := { dst := none, op := Op.store 3 (Operand.tmp 69) (Operand.tmp 68), type := 0, pos := "best.go:95", after := #[{ on := 12, ground := Ground.data }, { on := 11, ground := Ground.data }, { on := 0, ground := Ground.phase }, { on := 1, ground := Ground.phase }, { on := 2, ground := Ground.phase }, { on := 3, ground := Ground.phase }, { on := 4, ground := Ground.phase }, { on := 5, ground := Ground.phase }, { on := 6, ground := Ground.phase }, { on := 7, ground := Ground.phase }, { on := 8, ground := Ground.phase }, { on := 9, ground := Ground.phase }, { on := 10, ground := Ground.phase }, { on := 11, ground := Ground.phase }], guard := none }) rfl (fun K hK => ?_) AllReadyH.nil)
      have y0 := HS0.out.row.cellAt e' (by have := HE.out.2.2; omega)
      have f0 := HS0.out.row.frozenAt e'
      obtain ⟨ux, hux⟩ : ∃ u, (ns ul2)[e']? = some u := ⟨_, List.getElem?_eq_getElem (by rw [ns_length, HS0.out.len]; exact HE.out.2.2)⟩
      rw [hux] at y0
      go_simp
      clear y0 f0 hux ux
      have hS1 : Kp (fun b => b = g) w1 (V0.setCell ⟨g, e', none⟩ (.int .i64 (y : Int))) := hS0.setCell _ _ _ (fun _ => rfl)
      refine hK.out _ _ ?_ (fun hHeld => ?_)
      · exact hS1
      clear hK K
      try simp only [Act.put, List.setIfInBounds_toArray, List.set_cons_zero, List.set_cons_succ]
      refine wpAnyH_done (by kernel_rfl) ?_ _
      have HF : Hid (Up base (V0.setCell ⟨g, e', none⟩ (.int .i64 (y : Int))) g n (ul2.set e' y) ∧ Kp (fun b => b = g) w1 (V0.setCell ⟨g, e', none⟩ (.int .i64 (y : Int)))) := ⟨HS0.out.set e' y, hS1⟩
      clear hS0 hS1
      go_wp2
      go_end0
      exact ⟨rfl, ul2.set e' y, HF.out.1, kp_then HKW.out HF.out.2 (fun _ _ e => e), HI.out.2.2.done HO.out HIN.out HE.out.1 HE.out.2.1 HO.out.2.2.1 HI.out.1.len HE.out.2.2⟩
end Go.Proofs.Ytpolnkdbebjpnaa.Hd
