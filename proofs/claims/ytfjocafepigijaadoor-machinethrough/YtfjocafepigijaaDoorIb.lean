/- The function that couple.arcs hands back: it hands on all arcs that lead on from a pair. Conditions: few states, few arcs, costs in their bounds. -/
import Derived.Test.YtfjocafepigijaaDoorSkM
import Derived.Test.YtfjocafepigijaaDoorRyM
import Derived.Deep.QuietTactic
import Derived.BigQuiet
import Derived.Sort.CutIn
namespace Go.Proofs.YtfjocafepigijaaDoor.Cu
open Go.RowKit Go.Shelf Mv Set Qp Sk Po Ps Wd Se Mp St Cm Nm Nx Ra Am Pa Tc Rf
open CR (nc)
attribute [local go_sem] Oper.semAt_some

def encA (x : Arc) : Array Value := #[.agg #[.int .i64 x.1, .int .i64 x.2.1, .int .i64 x.2.2.1, .int .i64 x.2.2.2.1, .int .i64 x.2.2.2.2]]
theorem Bx.kept {w w' : World} {bC bp bk bq C p k q : Nat} {O O' : Nat → Prop} (h : Bx w bC bp bk bq C p k q) (hk : Kept O O' w w') (hn : ∀ j, (j = bC ∨ j = bp ∨ j = bk ∨ j = bq) → ¬ O j) : Bx w' bC bp bk bq C p k q :=
 ⟨(hk.block _ (lt_at h.c) (hn _ (.inl rfl))).2.trans h.c, (hk.block _ (lt_at h.p) (hn _ (.inr (.inl rfl)))).2.trans h.p, (hk.block _ (lt_at h.k) (hn _ (.inr (.inr (.inl rfl))))).2.trans h.k, (hk.block _ (lt_at h.q) (hn _ (.inr (.inr (.inr rfl))))).2.trans h.q⟩
theorem pre_ok {l : List Arc} {f : Arc → List Arc} {m pre a b r : List Arc} {x : Nat} (hx : x < l.length) (h1 : pre = (l.take x).flatMap f ++ a) (h2 : f l[x] = a ++ b ++ r) : pre ++ b <+: l.flatMap f ++ m := by
 subst h1
 refine ⟨r ++ (l.drop (x + 1)).flatMap f ++ m, ?_⟩
 have e : l.flatMap f = (l.take x).flatMap f ++ (f l[x] ++ (l.drop (x + 1)).flatMap f) := by
  conv => lhs; rw [← List.take_append_drop x l, List.flatMap_append, List.drop_eq_getElem_cons hx, List.flatMap_cons]
 rw [e, h2]
 simp
/-- what is right about the rows of a couple -/
def FOk (SA : Nat) (F : Nat → List Arc) : Prop := ∀ p, p < SA → (F p).length ≤ 120 ∧ ∀ x ∈ F p, ∃ t s u : Nat, x.2.1 = (t : Int) ∧ t < SA ∧ x.2.2.2.1 = (s : Int) ∧ s ≤ 60 ∧ x.2.2.2.2 = (u : Int) ∧ u ≤ 1000000
def ROk (SB : Nat) (R : Nat → List Arc) : Prop := ∀ q, q < SB → (R q).length ≤ 120 ∧ ∀ y ∈ R q, ∃ t u : Nat, y.2.1 = (t : Int) ∧ t < SB ∧ y.2.2.2.2 = (u : Int) ∧ u ≤ 1000000
set_option maxHeartbeats 4000000 in
set_option maxRecDepth 100000 in
theorem arcs_tells (C SA SB fb gb gc nb m k p q bC bp bk bq n : Nat) (F R G : Nat → List Arc) (gs : List Nat) (w0 w : World) (hn : 1 ≤ n) (HCP : Hid (IsCp w0 C SA SB F R fb gb gc nb m gs G)) (HFO : Hid (FOk SA F)) (HRO : Hid (ROk SB R)) (hSA : SA ≤ 40) (hSB : SB ≤ 40) (HPQ : Hid (k / SB = p ∧ k % SB = q)) (hpS : p < SA) (hqS : q < SB) (hw : Below w0.heap.size w0 w) (hB : Bx w bC bp bk bq C p k q) :
  Tells Fence.wide n Tryd.prog 96 #[.pointer (some ⟨bC, 0, none⟩), .pointer (some ⟨bp, 0, none⟩), .pointer (some ⟨bk, 0, none⟩), .pointer (some ⟨bq, 0, none⟩)] encA (fun pre x _ => pre ++ [x] <+: arcsP F R SB k) (fun j => j < w0.heap.size ∨ j = bC ∨ j = bp ∨ j = bk ∨ j = bq) (fun xs => xs = arcsP F R SB k) w := by
 intro l J O₀ W hW hJ hO hY h0
 have BW : Below w0.heap.size w0 W := hw.trans (hW.mono hw.size)
 have XW := hB.on hW
 have HJ : Hid (∀ pre O A B, J pre O A → Below A.heap.size A B → J pre O B) := hJ
 have HO : Hid (∀ pre O A k, J pre O A → O k → ¬ (fun j => j < w0.heap.size ∨ j = bC ∨ j = bp ∨ j = bk ∨ j = bq) k ∧ k < A.heap.size) := hO
 have HYY : Hid (∀ pre O (x : Arc) A, J pre O A → pre ++ [x] <+: arcsP F R SB k → YieldAt Fence.wide (n - 1) Tryd.prog l (encA x) A fun e B => e = .returned (.bool true) ∧ ∃ O', J (pre ++ [x]) O' B ∧ Kept O O' A B) := hY
 have HAP : Hid (arcsP F R SB k = (F p).flatMap (onX R SB k) ++ (gr R q 0).map (fB SB k)) := by show _ = _; unfold arcsP; rw [HPQ.out.1, HPQ.out.2]
 obtain ⟨ap, cp, hcp, hrp⟩ := HCP.out.first.2 p hpS
 have HRWP : Hid (Mv.Row w0 (.slice ap (F p).length cp) 5 (F p).length (acs (F p))) := hrp
 obtain ⟨np, hnp⟩ : ∃ np, (F p).length = np := ⟨_, rfl⟩
 have HNP : Hid ((F p).length = np) := hnp
 have hnp120 : np ≤ 120 := by rw [← hnp]; exact (HFO.out p hpS).1
 have k8 := (BW.cell (p := ⟨fb, p, none⟩) HCP.out.first.1).trans hcp
 rw [hnp] at k8
 have z0 := cell_of_row _ _ 0 _ _ _ XW.c
 have z1 := cell_of_row _ _ 0 _ _ _ XW.p
 have kc := cell_of_row _ _ 1 _ _ _ (HCP.out.on BW).row
 have hpi : (p : Int) < (SA : Int) := by omega
 have HBW : Hid (Below w0.heap.size w0 W) := BW
 have HXW : Hid (Bx W bC bp bk bq C p k q) := XW
 have H0 : Hid (J [] O₀ W) := h0
 clear hJ hO hY hB hw hW BW XW h0 hcp hrp hnp
 show CallsIn Fence.wide n Tryd.prog 96 #[.func (.yield l) #[] #[], .pointer (some ⟨bC, 0, none⟩), .pointer (some ⟨bp, 0, none⟩), .pointer (some ⟨bk, 0, none⟩), .pointer (some ⟨bq, 0, none⟩)] W _
 refine callsIn_of_wp Tryd.func96 rfl trivial ?_ rfl
 simp only [Tryd.ntmps96, List.size_toArray, List.length_cons, List.length_nil, Nat.reduceAdd, Nat.reduceSub, Array.replicate_succ, Array.replicate_zero, List.push_toArray, List.append_toArray, List.nil_append, List.cons_append]
 gi_wp2
 refine wpIn_wide.2 ?_
 go_quiet (fail)
 have HBW : Hid (Below w0.heap.size w0 (W.drewN nq)) := below_drewN HBW.out nq
 have HXW : Hid (Bx (W.drewN nq) bC bp bk bq C p k q) := ⟨HXW.out.c, HXW.out.p, HXW.out.k, HXW.out.q⟩
 have H0 : Hid (J [] O₀ (W.drewN nq)) := HJ.out _ _ _ _ H0.out (below_drewN (Below.refl _ _) nq)
 clear z0 z1 kc k8
 generalize hVq : W.drewN nq = V0 at *
 clear hVq
 gi_wp2
 gi_loopw [20] (fun i wr => ∃ (x : Nat) (O : Nat → Prop), i = .int .i64 x ∧ x ≤ np ∧ J (((F p).take x).flatMap (onX R SB k)) O wr ∧ Below w0.heap.size w0 wr ∧ Bx wr bC bp bk bq C p k q) (fun i _ => np - (intOf i).toNat)
 case atStart => exact ⟨0, O₀, rfl, Nat.zero_le _, by simpa using H0.out, HBW.out, HXW.out⟩
 case round =>
  clear HBW HXW H0
  obtain ⟨x, O, rfl, hx, hJs, hBr, hbx⟩ := hrel
  by_cases hlt : x < np
  ·have hxl : x < (F p).length := by rw [HNP.out]; exact hlt
   obtain ⟨xb, xo, rfl, p0, p1, p2, p3, p4⟩ := row_at HRWP.out hBr hxl
   obtain ⟨xt, xs, xu, hxt, hxS, hxs, hxs6, hxu, hxu6⟩ := (HFO.out p hpS).2 _ (List.getElem_mem hxl)
   obtain ⟨xF, xT, xI, xO, xW, ex⟩ : ∃ f t i1 o1 z, (F p)[x] = (f, t, i1, o1, z) := ⟨_, _, _, _, _, rfl⟩
   rw [ex] at p0 p1 p2 p3 p4 hxt hxs hxu
   dsimp only at hxt hxs hxu
   subst hxt hxs hxu
   dsimp only at p0 p1 p2 p3 p4
   have HEX : Hid ((F p)[x] = (xF, (xt : Int), xI, (xs : Int), (xu : Int))) := ex
   clear ex
   by_cases hx0 : xs = 0
   ·subst hx0
    rw [show ((0 : Nat) : Int) = 0 from rfl] at p3
    have hal := (Below.refl _ wr).alloc (Nat.le_refl _) (.cells #[.int .i64 xF, .int .i64 (xt : Int), .int .i64 xI, .int .i64 0, .int .i64 (xu : Int)] 64)
    have HBr : Hid (Below w0.heap.size w0 (wr.alloc (.cells #[.int .i64 xF, .int .i64 (xt : Int), .int .i64 xI, .int .i64 0, .int .i64 (xu : Int)] 64))) := hBr.alloc hBr.size _
    have HBx : Hid (Bx (wr.alloc (.cells #[.int .i64 xF, .int .i64 (xt : Int), .int .i64 xI, .int .i64 0, .int .i64 (xu : Int)] 64)) bC bp bk bq C p k q) := hbx.on hal
    obtain ⟨pre, hpre⟩ : ∃ pre, pre = ((F p).take x).flatMap (onX R SB k) := ⟨_, rfl⟩
    have HPR : Hid (pre = ((F p).take x).flatMap (onX R SB k)) := hpre
    have HJs : Hid (J pre O (wr.alloc (.cells #[.int .i64 xF, .int .i64 (xt : Int), .int .i64 xI, .int .i64 0, .int .i64 (xu : Int)] 64))) := by show J _ _ _; rw [hpre]; exact HJ.out _ _ _ _ hJs hal
    have hbxx := heap_alloc_new wr (.cells #[.int .i64 xF, .int .i64 (xt : Int), .int .i64 xI, .int .i64 0, .int .i64 (xu : Int)] 64)
    clear hBr hbx hal hpre hJs
    obtain ⟨TM, htm⟩ : ∃ TM, TM = xt * SB := ⟨_, rfl⟩
    obtain ⟨z, hz⟩ : ∃ z, z = xt * SB + q := ⟨_, rfl⟩
    have hz6 : z ≤ 1600 := by rw [hz]; exact Nat.le_of_lt (Nat.lt_of_lt_of_le (pair_lt hxS hqS) (Nat.le_trans (Nat.mul_le_mul hSA hSB) (by decide)))
    obtain ⟨wm1, wm2⟩ := wrap_mul htm (by omega)
    obtain ⟨ws1, ws2⟩ := wrap_sum (show z = TM + q by rw [htm, hz]) (by omega)
    have HON : Hid (onX R SB k (xF, (xt : Int), xI, ((0 : Nat) : Int), (xu : Int)) = [((k : Int), (z : Int), xI, 0, (xu : Int))]) := by
     show _ = _
     unfold onX
     rw [if_pos (show (xF, (xt : Int), xI, ((0 : Nat) : Int), (xu : Int)).2.2.2.1 = 0 from rfl)]
     simp [fA, HPQ.out.2, hz]
    have hL : pre ++ [((k : Int), (z : Int), xI, 0, (xu : Int))] <+: arcsP F R SB k := by
     rw [HAP.out]
     exact pre_ok (a := []) (r := []) hxl (by rw [HPR.out]; simp) (by rw [HEX.out, HON.out]; simp)
    gi_upto_region 4 with fail
    clear p0 p1 p2 p3 p4
    generalize hVx : wr.alloc (.cells #[.int .i64 xF, .int .i64 (xt : Int), .int .i64 xI, .int .i64 0, .int .i64 (xu : Int)] 64) = V1 at *
    clear hVx
    generalize wr.heap.size = bx at *
    have HJd : Hid (J pre O V1.drew) := HJ.out _ _ _ _ HJs.out (Below.refl _ V1).drew
    have HBd : Hid (Below w0.heap.size w0 V1.drew) := HBr.out.drew
    have HXd : Bx V1.drew bC bp bk bq C p k q := ⟨HBx.out.c, HBx.out.p, HBx.out.k, HBx.out.q⟩
    have hbxd : V1.drew.heap[bx]? = _ := hbxx
    have hrd := (HCP.out.on HBd.out).row
    clear HJs HBr HBx hbxx htm hz
    have HCE : Hid _ := fun (W : World) (hSw : W.heap[bx]? = some (.cells #[.int .i64 xF, .int .i64 (xt : Int), .int .i64 xI, .int .i64 0, .int .i64 (xu : Int)] 64 (0, 0)) ∧ Bx W bC bp bk bq C p k q ∧ W.heap[C]? = some (.cells #[.int .i64 (SB : Int), .slice (some ⟨fb, 0, none⟩) SA SA, .slice (some ⟨gb, 0, none⟩) m gc, .slice (some ⟨nb, 0, none⟩) (SB * 61) (SB * 61)] 129 (0, 0))) => (And.intro (cell_of_row _ _ 1 _ _ _ hSw.1) (And.intro (cell_of_row _ _ 2 _ _ _ hSw.1) (And.intro (cell_of_row _ _ 4 _ _ _ hSw.1) (And.intro (cell_of_row _ _ 0 _ _ _ hSw.2.1.c) (And.intro (cell_of_row _ _ 0 _ _ _ hSw.2.1.p) (And.intro (cell_of_row _ _ 0 _ _ _ hSw.2.1.k) (And.intro (cell_of_row _ _ 0 _ _ _ hSw.2.1.q) (cell_of_row _ _ 0 _ _ _ hSw.2.2))))))))
    refine Ry.region_y (S := fun W => W.heap[bx]? = some (.cells #[.int .i64 xF, .int .i64 (xt : Int), .int .i64 xI, .int .i64 0, .int .i64 (xu : Int)] 64 (0, 0)) ∧ Bx W bC bp bk bq C p k q ∧ W.heap[C]? = some (.cells #[.int .i64 (SB : Int), .slice (some ⟨fb, 0, none⟩) SA SA, .slice (some ⟨gb, 0, none⟩) m gc, .slice (some ⟨nb, 0, none⟩) (SB * 61) (SB * 61)] 129 (0, 0))) 16 (by kernel_rfl) rfl (by kernel_rfl) (by kernel_rfl) (by kernel_rfl) (by kernel_rfl) (by exact ⟨hbxd, HXd, hrd⟩) (fun hHeld => ?_)
    have hS0 := hHeld
    generalize hVd : V1.drew = V0 at *
    clear hVd
    obtain ⟨fn, tmps, assign, body, hy, hR⟩ := HYY.out pre O ((k : Int), (z : Int), xI, 0, (xu : Int)) V0 HJd.out hL
    dsimp only [encA] at hy
    have HR : Hid (RoundIn Fence.wide (n - 1) Tryd.prog l fn tmps assign body V0 _) := hR
    clear hR hL
    refine wpAnyH_take (i := 0) (oi := { dst := some 27, op := .move (.tmp 0), type := 187, pos := "through.go:101", after := #[], guard := none }) (v := ?_) rfl (by kernel_rfl) (by kernel_rfl) (by kernel_rfl) (fun _ _ _ h => absurd h.1 (by simp)) (Or.inl ⟨by rfl, ?_⟩) (by assumption) ?_
    case refine_2 => intro w hSw; obtain ⟨d1, d2, d4, z0, z1, z2, z3, kc⟩ := HCE.out _ hSw; go_simp; (try with_reducible rfl)
    simp only [Act.put, zS0, zS1, zS2]
    refine wpAnyH_take (i := 1) (oi := { dst := some 28, op := .load 3 (.tmp 3), type := 3, pos := "through.go:101", after := #[], guard := none }) (v := ?_) rfl (by kernel_rfl) (by kernel_rfl) (by kernel_rfl) (fun _ _ _ h => absurd h.1 (by simp)) (Or.inl ⟨by rfl, ?_⟩) (by assumption) ?_
    case refine_2 => intro w hSw; obtain ⟨d1, d2, d4, z0, z1, z2, z3, kc⟩ := HCE.out _ hSw; go_simp; (try with_reducible rfl)
    simp only [Act.put, zS0, zS1, zS2]
    refine wpAnyH_take (i := 2) (oi := { dst := some 29, op := .fieldAddr 64 (.tmp 7) 1, type := 0, pos := "through.go:101", after := #[], guard := none }) (v := ?_) rfl (by kernel_rfl) (by kernel_rfl) (by kernel_rfl) (fun _ _ _ h => absurd h.1 (by simp)) (Or.inl ⟨by rfl, ?_⟩) (by assumption) ?_
    case refine_2 => intro w hSw; obtain ⟨d1, d2, d4, z0, z1, z2, z3, kc⟩ := HCE.out _ hSw; go_simp; (try with_reducible rfl)
    simp only [Act.put, zS0, zS1, zS2]
    refine wpAnyH_take (i := 3) (oi := { dst := some 30, op := .load 3 (.tmp 29), type := 3, pos := "through.go:101", after := #[⟨2, .data⟩], guard := none }) (v := ?_) rfl (by kernel_rfl) (by kernel_rfl) (by kernel_rfl) (fun _ _ _ h => absurd h.1 (by simp)) (Or.inl ⟨by rfl, ?_⟩) (by assumption) ?_
    case refine_2 => intro w hSw; obtain ⟨d1, d2, d4, z0, z1, z2, z3, kc⟩ := HCE.out _ hSw; go_simp; (try with_reducible rfl)
    simp only [Act.put, zS0, zS1, zS2]
    refine wpAnyH_take (i := 4) (oi := { dst := some 31, op := .load 71 (.tmp 1), type := 71, pos := "through.go:101", after := #[], guard := none }) (v := ?_) rfl (by kernel_rfl) (by kernel_rfl) (by kernel_rfl) (fun _ _ _ h => absurd h.1 (by simp)) (Or.inl ⟨by rfl, ?_⟩) (by assumption) ?_
    case refine_2 => intro w hSw; obtain ⟨d1, d2, d4, z0, z1, z2, z3, kc⟩ := HCE.out _ hSw; go_simp; (try with_reducible rfl)
    simp only [Act.put, zS0, zS1, zS2]
    refine wpAnyH_take (i := 5) (oi := { dst := some 32, op := .nilCheck (.tmp 31), type := 0, pos := "through.go:101", after := #[⟨4, .data⟩], guard := none }) (v := ?_) rfl (by kernel_rfl) (by kernel_rfl) (by kernel_rfl) (fun _ _ _ h => absurd h.1 (by simp)) (Or.inl ⟨by rfl, ?_⟩) (by assumption) ?_
    case refine_2 => intro w hSw; obtain ⟨d1, d2, d4, z0, z1, z2, z3, kc⟩ := HCE.out _ hSw; go_simp; (try with_reducible rfl)
    simp only [Act.put, zS0, zS1, zS2]
    refine wpAnyH_take (i := 6) (oi := { dst := some 33, op := .fieldAddr 129 (.tmp 32) 0, type := 0, pos := "through.go:101", after := #[⟨5, .data⟩], guard := none }) (v := ?_) rfl (by kernel_rfl) (by kernel_rfl) (by kernel_rfl) (fun _ _ _ h => absurd h.1 (by simp)) (Or.inl ⟨by rfl, ?_⟩) (by assumption) ?_
    case refine_2 => intro w hSw; obtain ⟨d1, d2, d4, z0, z1, z2, z3, kc⟩ := HCE.out _ hSw; go_simp; (try with_reducible rfl)
    simp only [Act.put, zS0, zS1, zS2]
    refine wpAnyH_take (i := 7) (oi := { dst := some 34, op := .load 3 (.tmp 33), type := 3, pos := "through.go:101", after := #[⟨6, .data⟩], guard := none }) (v := ?_) rfl (by kernel_rfl) (by kernel_rfl) (by kernel_rfl) (fun _ _ _ h => absurd h.1 (by simp)) (Or.inl ⟨by rfl, ?_⟩) (by assumption) ?_
    case refine_2 => intro w hSw; obtain ⟨d1, d2, d4, z0, z1, z2, z3, kc⟩ := HCE.out _ hSw; go_simp; (try with_reducible rfl)
    simp only [Act.put, zS0, zS1, zS2]
    refine wpAnyH_take (i := 8) (oi := { dst := some 35, op := .binOp .mul 3 (.tmp 30) (.tmp 34) 3, type := 3, pos := "through.go:101", after := #[⟨3, .data⟩, ⟨7, .data⟩], guard := none }) (v := ?_) rfl (by kernel_rfl) (by kernel_rfl) (by kernel_rfl) (fun _ _ _ h => absurd h.1 (by simp)) (Or.inl ⟨by rfl, ?_⟩) (by assumption) ?_
    case refine_2 => intro w hSw; obtain ⟨d1, d2, d4, z0, z1, z2, z3, kc⟩ := HCE.out _ hSw; go_simp; (try with_reducible rfl)
    simp only [Act.put, zS0, zS1, zS2]
    refine wpAnyH_take (i := 9) (oi := { dst := some 36, op := .load 3 (.tmp 4), type := 3, pos := "through.go:101", after := #[], guard := none }) (v := ?_) rfl (by kernel_rfl) (by kernel_rfl) (by kernel_rfl) (fun _ _ _ h => absurd h.1 (by simp)) (Or.inl ⟨by rfl, ?_⟩) (by assumption) ?_
    case refine_2 => intro w hSw; obtain ⟨d1, d2, d4, z0, z1, z2, z3, kc⟩ := HCE.out _ hSw; go_simp; (try with_reducible rfl)
    simp only [Act.put, zS0, zS1, zS2]
    refine wpAnyH_take (i := 10) (oi := { dst := some 37, op := .binOp .add 3 (.tmp 35) (.tmp 36) 3, type := 3, pos := "through.go:101", after := #[⟨8, .data⟩, ⟨9, .data⟩], guard := none }) (v := ?_) rfl (by kernel_rfl) (by kernel_rfl) (by kernel_rfl) (fun _ _ _ h => absurd h.1 (by simp)) (Or.inl ⟨by rfl, ?_⟩) (by assumption) ?_
    case refine_2 => intro w hSw; obtain ⟨d1, d2, d4, z0, z1, z2, z3, kc⟩ := HCE.out _ hSw; go_simp; (try with_reducible rfl)
    simp only [Act.put, zS0, zS1, zS2]
    refine wpAnyH_take (i := 11) (oi := { dst := some 38, op := .fieldAddr 64 (.tmp 7) 2, type := 0, pos := "through.go:101", after := #[], guard := none }) (v := ?_) rfl (by kernel_rfl) (by kernel_rfl) (by kernel_rfl) (fun _ _ _ h => absurd h.1 (by simp)) (Or.inl ⟨by rfl, ?_⟩) (by assumption) ?_
    case refine_2 => intro w hSw; obtain ⟨d1, d2, d4, z0, z1, z2, z3, kc⟩ := HCE.out _ hSw; go_simp; (try with_reducible rfl)
    simp only [Act.put, zS0, zS1, zS2]
    refine wpAnyH_take (i := 12) (oi := { dst := some 39, op := .load 3 (.tmp 38), type := 3, pos := "through.go:101", after := #[⟨11, .data⟩], guard := none }) (v := ?_) rfl (by kernel_rfl) (by kernel_rfl) (by kernel_rfl) (fun _ _ _ h => absurd h.1 (by simp)) (Or.inl ⟨by rfl, ?_⟩) (by assumption) ?_
    case refine_2 => intro w hSw; obtain ⟨d1, d2, d4, z0, z1, z2, z3, kc⟩ := HCE.out _ hSw; go_simp; (try with_reducible rfl)
    simp only [Act.put, zS0, zS1, zS2]
    refine wpAnyH_take (i := 13) (oi := { dst := some 40, op := .fieldAddr 64 (.tmp 7) 4, type := 0, pos := "through.go:101", after := #[], guard := none }) (v := ?_) rfl (by kernel_rfl) (by kernel_rfl) (by kernel_rfl) (fun _ _ _ h => absurd h.1 (by simp)) (Or.inl ⟨by rfl, ?_⟩) (by assumption) ?_
    case refine_2 => intro w hSw; obtain ⟨d1, d2, d4, z0, z1, z2, z3, kc⟩ := HCE.out _ hSw; go_simp; (try with_reducible rfl)
    simp only [Act.put, zS0, zS1, zS2]
    refine wpAnyH_take (i := 14) (oi := { dst := some 41, op := .load 3 (.tmp 40), type := 3, pos := "through.go:101", after := #[⟨13, .data⟩], guard := none }) (v := ?_) rfl (by kernel_rfl) (by kernel_rfl) (by kernel_rfl) (fun _ _ _ h => absurd h.1 (by simp)) (Or.inl ⟨by rfl, ?_⟩) (by assumption) ?_
    case refine_2 => intro w hSw; obtain ⟨d1, d2, d4, z0, z1, z2, z3, kc⟩ := HCE.out _ hSw; go_simp; (try with_reducible rfl)
    simp only [Act.put, zS0, zS1, zS2]
    refine wpAnyH_take (i := 15) (oi := { dst := some 42, op := .build 64 #[(0, .tmp 28), (1, .tmp 37), (2, .tmp 39), (4, .tmp 41)], type := 64, pos := "through.go:101", after := #[⟨1, .data⟩, ⟨10, .data⟩, ⟨12, .data⟩, ⟨14, .data⟩], guard := none }) (v := ?_) rfl (by kernel_rfl) (by kernel_rfl) (by kernel_rfl) (fun _ _ _ h => absurd h.1 (by simp)) (Or.inl ⟨by rfl, ?_⟩) (by assumption) ?_
    case refine_2 => intro w hSw; obtain ⟨d1, d2, d4, z0, z1, z2, z3, kc⟩ := HCE.out _ hSw; go_simp; (try with_reducible rfl)
    simp only [Act.put, zS0, zS1, zS2]
    refine wpAnyH_done (by kernel_rfl) ?_ _
    refine ⟨rfl, ?_⟩
    refine wpAnyIn_ready (rs := [16]) (by kernel_rfl) (by simp) ?_
    refine AllReadyIn.cons (o := { dst := some 43, op := .call { callee := .value (.tmp 27), args := #[.tmp 42], argTypes := #[64] }, type := 4, pos := "through.go:101", after := #[⟨0, .data⟩, ⟨15, .data⟩], guard := none }) rfl (fun K hK => ?_) AllReadyIn.nil
    go_simp
    refine RoundIn.mono HR.out ?_
    rintro e W4 ⟨rfl, O', hJ4, hk4⟩
    dsimp only
    have HJ4 : Hid (J (pre ++ [((k : Int), (z : Int), xI, 0, (xu : Int))]) O' W4) := hJ4
    have HK4 : Hid (Kept O O' V0 W4) := hk4
    clear hJ4 hk4
    refine hK _ _ ?_
    clear hK K
    refine wpAnyIn_ready (rs := [17]) (by kernel_rfl) (by simp) ?_
    refine AllReadyIn.cons (o := { dst := some 44, op := .unOp .not 4 (.tmp 43), type := 4, pos := "through.go:101", after := #[⟨16, .data⟩], guard := none }) rfl (fun K hK => ?_) AllReadyIn.nil
    go_simp
    refine hK _ _ ?_
    clear hK K
    refine wpAnyIn_done (by kernel_rfl) ?_ _
    have HB4 : Hid (Below w0.heap.size w0 W4) := HK4.out.below HBd.out HBd.out.size (fun q hq h => (HO.out _ _ _ _ HJd.out h).1 (.inl hq))
    have HX4 : Hid (Bx W4 bC bp bk bq C p k q) := HXd.kept HK4.out (fun j hj h => (HO.out _ _ _ _ HJd.out h).1 (.inr hj))
    clear hS0 HXd hbxd hrd
    gi_wp2
    go_roundw
    case rel => exact ⟨x + 1, O', by go_num, hlt, by rw [take_flat1 _ _ _ hxl, HEX.out, HON.out, ← HPR.out]; exact HJ4.out, HB4.out, HX4.out⟩
    case measure => simp [intOf]; omega
   ·have hxz : ((xs : Int) == 0) = false := by simp; omega
    have HXO : Hid (¬ (xs : Int) = 0) := by show ¬ _; omega
    obtain ⟨g, hgv⟩ : ∃ g, gs.getD (q * 61 + xs) 0 = g := ⟨_, rfl⟩
    have hgm : g < m := by rw [← hgv]; exact HCP.out.sem.lt _ (at_lt hqS hxs6)
    have HGV : Hid (G g = gr R q (xs : Int)) := by have := HCP.out.sem.val q xs hqS hxs6; rw [hgv] at this; exact this
    have HGE : Hid (gs.getD (q * 61 + xs) 0 = g) := hgv
    have hm5 : m ≤ 4801 := HCP.out.small
    have hal := (Below.refl _ wr).alloc (Nat.le_refl _) (.cells #[.int .i64 xF, .int .i64 (xt : Int), .int .i64 xI, .int .i64 (xs : Int), .int .i64 (xu : Int)] 64)
    have HBr : Hid (Below w0.heap.size w0 (wr.alloc (.cells #[.int .i64 xF, .int .i64 (xt : Int), .int .i64 xI, .int .i64 (xs : Int), .int .i64 (xu : Int)] 64))) := hBr.alloc hBr.size _
    have HBx : Hid (Bx (wr.alloc (.cells #[.int .i64 xF, .int .i64 (xt : Int), .int .i64 xI, .int .i64 (xs : Int), .int .i64 (xu : Int)] 64)) bC bp bk bq C p k q) := hbx.on hal
    obtain ⟨pre, hpre⟩ : ∃ pre, pre = ((F p).take x).flatMap (onX R SB k) := ⟨_, rfl⟩
    have HPR : Hid (pre = ((F p).take x).flatMap (onX R SB k)) := hpre
    have HJs : Hid (J pre O (wr.alloc (.cells #[.int .i64 xF, .int .i64 (xt : Int), .int .i64 xI, .int .i64 (xs : Int), .int .i64 (xu : Int)] 64))) := by show J _ _ _; rw [hpre]; exact HJ.out _ _ _ _ hJs hal
    have hbxx := heap_alloc_new wr (.cells #[.int .i64 xF, .int .i64 (xt : Int), .int .i64 xI, .int .i64 (xs : Int), .int .i64 (xu : Int)] 64)
    have HNO : Hid (¬ O wr.heap.size) := fun h => absurd (HO.out _ _ _ _ hJs h).2 (by omega)
    clear hBr hbx hal hpre hJs hgv
    gi_upto_region 5 with fail
    clear p0 p1 p2 p3 p4
    generalize hVx : wr.alloc (.cells #[.int .i64 xF, .int .i64 (xt : Int), .int .i64 xI, .int .i64 (xs : Int), .int .i64 (xu : Int)] 64) = V1 at *
    clear hVx
    generalize wr.heap.size = bx at *
    have z0 := cell_of_row _ _ 0 _ _ _ HBx.out.c
    have z1 := cell_of_row _ _ 0 _ _ _ HBx.out.p
    have z2 := cell_of_row _ _ 0 _ _ _ HBx.out.k
    have z3 := cell_of_row _ _ 0 _ _ _ HBx.out.q
    have d3 := cell_of_row _ _ 3 _ _ _ hbxx
    have kc := cell_of_row _ _ 2 _ _ _ (HCP.out.on HBr.out).row
    obtain ⟨ag, cg, hcg, hrg⟩ := HCP.out.grps.2 g hgm
    have HRW6 : Hid (Mv.Row w0 (.slice ag (G g).length cg) 5 (G g).length (acs (G g))) := hrg
    obtain ⟨ng, hng⟩ : ∃ ng, (G g).length = ng := ⟨_, rfl⟩
    have HNG : Hid ((G g).length = ng) := hng
    have hg120 : ng ≤ 120 := by rw [← hng, HGV.out]; exact Nat.le_trans (List.length_filter_le _ _) (HRO.out q hqS).1
    have HGT : Hid (∀ y ∈ G g, ∃ t u : Nat, y.2.1 = (t : Int) ∧ t < SB ∧ y.2.2.2.2 = (u : Int) ∧ u ≤ 1000000) := fun y hy => by rw [HGV.out] at hy; exact (HRO.out q hqS).2 y (mem_gr.1 hy).1
    have k8 := (HBr.out.cell (p := ⟨gb, g, none⟩) HCP.out.grps.1).trans hcg
    rw [hng] at k8
    have KG := fun (d : Nat) => group_cp HCP.out (below_drewN HBr.out d) hSB hqS hxs6 HGE.out
    clear hcg hrg hng hxz
    refine wpIn_wide.2 ?_
    go_quiet (first | (go_at_call 95; exact Calls.quiet_of_same (KG _)))
    have HBr : Hid (Below w0.heap.size w0 (V1.drewN nq)) := below_drewN HBr.out nq
    have HBx : Hid (Bx (V1.drewN nq) bC bp bk bq C p k q) := ⟨HBx.out.c, HBx.out.p, HBx.out.k, HBx.out.q⟩
    have HJs : Hid (J pre O (V1.drewN nq)) := HJ.out _ _ _ _ HJs.out (below_drewN (Below.refl _ _) nq)
    have HBB : Hid ((V1.drewN nq).heap[bx]? = some (.cells #[.int .i64 xF, .int .i64 (xt : Int), .int .i64 xI, .int .i64 (xs : Int), .int .i64 (xu : Int)] 64 (0, 0))) := hbxx
    clear z0 z1 z2 z3 d3 kc k8 KG hbxx
    generalize hVq : V1.drewN nq = V2 at *
    clear hVq
    have HXY : Hid (onX R SB k (xF, (xt : Int), xI, (xs : Int), (xu : Int)) = (G g).map (fX SB k (xF, (xt : Int), xI, (xs : Int), (xu : Int)))) := by
     show _ = _
     unfold onX
     rw [if_neg HXO.out, HPQ.out.2, HGV.out]
    gi_wp2
    gi_loopw [57] (fun i wr => ∃ (y : Nat) (O : Nat → Prop), i = .int .i64 y ∧ y ≤ ng ∧ J (pre ++ ((G g).take y).map (fX SB k (xF, (xt : Int), xI, (xs : Int), (xu : Int)))) O wr ∧ Below w0.heap.size w0 wr ∧ Bx wr bC bp bk bq C p k q ∧ wr.heap[bx]? = some (.cells #[.int .i64 xF, .int .i64 (xt : Int), .int .i64 xI, .int .i64 (xs : Int), .int .i64 (xu : Int)] 64 (0, 0)) ∧ ¬ O bx) (fun i _ => ng - (intOf i).toNat)
    case atStart => exact ⟨0, O, rfl, Nat.zero_le _, by simpa using HJs.out, HBr.out, HBx.out, HBB.out, HNO.out⟩
    case round =>
     clear HBr HBx HJs HBB HNO
     obtain ⟨y, O, rfl, hy, hJs, hBr, hbx, hbb, hno⟩ := hrel
     by_cases hlty : y < ng
     ·have hyl : y < (G g).length := by rw [HNG.out]; exact hlty
      obtain ⟨yb, yo, rfl, p0, p1, p2, p3, p4⟩ := row_at HRW6.out hBr hyl
      obtain ⟨yt, yu, hyt, hyS, hyu, hyu6⟩ := HGT.out _ (List.getElem_mem hyl)
      obtain ⟨yF, yT, yI, yO, yW, ey⟩ : ∃ f t i1 o1 z, (G g)[y] = (f, t, i1, o1, z) := ⟨_, _, _, _, _, rfl⟩
      rw [ey] at p0 p1 p2 p3 p4 hyt hyu
      dsimp only at hyt hyu
      subst hyt hyu
      dsimp only at p0 p1 p2 p3 p4
      have HEY : Hid ((G g)[y] = (yF, (yt : Int), yI, yO, (yu : Int))) := ey
      clear ey
      obtain ⟨TM, htm⟩ : ∃ TM, TM = xt * SB := ⟨_, rfl⟩
      obtain ⟨z, hz⟩ : ∃ z, z = xt * SB + yt := ⟨_, rfl⟩
      have hz6 : z ≤ 1600 := by rw [hz]; exact Nat.le_of_lt (Nat.lt_of_lt_of_le (pair_lt hxS hyS) (Nat.le_trans (Nat.mul_le_mul hSA hSB) (by decide)))
      obtain ⟨wm1, wm2⟩ := wrap_mul htm (by omega)
      obtain ⟨ws1, ws2⟩ := wrap_sum (show z = TM + yt by rw [htm, hz]) (by omega)
      obtain ⟨uu, huu⟩ : ∃ uu, uu = xu + yu := ⟨_, rfl⟩
      have hu2 : IntKind.i64.wrap ((xu : Int) + (yu : Int)) = (uu : Int) := by rw [IntKind.wrap_i64]; omega
      have hu1 : wrap64 ((xu : Int) + (yu : Int)) = (uu : Int) := by unfold wrap64; omega
      have HFX : Hid (fX SB k (xF, (xt : Int), xI, (xs : Int), (xu : Int)) (yF, (yt : Int), yI, yO, (yu : Int)) = ((k : Int), (z : Int), xI, yO, (uu : Int))) := by show _ = _; simp [fX, hz, huu]
      obtain ⟨pr, hpr⟩ : ∃ pr, pr = pre ++ ((G g).take y).map (fX SB k (xF, (xt : Int), xI, (xs : Int), (xu : Int))) := ⟨_, rfl⟩
      have HPY : Hid (pr = pre ++ ((G g).take y).map (fX SB k (xF, (xt : Int), xI, (xs : Int), (xu : Int)))) := hpr
      rw [← hpr] at hJs
      have hL : pr ++ [((k : Int), (z : Int), xI, yO, (uu : Int))] <+: arcsP F R SB k := by
       rw [HAP.out]
       refine pre_ok (a := ((G g).take y).map (fX SB k (xF, (xt : Int), xI, (xs : Int), (xu : Int)))) (r := ((G g).drop (y + 1)).map (fX SB k (xF, (xt : Int), xI, (xs : Int), (xu : Int)))) hxl (by rw [hpr, HPR.out]) ?_
       rw [HEX.out, HXY.out, ← HFX.out, ← HEY.out]
       conv => lhs; rw [← List.take_append_drop y (G g), List.drop_eq_getElem_cons hyl, List.map_append, List.map_cons]
       simp
      have hal := (Below.refl _ wr).alloc (Nat.le_refl _) (.cells #[.int .i64 yF, .int .i64 (yt : Int), .int .i64 yI, .int .i64 yO, .int .i64 (yu : Int)] 64)
      have HBr : Hid (Below w0.heap.size w0 (wr.alloc (.cells #[.int .i64 yF, .int .i64 (yt : Int), .int .i64 yI, .int .i64 yO, .int .i64 (yu : Int)] 64))) := hBr.alloc hBr.size _
      have HBx : Hid (Bx (wr.alloc (.cells #[.int .i64 yF, .int .i64 (yt : Int), .int .i64 yI, .int .i64 yO, .int .i64 (yu : Int)] 64)) bC bp bk bq C p k q) := hbx.on hal
      have HJs : Hid (J pr O (wr.alloc (.cells #[.int .i64 yF, .int .i64 (yt : Int), .int .i64 yI, .int .i64 yO, .int .i64 (yu : Int)] 64))) := HJ.out _ _ _ _ hJs hal
      have hbxx := (heap_alloc_old wr (.cells #[.int .i64 yF, .int .i64 (yt : Int), .int .i64 yI, .int .i64 yO, .int .i64 (yu : Int)] 64) (lt_at hbb)).trans hbb
      have hbyy := heap_alloc_new wr (.cells #[.int .i64 yF, .int .i64 (yt : Int), .int .i64 yI, .int .i64 yO, .int .i64 (yu : Int)] 64)
      have HNO : Hid (¬ O bx) := hno
      clear hBr hbx hal hpr hJs hbb hno htm hz huu
      gi_upto_region 8 with fail
      clear p0 p1 p2 p3 p4
      generalize hVx : wr.alloc (.cells #[.int .i64 yF, .int .i64 (yt : Int), .int .i64 yI, .int .i64 yO, .int .i64 (yu : Int)] 64) = V1 at *
      clear hVx
      generalize wr.heap.size = by_ at *
      have HJd : Hid (J pr O V1.drew) := HJ.out _ _ _ _ HJs.out (Below.refl _ V1).drew
      have HBd : Hid (Below w0.heap.size w0 V1.drew) := HBr.out.drew
      have HXd : Bx V1.drew bC bp bk bq C p k q := ⟨HBx.out.c, HBx.out.p, HBx.out.k, HBx.out.q⟩
      have hbxd : V1.drew.heap[bx]? = _ := hbxx
      have hbyd : V1.drew.heap[by_]? = _ := hbyy
      have hrd := (HCP.out.on HBd.out).row
      clear HJs HBr HBx hbxx hbyy
      have HCE : Hid _ := fun (W : World) (hSw : W.heap[bx]? = some (.cells #[.int .i64 xF, .int .i64 (xt : Int), .int .i64 xI, .int .i64 (xs : Int), .int .i64 (xu : Int)] 64 (0, 0)) ∧ W.heap[by_]? = some (.cells #[.int .i64 yF, .int .i64 (yt : Int), .int .i64 yI, .int .i64 yO, .int .i64 (yu : Int)] 64 (0, 0)) ∧ Bx W bC bp bk bq C p k q ∧ W.heap[C]? = some (.cells #[.int .i64 (SB : Int), .slice (some ⟨fb, 0, none⟩) SA SA, .slice (some ⟨gb, 0, none⟩) m gc, .slice (some ⟨nb, 0, none⟩) (SB * 61) (SB * 61)] 129 (0, 0))) => (And.intro (cell_of_row _ _ 1 _ _ _ hSw.1) (And.intro (cell_of_row _ _ 2 _ _ _ hSw.1) (And.intro (cell_of_row _ _ 4 _ _ _ hSw.1) (And.intro (cell_of_row _ _ 1 _ _ _ hSw.2.1) (And.intro (cell_of_row _ _ 3 _ _ _ hSw.2.1) (And.intro (cell_of_row _ _ 4 _ _ _ hSw.2.1) (And.intro (cell_of_row _ _ 0 _ _ _ hSw.2.2.1.c) (And.intro (cell_of_row _ _ 0 _ _ _ hSw.2.2.1.p) (And.intro (cell_of_row _ _ 0 _ _ _ hSw.2.2.1.k) (And.intro (cell_of_row _ _ 0 _ _ _ hSw.2.2.1.q) (cell_of_row _ _ 0 _ _ _ hSw.2.2.2)))))))))))
      refine Ry.region_y (S := fun W => W.heap[bx]? = some (.cells #[.int .i64 xF, .int .i64 (xt : Int), .int .i64 xI, .int .i64 (xs : Int), .int .i64 (xu : Int)] 64 (0, 0)) ∧ W.heap[by_]? = some (.cells #[.int .i64 yF, .int .i64 (yt : Int), .int .i64 yI, .int .i64 yO, .int .i64 (yu : Int)] 64 (0, 0)) ∧ Bx W bC bp bk bq C p k q ∧ W.heap[C]? = some (.cells #[.int .i64 (SB : Int), .slice (some ⟨fb, 0, none⟩) SA SA, .slice (some ⟨gb, 0, none⟩) m gc, .slice (some ⟨nb, 0, none⟩) (SB * 61) (SB * 61)] 129 (0, 0))) 22 (by kernel_rfl) rfl (by kernel_rfl) (by kernel_rfl) (by kernel_rfl) (by kernel_rfl) (by exact ⟨hbxd, hbyd, HXd, hrd⟩) (fun hHeld => ?_)
      have hS0 := hHeld
      generalize hVd : V1.drew = V0 at *
      clear hVd
      obtain ⟨fn, tmps, assign, body, hy, hR⟩ := HYY.out pr O ((k : Int), (z : Int), xI, yO, (uu : Int)) V0 HJd.out hL
      dsimp only [encA] at hy
      have HR : Hid (RoundIn Fence.wide (n - 1) Tryd.prog l fn tmps assign body V0 _) := hR
      clear hR hL
      refine wpAnyH_take (i := 0) (oi := { dst := some 61, op := .move (.tmp 0), type := 187, pos := "through.go:107", after := #[], guard := none }) (v := ?_) rfl (by kernel_rfl) (by kernel_rfl) (by kernel_rfl) (fun _ _ _ h => absurd h.1 (by simp)) (Or.inl ⟨by rfl, ?_⟩) (by assumption) ?_
      case refine_2 => intro w hSw; obtain ⟨d1, d2, d4, e1, e3, e4, z0, z1, z2, z3, kc⟩ := HCE.out _ hSw; go_simp; (try with_reducible rfl)
      simp only [Act.put, zS0, zS1, zS2]
      refine wpAnyH_take (i := 1) (oi := { dst := some 62, op := .load 3 (.tmp 3), type := 3, pos := "through.go:107", after := #[], guard := none }) (v := ?_) rfl (by kernel_rfl) (by kernel_rfl) (by kernel_rfl) (fun _ _ _ h => absurd h.1 (by simp)) (Or.inl ⟨by rfl, ?_⟩) (by assumption) ?_
      case refine_2 => intro w hSw; obtain ⟨d1, d2, d4, e1, e3, e4, z0, z1, z2, z3, kc⟩ := HCE.out _ hSw; go_simp; (try with_reducible rfl)
      simp only [Act.put, zS0, zS1, zS2]
      refine wpAnyH_take (i := 2) (oi := { dst := some 63, op := .fieldAddr 64 (.tmp 7) 1, type := 0, pos := "through.go:107", after := #[], guard := none }) (v := ?_) rfl (by kernel_rfl) (by kernel_rfl) (by kernel_rfl) (fun _ _ _ h => absurd h.1 (by simp)) (Or.inl ⟨by rfl, ?_⟩) (by assumption) ?_
      case refine_2 => intro w hSw; obtain ⟨d1, d2, d4, e1, e3, e4, z0, z1, z2, z3, kc⟩ := HCE.out _ hSw; go_simp; (try with_reducible rfl)
      simp only [Act.put, zS0, zS1, zS2]
      refine wpAnyH_take (i := 3) (oi := { dst := some 64, op := .load 3 (.tmp 63), type := 3, pos := "through.go:107", after := #[⟨2, .data⟩], guard := none }) (v := ?_) rfl (by kernel_rfl) (by kernel_rfl) (by kernel_rfl) (fun _ _ _ h => absurd h.1 (by simp)) (Or.inl ⟨by rfl, ?_⟩) (by assumption) ?_
      case refine_2 => intro w hSw; obtain ⟨d1, d2, d4, e1, e3, e4, z0, z1, z2, z3, kc⟩ := HCE.out _ hSw; go_simp; (try with_reducible rfl)
      simp only [Act.put, zS0, zS1, zS2]
      refine wpAnyH_take (i := 4) (oi := { dst := some 65, op := .load 71 (.tmp 1), type := 71, pos := "through.go:107", after := #[], guard := none }) (v := ?_) rfl (by kernel_rfl) (by kernel_rfl) (by kernel_rfl) (fun _ _ _ h => absurd h.1 (by simp)) (Or.inl ⟨by rfl, ?_⟩) (by assumption) ?_
      case refine_2 => intro w hSw; obtain ⟨d1, d2, d4, e1, e3, e4, z0, z1, z2, z3, kc⟩ := HCE.out _ hSw; go_simp; (try with_reducible rfl)
      simp only [Act.put, zS0, zS1, zS2]
      refine wpAnyH_take (i := 5) (oi := { dst := some 66, op := .nilCheck (.tmp 65), type := 0, pos := "through.go:107", after := #[⟨4, .data⟩], guard := none }) (v := ?_) rfl (by kernel_rfl) (by kernel_rfl) (by kernel_rfl) (fun _ _ _ h => absurd h.1 (by simp)) (Or.inl ⟨by rfl, ?_⟩) (by assumption) ?_
      case refine_2 => intro w hSw; obtain ⟨d1, d2, d4, e1, e3, e4, z0, z1, z2, z3, kc⟩ := HCE.out _ hSw; go_simp; (try with_reducible rfl)
      simp only [Act.put, zS0, zS1, zS2]
      refine wpAnyH_take (i := 6) (oi := { dst := some 67, op := .fieldAddr 129 (.tmp 66) 0, type := 0, pos := "through.go:107", after := #[⟨5, .data⟩], guard := none }) (v := ?_) rfl (by kernel_rfl) (by kernel_rfl) (by kernel_rfl) (fun _ _ _ h => absurd h.1 (by simp)) (Or.inl ⟨by rfl, ?_⟩) (by assumption) ?_
      case refine_2 => intro w hSw; obtain ⟨d1, d2, d4, e1, e3, e4, z0, z1, z2, z3, kc⟩ := HCE.out _ hSw; go_simp; (try with_reducible rfl)
      simp only [Act.put, zS0, zS1, zS2]
      refine wpAnyH_take (i := 7) (oi := { dst := some 68, op := .load 3 (.tmp 67), type := 3, pos := "through.go:107", after := #[⟨6, .data⟩], guard := none }) (v := ?_) rfl (by kernel_rfl) (by kernel_rfl) (by kernel_rfl) (fun _ _ _ h => absurd h.1 (by simp)) (Or.inl ⟨by rfl, ?_⟩) (by assumption) ?_
      case refine_2 => intro w hSw; obtain ⟨d1, d2, d4, e1, e3, e4, z0, z1, z2, z3, kc⟩ := HCE.out _ hSw; go_simp; (try with_reducible rfl)
      simp only [Act.put, zS0, zS1, zS2]
      refine wpAnyH_take (i := 8) (oi := { dst := some 69, op := .binOp .mul 3 (.tmp 64) (.tmp 68) 3, type := 3, pos := "through.go:107", after := #[⟨3, .data⟩, ⟨7, .data⟩], guard := none }) (v := ?_) rfl (by kernel_rfl) (by kernel_rfl) (by kernel_rfl) (fun _ _ _ h => absurd h.1 (by simp)) (Or.inl ⟨by rfl, ?_⟩) (by assumption) ?_
      case refine_2 => intro w hSw; obtain ⟨d1, d2, d4, e1, e3, e4, z0, z1, z2, z3, kc⟩ := HCE.out _ hSw; go_simp; (try with_reducible rfl)
      simp only [Act.put, zS0, zS1, zS2]
      refine wpAnyH_take (i := 9) (oi := { dst := some 70, op := .fieldAddr 64 (.tmp 9) 1, type := 0, pos := "through.go:107", after := #[], guard := none }) (v := ?_) rfl (by kernel_rfl) (by kernel_rfl) (by kernel_rfl) (fun _ _ _ h => absurd h.1 (by simp)) (Or.inl ⟨by rfl, ?_⟩) (by assumption) ?_
      case refine_2 => intro w hSw; obtain ⟨d1, d2, d4, e1, e3, e4, z0, z1, z2, z3, kc⟩ := HCE.out _ hSw; go_simp; (try with_reducible rfl)
      simp only [Act.put, zS0, zS1, zS2]
      refine wpAnyH_take (i := 10) (oi := { dst := some 71, op := .load 3 (.tmp 70), type := 3, pos := "through.go:107", after := #[⟨9, .data⟩], guard := none }) (v := ?_) rfl (by kernel_rfl) (by kernel_rfl) (by kernel_rfl) (fun _ _ _ h => absurd h.1 (by simp)) (Or.inl ⟨by rfl, ?_⟩) (by assumption) ?_
      case refine_2 => intro w hSw; obtain ⟨d1, d2, d4, e1, e3, e4, z0, z1, z2, z3, kc⟩ := HCE.out _ hSw; go_simp; (try with_reducible rfl)
      simp only [Act.put, zS0, zS1, zS2]
      refine wpAnyH_take (i := 11) (oi := { dst := some 72, op := .binOp .add 3 (.tmp 69) (.tmp 71) 3, type := 3, pos := "through.go:107", after := #[⟨8, .data⟩, ⟨10, .data⟩], guard := none }) (v := ?_) rfl (by kernel_rfl) (by kernel_rfl) (by kernel_rfl) (fun _ _ _ h => absurd h.1 (by simp)) (Or.inl ⟨by rfl, ?_⟩) (by assumption) ?_
      case refine_2 => intro w hSw; obtain ⟨d1, d2, d4, e1, e3, e4, z0, z1, z2, z3, kc⟩ := HCE.out _ hSw; go_simp; (try with_reducible rfl)
      simp only [Act.put, zS0, zS1, zS2]
      refine wpAnyH_take (i := 12) (oi := { dst := some 73, op := .fieldAddr 64 (.tmp 7) 2, type := 0, pos := "through.go:107", after := #[], guard := none }) (v := ?_) rfl (by kernel_rfl) (by kernel_rfl) (by kernel_rfl) (fun _ _ _ h => absurd h.1 (by simp)) (Or.inl ⟨by rfl, ?_⟩) (by assumption) ?_
      case refine_2 => intro w hSw; obtain ⟨d1, d2, d4, e1, e3, e4, z0, z1, z2, z3, kc⟩ := HCE.out _ hSw; go_simp; (try with_reducible rfl)
      simp only [Act.put, zS0, zS1, zS2]
      refine wpAnyH_take (i := 13) (oi := { dst := some 74, op := .load 3 (.tmp 73), type := 3, pos := "through.go:107", after := #[⟨12, .data⟩], guard := none }) (v := ?_) rfl (by kernel_rfl) (by kernel_rfl) (by kernel_rfl) (fun _ _ _ h => absurd h.1 (by simp)) (Or.inl ⟨by rfl, ?_⟩) (by assumption) ?_
      case refine_2 => intro w hSw; obtain ⟨d1, d2, d4, e1, e3, e4, z0, z1, z2, z3, kc⟩ := HCE.out _ hSw; go_simp; (try with_reducible rfl)
      simp only [Act.put, zS0, zS1, zS2]
      refine wpAnyH_take (i := 14) (oi := { dst := some 75, op := .fieldAddr 64 (.tmp 9) 3, type := 0, pos := "through.go:107", after := #[], guard := none }) (v := ?_) rfl (by kernel_rfl) (by kernel_rfl) (by kernel_rfl) (fun _ _ _ h => absurd h.1 (by simp)) (Or.inl ⟨by rfl, ?_⟩) (by assumption) ?_
      case refine_2 => intro w hSw; obtain ⟨d1, d2, d4, e1, e3, e4, z0, z1, z2, z3, kc⟩ := HCE.out _ hSw; go_simp; (try with_reducible rfl)
      simp only [Act.put, zS0, zS1, zS2]
      refine wpAnyH_take (i := 15) (oi := { dst := some 76, op := .load 3 (.tmp 75), type := 3, pos := "through.go:107", after := #[⟨14, .data⟩], guard := none }) (v := ?_) rfl (by kernel_rfl) (by kernel_rfl) (by kernel_rfl) (fun _ _ _ h => absurd h.1 (by simp)) (Or.inl ⟨by rfl, ?_⟩) (by assumption) ?_
      case refine_2 => intro w hSw; obtain ⟨d1, d2, d4, e1, e3, e4, z0, z1, z2, z3, kc⟩ := HCE.out _ hSw; go_simp; (try with_reducible rfl)
      simp only [Act.put, zS0, zS1, zS2]
      refine wpAnyH_take (i := 16) (oi := { dst := some 77, op := .fieldAddr 64 (.tmp 7) 4, type := 0, pos := "through.go:107", after := #[], guard := none }) (v := ?_) rfl (by kernel_rfl) (by kernel_rfl) (by kernel_rfl) (fun _ _ _ h => absurd h.1 (by simp)) (Or.inl ⟨by rfl, ?_⟩) (by assumption) ?_
      case refine_2 => intro w hSw; obtain ⟨d1, d2, d4, e1, e3, e4, z0, z1, z2, z3, kc⟩ := HCE.out _ hSw; go_simp; (try with_reducible rfl)
      simp only [Act.put, zS0, zS1, zS2]
      refine wpAnyH_take (i := 17) (oi := { dst := some 78, op := .load 3 (.tmp 77), type := 3, pos := "through.go:107", after := #[⟨16, .data⟩], guard := none }) (v := ?_) rfl (by kernel_rfl) (by kernel_rfl) (by kernel_rfl) (fun _ _ _ h => absurd h.1 (by simp)) (Or.inl ⟨by rfl, ?_⟩) (by assumption) ?_
      case refine_2 => intro w hSw; obtain ⟨d1, d2, d4, e1, e3, e4, z0, z1, z2, z3, kc⟩ := HCE.out _ hSw; go_simp; (try with_reducible rfl)
      simp only [Act.put, zS0, zS1, zS2]
      refine wpAnyH_take (i := 18) (oi := { dst := some 79, op := .fieldAddr 64 (.tmp 9) 4, type := 0, pos := "through.go:107", after := #[], guard := none }) (v := ?_) rfl (by kernel_rfl) (by kernel_rfl) (by kernel_rfl) (fun _ _ _ h => absurd h.1 (by simp)) (Or.inl ⟨by rfl, ?_⟩) (by assumption) ?_
      case refine_2 => intro w hSw; obtain ⟨d1, d2, d4, e1, e3, e4, z0, z1, z2, z3, kc⟩ := HCE.out _ hSw; go_simp; (try with_reducible rfl)
      simp only [Act.put, zS0, zS1, zS2]
      refine wpAnyH_take (i := 19) (oi := { dst := some 80, op := .load 3 (.tmp 79), type := 3, pos := "through.go:107", after := #[⟨18, .data⟩], guard := none }) (v := ?_) rfl (by kernel_rfl) (by kernel_rfl) (by kernel_rfl) (fun _ _ _ h => absurd h.1 (by simp)) (Or.inl ⟨by rfl, ?_⟩) (by assumption) ?_
      case refine_2 => intro w hSw; obtain ⟨d1, d2, d4, e1, e3, e4, z0, z1, z2, z3, kc⟩ := HCE.out _ hSw; go_simp; (try with_reducible rfl)
      simp only [Act.put, zS0, zS1, zS2]
      refine wpAnyH_take (i := 20) (oi := { dst := some 81, op := .binOp .add 3 (.tmp 78) (.tmp 80) 3, type := 3, pos := "through.go:107", after := #[⟨17, .data⟩, ⟨19, .data⟩], guard := none }) (v := ?_) rfl (by kernel_rfl) (by kernel_rfl) (by kernel_rfl) (fun _ _ _ h => absurd h.1 (by simp)) (Or.inl ⟨by rfl, ?_⟩) (by assumption) ?_
      case refine_2 => intro w hSw; obtain ⟨d1, d2, d4, e1, e3, e4, z0, z1, z2, z3, kc⟩ := HCE.out _ hSw; go_simp; (try with_reducible rfl)
      simp only [Act.put, zS0, zS1, zS2]
      refine wpAnyH_take (i := 21) (oi := { dst := some 82, op := .build 64 #[(0, .tmp 62), (1, .tmp 72), (2, .tmp 74), (3, .tmp 76), (4, .tmp 81)], type := 64, pos := "through.go:107", after := #[⟨1, .data⟩, ⟨11, .data⟩, ⟨13, .data⟩, ⟨15, .data⟩, ⟨20, .data⟩], guard := none }) (v := ?_) rfl (by kernel_rfl) (by kernel_rfl) (by kernel_rfl) (fun _ _ _ h => absurd h.1 (by simp)) (Or.inl ⟨by rfl, ?_⟩) (by assumption) ?_
      case refine_2 => intro w hSw; obtain ⟨d1, d2, d4, e1, e3, e4, z0, z1, z2, z3, kc⟩ := HCE.out _ hSw; go_simp; (try with_reducible rfl)
      simp only [Act.put, zS0, zS1, zS2]
      refine wpAnyH_done (by kernel_rfl) ?_ _
      refine ⟨rfl, ?_⟩
      refine wpAnyIn_ready (rs := [22]) (by kernel_rfl) (by simp) ?_
      refine AllReadyIn.cons (o := { dst := some 83, op := .call { callee := .value (.tmp 61), args := #[.tmp 82], argTypes := #[64] }, type := 4, pos := "through.go:107", after := #[⟨0, .data⟩, ⟨21, .data⟩], guard := none }) rfl (fun K hK => ?_) AllReadyIn.nil
      go_simp
      refine RoundIn.mono HR.out ?_
      rintro e W4 ⟨rfl, O', hJ4, hk4⟩
      dsimp only
      have HJ4 : Hid (J (pr ++ [((k : Int), (z : Int), xI, yO, (uu : Int))]) O' W4) := hJ4
      have HK4 : Hid (Kept O O' V0 W4) := hk4
      clear hJ4 hk4
      refine hK _ _ ?_
      clear hK K
      refine wpAnyIn_ready (rs := [23]) (by kernel_rfl) (by simp) ?_
      refine AllReadyIn.cons (o := { dst := some 84, op := .unOp .not 4 (.tmp 83), type := 4, pos := "through.go:107", after := #[⟨22, .data⟩], guard := none }) rfl (fun K hK => ?_) AllReadyIn.nil
      go_simp
      refine hK _ _ ?_
      clear hK K
      refine wpAnyIn_done (by kernel_rfl) ?_ _
      have HB4 : Hid (Below w0.heap.size w0 W4) := HK4.out.below HBd.out HBd.out.size (fun q hq h => (HO.out _ _ _ _ HJd.out h).1 (.inl hq))
      have HX4 : Hid (Bx W4 bC bp bk bq C p k q) := HXd.kept HK4.out (fun j hj h => (HO.out _ _ _ _ HJd.out h).1 (.inr hj))
      have HC4 := HK4.out.block bx (lt_at hbxd) HNO.out
      have HY4 : Hid (W4.heap[bx]? = some (.cells #[.int .i64 xF, .int .i64 (xt : Int), .int .i64 xI, .int .i64 (xs : Int), .int .i64 (xu : Int)] 64 (0, 0))) := HC4.2.trans hbxd
      have HN4 : Hid (¬ O' bx) := HC4.1
      clear hS0 HXd hbxd hbyd hrd HC4
      gi_wp2
      go_roundw
      case rel => exact ⟨y + 1, O', by go_num, hlty, by rw [take_map1 _ _ _ hyl, HEY.out, HFX.out, ← List.append_assoc, ← HPY.out]; exact HJ4.out, HB4.out, HX4.out, HY4.out, HN4.out⟩
      case measure => simp [intOf]; omega
     ·obtain rfl : y = ng := by omega
      have HJ5 : Hid (J (((F p).take (x + 1)).flatMap (onX R SB k)) O wr) := by
       show J _ _ _
       rw [take_flat1 _ _ _ hxl, HEX.out, HXY.out, ← HPR.out]
       rw [← HNG.out, List.take_length] at hJs
       exact hJs
      have HB5 : Hid (Below w0.heap.size w0 wr) := hBr
      have HX5 : Hid (Bx wr bC bp bk bq C p k q) := hbx
      clear hJs hBr hbx hbb hno
      gi_wp2
      go_roundw
      case rel => exact ⟨x + 1, O, by go_num, hlt, HJ5.out, HB5.out, HX5.out⟩
      case measure => simp [intOf]; omega
  ·obtain rfl : x = np := by omega
   obtain ⟨pre, hpre⟩ : ∃ pre, pre = (F p).flatMap (onX R SB k) := ⟨_, rfl⟩
   have HPR : Hid (pre = (F p).flatMap (onX R SB k)) := hpre
   rw [← HNP.out, List.take_length, ← hpre] at hJs
   have HJs : Hid (J pre O wr) := hJs
   have HBr : Hid (Below w0.heap.size w0 wr) := hBr
   have HBx : Hid (Bx wr bC bp bk bq C p k q) := hbx
   obtain ⟨g, hgv⟩ : ∃ g, gs.getD (q * 61 + 0) 0 = g := ⟨_, rfl⟩
   have hgm : g < m := by rw [← hgv]; exact HCP.out.sem.lt _ (at_lt hqS (Nat.zero_le 60))
   have HGV : Hid (G g = gr R q 0) := by have := HCP.out.sem.val q 0 hqS (Nat.zero_le 60); rw [hgv] at this; exact this
   have HGE : Hid (gs.getD (q * 61 + 0) 0 = g) := hgv
   have hm5 : m ≤ 4801 := HCP.out.small
   clear hJs hBr hbx hpre hgv
   have z0 := cell_of_row _ _ 0 _ _ _ HBx.out.c
   have z3 := cell_of_row _ _ 0 _ _ _ HBx.out.q
   have kc := cell_of_row _ _ 2 _ _ _ (HCP.out.on HBr.out).row
   obtain ⟨ag, cg, hcg, hrg⟩ := HCP.out.grps.2 g hgm
   have HRW6 : Hid (Mv.Row w0 (.slice ag (G g).length cg) 5 (G g).length (acs (G g))) := hrg
   obtain ⟨ng, hng⟩ : ∃ ng, (G g).length = ng := ⟨_, rfl⟩
   have HNG : Hid ((G g).length = ng) := hng
   have hg120 : ng ≤ 120 := by rw [← hng, HGV.out]; exact Nat.le_trans (List.length_filter_le _ _) (HRO.out q hqS).1
   have HGT : Hid (∀ y ∈ G g, ∃ t u : Nat, y.2.1 = (t : Int) ∧ t < SB ∧ y.2.2.2.2 = (u : Int) ∧ u ≤ 1000000) := fun y hy => by rw [HGV.out] at hy; exact (HRO.out q hqS).2 y (mem_gr.1 hy).1
   have k8 := (HBr.out.cell (p := ⟨gb, g, none⟩) HCP.out.grps.1).trans hcg
   rw [hng] at k8
   have KG := fun (d : Nat) => group_cp HCP.out (below_drewN HBr.out d) hSB hqS (Nat.zero_le 60) HGE.out
   rw [show ((0 : Nat) : Int) = 0 from rfl] at KG
   clear hcg hrg hng
   gi_upto_region 11 with fail
   refine wpIn_wide.2 ?_
   go_quiet (first | (go_at_call 95; exact Calls.quiet_of_same (KG _)))
   have HBr : Hid (Below w0.heap.size w0 (wr.drewN nq)) := below_drewN HBr.out nq
   have HBx : Hid (Bx (wr.drewN nq) bC bp bk bq C p k q) := ⟨HBx.out.c, HBx.out.p, HBx.out.k, HBx.out.q⟩
   have HJs : Hid (J pre O (wr.drewN nq)) := HJ.out _ _ _ _ HJs.out (below_drewN (Below.refl _ _) nq)
   clear z0 z3 kc k8 KG
   generalize hVq : wr.drewN nq = V2 at *
   clear hVq
   gi_wp2
   gi_loopw [97] (fun i wr => ∃ (y : Nat) (O : Nat → Prop), i = .int .i64 y ∧ y ≤ ng ∧ J (pre ++ ((G g).take y).map (fB SB k)) O wr ∧ Below w0.heap.size w0 wr ∧ Bx wr bC bp bk bq C p k q) (fun i _ => ng - (intOf i).toNat)
   case atStart => exact ⟨0, O, rfl, Nat.zero_le _, by simpa using HJs.out, HBr.out, HBx.out⟩
   case round =>
    clear HBr HBx HJs
    obtain ⟨y, O, rfl, hy, hJs, hBr, hbx⟩ := hrel
    by_cases hlty : y < ng
    ·have hyl : y < (G g).length := by rw [HNG.out]; exact hlty
     obtain ⟨yb, yo, rfl, p0, p1, p2, p3, p4⟩ := row_at HRW6.out hBr hyl
     obtain ⟨yt, yu, hyt, hyS, hyu, hyu6⟩ := HGT.out _ (List.getElem_mem hyl)
     obtain ⟨yF, yT, yI, yO, yW, ey⟩ : ∃ f t i1 o1 z, (G g)[y] = (f, t, i1, o1, z) := ⟨_, _, _, _, _, rfl⟩
     rw [ey] at p0 p1 p2 p3 p4 hyt hyu
     dsimp only at hyt hyu
     subst hyt hyu
     dsimp only at p0 p1 p2 p3 p4
     have HEY : Hid ((G g)[y] = (yF, (yt : Int), yI, yO, (yu : Int))) := ey
     clear ey
     obtain ⟨TM, htm⟩ : ∃ TM, TM = p * SB := ⟨_, rfl⟩
     obtain ⟨z, hz⟩ : ∃ z, z = p * SB + yt := ⟨_, rfl⟩
     have hz6 : z ≤ 1600 := by rw [hz]; exact Nat.le_of_lt (Nat.lt_of_lt_of_le (pair_lt hpS hyS) (Nat.le_trans (Nat.mul_le_mul hSA hSB) (by decide)))
     obtain ⟨wm1, wm2⟩ := wrap_mul htm (by omega)
     obtain ⟨ws1, ws2⟩ := wrap_sum (show z = TM + yt by rw [htm, hz]) (by omega)
     have HFX : Hid (fB SB k (yF, (yt : Int), yI, yO, (yu : Int)) = ((k : Int), (z : Int), 0, yO, (yu : Int))) := by show _ = _; simp [fB, hz, HPQ.out.1]
     obtain ⟨pr, hpr⟩ : ∃ pr, pr = pre ++ ((G g).take y).map (fB SB k) := ⟨_, rfl⟩
     have HPY : Hid (pr = pre ++ ((G g).take y).map (fB SB k)) := hpr
     rw [← hpr] at hJs
     have hL : pr ++ [((k : Int), (z : Int), 0, yO, (yu : Int))] <+: arcsP F R SB k := by
      rw [HAP.out, hpr, HPR.out, ← HFX.out, ← HEY.out, ← HGV.out]
      refine ⟨((G g).drop (y + 1)).map (fB SB k), ?_⟩
      conv => rhs; rw [← List.take_append_drop y (G g), List.drop_eq_getElem_cons hyl, List.map_append, List.map_cons]
      simp
     have hal := (Below.refl _ wr).alloc (Nat.le_refl _) (.cells #[.int .i64 yF, .int .i64 (yt : Int), .int .i64 yI, .int .i64 yO, .int .i64 (yu : Int)] 64)
     have HBr : Hid (Below w0.heap.size w0 (wr.alloc (.cells #[.int .i64 yF, .int .i64 (yt : Int), .int .i64 yI, .int .i64 yO, .int .i64 (yu : Int)] 64))) := hBr.alloc hBr.size _
     have HBx : Hid (Bx (wr.alloc (.cells #[.int .i64 yF, .int .i64 (yt : Int), .int .i64 yI, .int .i64 yO, .int .i64 (yu : Int)] 64)) bC bp bk bq C p k q) := hbx.on hal
     have HJs : Hid (J pr O (wr.alloc (.cells #[.int .i64 yF, .int .i64 (yt : Int), .int .i64 yI, .int .i64 yO, .int .i64 (yu : Int)] 64))) := HJ.out _ _ _ _ hJs hal
     have hbyy := heap_alloc_new wr (.cells #[.int .i64 yF, .int .i64 (yt : Int), .int .i64 yI, .int .i64 yO, .int .i64 (yu : Int)] 64)
     clear hBr hbx hal hpr hJs htm hz
     gi_upto_region 14 with fail
     clear p0 p1 p2 p3 p4
     generalize hVx : wr.alloc (.cells #[.int .i64 yF, .int .i64 (yt : Int), .int .i64 yI, .int .i64 yO, .int .i64 (yu : Int)] 64) = V1 at *
     clear hVx
     generalize wr.heap.size = by_ at *
     have HJd : Hid (J pr O V1.drew) := HJ.out _ _ _ _ HJs.out (Below.refl _ V1).drew
     have HBd : Hid (Below w0.heap.size w0 V1.drew) := HBr.out.drew
     have HXd : Bx V1.drew bC bp bk bq C p k q := ⟨HBx.out.c, HBx.out.p, HBx.out.k, HBx.out.q⟩
     have hbyd : V1.drew.heap[by_]? = _ := hbyy
     have hrd := (HCP.out.on HBd.out).row
     clear HJs HBr HBx hbyy
     have HCE : Hid _ := fun (W : World) (hSw : W.heap[by_]? = some (.cells #[.int .i64 yF, .int .i64 (yt : Int), .int .i64 yI, .int .i64 yO, .int .i64 (yu : Int)] 64 (0, 0)) ∧ Bx W bC bp bk bq C p k q ∧ W.heap[C]? = some (.cells #[.int .i64 (SB : Int), .slice (some ⟨fb, 0, none⟩) SA SA, .slice (some ⟨gb, 0, none⟩) m gc, .slice (some ⟨nb, 0, none⟩) (SB * 61) (SB * 61)] 129 (0, 0))) => (And.intro (cell_of_row _ _ 1 _ _ _ hSw.1) (And.intro (cell_of_row _ _ 3 _ _ _ hSw.1) (And.intro (cell_of_row _ _ 4 _ _ _ hSw.1) (And.intro (cell_of_row _ _ 0 _ _ _ hSw.2.1.c) (And.intro (cell_of_row _ _ 0 _ _ _ hSw.2.1.p) (And.intro (cell_of_row _ _ 0 _ _ _ hSw.2.1.k) (And.intro (cell_of_row _ _ 0 _ _ _ hSw.2.1.q) (cell_of_row _ _ 0 _ _ _ hSw.2.2))))))))
     refine Ry.region_y (S := fun W => W.heap[by_]? = some (.cells #[.int .i64 yF, .int .i64 (yt : Int), .int .i64 yI, .int .i64 yO, .int .i64 (yu : Int)] 64 (0, 0)) ∧ Bx W bC bp bk bq C p k q ∧ W.heap[C]? = some (.cells #[.int .i64 (SB : Int), .slice (some ⟨fb, 0, none⟩) SA SA, .slice (some ⟨gb, 0, none⟩) m gc, .slice (some ⟨nb, 0, none⟩) (SB * 61) (SB * 61)] 129 (0, 0))) 16 (by kernel_rfl) rfl (by kernel_rfl) (by kernel_rfl) (by kernel_rfl) (by kernel_rfl) (by exact ⟨hbyd, HXd, hrd⟩) (fun hHeld => ?_)
     have hS0 := hHeld
     generalize hVd : V1.drew = V0 at *
     clear hVd
     obtain ⟨fn, tmps, assign, body, hy, hR⟩ := HYY.out pr O ((k : Int), (z : Int), 0, yO, (yu : Int)) V0 HJd.out hL
     dsimp only [encA] at hy
     have HR : Hid (RoundIn Fence.wide (n - 1) Tryd.prog l fn tmps assign body V0 _) := hR
     clear hR hL
     refine wpAnyH_take (i := 0) (oi := { dst := some 101, op := .move (.tmp 0), type := 187, pos := "through.go:113", after := #[], guard := none }) (v := ?_) rfl (by kernel_rfl) (by kernel_rfl) (by kernel_rfl) (fun _ _ _ h => absurd h.1 (by simp)) (Or.inl ⟨by rfl, ?_⟩) (by assumption) ?_
     case refine_2 => intro w hSw; obtain ⟨e1, e3, e4, z0, z1, z2, z3, kc⟩ := HCE.out _ hSw; go_simp; (try with_reducible rfl)
     simp only [Act.put, zS0, zS1, zS2]
     refine wpAnyH_take (i := 1) (oi := { dst := some 102, op := .load 3 (.tmp 3), type := 3, pos := "through.go:113", after := #[], guard := none }) (v := ?_) rfl (by kernel_rfl) (by kernel_rfl) (by kernel_rfl) (fun _ _ _ h => absurd h.1 (by simp)) (Or.inl ⟨by rfl, ?_⟩) (by assumption) ?_
     case refine_2 => intro w hSw; obtain ⟨e1, e3, e4, z0, z1, z2, z3, kc⟩ := HCE.out _ hSw; go_simp; (try with_reducible rfl)
     simp only [Act.put, zS0, zS1, zS2]
     refine wpAnyH_take (i := 2) (oi := { dst := some 103, op := .load 3 (.tmp 2), type := 3, pos := "through.go:113", after := #[], guard := none }) (v := ?_) rfl (by kernel_rfl) (by kernel_rfl) (by kernel_rfl) (fun _ _ _ h => absurd h.1 (by simp)) (Or.inl ⟨by rfl, ?_⟩) (by assumption) ?_
     case refine_2 => intro w hSw; obtain ⟨e1, e3, e4, z0, z1, z2, z3, kc⟩ := HCE.out _ hSw; go_simp; (try with_reducible rfl)
     simp only [Act.put, zS0, zS1, zS2]
     refine wpAnyH_take (i := 3) (oi := { dst := some 104, op := .load 71 (.tmp 1), type := 71, pos := "through.go:113", after := #[], guard := none }) (v := ?_) rfl (by kernel_rfl) (by kernel_rfl) (by kernel_rfl) (fun _ _ _ h => absurd h.1 (by simp)) (Or.inl ⟨by rfl, ?_⟩) (by assumption) ?_
     case refine_2 => intro w hSw; obtain ⟨e1, e3, e4, z0, z1, z2, z3, kc⟩ := HCE.out _ hSw; go_simp; (try with_reducible rfl)
     simp only [Act.put, zS0, zS1, zS2]
     refine wpAnyH_take (i := 4) (oi := { dst := some 105, op := .nilCheck (.tmp 104), type := 0, pos := "through.go:113", after := #[⟨3, .data⟩], guard := none }) (v := ?_) rfl (by kernel_rfl) (by kernel_rfl) (by kernel_rfl) (fun _ _ _ h => absurd h.1 (by simp)) (Or.inl ⟨by rfl, ?_⟩) (by assumption) ?_
     case refine_2 => intro w hSw; obtain ⟨e1, e3, e4, z0, z1, z2, z3, kc⟩ := HCE.out _ hSw; go_simp; (try with_reducible rfl)
     simp only [Act.put, zS0, zS1, zS2]
     refine wpAnyH_take (i := 5) (oi := { dst := some 106, op := .fieldAddr 129 (.tmp 105) 0, type := 0, pos := "through.go:113", after := #[⟨4, .data⟩], guard := none }) (v := ?_) rfl (by kernel_rfl) (by kernel_rfl) (by kernel_rfl) (fun _ _ _ h => absurd h.1 (by simp)) (Or.inl ⟨by rfl, ?_⟩) (by assumption) ?_
     case refine_2 => intro w hSw; obtain ⟨e1, e3, e4, z0, z1, z2, z3, kc⟩ := HCE.out _ hSw; go_simp; (try with_reducible rfl)
     simp only [Act.put, zS0, zS1, zS2]
     refine wpAnyH_take (i := 6) (oi := { dst := some 107, op := .load 3 (.tmp 106), type := 3, pos := "through.go:113", after := #[⟨5, .data⟩], guard := none }) (v := ?_) rfl (by kernel_rfl) (by kernel_rfl) (by kernel_rfl) (fun _ _ _ h => absurd h.1 (by simp)) (Or.inl ⟨by rfl, ?_⟩) (by assumption) ?_
     case refine_2 => intro w hSw; obtain ⟨e1, e3, e4, z0, z1, z2, z3, kc⟩ := HCE.out _ hSw; go_simp; (try with_reducible rfl)
     simp only [Act.put, zS0, zS1, zS2]
     refine wpAnyH_take (i := 7) (oi := { dst := some 108, op := .binOp .mul 3 (.tmp 103) (.tmp 107) 3, type := 3, pos := "through.go:113", after := #[⟨2, .data⟩, ⟨6, .data⟩], guard := none }) (v := ?_) rfl (by kernel_rfl) (by kernel_rfl) (by kernel_rfl) (fun _ _ _ h => absurd h.1 (by simp)) (Or.inl ⟨by rfl, ?_⟩) (by assumption) ?_
     case refine_2 => intro w hSw; obtain ⟨e1, e3, e4, z0, z1, z2, z3, kc⟩ := HCE.out _ hSw; go_simp; (try with_reducible rfl)
     simp only [Act.put, zS0, zS1, zS2]
     refine wpAnyH_take (i := 8) (oi := { dst := some 109, op := .fieldAddr 64 (.tmp 11) 1, type := 0, pos := "through.go:113", after := #[], guard := none }) (v := ?_) rfl (by kernel_rfl) (by kernel_rfl) (by kernel_rfl) (fun _ _ _ h => absurd h.1 (by simp)) (Or.inl ⟨by rfl, ?_⟩) (by assumption) ?_
     case refine_2 => intro w hSw; obtain ⟨e1, e3, e4, z0, z1, z2, z3, kc⟩ := HCE.out _ hSw; go_simp; (try with_reducible rfl)
     simp only [Act.put, zS0, zS1, zS2]
     refine wpAnyH_take (i := 9) (oi := { dst := some 110, op := .load 3 (.tmp 109), type := 3, pos := "through.go:113", after := #[⟨8, .data⟩], guard := none }) (v := ?_) rfl (by kernel_rfl) (by kernel_rfl) (by kernel_rfl) (fun _ _ _ h => absurd h.1 (by simp)) (Or.inl ⟨by rfl, ?_⟩) (by assumption) ?_
     case refine_2 => intro w hSw; obtain ⟨e1, e3, e4, z0, z1, z2, z3, kc⟩ := HCE.out _ hSw; go_simp; (try with_reducible rfl)
     simp only [Act.put, zS0, zS1, zS2]
     refine wpAnyH_take (i := 10) (oi := { dst := some 111, op := .binOp .add 3 (.tmp 108) (.tmp 110) 3, type := 3, pos := "through.go:113", after := #[⟨7, .data⟩, ⟨9, .data⟩], guard := none }) (v := ?_) rfl (by kernel_rfl) (by kernel_rfl) (by kernel_rfl) (fun _ _ _ h => absurd h.1 (by simp)) (Or.inl ⟨by rfl, ?_⟩) (by assumption) ?_
     case refine_2 => intro w hSw; obtain ⟨e1, e3, e4, z0, z1, z2, z3, kc⟩ := HCE.out _ hSw; go_simp; (try with_reducible rfl)
     simp only [Act.put, zS0, zS1, zS2]
     refine wpAnyH_take (i := 11) (oi := { dst := some 112, op := .fieldAddr 64 (.tmp 11) 3, type := 0, pos := "through.go:113", after := #[], guard := none }) (v := ?_) rfl (by kernel_rfl) (by kernel_rfl) (by kernel_rfl) (fun _ _ _ h => absurd h.1 (by simp)) (Or.inl ⟨by rfl, ?_⟩) (by assumption) ?_
     case refine_2 => intro w hSw; obtain ⟨e1, e3, e4, z0, z1, z2, z3, kc⟩ := HCE.out _ hSw; go_simp; (try with_reducible rfl)
     simp only [Act.put, zS0, zS1, zS2]
     refine wpAnyH_take (i := 12) (oi := { dst := some 113, op := .load 3 (.tmp 112), type := 3, pos := "through.go:113", after := #[⟨11, .data⟩], guard := none }) (v := ?_) rfl (by kernel_rfl) (by kernel_rfl) (by kernel_rfl) (fun _ _ _ h => absurd h.1 (by simp)) (Or.inl ⟨by rfl, ?_⟩) (by assumption) ?_
     case refine_2 => intro w hSw; obtain ⟨e1, e3, e4, z0, z1, z2, z3, kc⟩ := HCE.out _ hSw; go_simp; (try with_reducible rfl)
     simp only [Act.put, zS0, zS1, zS2]
     refine wpAnyH_take (i := 13) (oi := { dst := some 114, op := .fieldAddr 64 (.tmp 11) 4, type := 0, pos := "through.go:113", after := #[], guard := none }) (v := ?_) rfl (by kernel_rfl) (by kernel_rfl) (by kernel_rfl) (fun _ _ _ h => absurd h.1 (by simp)) (Or.inl ⟨by rfl, ?_⟩) (by assumption) ?_
     case refine_2 => intro w hSw; obtain ⟨e1, e3, e4, z0, z1, z2, z3, kc⟩ := HCE.out _ hSw; go_simp; (try with_reducible rfl)
     simp only [Act.put, zS0, zS1, zS2]
     refine wpAnyH_take (i := 14) (oi := { dst := some 115, op := .load 3 (.tmp 114), type := 3, pos := "through.go:113", after := #[⟨13, .data⟩], guard := none }) (v := ?_) rfl (by kernel_rfl) (by kernel_rfl) (by kernel_rfl) (fun _ _ _ h => absurd h.1 (by simp)) (Or.inl ⟨by rfl, ?_⟩) (by assumption) ?_
     case refine_2 => intro w hSw; obtain ⟨e1, e3, e4, z0, z1, z2, z3, kc⟩ := HCE.out _ hSw; go_simp; (try with_reducible rfl)
     simp only [Act.put, zS0, zS1, zS2]
     refine wpAnyH_take (i := 15) (oi := { dst := some 116, op := .build 64 #[(0, .tmp 102), (1, .tmp 111), (3, .tmp 113), (4, .tmp 115)], type := 64, pos := "through.go:113", after := #[⟨1, .data⟩, ⟨10, .data⟩, ⟨12, .data⟩, ⟨14, .data⟩], guard := none }) (v := ?_) rfl (by kernel_rfl) (by kernel_rfl) (by kernel_rfl) (fun _ _ _ h => absurd h.1 (by simp)) (Or.inl ⟨by rfl, ?_⟩) (by assumption) ?_
     case refine_2 => intro w hSw; obtain ⟨e1, e3, e4, z0, z1, z2, z3, kc⟩ := HCE.out _ hSw; go_simp; (try with_reducible rfl)
     simp only [Act.put, zS0, zS1, zS2]
     refine wpAnyH_done (by kernel_rfl) ?_ _
     refine ⟨rfl, ?_⟩
     refine wpAnyIn_ready (rs := [16]) (by kernel_rfl) (by simp) ?_
     refine AllReadyIn.cons (o := { dst := some 117, op := .call { callee := .value (.tmp 101), args := #[.tmp 116], argTypes := #[64] }, type := 4, pos := "through.go:113", after := #[⟨0, .data⟩, ⟨15, .data⟩], guard := none }) rfl (fun K hK => ?_) AllReadyIn.nil
     go_simp
     refine RoundIn.mono HR.out ?_
     rintro e W4 ⟨rfl, O', hJ4, hk4⟩
     dsimp only
     have HJ4 : Hid (J (pr ++ [((k : Int), (z : Int), 0, yO, (yu : Int))]) O' W4) := hJ4
     have HK4 : Hid (Kept O O' V0 W4) := hk4
     clear hJ4 hk4
     refine hK _ _ ?_
     clear hK K
     refine wpAnyIn_ready (rs := [17]) (by kernel_rfl) (by simp) ?_
     refine AllReadyIn.cons (o := { dst := some 118, op := .unOp .not 4 (.tmp 117), type := 4, pos := "through.go:113", after := #[⟨16, .data⟩], guard := none }) rfl (fun K hK => ?_) AllReadyIn.nil
     go_simp
     refine hK _ _ ?_
     clear hK K
     refine wpAnyIn_done (by kernel_rfl) ?_ _
     have HB4 : Hid (Below w0.heap.size w0 W4) := HK4.out.below HBd.out HBd.out.size (fun q hq h => (HO.out _ _ _ _ HJd.out h).1 (.inl hq))
     have HX4 : Hid (Bx W4 bC bp bk bq C p k q) := HXd.kept HK4.out (fun j hj h => (HO.out _ _ _ _ HJd.out h).1 (.inr hj))
     clear hS0 HXd hbyd hrd
     gi_wp2
     go_roundw
     case rel => exact ⟨y + 1, O', by go_num, hlty, by rw [take_map1 _ _ _ hyl, HEY.out, HFX.out, ← List.append_assoc, ← HPY.out]; exact HJ4.out, HB4.out, HX4.out⟩
     case measure => simp [intOf]; omega
    ·obtain rfl : y = ng := by omega
     have HJ5 : Hid (J (arcsP F R SB k) O wr) := by
      show J _ _ _
      rw [HAP.out, ← HPR.out, ← HGV.out]
      rw [← HNG.out, List.take_length] at hJs
      exact hJs
     clear hJs hBr hbx
     gi_wp2
     go_end0
     exact ⟨⟨_, rfl⟩, _, O, rfl, HJ5.out⟩
end Go.Proofs.YtfjocafepigijaaDoor.Cu
