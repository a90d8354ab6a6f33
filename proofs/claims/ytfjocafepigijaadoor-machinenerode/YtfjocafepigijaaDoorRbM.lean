/- The program's newField: a machine's arcs by label and by state. Condition: the machine is right and small. -/
import Derived.Test.YtfjocafepigijaaDoorCfM
import Derived.Deep.Cut
import Derived.Deep.CutRange
import Derived.Deep.DeepCutAuto
import Derived.Deep.RegionHeld
import Derived.Deep.RegionHeld3
import Derived.Test.YtfjocafepigijaaDoorTdM
import Derived.Deep.LoopGhost
import Derived.Deep.QuietTactic
import Derived.BigQuiet
namespace Go.Proofs.YtfjocafepigijaaDoor.Nx
open Go.RowKit Mv Qp Sk Po Ps Wd Se Mp St Cm Nm

theorem info22 : (Tryd.prog.info? 22).map (fun i => (i.zero, i.size, i.bytes)) = some (some (.slice none 0 0), 1, 24) := by kernel_rfl
theorem info36 : (Tryd.prog.info? 64).map (fun i => (i.zero, i.size, i.bytes)) = some (some (.agg #[.int .i64 0, .int .i64 0, .int .i64 0, .int .i64 0, .int .i64 0]), 5, 40) := by kernel_rfl
def mc (S : Nat) : Array Value := madeCells #[.slice none 0 0] S
theorem run_mk (S : Nat) (hS : S ≤ 3000) (W : World) : (Instr.makeSlice 73 (.int .i64 (S : Int)) (.int .i64 (S : Int))).run Tryd.prog W = .ok (.slice (some ⟨W.heap.size, 0, none⟩) S S) (W.alloc (.cells (mc S) 22)) := by
  obtain ⟨i0, hi, hz0, hz1, hz2⟩ := info_parts info22
  have hr := run_make (P := Tryd.prog) W 73 22 i0 (.slice none 0 0) Tryd.underlying73 hi hz0 .i64 .i64 (S : Int) (S : Int) (by omega) (Int.le_refl _) (by rw [hz2]; omega) (by omega)
  simp only [Int.toNat_natCast, hz1, Nat.mul_one] at hr
  exact hr
theorem mc_list (S : Nat) : (mc S).toList = List.replicate S nilS := by
  unfold mc
  rw [toList_madeCells_one]
  rfl

theorem boxA (w : World) (o1 o2 o3 : Obj) (a b c : Value) : ((((w.alloc (.cells #[a, b, c] 25)).alloc o1).alloc o2).alloc o3).drew.cell? ⟨w.heap.size, 1, none⟩ = some b := by
  have e : ((((w.alloc (.cells #[a, b, c] 25)).alloc o1).alloc o2).alloc o3).drew.heap[w.heap.size]? = some (.cells #[a, b, c] 25 (0, 0)) := by
    show ((((w.alloc (.cells #[a, b, c] 25)).alloc o1).alloc o2).alloc o3).heap[w.heap.size]? = _
    rw [heap_alloc_old _ _ (by simp; omega), heap_alloc_old _ _ (by simp; omega), heap_alloc_old _ _ (by simp)]
    exact heap_alloc_new _ _
  exact cell_of_row _ _ 1 _ 25 (0, 0) e
theorem sx_grown {Y w1 : World} {row : Option Nat} (h : Y.grownBy w1 row) {b j : Nat} {x : Value} (hb : b < Y.heap.size) (hne : some b ≠ row) (hx : Y.cell? ⟨b, j, none⟩ = some x) : w1.cell? ⟨b, j, none⟩ = some x := (World.cell?_of_block (w := Y) (h.block b hb hne)).trans hx
theorem sx_set {w1 : World} {sb f b j : Nat} {u x : Value} (hne : ¬ b = sb) (hx : w1.cell? ⟨b, j, none⟩ = some x) : (w1.setCell ⟨sb, f, none⟩ u).cell? ⟨b, j, none⟩ = some x := (World.cell?_of_block (w := w1) (Below.heap_setCell _ _ _ _ hne)).trans hx
theorem _root_.Go.Proofs.YtfjocafepigijaaDoor.Nm.Nf.rowsSet {w wr : World} {F mb sb S n : Nat} {L : List Arc} {V : Key → Value} {vs : List Value} (h : Nf w wr F mb sb S n L V vs) (k : Key) (o : Obj) : (ChangeMaps.setBlock wr mb o).ownsRow w.heap.size 64 5 (V k) (ar L k).length (acs (ar L k)) := by
  obtain ⟨es, clock, hmb⟩ := mp_ty h.mp
  have hk0 : Kp (fun b => b = mb) wr (ChangeMaps.setBlock wr mb o) := ⟨rfl, rfl, rfl, by simp [ChangeMaps.setBlock], fun k _ hne => ChangeMaps.heap_setBlock_other hmb _ hne⟩
  refine own_kp2 (h.rows k) hk0 (fun b hb e => ?_)
  obtain ⟨c, hc⟩ := own_ty (h.rows k) hb
  rw [e, hmb] at hc
  cases hc
theorem setCell5 {w wr : World} {F mb sb S n : Nat} {L : List Arc} {V : Key → Value} {vs : List Value} (h : Nf w wr F mb sb S n L V vs) {o : Obj} {g j : Nat} {u : Value} (hc : wr.cell? ((⟨g, 0, none⟩ : Addr).add j) = some u) (hne : g ≠ mb) : (ChangeMaps.setBlock wr mb o).cell? ((⟨g, 0, none⟩ : Addr).add j) = some u := by
  obtain ⟨es, clock, hmb⟩ := mp_ty h.mp
  have e : (⟨g, 0, none⟩ : Addr).add j = ⟨g, j, none⟩ := by unfold Addr.add; split <;> simp_all
  rw [e] at hc ⊢
  exact (World.cell?_of_block (w := wr) (ChangeMaps.heap_setBlock_other hmb _ hne)).trans hc
theorem mbKept {w wr w1 : World} {F mb sb S n : Nat} {L : List Arc} {V : Key → Value} {vs : List Value} {o : Obj} {k : Key} (h : Nf w wr F mb sb S n L V vs) (hg : (ChangeMaps.setBlock wr mb o).grownBy w1 (V k).ownBlock) : w1.heap[mb]? = some o := by
  obtain ⟨es, clock, hmb⟩ := mp_ty h.mp
  refine (hg.block mb (by simp [ChangeMaps.setBlock]; exact h.mp.lt) (fun e => ?_)).trans (ChangeMaps.heap_setBlock_same hmb _)
  obtain ⟨c, hc⟩ := own_ty (h.rows k) e.symm
  rw [hmb] at hc
  cases hc
theorem five_one (a b c d e : Int) : ∀ x ∈ [Value.int .i64 a, .int .i64 b, .int .i64 c, .int .i64 d, .int .i64 e], x.oneCell' = true := by
  intro x hx
  simp at hx
  rcases hx with rfl | rfl | rfl | rfl | rfl <;> rfl
theorem cell_five_at (w : World) (g : Nat) (a b c d e : Value) (t : TypeId) (hg : g = w.heap.size) : ∀ j u, [a, b, c, d, e][j]? = some u → (w.alloc (.cells #[a, b, c, d, e] t)).cell? ((⟨g, 0, none⟩ : Addr).add j) = some u := by
  intro j u hj
  subst hg
  match j, hj with
  | 0, hj => simp at hj; subst hj; simp [Addr.add]
  | 1, hj => simp at hj; subst hj; simp [Addr.add]
  | 2, hj => simp at hj; subst hj; simp [Addr.add]
  | 3, hj => simp at hj; subst hj; simp [Addr.add]
  | 4, hj => simp at hj; subst hj; simp [Addr.add]

set_option maxHeartbeats 4000000 in
set_option maxRecDepth 100000 in
theorem field_any (S : Nat) (A : List Arc) (va vf : Value) (w : World) (hrow : Mv.Row w va 5 A.length (acs A)) (hA : ∀ a ∈ A, arcB (S : Int) a = true) (hS : S ≤ 40) (_ : 0 < S) (hAl : A.length ≤ 120) :
    Calls Tryd.prog 55 #[.agg #[.int .i64 S, va, vf]] w fun e w' => ∃ F mb sb n V vs, e = .returned (.pointer (some ⟨F, 0, none⟩)) ∧ Nf w w' F mb sb S n A V vs := by
  obtain ⟨hxl, aa, ca, rfl, _, hAx⟩ := hrow
  have hmm := @run_makeMap Tryd.prog
  have hmk := run_mk S (by omega)
  have HA : Hid (∀ a ∈ A, arcB (S : Int) a = true) := hA
  have HAx : Hid (A.length = 0 ∨ ∃ b off, aa = some ⟨b, off, none⟩ ∧ b < w.heap.size ∧ ∀ j u, (acs A)[j]? = some u → w.cell? ⟨b, off + j, none⟩ = some u) := hAx
  clear hA hAx hxl
  obtain ⟨MC, hMC⟩ : ∃ m, m = mc S := ⟨_, rfl⟩
  rw [← hMC] at hmk
  have HMC : Hid (MC = mc S) := hMC
  clear hMC
  obtain ⟨i0, hi, hz0, hz1, hz2⟩ := info_parts info36
  go_enter Tryd.func55, Tryd.ntmps55
  go_upto_region 1 with fail
  go_cut [3] from 7 to 14 (fun s3 wx => ∃ (F mb sb : Nat) (V : Key → Value) (vs : List Value), s3 = .pointer (some ⟨F, 0, none⟩) ∧ Nf w wx F mb sb S 0 [] V vs ∧ wx.cell? ⟨w.heap.size, 1, none⟩ = some (.slice aa A.length ca))
  case first =>
    go_region
    · go_wp2_with fail
      go_meet
      case rel => exact ⟨_, _, _, _, _, rfl, (begunA w (.cells #[.int .i64 S, .slice aa A.length ca, vf] 25) S hS MC (by rw [HMC.out]; exact mc_list S)).drew, boxA _ _ _ _ _ _ _⟩
    · go_wp2_with fail
      go_meet
      case rel => exact ⟨_, _, _, _, _, rfl, (begunB w (.cells #[.int .i64 S, .slice aa A.length ca, vf] 25) S hS MC (by rw [HMC.out]; exact mc_list S)).drew, boxA _ _ _ _ _ _ _⟩
  case rest =>
  obtain ⟨F, mb, sb, V, vs, rfl, hN0, hb1⟩ := hcut
  go_wp2
  go_loopw [18] (fun a wr => ∃ (y n : Nat) (V : Key → Value) (vs : List Value), a = .int .i64 y ∧ y ≤ A.length ∧ Nf w wr F mb sb S n (A.take y) V vs) (fun a _ => A.length - (intOf a).toNat)
  case atStart => exact ⟨0, 0, V, vs, rfl, Nat.zero_le _, hN0⟩
  case round =>
    clear hN0 hb1
    obtain ⟨y, n, V, vs, rfl, hy, hN⟩ := hrel
    by_cases hlt : y < A.length
    · obtain ⟨b, off, rfl, hbl, hcs⟩ : ∃ b off, aa = some ⟨b, off, none⟩ ∧ b < w.heap.size ∧ ∀ j u, (acs A)[j]? = some u → wr.cell? ⟨b, off + j, none⟩ = some u := by
        obtain ⟨b, off, e, hb, hc⟩ := HAx.out.resolve_left (by omega)
        exact ⟨b, off, e, hb, fun j u hu => (hN.below.cell hb).trans (hc j u hu)⟩
      have u := acs_at A y hlt
      have hab := HA.out _ (List.getElem_mem hlt)
      obtain ⟨fI, tI, iI, oI, xI, ea⟩ : ∃ f t i1 o1 x, A[y] = (f, t, i1, o1, x) := ⟨_, _, _, _, _, rfl⟩
      have htk : A.take (y + 1) = A.take y ++ [(fI, tI, iI, oI, xI)] := by rw [← ea]; exact (List.take_append_getElem hlt).symm
      rw [ea] at u hab
      unfold arcB at hab
      simp only [decide_eq_true_eq] at hab
      obtain ⟨g0, g1, g2, g3, g4, g5, g6, g7, g8, g9⟩ := hab
      obtain ⟨f, rfl⟩ : ∃ n : Nat, fI = (n : Int) := ⟨fI.toNat, by omega⟩
      have hf : f < S := Int.ofNat_lt.1 g1
      have p0 := hcs _ _ u.1
      have p1 := hcs _ _ u.2.1
      have p2 := hcs _ _ u.2.2.1
      have p3 := hcs _ _ u.2.2.2.1
      have p4 := hcs _ _ u.2.2.2.2
      rw [← Nat.add_assoc] at p1 p2 p3 p4
      have HTK : Hid (A.take (y + 1) = A.take y ++ [((f : Int), tI, iI, oI, xI)]) := htk
      have HNN : Hid (Nf w wr F mb sb S n (A.take y) V vs) := hN
      have hRl : ∀ k, (ar (A.take y) k).length ≤ 120 := fun k => Nat.le_trans (List.length_filter_le _ _) (Nat.le_trans (by rw [List.length_take]; omega) hAl)
      have hWs : w.heap.size ≤ wr.heap.size := hN.below.size
      have q11 : ∀ o1, (wr.alloc o1).cell? ⟨F, 1, none⟩ = some (.map (some mb)) := fun o1 => (hN.alloc o1).field.cell 1
      have q12 : ∀ o1 o2, ((wr.alloc o1).alloc o2).cell? ⟨F, 1, none⟩ = some (.map (some mb)) := fun o1 o2 => ((hN.alloc o1).alloc o2).field.cell 1
      have q13 : ∀ o1 o2 o3, (((wr.alloc o1).alloc o2).alloc o3).cell? ⟨F, 1, none⟩ = some (.map (some mb)) := fun o1 o2 o3 => (((hN.alloc o1).alloc o2).alloc o3).field.cell 1
      have q21 : ∀ o1, (wr.alloc o1).cell? ⟨F, 2, none⟩ = some (.slice (some ⟨sb, 0, none⟩) S S) := fun o1 => (hN.alloc o1).field.cell 2
      have q22 : ∀ o1 o2, ((wr.alloc o1).alloc o2).cell? ⟨F, 2, none⟩ = some (.slice (some ⟨sb, 0, none⟩) S S) := fun o1 o2 => ((hN.alloc o1).alloc o2).field.cell 2
      clear u hcs ea htk hN
      by_cases hsil : iI = 0 ∧ oI = 0
      · obtain ⟨rfl, rfl⟩ := hsil
        have hkey : key ((f : Int), tI, 0, 0, xI) = (0, 0, (f : Int)) := by simp [key]
        have HKY : Hid (key ((f : Int), tI, 0, 0, xI) = (0, 0, (f : Int))) := hkey
        have c1 : ∀ o1, (wr.alloc o1).cell? ⟨sb, f, none⟩ = some (V (0, 0, (f : Int))) := fun o1 => by rw [(HNN.out.alloc o1).heads.cellAt f (by omega)]; exact HNN.out.head f hf
        have c2 : ∀ o1 o2, ((wr.alloc o1).alloc o2).cell? ⟨sb, f, none⟩ = some (V (0, 0, (f : Int))) := fun o1 o2 => by rw [((HNN.out.alloc o1).alloc o2).heads.cellAt f (by omega)]; exact HNN.out.head f hf
        obtain ⟨v0, hv0⟩ : ∃ v, V (0, 0, (f : Int)) = v := ⟨_, rfl⟩
        have HV0 : Hid (V (0, 0, (f : Int)) = v0) := hv0
        rw [hv0] at c1 c2
        clear hv0 hkey
        have hbs : wr.heap.size < (wr.alloc (.cells #[.int .i64 (f : Int), .int .i64 tI, .int .i64 0, .int .i64 0, .int .i64 xI] 64)).heap.size := by simp
        have hd0 : (wr.alloc (.cells #[.int .i64 (f : Int), .int .i64 tI, .int .i64 0, .int .i64 0, .int .i64 xI] 64)).cell? ⟨F, 2, none⟩ = some (.slice (some ⟨sb, 0, none⟩) S S) ∧ (wr.alloc (.cells #[.int .i64 (f : Int), .int .i64 tI, .int .i64 0, .int .i64 0, .int .i64 xI] 64)).cell? ⟨wr.heap.size, 0, none⟩ = some (.int .i64 (f : Int)) ∧ (wr.alloc (.cells #[.int .i64 (f : Int), .int .i64 tI, .int .i64 0, .int .i64 0, .int .i64 xI] 64)).cell? ⟨wr.heap.size, 1, none⟩ = some (.int .i64 tI) ∧ (wr.alloc (.cells #[.int .i64 (f : Int), .int .i64 tI, .int .i64 0, .int .i64 0, .int .i64 xI] 64)).cell? ⟨wr.heap.size, 2, none⟩ = some (.int .i64 0) ∧ (wr.alloc (.cells #[.int .i64 (f : Int), .int .i64 tI, .int .i64 0, .int .i64 0, .int .i64 xI] 64)).cell? ⟨wr.heap.size, 3, none⟩ = some (.int .i64 0) ∧ (wr.alloc (.cells #[.int .i64 (f : Int), .int .i64 tI, .int .i64 0, .int .i64 0, .int .i64 xI] 64)).cell? ⟨wr.heap.size, 4, none⟩ = some (.int .i64 xI) := ⟨q21 _, cell_of_row _ _ 0 _ 64 (0, 0) (heap_alloc_new _ _), cell_of_row _ _ 1 _ 64 (0, 0) (heap_alloc_new _ _), cell_of_row _ _ 2 _ 64 (0, 0) (heap_alloc_new _ _), cell_of_row _ _ 3 _ 64 (0, 0) (heap_alloc_new _ _), cell_of_row _ _ 4 _ 64 (0, 0) (heap_alloc_new _ _)⟩
        have hd1 : ∀ o1, ((wr.alloc (.cells #[.int .i64 (f : Int), .int .i64 tI, .int .i64 0, .int .i64 0, .int .i64 xI] 64)).alloc o1).cell? ⟨F, 2, none⟩ = some (.slice (some ⟨sb, 0, none⟩) S S) ∧ ((wr.alloc (.cells #[.int .i64 (f : Int), .int .i64 tI, .int .i64 0, .int .i64 0, .int .i64 xI] 64)).alloc o1).cell? ⟨wr.heap.size, 0, none⟩ = some (.int .i64 (f : Int)) ∧ ((wr.alloc (.cells #[.int .i64 (f : Int), .int .i64 tI, .int .i64 0, .int .i64 0, .int .i64 xI] 64)).alloc o1).cell? ⟨wr.heap.size, 1, none⟩ = some (.int .i64 tI) ∧ ((wr.alloc (.cells #[.int .i64 (f : Int), .int .i64 tI, .int .i64 0, .int .i64 0, .int .i64 xI] 64)).alloc o1).cell? ⟨wr.heap.size, 2, none⟩ = some (.int .i64 0) ∧ ((wr.alloc (.cells #[.int .i64 (f : Int), .int .i64 tI, .int .i64 0, .int .i64 0, .int .i64 xI] 64)).alloc o1).cell? ⟨wr.heap.size, 3, none⟩ = some (.int .i64 0) ∧ ((wr.alloc (.cells #[.int .i64 (f : Int), .int .i64 tI, .int .i64 0, .int .i64 0, .int .i64 xI] 64)).alloc o1).cell? ⟨wr.heap.size, 4, none⟩ = some (.int .i64 xI) := fun o1 => ⟨q22 _ _, (World.cell?_alloc_past _ _ _ hbs).trans hd0.2.1, (World.cell?_alloc_past _ _ _ hbs).trans hd0.2.2.1, (World.cell?_alloc_past _ _ _ hbs).trans hd0.2.2.2.1, (World.cell?_alloc_past _ _ _ hbs).trans hd0.2.2.2.2.1, (World.cell?_alloc_past _ _ _ hbs).trans hd0.2.2.2.2.2⟩
        have hvF : ¬ v0.ownBlock = some F := fun e => by rw [← HV0.out] at e; obtain ⟨c, hc⟩ := own_ty (HNN.out.rows _) e; exact ty_ne hc HNN.out.field (by decide)
        have hvB : ¬ v0.ownBlock = some wr.heap.size := fun e => by rw [← HV0.out] at e; have := ((HNN.out.rows _).lt _ e).2; omega
        have hFs : F < wr.heap.size := HNN.out.field.lt
        clear q11 q12 q13
        have hsF : ¬ F = sb := fun e => by obtain ⟨c, hc⟩ := own_ty HNN.out.heads (k := sb) rfl; rw [← e] at hc; exact ty_ne hc HNN.out.field (by decide)
        have hsB : ¬ wr.heap.size = sb := fun e => by have := (HNN.out.heads.lt sb rfl).2; omega
        go_wp2
        refine wp_region_held_drew (S := fun W => W.cell? ⟨F, 2, none⟩ = some (.slice (some ⟨sb, 0, none⟩) S S) ∧ W.cell? ⟨wr.heap.size, 0, none⟩ = some (.int .i64 (f : Int)) ∧ W.cell? ⟨wr.heap.size, 1, none⟩ = some (.int .i64 tI) ∧ W.cell? ⟨wr.heap.size, 2, none⟩ = some (.int .i64 0) ∧ W.cell? ⟨wr.heap.size, 3, none⟩ = some (.int .i64 0) ∧ W.cell? ⟨wr.heap.size, 4, none⟩ = some (.int .i64 xI)) (by kernel_rfl) hd0 (fun hHeld => ?_)
        refine wpAnyH_take (i := 0) (oi := { dst := some 30, op := Op.move (Operand.tmp 3), type := 108, pos := "cost.go:56", after := #[], guard := none }) (v := ?_) rfl (by kernel_rfl) (by kernel_rfl) (by kernel_rfl) (fun _ _ _ h => h) (Or.inl ⟨by rfl, ?_⟩) (by assumption) ?_
        case refine_2 => intro w hSw; (try dsimp only at hSw); go_simp; (try with_reducible rfl)
        simp only [Act.put, List.setIfInBounds_toArray, List.set_cons_zero, List.set_cons_succ]
        refine wpAnyH_take (i := 1) (oi := { dst := some 31, op := Op.nilCheck (Operand.tmp 30), type := 0, pos := "cost.go:56", after := #[{ on := 0, ground := Ground.data }], guard := none }) (v := ?_) rfl (by kernel_rfl) (by kernel_rfl) (by kernel_rfl) (fun _ _ _ h => h) (Or.inl ⟨by rfl, ?_⟩) (by assumption) ?_
        case refine_2 => intro w hSw; (try dsimp only at hSw); go_simp; (try with_reducible rfl)
        simp only [Act.put, List.setIfInBounds_toArray, List.set_cons_zero, List.set_cons_succ]
        refine wpAnyH_take (i := 2) (oi := { dst := some 32, op := Op.fieldAddr 167 (Operand.tmp 31) 2, type := 0, pos := "cost.go:56", after := #[{ on := 1, ground := Ground.data }], guard := none }) (v := ?_) rfl (by kernel_rfl) (by kernel_rfl) (by kernel_rfl) (fun _ _ _ h => h) (Or.inl ⟨by rfl, ?_⟩) (by assumption) ?_
        case refine_2 => intro w hSw; (try dsimp only at hSw); go_simp; (try with_reducible rfl)
        simp only [Act.put, List.setIfInBounds_toArray, List.set_cons_zero, List.set_cons_succ]
        refine wpAnyH_take (i := 3) (oi := { dst := some 33, op := Op.load 73 (Operand.tmp 32), type := 73, pos := "cost.go:56", after := #[{ on := 2, ground := Ground.data }], guard := none }) (v := ?_) rfl (by kernel_rfl) (by kernel_rfl) (by kernel_rfl) (fun _ _ _ h => h) (Or.inl ⟨by rfl, ?_⟩) (by assumption) ?_
        case refine_2 => intro w hSw; (try dsimp only at hSw); go_simp; (try with_reducible rfl)
        simp only [Act.put, List.setIfInBounds_toArray, List.set_cons_zero, List.set_cons_succ]
        refine wpAnyH_take (i := 4) (oi := { dst := some 34, op := Op.fieldAddr 64 (Operand.tmp 5) 0, type := 0, pos := "cost.go:56", after := #[], guard := none }) (v := ?_) rfl (by kernel_rfl) (by kernel_rfl) (by kernel_rfl) (fun _ _ _ h => h) (Or.inl ⟨by rfl, ?_⟩) (by assumption) ?_
        case refine_2 => intro w hSw; (try dsimp only at hSw); go_simp; (try with_reducible rfl)
        simp only [Act.put, List.setIfInBounds_toArray, List.set_cons_zero, List.set_cons_succ]
        refine wpAnyH_take (i := 5) (oi := { dst := some 35, op := Op.load 3 (Operand.tmp 34), type := 3, pos := "cost.go:56", after := #[{ on := 4, ground := Ground.data }], guard := none }) (v := ?_) rfl (by kernel_rfl) (by kernel_rfl) (by kernel_rfl) (fun _ _ _ h => h) (Or.inl ⟨by rfl, ?_⟩) (by assumption) ?_
        case refine_2 => intro w hSw; (try dsimp only at hSw); go_simp; (try with_reducible rfl)
        simp only [Act.put, List.setIfInBounds_toArray, List.set_cons_zero, List.set_cons_succ]
        refine wpAnyH_take (i := 6) (oi := { dst := some 36, op := Op.move (Operand.tmp 3), type := 108, pos := "cost.go:56", after := #[], guard := none }) (v := ?_) rfl (by kernel_rfl) (by kernel_rfl) (by kernel_rfl) (fun _ _ _ h => h) (Or.inl ⟨by rfl, ?_⟩) (by assumption) ?_
        case refine_2 => intro w hSw; (try dsimp only at hSw); go_simp; (try with_reducible rfl)
        simp only [Act.put, List.setIfInBounds_toArray, List.set_cons_zero, List.set_cons_succ]
        refine wpAnyH_take (i := 7) (oi := { dst := some 37, op := Op.nilCheck (Operand.tmp 36), type := 0, pos := "cost.go:56", after := #[{ on := 6, ground := Ground.data }], guard := none }) (v := ?_) rfl (by kernel_rfl) (by kernel_rfl) (by kernel_rfl) (fun _ _ _ h => h) (Or.inl ⟨by rfl, ?_⟩) (by assumption) ?_
        case refine_2 => intro w hSw; (try dsimp only at hSw); go_simp; (try with_reducible rfl)
        simp only [Act.put, List.setIfInBounds_toArray, List.set_cons_zero, List.set_cons_succ]
        refine wpAnyH_take (i := 8) (oi := { dst := some 38, op := Op.fieldAddr 167 (Operand.tmp 37) 2, type := 0, pos := "cost.go:56", after := #[{ on := 7, ground := Ground.data }], guard := none }) (v := ?_) rfl (by kernel_rfl) (by kernel_rfl) (by kernel_rfl) (fun _ _ _ h => h) (Or.inl ⟨by rfl, ?_⟩) (by assumption) ?_
        case refine_2 => intro w hSw; (try dsimp only at hSw); go_simp; (try with_reducible rfl)
        simp only [Act.put, List.setIfInBounds_toArray, List.set_cons_zero, List.set_cons_succ]
        refine wpAnyH_take (i := 9) (oi := { dst := some 39, op := Op.load 73 (Operand.tmp 38), type := 73, pos := "cost.go:56", after := #[{ on := 8, ground := Ground.data }], guard := none }) (v := ?_) rfl (by kernel_rfl) (by kernel_rfl) (by kernel_rfl) (fun _ _ _ h => h) (Or.inl ⟨by rfl, ?_⟩) (by assumption) ?_
        case refine_2 => intro w hSw; (try dsimp only at hSw); go_simp; (try with_reducible rfl)
        simp only [Act.put, List.setIfInBounds_toArray, List.set_cons_zero, List.set_cons_succ]
        refine wpAnyH_take (i := 10) (oi := { dst := some 40, op := Op.fieldAddr 64 (Operand.tmp 5) 0, type := 0, pos := "cost.go:56", after := #[], guard := none }) (v := ?_) rfl (by kernel_rfl) (by kernel_rfl) (by kernel_rfl) (fun _ _ _ h => h) (Or.inl ⟨by rfl, ?_⟩) (by assumption) ?_
        case refine_2 => intro w hSw; (try dsimp only at hSw); go_simp; (try with_reducible rfl)
        simp only [Act.put, List.setIfInBounds_toArray, List.set_cons_zero, List.set_cons_succ]
        refine wpAnyH_take (i := 11) (oi := { dst := some 41, op := Op.load 3 (Operand.tmp 40), type := 3, pos := "cost.go:56", after := #[{ on := 10, ground := Ground.data }], guard := none }) (v := ?_) rfl (by kernel_rfl) (by kernel_rfl) (by kernel_rfl) (fun _ _ _ h => h) (Or.inl ⟨by rfl, ?_⟩) (by assumption) ?_
        case refine_2 => intro w hSw; (try dsimp only at hSw); go_simp; (try with_reducible rfl)
        simp only [Act.put, List.setIfInBounds_toArray, List.set_cons_zero, List.set_cons_succ]
        refine wpAnyH_take (i := 12) (oi := { dst := some 42, op := Op.indexAddr 73 (Operand.tmp 39) (Operand.tmp 41), type := 0, pos := "cost.go:56", after := #[{ on := 9, ground := Ground.data }, { on := 11, ground := Ground.data }], guard := none }) (v := ?_) rfl (by kernel_rfl) (by kernel_rfl) (by kernel_rfl) (fun _ _ _ h => h) (Or.inl ⟨by rfl, ?_⟩) (by assumption) ?_
        case refine_2 => intro w hSw; (try dsimp only at hSw); go_simp; (try with_reducible rfl)
        simp only [Act.put, List.setIfInBounds_toArray, List.set_cons_zero, List.set_cons_succ]
        refine wpAnyH_take (i := 14) (oi := { dst := some 44, op := Op.load 64 (Operand.tmp 5), type := 64, pos := "cost.go:56", after := #[], guard := none }) (v := ?_) rfl (by kernel_rfl) (by kernel_rfl) (by kernel_rfl) (fun _ _ _ h => h) (Or.inl ⟨by rfl, ?_⟩) (by assumption) ?_
        case refine_2 => intro w hSw; (try dsimp only at hSw); go_simp; (try with_reducible rfl)
        simp only [Act.put, List.setIfInBounds_toArray, List.set_cons_zero, List.set_cons_succ]
        refine wpAnyH_ready (rs := [13, 15]) (by kernel_rfl) (by simp) ?_
        refine AllReadyH.cons (o := { dst := some 43, op := Op.load 22 (Operand.tmp 42), type := 22, pos := "cost.go:56", after := #[{ on := 12, ground := Ground.data }], guard := none }) rfl (fun K hK => ?_) (AllReadyH.cons (o := { dst := some 45, op := Op.buildSlice 22 1 #[(0, Operand.tmp 44)], type := 22, pos := "cost.go:56", after := #[{ on := 14, ground := Ground.data }], guard := none }) rfl (fun K hK => ?_) AllReadyH.nil)
        · skip
          go_simp
          refine hK.out _ _ ?_ (fun hHeld => ?_)
          · first | exact hd0 | exact hd1 _
          clear hK K
          refine wpAnyH_ready (rs := [15]) (by kernel_rfl) (by simp) ?_
          refine AllReadyH.cons (o := { dst := some 45, op := Op.buildSlice 22 1 #[(0, Operand.tmp 44)], type := 22, pos := "cost.go:56", after := #[{ on := 14, ground := Ground.data }], guard := none }) rfl (fun K hK => ?_) AllReadyH.nil
          go_simp
          refine hK.out _ _ ?_ (fun hHeld => ?_)
          · first | exact hd1 _ | exact hd0
          clear hK K
          refine wpAnyH_ready (rs := [16]) (by kernel_rfl) (by simp) ?_
          refine AllReadyH.cons (o := { dst := some 46, op := Op.call { callee := Callee.builtin Builtin.append, args := #[Operand.tmp 43, Operand.tmp 45], argTypes := #[22, 22] }, type := 22, pos := "cost.go:56", after := #[{ on := 13, ground := Ground.data }, { on := 15, ground := Ground.data }], guard := none }) rfl (fun K hK => ?_) AllReadyH.nil
          refine step_append_at rfl (.tmp 43) (.tmp 45) 22 rfl w.heap.size 64 i0 (.agg #[.int .i64 0, .int .i64 0, .int .i64 0, .int .i64 0, .int .i64 0]) 5 40 Tryd.underlying22 hi hz0 hz1 hz2 rfl (by decide) v0 _ _ rfl (by rw [← HV0.out]; exact ((HNN.out.alloc _).alloc _).drew.rows (0, 0, (f : Int))) ⟨_, 0, none⟩ 1 1 [.int .i64 (f : Int), .int .i64 tI, .int .i64 0, .int .i64 0, .int .i64 xI] rfl rfl (cell_five_at _ _ _ _ _ _ _ _ (by simp)) (five_one _ _ _ _ _) (by have := hRl (0, 0, (f : Int)); unfold maxLen; omega) (by have := hRl (0, 0, (f : Int)); omega) (by simp; omega) ?_; intro v1 w1 ho1 hg1 hl1; obtain ⟨gg, cc, rfl, _, _⟩ := own_some ho1 (Nat.succ_pos _); have hN2 := ((HNN.out.alloc _).alloc _).drew.addS HKY.out hf ho1 (by rw [HV0.out]; exact hg1) (by rw [HV0.out]; exact hl1.imp id (fun h => ⟨_, h, Nat.le_refl _⟩)); have z1 := hN2.1.1; have z2 := hN2.1.2; have HN2 : Hid _ := hN2.2; rw [HV0.out] at z1; have hw1 : w1.cell? ⟨F, 2, none⟩ = some (.slice (some ⟨sb, 0, none⟩) S S) ∧ w1.cell? ⟨wr.heap.size, 0, none⟩ = some (.int .i64 (f : Int)) ∧ w1.cell? ⟨wr.heap.size, 1, none⟩ = some (.int .i64 tI) ∧ w1.cell? ⟨wr.heap.size, 2, none⟩ = some (.int .i64 0) ∧ w1.cell? ⟨wr.heap.size, 3, none⟩ = some (.int .i64 0) ∧ w1.cell? ⟨wr.heap.size, 4, none⟩ = some (.int .i64 xI) := ⟨sx_grown hg1 (by simp; omega) (fun e => hvF e.symm) (hd1 _).1, sx_grown hg1 (by simp; omega) (fun e => hvB e.symm) (hd1 _).2.1, sx_grown hg1 (by simp; omega) (fun e => hvB e.symm) (hd1 _).2.2.1, sx_grown hg1 (by simp; omega) (fun e => hvB e.symm) (hd1 _).2.2.2.1, sx_grown hg1 (by simp; omega) (fun e => hvB e.symm) (hd1 _).2.2.2.2.1, sx_grown hg1 (by simp; omega) (fun e => hvB e.symm) (hd1 _).2.2.2.2.2⟩; have hw2 : ∀ u, (w1.setCell ⟨sb, f, none⟩ u).cell? ⟨F, 2, none⟩ = some (.slice (some ⟨sb, 0, none⟩) S S) ∧ (w1.setCell ⟨sb, f, none⟩ u).cell? ⟨wr.heap.size, 0, none⟩ = some (.int .i64 (f : Int)) ∧ (w1.setCell ⟨sb, f, none⟩ u).cell? ⟨wr.heap.size, 1, none⟩ = some (.int .i64 tI) ∧ (w1.setCell ⟨sb, f, none⟩ u).cell? ⟨wr.heap.size, 2, none⟩ = some (.int .i64 0) ∧ (w1.setCell ⟨sb, f, none⟩ u).cell? ⟨wr.heap.size, 3, none⟩ = some (.int .i64 0) ∧ (w1.setCell ⟨sb, f, none⟩ u).cell? ⟨wr.heap.size, 4, none⟩ = some (.int .i64 xI) := fun u => ⟨sx_set hsF hw1.1, sx_set hsB hw1.2.1, sx_set hsB hw1.2.2.1, sx_set hsB hw1.2.2.2.1, sx_set hsB hw1.2.2.2.2.1, sx_set hsB hw1.2.2.2.2.2⟩; clear hN2 ho1 hg1 hl1
          refine hK.out _ _ ?_ (fun hHeld => ?_)
          · exact hw1
          clear hK K
          simp only [Act.put, List.setIfInBounds_toArray, List.set_cons_zero, List.set_cons_succ]
          refine wpAnyH_take (i := 17) (oi := { dst := some 47, op := Op.indexAddr 73 (Operand.tmp 33) (Operand.tmp 35), type := 0, pos := "cost.go:56", after := #[{ on := 3, ground := Ground.data }, { on := 5, ground := Ground.data }, { on := 0, ground := Ground.phase }, { on := 1, ground := Ground.phase }, { on := 2, ground := Ground.phase }, { on := 3, ground := Ground.phase }, { on := 4, ground := Ground.phase }, { on := 5, ground := Ground.phase }, { on := 6, ground := Ground.phase }, { on := 7, ground := Ground.phase }, { on := 8, ground := Ground.phase }, { on := 9, ground := Ground.phase }, { on := 10, ground := Ground.phase }, { on := 11, ground := Ground.phase }, { on := 12, ground := Ground.phase }, { on := 13, ground := Ground.phase }, { on := 14, ground := Ground.phase }, { on := 15, ground := Ground.phase }, { on := 16, ground := Ground.phase }], guard := none }) (v := ?_) rfl (by kernel_rfl) (by kernel_rfl) (by kernel_rfl) (fun _ _ _ h => h) (Or.inl ⟨by rfl, ?_⟩) (by assumption) ?_
          case refine_2 => intro w hSw; (try dsimp only at hSw); go_simp; (try with_reducible rfl)
          simp only [Act.put, List.setIfInBounds_toArray, List.set_cons_zero, List.set_cons_succ]
          refine wpAnyH_ready (rs := [18]) (by kernel_rfl) (by simp) ?_
          refine AllReadyH.cons (o := { dst := none, op := Op.store 22 (Operand.tmp 47) (Operand.tmp 46), type := 0, pos := "cost.go:56", after := #[{ on := 17, ground := Ground.data }, { on := 16, ground := Ground.data }, { on := 16, ground := Ground.chain }, { on := 0, ground := Ground.phase }, { on := 1, ground := Ground.phase }, { on := 2, ground := Ground.phase }, { on := 3, ground := Ground.phase }, { on := 4, ground := Ground.phase }, { on := 5, ground := Ground.phase }, { on := 6, ground := Ground.phase }, { on := 7, ground := Ground.phase }, { on := 8, ground := Ground.phase }, { on := 9, ground := Ground.phase }, { on := 10, ground := Ground.phase }, { on := 11, ground := Ground.phase }, { on := 12, ground := Ground.phase }, { on := 13, ground := Ground.phase }, { on := 14, ground := Ground.phase }, { on := 15, ground := Ground.phase }, { on := 16, ground := Ground.phase }], guard := none }) rfl (fun K hK => ?_) AllReadyH.nil
          go_simp
          refine hK.out _ _ ?_ (fun hHeld => ?_)
          · exact hw2 _
          clear hK K
          refine wpAnyH_done (by kernel_rfl) ?_ _
          go_wp2
          exact ⟨⟨y + 1, _, _, _, by go_num, by omega, by rw [HTK.out]; exact HN2.out⟩, by simp [intOf]; omega⟩
        · skip
          go_simp
          refine hK.out _ _ ?_ (fun hHeld => ?_)
          · first | exact hd1 _ | exact hd0
          clear hK K
          refine wpAnyH_ready (rs := [13]) (by kernel_rfl) (by simp) ?_
          refine AllReadyH.cons (o := { dst := some 43, op := Op.load 22 (Operand.tmp 42), type := 22, pos := "cost.go:56", after := #[{ on := 12, ground := Ground.data }], guard := none }) rfl (fun K hK => ?_) AllReadyH.nil
          go_simp
          refine hK.out _ _ ?_ (fun hHeld => ?_)
          · first | exact hd0 | exact hd1 _
          clear hK K
          refine wpAnyH_ready (rs := [16]) (by kernel_rfl) (by simp) ?_
          refine AllReadyH.cons (o := { dst := some 46, op := Op.call { callee := Callee.builtin Builtin.append, args := #[Operand.tmp 43, Operand.tmp 45], argTypes := #[22, 22] }, type := 22, pos := "cost.go:56", after := #[{ on := 13, ground := Ground.data }, { on := 15, ground := Ground.data }], guard := none }) rfl (fun K hK => ?_) AllReadyH.nil
          refine step_append_at rfl (.tmp 43) (.tmp 45) 22 rfl w.heap.size 64 i0 (.agg #[.int .i64 0, .int .i64 0, .int .i64 0, .int .i64 0, .int .i64 0]) 5 40 Tryd.underlying22 hi hz0 hz1 hz2 rfl (by decide) v0 _ _ rfl (by rw [← HV0.out]; exact ((HNN.out.alloc _).alloc _).drew.rows (0, 0, (f : Int))) ⟨_, 0, none⟩ 1 1 [.int .i64 (f : Int), .int .i64 tI, .int .i64 0, .int .i64 0, .int .i64 xI] rfl rfl (cell_five_at _ _ _ _ _ _ _ _ (by simp)) (five_one _ _ _ _ _) (by have := hRl (0, 0, (f : Int)); unfold maxLen; omega) (by have := hRl (0, 0, (f : Int)); omega) (by simp; omega) ?_; intro v1 w1 ho1 hg1 hl1; obtain ⟨gg, cc, rfl, _, _⟩ := own_some ho1 (Nat.succ_pos _); have hN2 := ((HNN.out.alloc _).alloc _).drew.addS HKY.out hf ho1 (by rw [HV0.out]; exact hg1) (by rw [HV0.out]; exact hl1.imp id (fun h => ⟨_, h, Nat.le_refl _⟩)); have z1 := hN2.1.1; have z2 := hN2.1.2; have HN2 : Hid _ := hN2.2; rw [HV0.out] at z1; have hw1 : w1.cell? ⟨F, 2, none⟩ = some (.slice (some ⟨sb, 0, none⟩) S S) ∧ w1.cell? ⟨wr.heap.size, 0, none⟩ = some (.int .i64 (f : Int)) ∧ w1.cell? ⟨wr.heap.size, 1, none⟩ = some (.int .i64 tI) ∧ w1.cell? ⟨wr.heap.size, 2, none⟩ = some (.int .i64 0) ∧ w1.cell? ⟨wr.heap.size, 3, none⟩ = some (.int .i64 0) ∧ w1.cell? ⟨wr.heap.size, 4, none⟩ = some (.int .i64 xI) := ⟨sx_grown hg1 (by simp; omega) (fun e => hvF e.symm) (hd1 _).1, sx_grown hg1 (by simp; omega) (fun e => hvB e.symm) (hd1 _).2.1, sx_grown hg1 (by simp; omega) (fun e => hvB e.symm) (hd1 _).2.2.1, sx_grown hg1 (by simp; omega) (fun e => hvB e.symm) (hd1 _).2.2.2.1, sx_grown hg1 (by simp; omega) (fun e => hvB e.symm) (hd1 _).2.2.2.2.1, sx_grown hg1 (by simp; omega) (fun e => hvB e.symm) (hd1 _).2.2.2.2.2⟩; have hw2 : ∀ u, (w1.setCell ⟨sb, f, none⟩ u).cell? ⟨F, 2, none⟩ = some (.slice (some ⟨sb, 0, none⟩) S S) ∧ (w1.setCell ⟨sb, f, none⟩ u).cell? ⟨wr.heap.size, 0, none⟩ = some (.int .i64 (f : Int)) ∧ (w1.setCell ⟨sb, f, none⟩ u).cell? ⟨wr.heap.size, 1, none⟩ = some (.int .i64 tI) ∧ (w1.setCell ⟨sb, f, none⟩ u).cell? ⟨wr.heap.size, 2, none⟩ = some (.int .i64 0) ∧ (w1.setCell ⟨sb, f, none⟩ u).cell? ⟨wr.heap.size, 3, none⟩ = some (.int .i64 0) ∧ (w1.setCell ⟨sb, f, none⟩ u).cell? ⟨wr.heap.size, 4, none⟩ = some (.int .i64 xI) := fun u => ⟨sx_set hsF hw1.1, sx_set hsB hw1.2.1, sx_set hsB hw1.2.2.1, sx_set hsB hw1.2.2.2.1, sx_set hsB hw1.2.2.2.2.1, sx_set hsB hw1.2.2.2.2.2⟩; clear hN2 ho1 hg1 hl1
          refine hK.out _ _ ?_ (fun hHeld => ?_)
          · exact hw1
          clear hK K
          simp only [Act.put, List.setIfInBounds_toArray, List.set_cons_zero, List.set_cons_succ]
          refine wpAnyH_take (i := 17) (oi := { dst := some 47, op := Op.indexAddr 73 (Operand.tmp 33) (Operand.tmp 35), type := 0, pos := "cost.go:56", after := #[{ on := 3, ground := Ground.data }, { on := 5, ground := Ground.data }, { on := 0, ground := Ground.phase }, { on := 1, ground := Ground.phase }, { on := 2, ground := Ground.phase }, { on := 3, ground := Ground.phase }, { on := 4, ground := Ground.phase }, { on := 5, ground := Ground.phase }, { on := 6, ground := Ground.phase }, { on := 7, ground := Ground.phase }, { on := 8, ground := Ground.phase }, { on := 9, ground := Ground.phase }, { on := 10, ground := Ground.phase }, { on := 11, ground := Ground.phase }, { on := 12, ground := Ground.phase }, { on := 13, ground := Ground.phase }, { on := 14, ground := Ground.phase }, { on := 15, ground := Ground.phase }, { on := 16, ground := Ground.phase }], guard := none }) (v := ?_) rfl (by kernel_rfl) (by kernel_rfl) (by kernel_rfl) (fun _ _ _ h => h) (Or.inl ⟨by rfl, ?_⟩) (by assumption) ?_
          case refine_2 => intro w hSw; (try dsimp only at hSw); go_simp; (try with_reducible rfl)
          simp only [Act.put, List.setIfInBounds_toArray, List.set_cons_zero, List.set_cons_succ]
          refine wpAnyH_ready (rs := [18]) (by kernel_rfl) (by simp) ?_
          refine AllReadyH.cons (o := { dst := none, op := Op.store 22 (Operand.tmp 47) (Operand.tmp 46), type := 0, pos := "cost.go:56", after := #[{ on := 17, ground := Ground.data }, { on := 16, ground := Ground.data }, { on := 16, ground := Ground.chain }, { on := 0, ground := Ground.phase }, { on := 1, ground := Ground.phase }, { on := 2, ground := Ground.phase }, { on := 3, ground := Ground.phase }, { on := 4, ground := Ground.phase }, { on := 5, ground := Ground.phase }, { on := 6, ground := Ground.phase }, { on := 7, ground := Ground.phase }, { on := 8, ground := Ground.phase }, { on := 9, ground := Ground.phase }, { on := 10, ground := Ground.phase }, { on := 11, ground := Ground.phase }, { on := 12, ground := Ground.phase }, { on := 13, ground := Ground.phase }, { on := 14, ground := Ground.phase }, { on := 15, ground := Ground.phase }, { on := 16, ground := Ground.phase }], guard := none }) rfl (fun K hK => ?_) AllReadyH.nil
          go_simp
          refine hK.out _ _ ?_ (fun hHeld => ?_)
          · exact hw2 _
          clear hK K
          refine wpAnyH_done (by kernel_rfl) ?_ _
          go_wp2
          exact ⟨⟨y + 1, _, _, _, by go_num, by omega, by rw [HTK.out]; exact HN2.out⟩, by simp [intOf]; omega⟩
      · have hkey : key ((f : Int), tI, iI, oI, xI) = (iI, oI, 0) := by unfold key; rw [if_neg hsil]
        have HKY : Hid (key ((f : Int), tI, iI, oI, xI) = (iI, oI, 0)) := hkey
        have HIO : Hid (¬ (iI = 0 ∧ oI = 0)) := hsil
        have hn : n < maxLen := by have := HNN.out.cnt; rw [List.length_take] at this; unfold maxLen; omega
        obtain ⟨v0, hv0⟩ : ∃ v, V (iI, oI, 0) = v := ⟨_, rfl⟩
        have HV0 : Hid (V (iI, oI, 0) = v0) := hv0
        have eG : (if iI = 0 ∧ oI = 0 then nilS else V (iI, oI, 0)) = v0 := by rw [if_neg hsil]; exact hv0
        obtain ⟨s2, o2, hm2, hE2, hS2⟩ := entry2 (((HNN.out.alloc (.cells #[.int .i64 (f : Int), .int .i64 tI, .int .i64 iI, .int .i64 oI, .int .i64 xI] 64)).alloc (.cells #[.int .i64 iI, .int .i64 oI] 169)).alloc (.cells #[.int .i64 (f : Int), .int .i64 tI, .int .i64 iI, .int .i64 oI, .int .i64 xI] 64)).drew.mp hn (w64 g4 g5) (w64 g6 g7)
        simp only [eG] at hE2
        have HM2 : Hid (∃ es clock, o2 = .map es clock) := hm2
        have HS2 : Hid (∀ (w2 : World) (val : Value), w2.heap[mb]? = some o2 → ∃ o3, (Instr.entryStore 163 (.map (some mb)) (.int .i64 (s2 : Int)) val).run Tryd.prog w2 = .ok () (ChangeMaps.setBlock w2 mb o3) ∧ IsMp (ChangeMaps.setBlock w2 mb o3) mb (n + 1) (fun i' o' => if i' = iI ∧ o' = oI then val else (if i' = 0 ∧ o' = 0 then nilS else V (i', o', 0)))) := hS2
        have HNY : Hid (Nf w ((((wr.alloc (.cells #[.int .i64 (f : Int), .int .i64 tI, .int .i64 iI, .int .i64 oI, .int .i64 xI] 64)).alloc (.cells #[.int .i64 iI, .int .i64 oI] 169)).alloc (.cells #[.int .i64 (f : Int), .int .i64 tI, .int .i64 iI, .int .i64 oI, .int .i64 xI] 64)).drew) F mb sb S n (A.take y) V vs) := (((HNN.out.alloc _).alloc _).alloc _).drew
        have HCE : Hid (∀ j u, [Value.int .i64 (f : Int), .int .i64 tI, .int .i64 iI, .int .i64 oI, .int .i64 xI][j]? = some u → (ChangeMaps.setBlock ((((wr.alloc (.cells #[.int .i64 (f : Int), .int .i64 tI, .int .i64 iI, .int .i64 oI, .int .i64 xI] 64)).alloc (.cells #[.int .i64 iI, .int .i64 oI] 169)).alloc (.cells #[.int .i64 (f : Int), .int .i64 tI, .int .i64 iI, .int .i64 oI, .int .i64 xI] 64)).drew) mb o2).cell? ((⟨wr.heap.size + 1 + 1, 0, none⟩ : Addr).add j) = some u) := fun j u hu => setCell5 HNY.out (cell_five_at _ _ _ _ _ _ _ 64 (by simp) j u hu) (by have := HNN.out.mp.lt; omega)
        have HSZ : Hid (w.heap.size ≤ (ChangeMaps.setBlock ((((wr.alloc (.cells #[.int .i64 (f : Int), .int .i64 tI, .int .i64 iI, .int .i64 oI, .int .i64 xI] 64)).alloc (.cells #[.int .i64 iI, .int .i64 oI] 169)).alloc (.cells #[.int .i64 (f : Int), .int .i64 tI, .int .i64 iI, .int .i64 oI, .int .i64 xI] 64)).drew) mb o2).heap.size) := by show _ ≤ _; simp [ChangeMaps.setBlock]; omega
        clear hm2 hS2 hkey eG hv0 q21 q22
        by_cases hi0 : iI = 0
        · have hi1 : (iI == 0) = true := by rw [hi0]; rfl
          have ho1 : ¬ oI = 0 := fun e => hsil ⟨hi0, e⟩
          have ho2 : (oI == 0) = false := by simpa using ho1
          have HI0 : Hid (iI = 0) := hi0
          clear hi0 hsil
          go_wp2
          go_region_law (refine step_append_at rfl (.tmp 58) (.tmp 60) 22 rfl w.heap.size 64 i0 (.agg #[.int .i64 0, .int .i64 0, .int .i64 0, .int .i64 0, .int .i64 0]) 5 40 Tryd.underlying22 hi hz0 hz1 hz2 rfl (by decide) v0 _ _ rfl (by rw [← HV0.out]; exact HNY.out.rowsSet (iI, oI, 0) o2) ⟨_, 0, none⟩ 1 1 [.int .i64 (f : Int), .int .i64 tI, .int .i64 iI, .int .i64 oI, .int .i64 xI] rfl rfl HCE.out (five_one _ _ _ _ _) (by have := hRl (iI, oI, 0); unfold maxLen; omega) (by have := hRl (iI, oI, 0); omega) HSZ.out ?_; intro v1 w1 ho1 hg1 hl1; obtain ⟨gg, cc, rfl, _, _⟩ := own_some ho1 (Nat.succ_pos _); obtain ⟨o3, hS3, hM3⟩ := HS2.out w1 _ (mbKept HNY.out (HV0.out ▸ hg1)); have HN2 : Hid _ := HNY.out.addL HKY.out HIO.out HM2.out ho1 (HV0.out.symm ▸ hg1) (by rw [HV0.out]; exact hl1.imp id (fun h => ⟨_, h, by simp [ChangeMaps.setBlock]⟩)) rfl hM3; clear ho1 hg1 hl1 hM3)
          all_goals go_wp2
          all_goals exact ⟨⟨y + 1, _, _, _, by go_num, by omega, by rw [HTK.out]; exact HN2.out⟩, by simp [intOf]; omega⟩
        · have hi1 : (iI == 0) = false := by simpa using hi0
          clear hsil
          go_wp2
          go_region_law (refine step_append_at rfl (.tmp 58) (.tmp 60) 22 rfl w.heap.size 64 i0 (.agg #[.int .i64 0, .int .i64 0, .int .i64 0, .int .i64 0, .int .i64 0]) 5 40 Tryd.underlying22 hi hz0 hz1 hz2 rfl (by decide) v0 _ _ rfl (by rw [← HV0.out]; exact HNY.out.rowsSet (iI, oI, 0) o2) ⟨_, 0, none⟩ 1 1 [.int .i64 (f : Int), .int .i64 tI, .int .i64 iI, .int .i64 oI, .int .i64 xI] rfl rfl HCE.out (five_one _ _ _ _ _) (by have := hRl (iI, oI, 0); unfold maxLen; omega) (by have := hRl (iI, oI, 0); omega) HSZ.out ?_; intro v1 w1 ho1 hg1 hl1; obtain ⟨gg, cc, rfl, _, _⟩ := own_some ho1 (Nat.succ_pos _); obtain ⟨o3, hS3, hM3⟩ := HS2.out w1 _ (mbKept HNY.out (HV0.out ▸ hg1)); have HN2 : Hid _ := HNY.out.addL HKY.out HIO.out HM2.out ho1 (HV0.out.symm ▸ hg1) (by rw [HV0.out]; exact hl1.imp id (fun h => ⟨_, h, by simp [ChangeMaps.setBlock]⟩)) rfl hM3; clear ho1 hg1 hl1 hM3)
          all_goals go_wp2
          all_goals exact ⟨⟨y + 1, _, _, _, by go_num, by omega, by rw [HTK.out]; exact HN2.out⟩, by simp [intOf]; omega⟩
    · have ey : y = A.length := by omega
      have HNN : Hid (Nf w wr F mb sb S n A V vs) := by rw [ey, List.take_length] at hN; exact hN
      clear hN ey
      go_wp2
      go_ret
      exact ⟨F, mb, sb, n, V, vs, rfl, HNN.out⟩
end Go.Proofs.YtfjocafepigijaaDoor.Nx
/- Rows of arcs, one for each state: how they lie, an arc more. No conditions. -/
namespace Go.Proofs.YtfjocafepigijaaDoor.Ra
open Go.RowKit Mv Qp Sk Po Ps Wd Se Mp St Cm Nm Nx

def upn (V : Nat → Value) (k0 : Nat) (v : Value) : Nat → Value := fun k => if k = k0 then v else V k
def adn (R : Nat → List Arc) (k0 : Nat) (a : Arc) : Nat → List Arc := fun k => if k = k0 then R k ++ [a] else R k
structure Rt (w wr : World) (sb S : Nat) (R : Nat → List Arc) (V : Nat → Value) (vs : List Value) : Prop where
  heads : wr.ownsRow w.heap.size 22 1 (.slice (some ⟨sb, 0, none⟩) S S) S vs
  len : vs.length = S
  head : ∀ f, f < S → vs[f]? = some (V f)
  rows : ∀ k, wr.ownsRow w.heap.size 64 5 (V k) (R k).length (acs (R k))
  apart : ∀ k k', k ≠ k' → ∀ b, (V k).ownBlock = some b → (V k').ownBlock ≠ some b
  below : Below w.heap.size w wr
theorem Rt.alloc {w wr : World} {sb S : Nat} {R : Nat → List Arc} {V : Nat → Value} {vs : List Value} (h : Rt w wr sb S R V vs) (o : Obj) : Rt w (wr.alloc o) sb S R V vs :=
  ⟨h.heads.alloc o, h.len, h.head, fun k => (h.rows k).alloc o, h.apart, h.below.alloc h.below.size o⟩
theorem Rt.drew {w wr : World} {sb S : Nat} {R : Nat → List Arc} {V : Nat → Value} {vs : List Value} (h : Rt w wr sb S R V vs) : Rt w wr.drew sb S R V vs :=
  ⟨h.heads, h.len, h.head, h.rows, h.apart, h.below.drew⟩
theorem Rt.begun {w W : World} {S : Nat} (hb : Below w.heap.size w W) (hS : S ≤ 3000) : Rt w (W.alloc (.cells (mc S) 22)) W.heap.size S (fun _ => []) (fun _ => nilS) (List.replicate S nilS) := by
  refine ⟨⟨by simp, .inr ⟨W.heap.size, S, mc S, rfl, hb.size, heap_alloc_new _ _, Nat.le_refl _, by unfold maxLen; omega, ?_, ?_⟩⟩, by simp, fun f hf => by simp [hf], fun k => ⟨rfl, .inl ⟨rfl, rfl⟩⟩, fun k k' _ b hb => (by cases hb), hb.alloc hb.size _⟩
  · rw [← Array.length_toList, mc_list]
    simp
  · rw [mc_list]
    simp
theorem Rt.cell {w wr : World} {sb S f : Nat} {R : Nat → List Arc} {V : Nat → Value} {vs : List Value} (h : Rt w wr sb S R V vs) (hf : f < S) : wr.cell? ⟨sb, f, none⟩ = some (V f) := by
  rw [h.heads.cellAt f (by omega)]
  exact h.head f hf
theorem apart_upn {V : Nat → Value} {k0 : Nat} {v1 : Value} {sz : Nat} (hap : ∀ k k', k ≠ k' → ∀ b, (V k).ownBlock = some b → (V k').ownBlock ≠ some b) (hlt : ∀ k b, (V k).ownBlock = some b → b < sz) (hl : v1.ownBlock = (V k0).ownBlock ∨ ∃ g, v1.ownBlock = some g ∧ sz ≤ g) :
    ∀ k k', k ≠ k' → ∀ b, (upn V k0 v1 k).ownBlock = some b → (upn V k0 v1 k').ownBlock ≠ some b := by
  intro k k' hne b hb hb'
  unfold upn at hb hb'
  by_cases e1 : k = k0
  · have e2 : ¬ k' = k0 := fun e => hne (e1.trans e.symm)
    rw [if_pos e1] at hb
    rw [if_neg e2] at hb'
    rcases hl with hl | ⟨g, hl, hg⟩
    · rw [hl] at hb
      exact hap k0 k' (fun e => e2 e.symm) b hb hb'
    · rw [hl] at hb
      cases hb
      exact absurd (hlt k' _ hb') (Nat.not_lt.2 hg)
  · rw [if_neg e1] at hb
    by_cases e2 : k' = k0
    · rw [if_pos e2] at hb'
      rcases hl with hl | ⟨g, hl, hg⟩
      · rw [hl] at hb'
        exact hap k k0 e1 b hb hb'
      · rw [hl] at hb'
        cases hb'
        exact absurd (hlt k _ hb) (Nat.not_lt.2 hg)
    · rw [if_neg e2] at hb'
      exact hap k k' hne b hb hb'
/-- an arc more in the row of a state -/
theorem Rt.add {w wr w1 : World} {sb S f : Nat} {R : Nat → List Arc} {V : Nat → Value} {vs : List Value} {a : Arc} {v1 : Value} (h : Rt w wr sb S R V vs) (hf : f < S)
    (ho : w1.ownsRow w.heap.size 64 5 v1 ((R f).length + 1) (acs (R f) ++ ac a)) (hg : wr.grownBy w1 (V f).ownBlock) (hl : v1.ownBlock = (V f).ownBlock ∨ ∃ g, v1.ownBlock = some g ∧ wr.heap.size ≤ g) :
    (w1.cell? ⟨sb, f, none⟩ = some (V f) ∧ w1.frozen? ⟨sb, f, none⟩ = false) ∧ Rt w (w1.setCell ⟨sb, f, none⟩ v1) sb S (adn R f a) (upn V f v1) (vs.set f v1) := by
  have hty : ∀ b, (V f).ownBlock = some b → ∃ cur, wr.heap[b]? = some (.cells cur 64 (0, 0)) := fun b hb => own_ty (h.rows _) hb
  have hk1 : Kp (fun b => (V f).ownBlock = some b) wr w1 := (Kp.refl _ wr).grown hg (fun b hb _ => hb)
  obtain ⟨cs, hcs⟩ := own_ty h.heads (k := sb) rfl
  have nS : ¬ (V f).ownBlock = some sb := fun e => by obtain ⟨c, hc⟩ := hty sb e; exact ty_ne hc hcs (by decide)
  have heads1 := own_kp h.heads hk1 nS
  obtain ⟨cs1, hcs1⟩ := own_ty heads1 (k := sb) rfl
  have hlt : ∀ k b, (V k).ownBlock = some b → b < wr.heap.size := fun k b hb => ((h.rows k).lt b hb).2
  have hsl : w.heap.size ≤ sb := (h.heads.lt sb rfl).1
  have hk2 : Kp (fun b => b = sb) w1 (w1.setCell ⟨sb, f, none⟩ v1) := (Kp.refl _ w1).setCell _ _ _ (fun _ => rfl)
  have rows1 : ∀ k, k ≠ f → w1.ownsRow w.heap.size 64 5 (V k) (R k).length (acs (R k)) := fun k hne => own_kp2 (h.rows k) hk1 (fun b hb e => h.apart k _ hne b hb e)
  have nsb : ∀ {v : Value} {m : Nat} {xs : List Value}, w1.ownsRow w.heap.size 64 5 v m xs → ∀ b, v.ownBlock = some b → ¬ b = sb := fun {v m xs} hr b hb e => by
    obtain ⟨c, hc⟩ := own_ty hr hb
    subst e
    exact ty_ne hc hcs1 (by decide)
  refine ⟨⟨?_, heads1.frozenAt f⟩, (heads1.stored f v1).1, by rw [List.length_set]; exact h.len, fun g hg' => ?_, fun k => ?_, apart_upn h.apart hlt hl, ?_⟩
  · rw [heads1.cellAt f (by omega)]
    exact h.head f hf
  · rw [List.getElem?_set]
    unfold upn
    by_cases e : f = g
    · subst e
      simp [h.len, hf]
    · rw [if_neg e, if_neg (fun e2 => e e2.symm)]
      exact h.head g hg'
  · unfold upn adn
    by_cases e : k = f
    · rw [if_pos e, if_pos e]
      subst e
      rw [← acs_snoc, List.length_append]
      exact own_kp2 ho hk2 (nsb ho)
    · rw [if_neg e, if_neg e]
      exact own_kp2 (rows1 k e) hk2 (nsb (rows1 k e))
  · exact (h.below.grown hg h.below.size (fun b hb => ((h.rows _).lt b hb).1)).setCell hsl _
/-- the arcs that are put at a state -/
def rws (g : Arc → Arc) (L : List Arc) : Nat → List Arc := fun k => (L.map g).filter fun a => a.1 == (k : Int)
theorem rws_up (g : Arc → Arc) (L : List Arc) (a : Arc) (f : Nat) (hf : (g a).1 = (f : Int)) : rws g (L ++ [a]) = adn (rws g L) f (g a) := by
  funext k
  unfold rws adn
  rw [List.map_append, List.filter_append]
  by_cases e : k = f
  · subst e
    simp [hf]
  · have : ¬ (f : Int) = (k : Int) := by omega
    simp [hf, this, e]
theorem rws_len (g : Arc → Arc) (L : List Arc) (k : Nat) : (rws g L k).length ≤ L.length := by
  unfold rws
  exact Nat.le_trans (List.length_filter_le _ _) (by simp)
end Go.Proofs.YtfjocafepigijaaDoor.Ra
/- A list of arcs that has each name once, for its least cost: how it lies, one arc more. No conditions. -/
namespace Go.Proofs.YtfjocafepigijaaDoor.Am
open Go.RowKit Mv Qp Sk Po Ps Wd Se Mp St Cm Nm Nx

theorem lt_at {w : World} {g : Nat} {o : Obj} (h : w.heap[g]? = some o) : g < w.heap.size := (Array.getElem?_eq_some_iff.1 h).1
end Go.Proofs.YtfjocafepigijaaDoor.Am
/- put: an arc more. Conditions: its numbers have 64 bits; the arcs are not too many. -/
namespace Go.Proofs.YtfjocafepigijaaDoor.Am
open Go.RowKit Mv Qp Sk Po Ps Wd Se Mp St Cm Nm Nx

theorem own_slice {w : World} {base e size n : Nat} {v : Value} {xs : List Value} (h : w.ownsRow base e size v n xs) : ∃ ad cap, v = .slice ad n cap := by
  rcases h.2 with ⟨h1, h2⟩ | ⟨g, cap, _, h1, _⟩
  · subst h2
    exact ⟨_, _, h1⟩
  · exact ⟨_, _, h1⟩
end Go.Proofs.YtfjocafepigijaaDoor.Am
/- leaving: the arcs of each state. Condition: the machine is right and small. -/
namespace Go.Proofs.YtfjocafepigijaaDoor.Ra
open Go.RowKit Mv Qp Sk Po Ps Wd Se Mp St Cm Nm Nx Tc

set_option maxHeartbeats 4000000 in
set_option maxRecDepth 100000 in
theorem leaving_big (S : Nat) (A : List Arc) (va vf : Value) (w : World) (hrow : Mv.Row w va 5 A.length (acs A)) (hA : ∀ a ∈ A, ∃ f : Nat, a.1 = (f : Int) ∧ f < S) (hS : S ≤ 3000) (hAl : A.length ≤ 20000) :
    Calls Tryd.prog 39 #[.agg #[.int .i64 S, va, vf]] w fun e w' => ∃ sb V vs, e = .returned (.slice (some ⟨sb, 0, none⟩) S S) ∧ Rt w w' sb S (rws (fun a => a) A) V vs := by
  obtain ⟨hxl, aa, ca, rfl, _, hAx⟩ := hrow
  have hmk := run_mk S hS
  have HA : Hid (∀ a ∈ A, ∃ f : Nat, a.1 = (f : Int) ∧ f < S) := hA
  have HAx : Hid (A.length = 0 ∨ ∃ b off, aa = some ⟨b, off, none⟩ ∧ b < w.heap.size ∧ ∀ j u, (acs A)[j]? = some u → w.cell? ⟨b, off + j, none⟩ = some u) := hAx
  clear hA hAx hxl
  have hb0 : Below w.heap.size w (w.alloc (.cells #[.int .i64 S, .slice aa A.length ca, vf] 25)) := (Below.refl _ w).alloc (Nat.le_refl _) _
  have hrt := Rt.begun hb0 hS
  rw [show (w.alloc (.cells #[.int .i64 S, .slice aa A.length ca, vf] 25)).heap.size = w.heap.size + 1 by simp] at hrt
  have hrow1 := (heap_alloc_old (w.alloc (.cells #[.int .i64 S, .slice aa A.length ca, vf] 25)) (.cells (mc S) 22) (by simp)).trans (heap_alloc_new w (.cells #[.int .i64 S, .slice aa A.length ca, vf] 25))
  have hb1 := cell_of_row _ _ 1 _ _ _ hrow1
  obtain ⟨i0, hi, hz0, hz1, hz2⟩ := info_parts info36
  go_enter Tryd.func39, Tryd.ntmps39
  go_upto_region 3 with fail
  generalize hV : (w.alloc (.cells #[.int .i64 S, .slice aa A.length ca, vf] 25)).alloc (.cells (mc S) 22) = Vb at *
  clear hV
  generalize w.heap.size + 1 = sb at *
  go_wp2
  go_loopw [12] (fun a wr => ∃ (y : Nat) (V : Nat → Value) (vs : List Value), a = .int .i64 y ∧ y ≤ A.length ∧ Rt w wr sb S (rws (fun a => a) (A.take y)) V vs) (fun a _ => A.length - (intOf a).toNat)
  case atStart => exact ⟨0, _, _, rfl, Nat.zero_le _, hrt⟩
  case round =>
    clear hrt hb0 hb1 hrow1 hmk
    obtain ⟨y, Vx, vs, rfl, hy, hN⟩ := hrel
    by_cases hlt : y < A.length
    · obtain ⟨b, off, rfl, hbl, hcs⟩ : ∃ b off, aa = some ⟨b, off, none⟩ ∧ b < w.heap.size ∧ ∀ j u, (acs A)[j]? = some u → wr.cell? ⟨b, off + j, none⟩ = some u := by
        obtain ⟨b, off, e, hb, hc⟩ := HAx.out.resolve_left (by omega)
        exact ⟨b, off, e, hb, fun j u hu => (hN.below.cell hb).trans (hc j u hu)⟩
      have u := acs_at A y hlt
      obtain ⟨f, hfa, hf⟩ := HA.out _ (List.getElem_mem hlt)
      obtain ⟨fI, tI, iI, oI, xI, ea⟩ : ∃ f t i1 o1 x, A[y] = (f, t, i1, o1, x) := ⟨_, _, _, _, _, rfl⟩
      rw [ea] at u hfa
      dsimp only at hfa
      subst hfa
      have htk : A.take (y + 1) = A.take y ++ [((f : Int), tI, iI, oI, xI)] := by rw [← ea]; exact (List.take_append_getElem hlt).symm
      have p0 := hcs _ _ u.1
      have p1 := hcs _ _ u.2.1
      have p2 := hcs _ _ u.2.2.1
      have p3 := hcs _ _ u.2.2.2.1
      have p4 := hcs _ _ u.2.2.2.2
      rw [← Nat.add_assoc] at p1 p2 p3 p4
      have HTK : Hid (rws (fun a => a) (A.take (y + 1)) = adn (rws (fun a => a) (A.take y)) f ((f : Int), tI, iI, oI, xI)) := by show _ = _; rw [htk]; exact rws_up _ _ _ _ rfl
      have HRL : Hid ((rws (fun a => a) (A.take y) f).length ≤ 20000) := Nat.le_trans (rws_len _ _ _) (by rw [List.length_take]; omega)
      have HR : Hid (Rt w (wr.alloc (.cells #[.int .i64 (f : Int), .int .i64 tI, .int .i64 iI, .int .i64 oI, .int .i64 xI] 64)) sb S (rws (fun a => a) (A.take y)) Vx vs) := hN.alloc _
      have hx := heap_alloc_new wr (.cells #[.int .i64 (f : Int), .int .i64 tI, .int .i64 iI, .int .i64 oI, .int .i64 xI] 64)
      obtain ⟨v0, hv0⟩ : ∃ v, Vx f = v := ⟨_, rfl⟩
      have HV0 : Hid (Vx f = v0) := hv0
      have hvB : ¬ v0.ownBlock = some wr.heap.size := fun e => by rw [← hv0] at e; have := ((hN.rows _).lt _ e).2; omega
      have hsB : ¬ wr.heap.size = sb := fun e => by have := (hN.heads.lt sb rfl).2; omega
      clear u hcs ea htk hN hv0
      go_upto_region 5 with fail
      clear p0 p1 p2 p3 p4
      generalize hV : wr.alloc (.cells #[.int .i64 (f : Int), .int .i64 tI, .int .i64 iI, .int .i64 oI, .int .i64 xI] 64) = V at *
      clear hV
      generalize wr.heap.size = bx at *
      have HCE : Hid _ := fun (W : World) (hSw : W.heap[bx]? = some (.cells #[.int .i64 (f : Int), .int .i64 tI, .int .i64 iI, .int .i64 oI, .int .i64 xI] 64 (0, 0))) => (And.intro (cell_of_row _ _ 0 _ _ _ hSw) (And.intro (cell_of_row _ _ 1 _ _ _ hSw) (And.intro (cell_of_row _ _ 2 _ _ _ hSw) (And.intro (cell_of_row _ _ 3 _ _ _ hSw) (cell_of_row _ _ 4 _ _ _ hSw)))))
      refine wp_region_held_drew (S := fun W => W.heap[bx]? = some (.cells #[.int .i64 (f : Int), .int .i64 tI, .int .i64 iI, .int .i64 oI, .int .i64 xI] 64 (0, 0))) (by kernel_rfl) (by exact hx) (fun hHeld => ?_)
      have HR0 : Hid (Rt w V.drew sb S (rws (fun a => a) (A.take y)) Vx vs) := HR.out.drew
      have hx0 := hHeld
      clear HR hx
      generalize hV : V.drew = V0 at *
      clear hV
      refine wpAnyH_take (i := 0) (oi := { dst := some 16, op := Op.move (Operand.tmp 3), type := 73, pos := "machine.go:75", after := #[], guard := none }) (v := ?_) rfl (by kernel_rfl) (by kernel_rfl) (by kernel_rfl) (fun _ _ _ h => h) (Or.inl ⟨by rfl, ?_⟩) (by assumption) ?_
      case refine_2 => intro w hSw; (try dsimp only at hSw); obtain ⟨z0, z1, z2, z3, z4⟩ := HCE.out _ hSw; go_simp; (try with_reducible rfl)
      simp only [Act.put, List.setIfInBounds_toArray, List.set_cons_zero, List.set_cons_succ]
      refine wpAnyH_take (i := 1) (oi := { dst := some 17, op := Op.fieldAddr 64 (Operand.tmp 5) 0, type := 0, pos := "machine.go:75", after := #[], guard := none }) (v := ?_) rfl (by kernel_rfl) (by kernel_rfl) (by kernel_rfl) (fun _ _ _ h => h) (Or.inl ⟨by rfl, ?_⟩) (by assumption) ?_
      case refine_2 => intro w hSw; (try dsimp only at hSw); obtain ⟨z0, z1, z2, z3, z4⟩ := HCE.out _ hSw; go_simp; (try with_reducible rfl)
      simp only [Act.put, List.setIfInBounds_toArray, List.set_cons_zero, List.set_cons_succ]
      refine wpAnyH_take (i := 2) (oi := { dst := some 18, op := Op.load 3 (Operand.tmp 17), type := 3, pos := "machine.go:75", after := #[{ on := 1, ground := Ground.data }], guard := none }) (v := ?_) rfl (by kernel_rfl) (by kernel_rfl) (by kernel_rfl) (fun _ _ _ h => h) (Or.inl ⟨by rfl, ?_⟩) (by assumption) ?_
      case refine_2 => intro w hSw; (try dsimp only at hSw); obtain ⟨z0, z1, z2, z3, z4⟩ := HCE.out _ hSw; go_simp; (try with_reducible rfl)
      simp only [Act.put, List.setIfInBounds_toArray, List.set_cons_zero, List.set_cons_succ]
      refine wpAnyH_take (i := 3) (oi := { dst := some 19, op := Op.move (Operand.tmp 3), type := 73, pos := "machine.go:75", after := #[], guard := none }) (v := ?_) rfl (by kernel_rfl) (by kernel_rfl) (by kernel_rfl) (fun _ _ _ h => h) (Or.inl ⟨by rfl, ?_⟩) (by assumption) ?_
      case refine_2 => intro w hSw; (try dsimp only at hSw); obtain ⟨z0, z1, z2, z3, z4⟩ := HCE.out _ hSw; go_simp; (try with_reducible rfl)
      simp only [Act.put, List.setIfInBounds_toArray, List.set_cons_zero, List.set_cons_succ]
      refine wpAnyH_take (i := 4) (oi := { dst := some 20, op := Op.fieldAddr 64 (Operand.tmp 5) 0, type := 0, pos := "machine.go:75", after := #[], guard := none }) (v := ?_) rfl (by kernel_rfl) (by kernel_rfl) (by kernel_rfl) (fun _ _ _ h => h) (Or.inl ⟨by rfl, ?_⟩) (by assumption) ?_
      case refine_2 => intro w hSw; (try dsimp only at hSw); obtain ⟨z0, z1, z2, z3, z4⟩ := HCE.out _ hSw; go_simp; (try with_reducible rfl)
      simp only [Act.put, List.setIfInBounds_toArray, List.set_cons_zero, List.set_cons_succ]
      refine wpAnyH_take (i := 5) (oi := { dst := some 21, op := Op.load 3 (Operand.tmp 20), type := 3, pos := "machine.go:75", after := #[{ on := 4, ground := Ground.data }], guard := none }) (v := ?_) rfl (by kernel_rfl) (by kernel_rfl) (by kernel_rfl) (fun _ _ _ h => h) (Or.inl ⟨by rfl, ?_⟩) (by assumption) ?_
      case refine_2 => intro w hSw; (try dsimp only at hSw); obtain ⟨z0, z1, z2, z3, z4⟩ := HCE.out _ hSw; go_simp; (try with_reducible rfl)
      simp only [Act.put, List.setIfInBounds_toArray, List.set_cons_zero, List.set_cons_succ]
      refine wpAnyH_take (i := 6) (oi := { dst := some 22, op := Op.indexAddr 73 (Operand.tmp 19) (Operand.tmp 21), type := 0, pos := "machine.go:75", after := #[{ on := 3, ground := Ground.data }, { on := 5, ground := Ground.data }], guard := none }) (v := ?_) rfl (by kernel_rfl) (by kernel_rfl) (by kernel_rfl) (fun _ _ _ h => h) (Or.inl ⟨by rfl, ?_⟩) (by assumption) ?_
      case refine_2 => intro w hSw; (try dsimp only at hSw); obtain ⟨z0, z1, z2, z3, z4⟩ := HCE.out _ hSw; go_simp; (try with_reducible rfl)
      simp only [Act.put, List.setIfInBounds_toArray, List.set_cons_zero, List.set_cons_succ]
      refine wpAnyH_take (i := 8) (oi := { dst := some 24, op := Op.load 64 (Operand.tmp 5), type := 64, pos := "machine.go:75", after := #[], guard := none }) (v := ?_) rfl (by kernel_rfl) (by kernel_rfl) (by kernel_rfl) (fun _ _ _ h => h) (Or.inl ⟨by rfl, ?_⟩) (by assumption) ?_
      case refine_2 => intro w hSw; (try dsimp only at hSw); obtain ⟨z0, z1, z2, z3, z4⟩ := HCE.out _ hSw; go_simp; (try with_reducible rfl)
      simp only [Act.put, List.setIfInBounds_toArray, List.set_cons_zero, List.set_cons_succ]
      refine wpAnyH_ready (rs := [7, 9]) (by kernel_rfl) (by simp) ?_
      refine (AllReadyH.cons (o := { dst := some 23, op := Op.load 22 (Operand.tmp 22), type := 22, pos := "machine.go:75", after := #[{ on := 6, ground := Ground.data }], guard := none }) rfl (fun K hK => ?_) (AllReadyH.cons (o := { dst := some 25, op := Op.buildSlice 22 1 #[(0, Operand.tmp 24)], type := 22, pos := "machine.go:75", after := #[{ on := 8, ground := Ground.data }], guard := none }) rfl (fun K hK => ?_) AllReadyH.nil))
      · skip
        have c7 := HR0.out.cell hf
        rw [HV0.out] at c7
        go_simp
        refine hK.out _ _ ?_ (fun hHeld => ?_)
        · first | exact hx1 | exact hx0
        clear hK K
        try simp only [Act.put, List.setIfInBounds_toArray, List.set_cons_zero, List.set_cons_succ]
        clear c7
        refine wpAnyH_ready (rs := [9]) (by kernel_rfl) (by simp) ?_
        refine (AllReadyH.cons (o := { dst := some 25, op := Op.buildSlice 22 1 #[(0, Operand.tmp 24)], type := 22, pos := "machine.go:75", after := #[{ on := 8, ground := Ground.data }], guard := none }) rfl (fun K hK => ?_) AllReadyH.nil)
        go_simp
        have HR1 : Hid _ := HR0.out.alloc (.cells #[.int .i64 (f : Int), .int .i64 tI, .int .i64 iI, .int .i64 oI, .int .i64 xI] 64)
        have hx1 := (heap_alloc_old V0 (.cells #[.int .i64 (f : Int), .int .i64 tI, .int .i64 iI, .int .i64 oI, .int .i64 xI] 64) (lt_get hx0)).trans hx0
        have hn1 := cell_five_at V0 V0.heap.size (.int .i64 (f : Int)) (.int .i64 tI) (.int .i64 iI) (.int .i64 oI) (.int .i64 xI) 64 rfl
        refine hK.out _ _ ?_ (fun hHeld => ?_)
        · exact hx1
        clear hK K
        try simp only [Act.put, List.setIfInBounds_toArray, List.set_cons_zero, List.set_cons_succ]
        generalize hV : V0.alloc (.cells #[.int .i64 (f : Int), .int .i64 tI, .int .i64 iI, .int .i64 oI, .int .i64 xI] 64) = V1 at *
        clear hV
        generalize V0.heap.size = bs at *
        refine wpAnyH_ready (rs := [10]) (by kernel_rfl) (by simp) ?_
        refine (AllReadyH.cons (o := { dst := some 26, op := Op.call { callee := Callee.builtin Builtin.append, args := #[Operand.tmp 23, Operand.tmp 25], argTypes := #[22, 22] }, type := 22, pos := "machine.go:75", after := #[{ on := 7, ground := Ground.data }, { on := 9, ground := Ground.data }], guard := none }) rfl (fun K hK => ?_) AllReadyH.nil)
        refine step_append_at rfl (.tmp 23) (.tmp 25) 22 rfl w.heap.size 64 i0 (.agg #[.int .i64 0, .int .i64 0, .int .i64 0, .int .i64 0, .int .i64 0]) 5 40 Tryd.underlying22 hi hz0 hz1 hz2 rfl (by decide) v0 _ _ rfl (by rw [← HV0.out]; exact HR1.out.rows f) ⟨bs, 0, none⟩ 1 1 [.int .i64 (f : Int), .int .i64 tI, .int .i64 iI, .int .i64 oI, .int .i64 xI] rfl rfl hn1 (five_one _ _ _ _ _) (by have := HRL.out; unfold maxLen; omega) (by have := HRL.out; omega) HR1.out.below.size ?_
        intro v1 w1 ho1 hg1 hl1
        obtain ⟨gg, cc, rfl, _, _⟩ := own_some ho1 (Nat.succ_pos _)
        have hN2 := HR1.out.add (a := ((f : Int), tI, iI, oI, xI)) hf ho1 (by rw [HV0.out]; exact hg1) (by rw [HV0.out]; exact hl1.imp id (fun h => ⟨_, h, Nat.le_refl _⟩))
        have z1 := hN2.1.1
        have z2 := hN2.1.2
        have HN2 : Hid _ := hN2.2
        rw [HV0.out] at z1
        have hx2 := (hg1.block bx (lt_get hx1) (fun e => hvB e.symm)).trans hx1
        clear hN2 ho1 hg1 hl1
        refine hK.out _ _ ?_ (fun hHeld => ?_)
        · exact hx2
        clear hK K
        try simp only [Act.put, List.setIfInBounds_toArray, List.set_cons_zero, List.set_cons_succ]
        refine wpAnyH_take (i := 11) (oi := { dst := some 27, op := Op.indexAddr 73 (Operand.tmp 16) (Operand.tmp 18), type := 0, pos := "machine.go:75", after := #[{ on := 0, ground := Ground.data }, { on := 2, ground := Ground.data }, { on := 0, ground := Ground.phase }, { on := 1, ground := Ground.phase }, { on := 2, ground := Ground.phase }, { on := 3, ground := Ground.phase }, { on := 4, ground := Ground.phase }, { on := 5, ground := Ground.phase }, { on := 6, ground := Ground.phase }, { on := 7, ground := Ground.phase }, { on := 8, ground := Ground.phase }, { on := 9, ground := Ground.phase }, { on := 10, ground := Ground.phase }], guard := none }) (v := ?_) rfl (by kernel_rfl) (by kernel_rfl) (by kernel_rfl) (fun _ _ _ h => h) (Or.inl ⟨by rfl, ?_⟩) (by assumption) ?_
        case refine_2 => intro w hSw; (try dsimp only at hSw); obtain ⟨z0, z1, z2, z3, z4⟩ := HCE.out _ hSw; go_simp; (try with_reducible rfl)
        simp only [Act.put, List.setIfInBounds_toArray, List.set_cons_zero, List.set_cons_succ]
        refine wpAnyH_ready (rs := [12]) (by kernel_rfl) (by simp) ?_
        refine (AllReadyH.cons (o := { dst := none, op := Op.store 22 (Operand.tmp 27) (Operand.tmp 26), type := 0, pos := "machine.go:75", after := #[{ on := 11, ground := Ground.data }, { on := 10, ground := Ground.data }, { on := 10, ground := Ground.chain }, { on := 0, ground := Ground.phase }, { on := 1, ground := Ground.phase }, { on := 2, ground := Ground.phase }, { on := 3, ground := Ground.phase }, { on := 4, ground := Ground.phase }, { on := 5, ground := Ground.phase }, { on := 6, ground := Ground.phase }, { on := 7, ground := Ground.phase }, { on := 8, ground := Ground.phase }, { on := 9, ground := Ground.phase }, { on := 10, ground := Ground.phase }], guard := none }) rfl (fun K hK => ?_) AllReadyH.nil)
        go_simp
        refine hK.out _ _ ?_ (fun hHeld => ?_)
        · exact (heap_setCell_other _ _ _ _ hsB).trans hx2
        clear hK K
        try simp only [Act.put, List.setIfInBounds_toArray, List.set_cons_zero, List.set_cons_succ]
        refine wpAnyH_done (by kernel_rfl) ?_ _
        go_wp2
        exact ⟨⟨y + 1, _, _, by go_num, hlt, by rw [HTK.out]; exact HN2.out⟩, by simp [intOf]; omega⟩
      · skip
        go_simp
        have HR1 : Hid _ := HR0.out.alloc (.cells #[.int .i64 (f : Int), .int .i64 tI, .int .i64 iI, .int .i64 oI, .int .i64 xI] 64)
        have hx1 := (heap_alloc_old V0 (.cells #[.int .i64 (f : Int), .int .i64 tI, .int .i64 iI, .int .i64 oI, .int .i64 xI] 64) (lt_get hx0)).trans hx0
        have hn1 := cell_five_at V0 V0.heap.size (.int .i64 (f : Int)) (.int .i64 tI) (.int .i64 iI) (.int .i64 oI) (.int .i64 xI) 64 rfl
        refine hK.out _ _ ?_ (fun hHeld => ?_)
        · exact hx1
        clear hK K
        try simp only [Act.put, List.setIfInBounds_toArray, List.set_cons_zero, List.set_cons_succ]
        generalize hV : V0.alloc (.cells #[.int .i64 (f : Int), .int .i64 tI, .int .i64 iI, .int .i64 oI, .int .i64 xI] 64) = V1 at *
        clear hV
        generalize V0.heap.size = bs at *
        refine wpAnyH_ready (rs := [7]) (by kernel_rfl) (by simp) ?_
        refine (AllReadyH.cons (o := { dst := some 23, op := Op.load 22 (Operand.tmp 22), type := 22, pos := "machine.go:75", after := #[{ on := 6, ground := Ground.data }], guard := none }) rfl (fun K hK => ?_) AllReadyH.nil)
        have c7 := HR1.out.cell hf
        rw [HV0.out] at c7
        go_simp
        refine hK.out _ _ ?_ (fun hHeld => ?_)
        · first | exact hx1 | exact hx0
        clear hK K
        try simp only [Act.put, List.setIfInBounds_toArray, List.set_cons_zero, List.set_cons_succ]
        clear c7
        refine wpAnyH_ready (rs := [10]) (by kernel_rfl) (by simp) ?_
        refine (AllReadyH.cons (o := { dst := some 26, op := Op.call { callee := Callee.builtin Builtin.append, args := #[Operand.tmp 23, Operand.tmp 25], argTypes := #[22, 22] }, type := 22, pos := "machine.go:75", after := #[{ on := 7, ground := Ground.data }, { on := 9, ground := Ground.data }], guard := none }) rfl (fun K hK => ?_) AllReadyH.nil)
        refine step_append_at rfl (.tmp 23) (.tmp 25) 22 rfl w.heap.size 64 i0 (.agg #[.int .i64 0, .int .i64 0, .int .i64 0, .int .i64 0, .int .i64 0]) 5 40 Tryd.underlying22 hi hz0 hz1 hz2 rfl (by decide) v0 _ _ rfl (by rw [← HV0.out]; exact HR1.out.rows f) ⟨bs, 0, none⟩ 1 1 [.int .i64 (f : Int), .int .i64 tI, .int .i64 iI, .int .i64 oI, .int .i64 xI] rfl rfl hn1 (five_one _ _ _ _ _) (by have := HRL.out; unfold maxLen; omega) (by have := HRL.out; omega) HR1.out.below.size ?_
        intro v1 w1 ho1 hg1 hl1
        obtain ⟨gg, cc, rfl, _, _⟩ := own_some ho1 (Nat.succ_pos _)
        have hN2 := HR1.out.add (a := ((f : Int), tI, iI, oI, xI)) hf ho1 (by rw [HV0.out]; exact hg1) (by rw [HV0.out]; exact hl1.imp id (fun h => ⟨_, h, Nat.le_refl _⟩))
        have z1 := hN2.1.1
        have z2 := hN2.1.2
        have HN2 : Hid _ := hN2.2
        rw [HV0.out] at z1
        have hx2 := (hg1.block bx (lt_get hx1) (fun e => hvB e.symm)).trans hx1
        clear hN2 ho1 hg1 hl1
        refine hK.out _ _ ?_ (fun hHeld => ?_)
        · exact hx2
        clear hK K
        try simp only [Act.put, List.setIfInBounds_toArray, List.set_cons_zero, List.set_cons_succ]
        refine wpAnyH_take (i := 11) (oi := { dst := some 27, op := Op.indexAddr 73 (Operand.tmp 16) (Operand.tmp 18), type := 0, pos := "machine.go:75", after := #[{ on := 0, ground := Ground.data }, { on := 2, ground := Ground.data }, { on := 0, ground := Ground.phase }, { on := 1, ground := Ground.phase }, { on := 2, ground := Ground.phase }, { on := 3, ground := Ground.phase }, { on := 4, ground := Ground.phase }, { on := 5, ground := Ground.phase }, { on := 6, ground := Ground.phase }, { on := 7, ground := Ground.phase }, { on := 8, ground := Ground.phase }, { on := 9, ground := Ground.phase }, { on := 10, ground := Ground.phase }], guard := none }) (v := ?_) rfl (by kernel_rfl) (by kernel_rfl) (by kernel_rfl) (fun _ _ _ h => h) (Or.inl ⟨by rfl, ?_⟩) (by assumption) ?_
        case refine_2 => intro w hSw; (try dsimp only at hSw); obtain ⟨z0, z1, z2, z3, z4⟩ := HCE.out _ hSw; go_simp; (try with_reducible rfl)
        simp only [Act.put, List.setIfInBounds_toArray, List.set_cons_zero, List.set_cons_succ]
        refine wpAnyH_ready (rs := [12]) (by kernel_rfl) (by simp) ?_
        refine (AllReadyH.cons (o := { dst := none, op := Op.store 22 (Operand.tmp 27) (Operand.tmp 26), type := 0, pos := "machine.go:75", after := #[{ on := 11, ground := Ground.data }, { on := 10, ground := Ground.data }, { on := 10, ground := Ground.chain }, { on := 0, ground := Ground.phase }, { on := 1, ground := Ground.phase }, { on := 2, ground := Ground.phase }, { on := 3, ground := Ground.phase }, { on := 4, ground := Ground.phase }, { on := 5, ground := Ground.phase }, { on := 6, ground := Ground.phase }, { on := 7, ground := Ground.phase }, { on := 8, ground := Ground.phase }, { on := 9, ground := Ground.phase }, { on := 10, ground := Ground.phase }], guard := none }) rfl (fun K hK => ?_) AllReadyH.nil)
        go_simp
        refine hK.out _ _ ?_ (fun hHeld => ?_)
        · exact (heap_setCell_other _ _ _ _ hsB).trans hx2
        clear hK K
        try simp only [Act.put, List.setIfInBounds_toArray, List.set_cons_zero, List.set_cons_succ]
        refine wpAnyH_done (by kernel_rfl) ?_ _
        go_wp2
        exact ⟨⟨y + 1, _, _, by go_num, hlt, by rw [HTK.out]; exact HN2.out⟩, by simp [intOf]; omega⟩
    · obtain rfl : y = A.length := by omega
      have HN : Hid (Rt w wr sb S (rws (fun a => a) A) Vx vs) := by have := hN; rw [List.take_length] at this; exact this
      clear hN
      go_wp2
      go_ret
      exact ⟨_, _, _, rfl, HN.out⟩
end Go.Proofs.YtfjocafepigijaaDoor.Ra
