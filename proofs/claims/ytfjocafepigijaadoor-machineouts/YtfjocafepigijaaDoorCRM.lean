/- The program's push: an entry more. Condition: there are fewer than a million. -/
import Derived.Test.YtfjocafepigijaaDoorPoM
import Derived.Deep.RegionLaw
import Derived.Maps.AppendAt
import Derived.Test.YtfjocafepigijaaDoorWk4M
import Derived.Test.YtfjocafepigijaaDoorCJM
namespace Go.Proofs.YtfjocafepigijaaDoor.Ps
open Go.RowKit Mv Qp Sk Po

/-- an append onto an owned row, as one step of a region that draws its order; where what comes lies -/
theorem step_append_at {P : Program} {ops : Array Oper} {o : Oper} {a : Act} {w : World} {K : Act → World → Prop} {Q : Exit → Act → World → Prop} {E : Prop}
    (hgd : o.guard = none) (s x : Operand) (t : TypeId) (ho : o.op = .call { callee := .builtin .append, args := #[s, x], argTypes := #[t, t] })
    (base : Nat) (e : TypeId) (i : TypeInfo) (z : Value) (size bytes : Nat) (ht : P.underlying t = some (.slice e)) (hi : P.info? e = some i) (hz : i.zero = some z)
    (hsize : i.size = size) (hby : i.bytes = bytes) (hzs : z.cells.size = size) (hsz : 0 < size)
    (v : Value) (n : Nat) (xs : List Value) (hs : a.eval s = v) (hown : w.ownsRow base e size v n xs)
    (ad : Addr) (m c : Nat) (news : List Value) (hx : a.eval x = .slice (some ad) m c) (hl : news.length = m * size) (hnews : ∀ j u, news[j]? = some u → w.cell? (ad.add j) = some u) (h1 : ∀ u ∈ news, u.oneCell' = true)
    (h63 : n + m ≤ maxLen) (hbytes : (n + m) * bytes ≤ 140737488355328) (hbase : base ≤ w.heap.size)
    (h : ∀ v' w', w'.ownsRow base e size v' (n + m) (xs ++ news) → w.grownBy w' v.ownBlock → (v'.ownBlock = v.ownBlock ∨ v'.ownBlock = some w.heap.size) → K (a.put o.dst v') w') :
    if Region.wanted o (yielded ops a.tmps) = true then Oper.wp P o a w K Q else E := by
  have hw : Region.wanted o (yielded ops a.tmps) = true := by simp [Region.wanted, hgd]
  rw [if_pos hw]
  obtain ⟨v', w', hr, h2, h3, h4, h5⟩ := run_append_own_at (P := P) w base t o.type e i z size bytes ht hi hz hsize hby hzs hsz v n xs hown ad m c news hl hnews h1 h63 hbytes hbase
  unfold Oper.wp execOp
  simp only [ho, resolve, invoke, builtin, Sem.run_bind, Sem.run_pure, Result.andThen_ok, List.map_toArray, List.map_cons, List.map_nil, hs, hx, hr]
  exact h v' w' h2 h3 h5

theorem own_some {w : World} {base e size n : Nat} {v : Value} {xs : List Value} (h : w.ownsRow base e size v n xs) (hn : 0 < n) : ∃ g cap, v = .slice (some ⟨g, 0, none⟩) n cap ∧ base ≤ g ∧ g < w.heap.size := by
  rcases h.2 with ⟨_, h0⟩ | ⟨g, cap, cur, hv, hb, hg, _⟩
  · omega
  · exact ⟨g, cap, hv, hb, (Array.getElem?_eq_some_iff.1 hg).1⟩
theorem two_one (a b : Int) : ∀ x ∈ [Value.int .i64 a, .int .i64 b], x.oneCell' = true := by
  intro x hx
  simp at hx
  rcases hx with rfl | rfl <;> rfl
theorem cell_two_at (w : World) (g : Nat) (a b : Value) (t : TypeId) (hg : g = w.heap.size) : ∀ j u, [a, b][j]? = some u → (w.alloc (.cells #[a, b] t)).cell? ((⟨g, 0, none⟩ : Addr).add j) = some u := by
  intro j u hj
  subst hg
  match j, hj with
  | 0, hj => simp at hj; subst hj; simp [Addr.add]
  | 1, hj => simp at hj; subst hj; simp [Addr.add]
theorem info69 : (Tryd.prog.info? 192).map (fun i => (i.zero, i.size, i.bytes)) = some (some (.agg #[.int .i64 0, .int .i64 0]), 2, 16) := by kernel_rfl
theorem fcs_snoc (l : List (Int × Int)) (c s : Int) : fcs l ++ [.int .i64 c, .int .i64 s] = fcs (l ++ [(c, s)]) := by simp [fcs, fc]

theorem kept2 {w w1 : World} {a b : Obj} {row : Option Nat} (h : ((w.alloc a).alloc b).drew.grownBy w1 row) {F : Nat} (_ : row = some F → False) : (∀ k, k < w.heap.size → some k ≠ row → w1.cell? ⟨k, 3, none⟩ = w.cell? ⟨k, 3, none⟩) ∧ ∀ {a0 a1 a2 v : Value}, IsF w F a0 a1 a2 v → row ≠ some F → w1.frozen? ⟨F, 3, none⟩ = false := by
  have e : ∀ k, k < w.heap.size → some k ≠ row → w1.heap[k]? = w.heap[k]? := fun k hk hne => by
    rw [h.block k (by simp; omega) hne]
    show ((w.alloc a).alloc b).heap[k]? = _
    rw [heap_alloc_old _ _ (by simp; omega), heap_alloc_old _ _ hk]
  exact ⟨fun k hk hne => World.cell?_of_block (w := w) (e k hk hne), fun hF hne => frozen_of_row w1 F 3 _ 167 ((e F hF.lt (fun h => hne h.symm)).trans hF)⟩

/-- what stands beside the row while an entry is laid into it -/
structure Side (w wr : World) (F : Nat) (a0 a1 a2 v : Value) (c s : Int) (X : Nat → Prop) : Prop where
  box : wr.heap[w.heap.size]? = some (.cells #[.int .i64 c, .int .i64 s] 192 (0, 0))
  field : IsF wr F a0 a1 a2 v
  kept : Kp X w wr
theorem begun {w w1 : World} {F g base n cap : Nat} {a0 a1 a2 v : Value} {c s : Int} {xs : List Value} (h : ((w.alloc (.cells #[.int .i64 c, .int .i64 s] 192)).alloc (.cells #[.int .i64 c, .int .i64 s] 192)).drew.grownBy w1 v.ownBlock) (hF : IsF w F a0 a1 a2 v) (hown : w.ownsRow base 192 2 v n xs) (hvF : v.ownBlock ≠ some F) : Side w (w1.setCell ⟨F, 3, none⟩ (.slice (some ⟨g, 0, none⟩) (n + 1) cap)) F a0 a1 a2 (.slice (some ⟨g, 0, none⟩) (n + 1) cap) c s (fun k => k = F ∨ v.ownBlock = some k) := by
  have e : ∀ k, k < w.heap.size + 1 → some k ≠ v.ownBlock → w1.heap[k]? = (w.alloc (.cells #[.int .i64 c, .int .i64 s] 192)).heap[k]? := fun k hk hne => by
    rw [h.block k (by simp; omega) hne]
    show ((w.alloc _).alloc _).heap[k]? = _
    rw [heap_alloc_old _ _ (by simp; omega)]
  have hfl := hF.lt
  refine ⟨?_, ?_, ?_⟩
  · rw [Below.heap_setCell _ _ _ _ (by simp; omega), e _ (by omega) (fun h2 => by have := (hown.lt _ h2.symm).2; omega)]
    exact heap_alloc_new _ _
  · have h1 : IsF w1 F a0 a1 a2 v := by
      show w1.heap[F]? = _
      rw [e F (by omega) (fun h2 => hvF h2.symm), heap_alloc_old _ _ hfl]
      exact hF
    exact h1.store _
  · refine Kp.setCell ?_ _ _ _ (fun _ => .inl rfl)
    have h0 : Kp (fun k => k = F ∨ v.ownBlock = some k) w ((w.alloc (.cells #[.int .i64 c, .int .i64 s] 192)).alloc (.cells #[.int .i64 c, .int .i64 s] 192)).drew := by
      have := ((Kp.refl (fun k => k = F ∨ v.ownBlock = some k) w).alloc (.cells #[.int .i64 c, .int .i64 s] 192)).alloc (.cells #[.int .i64 c, .int .i64 s] 192)
      exact ⟨this.os, this.tape, this.output, this.size, this.block⟩
    exact h0.grown h (fun k hk _ => .inr hk)

theorem Side.store {w wr : World} {F g : Nat} {a0 a1 a2 v : Value} {c s : Int} {X : Nat → Prop} (h : Side w wr F a0 a1 a2 v c s X) (h1 : g ≠ w.heap.size) (h2 : g ≠ F) (h3 : g < w.heap.size → X g) (d i j : Nat) (a b : Value) : Side w (((wr.drewN d).setCell ⟨g, i, none⟩ a).setCell ⟨g, j, none⟩ b) F a0 a1 a2 v c s X := by
  refine ⟨?_, ?_, ((h.kept.drewN d).setCell _ _ _ h3).setCell _ _ _ h3⟩
  · rw [Below.heap_setCell _ _ _ _ (fun e => h1 e.symm), Below.heap_setCell _ _ _ _ (fun e => h1 e.symm)]
    exact h.box
  · show (((wr.drewN d).setCell ⟨g, i, none⟩ a).setCell ⟨g, j, none⟩ b).heap[F]? = _
    rw [Below.heap_setCell _ _ _ _ (fun e => h2 e.symm), Below.heap_setCell _ _ _ _ (fun e => h2 e.symm)]
    exact h.field
theorem movedP {w wr : World} {base g cap n m F : Nat} {a0 a1 a2 v : Value} {X : Nat → Prop} {p z : List (Int × Int)} {c s a b : Int} (hown : wr.ownsRow base 192 2 (.slice (some ⟨g, 0, none⟩) n cap) n (fcs p)) (hs : Side w wr F a0 a1 a2 v c s X) (hperm : (p.set (m + 1) (c, s)).Perm z) (hpl : p.length = n) (hk : m + 1 < n) (hv : p[m / 2]? = some (a, b)) (h1 : g ≠ w.heap.size) (h2 : g ≠ F) (h3 : g < w.heap.size → X g) (d : Nat) :
    ∃ (k' : Nat) (p' : List (Int × Int)), Value.int .i64 ((m : Int) / 2) = .int .i64 (k' : Int) ∧ k' < n ∧ p'.length = n ∧ (p'.set k' (c, s)).Perm z ∧ (((wr.drewN d).setCell ⟨g, (m + 1) * 2, none⟩ (.int .i64 a)).setCell ⟨g, (m + 1) * 2 + 1, none⟩ (.int .i64 b)).ownsRow base 192 2 (.slice (some ⟨g, 0, none⟩) n cap) n (fcs p') ∧ Side w (((wr.drewN d).setCell ⟨g, (m + 1) * 2, none⟩ (.int .i64 a)).setCell ⟨g, (m + 1) * 2 + 1, none⟩ (.int .i64 b)) F a0 a1 a2 v c s X := by
  have e : p[m / 2]'(by omega) = (a, b) := (List.getElem?_eq_some_iff.1 hv).2
  refine ⟨m / 2, p.set (m + 1) (a, b), by simp, by omega, by simpa using hpl, ?_, (put2 hown (m + 1) a b d).1, hs.store h1 h2 h3 d _ _ _ _⟩
  rw [← e]
  exact (set_swap p (m + 1) (m / 2) (c, s) (by omega) (by omega) (by omega)).trans hperm

set_option maxHeartbeats 2000000 in
set_option maxRecDepth 100000 in
theorem push_any (F base : Nat) (a0 a1 a2 v : Value) (es : List (Int × Int)) (c s : Int) (w : World) (hF : IsF w F a0 a1 a2 v) (hown : w.ownsRow base 192 2 v es.length (fcs es)) (hb : F < base) (hbs : base ≤ w.heap.size) (hl : es.length < 1000000000000) :
    Calls Tryd.prog 99 #[.pointer (some ⟨F, 3, none⟩), .agg #[.int .i64 c, .int .i64 s]] w fun e w' => e = .returned (.tuple #[]) ∧ ∃ v' es', es'.Perm ((c, s) :: es) ∧ IsF w' F a0 a1 a2 v' ∧ w'.ownsRow base 192 2 v' es'.length (fcs es') ∧ (v'.ownBlock = v.ownBlock ∨ ∃ g, v'.ownBlock = some g ∧ w.heap.size ≤ g) ∧ Kp (fun k => k = F ∨ v.ownBlock = some k) w w' := by
  obtain ⟨i0, hi, hz0, hz1, hz2⟩ := info_parts info69
  have k3 : w.cell? ⟨F, 3, none⟩ = some v := hF.cell 3
  have hfl := hF.lt
  have k31 : ∀ o1, (w.alloc o1).cell? ⟨F, 3, none⟩ = some v := fun o1 => by rw [World.cell?_alloc_past _ _ _ hfl]; exact k3
  have k32 : ∀ o1 o2, ((w.alloc o1).alloc o2).cell? ⟨F, 3, none⟩ = some v := fun o1 o2 => by rw [World.cell?_alloc_past _ _ _ (by simp; omega)]; exact k31 o1
  have HO : Hid (w.ownsRow base 192 2 v es.length (fcs es)) := hown
  have HF : Hid (IsF w F a0 a1 a2 v) := hF
  have hvF : v.ownBlock ≠ some F := fun h => by have := (hown.lt F h).1; omega
  clear hown hF
  go_enter Tryd.func99, Tryd.ntmps99
  go_wp2
  go_region_law (refine step_append_at rfl (.tmp 9) (.tmp 11) 165 rfl base 192 i0 (.agg #[.int .i64 0, .int .i64 0]) 2 16 Tryd.underlying165 hi hz0 hz1 hz2 rfl (by decide) _ _ _ rfl ((HO.out.alloc _).alloc _).drew ⟨_, 0, none⟩ 1 1 [.int .i64 c, .int .i64 s] rfl rfl (cell_two_at _ _ _ _ _ (by simp)) (two_one _ _) (by unfold maxLen; omega) (by omega) (by simp; omega) ?_; intro v1 w1 hown1 hgr1 hloc1; have hk1 := kept2 hgr1 (fun h => hvF h); obtain ⟨g, cap, rfl, hg1, hg2⟩ := own_some hown1 (Nat.succ_pos _); have q3 : w1.cell? ⟨F, 3, none⟩ = some v := (hk1.1 F hfl (fun h => hvF h.symm)).trans k3; have qf : w1.frozen? ⟨F, 3, none⟩ = false := hk1.2 HF.out hvF; have HR : Hid (((w.alloc (.cells #[.int .i64 c, .int .i64 s] 192)).alloc (.cells #[.int .i64 c, .int .i64 s] 192)).drew.grownBy w1 v.ownBlock) := hgr1; clear hgr1 hk1)
  all_goals
    have hown2 : (w1.setCell ⟨F, 3, none⟩ (.slice (some ⟨g, 0, none⟩) (es.length + 1) cap)).ownsRow base 192 2 (.slice (some ⟨g, 0, none⟩) (es.length + 1) cap) (es.length + 1) (fcs (es ++ [(c, s)])) := own_set (by rw [← fcs_snoc]; exact hown1) (by omega) _ _
    have hst := begun HR.out HF.out HO.out hvF (g := g) (cap := cap)
    have hgX : Hid (g < w.heap.size → (g = F ∨ v.ownBlock = some g)) := fun h => by rcases hloc1 with h1 | h1 <;> simp [Value.ownBlock] at h1 <;> first | exact .inr h1.symm | omega
    have hgw : g ≠ w.heap.size := fun h => by rcases hloc1 with h1 | h1 <;> simp [Value.ownBlock] at h1 <;> first | (have := (HO.out.lt g h1.symm).2; omega) | omega
    have hgF : g ≠ F := by omega
    have HLo : Hid _ := hloc1
    have qn : (w1.setCell ⟨F, 3, none⟩ (.slice (some ⟨g, 0, none⟩) (es.length + 1) cap)).cell? ⟨F, 3, none⟩ = some (.slice (some ⟨g, 0, none⟩) (es.length + 1) cap) := hst.field.cell 3
    clear hown1 hloc1 q3 qf k31 k32
    go_wp2
    clear qn
  all_goals
    go_loopw [5] (fun a wr => ∃ (k : Nat) (p : List (Int × Int)), a = .int .i64 k ∧ k < es.length + 1 ∧ p.length = es.length + 1 ∧ (p.set k (c, s)).Perm ((c, s) :: es) ∧ wr.ownsRow base 192 2 (.slice (some ⟨g, 0, none⟩) (es.length + 1) cap) (es.length + 1) (fcs p) ∧ Side w wr F a0 a1 a2 (.slice (some ⟨g, 0, none⟩) (es.length + 1) cap) c s (fun k => k = F ∨ v.ownBlock = some k)) (fun a _ => (intOf a).toNat)
    case atStart => exact ⟨es.length, es ++ [(c, s)], by first | rfl | go_num, Nat.lt_succ_self _, by simp, by rw [List.set_append_right _ _ (Nat.le_refl _)]; simp <;> exact List.perm_append_singleton _ _, hown2, hst⟩
    case round =>
      clear hown2 hst
      obtain ⟨k, p, rfl, hk, hpl, hperm, hown, hsd⟩ := hrel
      have y0 : wr.cell? ⟨w.heap.size, 0, none⟩ = some (.int .i64 c) := cell_of_row wr _ 0 _ 192 (0, 0) hsd.box
      have y1 : wr.cell? ⟨w.heap.size, 1, none⟩ = some (.int .i64 s) := cell_of_row wr _ 1 _ 192 (0, 0) hsd.box
      have HP : Hid _ := hperm
      have HS : Hid _ := hsd
      clear hperm hsd
      have f0 := hown.frozenAt (k * 2)
      have f1 := hown.frozenAt (k * 2 + 1)
      obtain ⟨z0, c0⟩ : ∃ z, wr.cell? ⟨g, k * 2, none⟩ = some z := ⟨_, by rw [hown.cellAt _ (by omega)]; exact (fcs_at p k (by omega)).1⟩
      obtain ⟨z1, c1⟩ : ∃ z, wr.cell? ⟨g, k * 2 + 1, none⟩ = some z := ⟨_, by rw [hown.cellAt _ (by omega)]; exact (fcs_at p k (by omega)).2⟩
      by_cases hk0 : k = 0
      · subst hk0
        simp only [Nat.zero_mul, Nat.zero_add] at f0 f1 c0 c1
        go_wp2
        repeat (go_quiet (fail); go_wp2)
        go_end0
        exact ⟨rfl, _, p.set 0 (c, s), HP.out, (HS.out.store hgw hgF hgX.out _ _ _ _ _).field, by rw [List.length_set, hpl]; exact (put2 hown 0 c s _).1, HLo.out.imp id (fun h => ⟨_, h, by simp; omega⟩), (HS.out.store hgw hgF hgX.out _ _ _ _ _).kept⟩
      · obtain ⟨m, rfl⟩ : ∃ m, k = m + 1 := ⟨k - 1, by omega⟩
        obtain ⟨⟨v1, s1⟩, e1⟩ : ∃ v, p[m / 2]? = some v := ⟨_, List.getElem?_eq_getElem (by omega)⟩
        have ca : wr.cell? ⟨g, m / 2 * 2, none⟩ = some (.int .i64 v1) := by rw [hown.cellAt _ (by omega), (fcs_at p (m / 2) (by omega)).1, (List.getElem?_eq_some_iff.1 e1).2]
        have cb : wr.cell? ⟨g, m / 2 * 2 + 1, none⟩ = some (.int .i64 s1) := by rw [hown.cellAt _ (by omega), (fcs_at p (m / 2) (by omega)).2, (List.getElem?_eq_some_iff.1 e1).2]
        have HE : Hid (p[m / 2]? = some (v1, s1)) := e1
        clear e1
        by_cases hlt : c < v1
        · go_wp2
          repeat (go_quiet (fail); go_wp2)
          exact ⟨movedP hown HS.out HP.out hpl hk HE.out hgw hgF hgX.out _, by simp [intOf]; omega⟩
        · go_wp2
          repeat (go_quiet (fail); go_wp2)
          go_end0
          exact ⟨rfl, _, p.set (m + 1) (c, s), HP.out, (HS.out.store hgw hgF hgX.out _ _ _ _ _).field, by rw [List.length_set, hpl]; exact (put2 hown (m + 1) c s _).1, HLo.out.imp id (fun h => ⟨_, h, by simp; omega⟩), (HS.out.store hgw hgF hgX.out _ _ _ _ _).kept⟩
end Go.Proofs.YtfjocafepigijaaDoor.Ps
/- Plain facts on going along silent arcs from a queue, in whatever order: what comes of it is the least. No conditions beyond that arcs are right. -/
namespace Go.Proofs.YtfjocafepigijaaDoor.Wd
open Mv Wk

def far : Nat := 9223372036854775807
/-- what a row has at a state -/
def cv (R : List Nat) (s : Nat) : Nat := R.getD s far
theorem cv_set (R : List Nat) (q v r : Nat) (hq : q < R.length) : cv (R.set q v) r = if q = r then v else cv R r := by
  unfold cv
  rw [List.getD_eq_getElem?_getD, List.getD_eq_getElem?_getD, List.getElem?_set]
  split
  · simp
  · rfl
def fin (R : List Nat) : Nat := R.countP fun x => decide (x < far)
theorem fin_le (R : List Nat) : fin R ≤ R.length := List.countP_le_length
theorem fin_set (R : List Nat) (q v : Nat) (hq : q < R.length) (hv : v < far) : (cv R q < far → fin (R.set q v) = fin R) ∧ (¬ cv R q < far → fin (R.set q v) = fin R + 1) := by
  have e : cv R q = R[q] := by unfold cv; simp [hq]
  unfold fin
  rw [List.countP_set hq, e]
  constructor
  · intro h
    have hp : 0 < R.countP (fun x => decide (x < far)) := List.countP_pos_iff.2 ⟨R[q], List.getElem_mem hq, by simpa using h⟩
    simp [h, hv]
    omega
  · intro h
    simp [h, hv]

abbrev Arc := Int × Int × Int × Int × Int
/-- the silent arcs that leave a state; the arcs of a label -/
def sil (A : List Arc) (f : Nat) : List Arc := A.filter fun a => a.2.2.1 == 0 && a.2.2.2.1 == 0 && a.1 == (f : Int)
def lab (A : List Arc) (i o : Int) : List Arc := A.filter fun a => a.2.2.1 == i && a.2.2.2.1 == o

/-- a row on its way: what it has is come to -/
structure Row (S : Nat) (P : Nat → Nat → Prop) (bd : Nat) (R : List Nat) : Prop where
  len : R.length = S
  top : ∀ s, cv R s ≤ far
  real : ∀ s, s < S → cv R s < far → P s (cv R s)
  small : ∀ s, cv R s < far → cv R s ≤ bd + 1000000 * fin R

/-- what a row weighs, with so much for what is not come to -/
def pot (cap : Nat) (R : List Nat) : Nat := (R.map fun v => if v < far then v else cap).sum
theorem pot_set (cap : Nat) (R : List Nat) (q v : Nat) (hq : q < R.length) : pot cap (R.set q v) + (if cv R q < far then cv R q else cap) = pot cap R + (if v < far then v else cap) := by
  induction R generalizing q with
  | nil => simp at hq
  | cons a R ih =>
    cases q with
    | zero => simp [pot, cv]; omega
    | succ q =>
      have := ih q (by simpa using hq)
      simp [pot, cv] at this ⊢
      omega

theorem relax {S : Nat} {P : Nat → Nat → Prop} {bd : Nat} {R : List Nat} (h : Row S P bd R) (f t W : Nat) (ht : t < S) (hW : W ≤ 1000000) (hf : cv R f < far) (hlt : cv R f + W < cv R t) (hP : P t (cv R f + W)) :
    Row S P bd (R.set t (cv R f + W)) ∧ pot (bd + 1000000 * S + 1) (R.set t (cv R f + W)) < pot (bd + 1000000 * S + 1) R ∧ (∀ s, cv (R.set t (cv R f + W)) s ≤ cv R s) ∧ cv (R.set t (cv R f + W)) t = cv R f + W ∧ (∀ s, s ≠ t → cv (R.set t (cv R f + W)) s = cv R s) ∧ cv R f + W < far := by
  have htl : t < R.length := by rw [h.len]; exact ht
  have hsm := h.small f hf
  have hfl := fin_le R
  rw [h.len] at hfl
  generalize hp : cv R f = p at *
  have hvd : p + W < far := Nat.lt_of_lt_of_le hlt (h.top t)
  have hfs := fin_set R t (p + W) htl hvd
  have hge : fin R ≤ fin (R.set t (p + W)) := by
    by_cases hd : cv R t < far
    · rw [hfs.1 hd]; omega
    · rw [hfs.2 hd]; omega
  have hle : ∀ s, cv (R.set t (p + W)) s ≤ cv R s := by
    intro s
    rw [cv_set R t _ s htl]
    split
    · rename_i e; subst e; omega
    · omega
  have hps := pot_set (bd + 1000000 * S + 1) R t (p + W) htl
  have hfl2 : fin (R.set t (p + W)) ≤ S := by have := fin_le (R.set t (p + W)); rw [List.length_set, h.len] at this; exact this
  have hsv : p + W ≤ bd + 1000000 * fin (R.set t (p + W)) := by
    by_cases hd : cv R t < far
    · have := h.small t hd
      rw [hfs.1 hd]
      omega
    · rw [hfs.2 hd]
      omega
  have hmul : 1000000 * fin (R.set t (p + W)) ≤ 1000000 * S := Nat.mul_le_mul_left _ hfl2
  refine ⟨⟨by rw [List.length_set]; exact h.len, ?_, ?_, ?_⟩, ?_, hle, by rw [cv_set R t _ t htl]; simp, fun s hs => by rw [cv_set R t _ s htl, if_neg (fun e => hs e.symm)], hvd⟩
  · intro s
    exact Nat.le_trans (hle s) (h.top s)
  · intro s hs
    rw [cv_set R t _ s htl]
    split
    · rename_i e; subst e; intro _; exact hP
    · exact h.real s hs
  · intro s
    rw [cv_set R t _ s htl]
    split
    · intro _; exact hsv
    · intro hd
      have := h.small s hd
      omega
  · rw [if_pos hvd] at hps
    split at hps <;> omega

/-- an entry of the queue -/
def Ent (S : Nat) (R : List Nat) (e : Int × Int) : Prop := ∃ c s : Nat, e = ((c : Int), (s : Int)) ∧ s < S ∧ c < far ∧ cv R s ≤ c
/-- no silent arc of a state betters anything -/
def Done (A : List Arc) (R : List Nat) (f : Nat) : Prop := ∀ a ∈ sil A f, ∀ t W : Nat, a.2.1 = (t : Int) → a.2.2.2.2 = (W : Int) → cv R t ≤ cv R f + W
structure Dij (A : List Arc) (S : Nat) (P : Nat → Nat → Prop) (bd : Nat) (H R : List Nat) (es : List (Int × Int)) : Prop where
  row : Row S P bd R
  le : ∀ s, cv R s ≤ cv H s
  q : ∀ e ∈ es, Ent S R e
  rel : ∀ f, f < S → cv R f < far → ((cv R f : Int), (f : Int)) ∈ es ∨ Done A R f
  qb : es.length + pot (bd + 1000000 * S + 1) R ≤ S + pot (bd + 1000000 * S + 1) H
/-- while the silent arcs of f are gone along: the first y are -/
structure Inn (A : List Arc) (S : Nat) (P : Nat → Nat → Prop) (bd : Nat) (H : List Nat) (f c M : Nat) (R : List Nat) (es : List (Int × Int)) (y : Nat) : Prop where
  row : Row S P bd R
  le : ∀ s, cv R s ≤ cv H s
  q : ∀ e ∈ es, Ent S R e
  here : cv R f = c
  done : ∀ k, k < y → ∀ h : k < (sil A f).length, ∀ t W : Nat, ((sil A f)[k]).2.1 = (t : Int) → ((sil A f)[k]).2.2.2.2 = (W : Int) → cv R t ≤ c + W
  rel : ∀ g, g < S → g ≠ f → cv R g < far → ((cv R g : Int), (g : Int)) ∈ es ∨ Done A R g
  qb : es.length + pot (bd + 1000000 * S + 1) R ≤ S + pot (bd + 1000000 * S + 1) H
  ms : 2 * pot (bd + 1000000 * S + 1) R + es.length ≤ M

theorem Ent.mono {S : Nat} {R R' : List Nat} {e : Int × Int} (h : Ent S R e) (hle : ∀ s, cv R' s ≤ cv R s) : Ent S R' e := by
  obtain ⟨c, s, e1, h1, h2, h3⟩ := h
  exact ⟨c, s, e1, h1, h2, Nat.le_trans (hle s) h3⟩
/-- an entry is taken that is no longer so cheap -/
theorem Dij.stale {A : List Arc} {S : Nat} {P : Nat → Nat → Prop} {bd : Nat} {H R : List Nat} {es es' : List (Int × Int)} {c f : Nat} (h : Dij A S P bd H R es) (hp : es.Perm (((c : Int), (f : Int)) :: es')) (hc : cv R f < c) : Dij A S P bd H R es' := by
  refine ⟨h.row, h.le, fun e he => h.q e (hp.mem_iff.2 (List.mem_cons_of_mem _ he)), fun g hg hd => ?_, ?_⟩
  · rcases h.rel g hg hd with h1 | h1
    · rcases List.mem_cons.1 (hp.mem_iff.1 h1) with h2 | h2
      · simp only [Prod.mk.injEq] at h2
        have : g = f := by omega
        subst this
        omega
      · exact .inl h2
    · exact .inr h1
  · have := hp.length_eq
    have := h.qb
    simp only [List.length_cons] at *
    omega
theorem Dij.take {A : List Arc} {S : Nat} {P : Nat → Nat → Prop} {bd : Nat} {H R : List Nat} {es es' : List (Int × Int)} {c f : Nat} (h : Dij A S P bd H R es) (hp : es.Perm (((c : Int), (f : Int)) :: es')) (hc : cv R f = c) : Inn A S P bd H f c (2 * pot (bd + 1000000 * S + 1) R + es'.length) R es' 0 := by
  refine ⟨h.row, h.le, fun e he => h.q e (hp.mem_iff.2 (List.mem_cons_of_mem _ he)), hc, fun k hk => absurd hk (Nat.not_lt_zero _), fun g hg hgf hd => ?_, ?_, Nat.le_refl _⟩
  · rcases h.rel g hg hd with h1 | h1
    · rcases List.mem_cons.1 (hp.mem_iff.1 h1) with h2 | h2
      · simp only [Prod.mk.injEq] at h2
        exact absurd (show g = f by omega) hgf
      · exact .inl h2
    · exact .inr h1
  · have := hp.length_eq
    have := h.qb
    simp only [List.length_cons] at *
    omega
theorem Inn.skip {A : List Arc} {S : Nat} {P : Nat → Nat → Prop} {bd : Nat} {H : List Nat} {f c M : Nat} {R : List Nat} {es : List (Int × Int)} {y t W : Nat} (h : Inn A S P bd H f c M R es y) (hy : y < (sil A f).length) (ht : ((sil A f)[y]).2.1 = (t : Int)) (hW : ((sil A f)[y]).2.2.2.2 = (W : Int)) (hge : ¬ c + W < cv R t) : Inn A S P bd H f c M R es (y + 1) := by
  refine ⟨h.row, h.le, h.q, h.here, fun k hk hkl t' W' e1 e2 => ?_, h.rel, h.qb, h.ms⟩
  by_cases e : k = y
  · subst e
    rw [ht] at e1
    rw [hW] at e2
    have : t = t' := by omega
    have : W = W' := by omega
    subst_vars
    omega
  · exact h.done k (by omega) hkl t' W' e1 e2
theorem Inn.took {A : List Arc} {S : Nat} {P : Nat → Nat → Prop} {bd : Nat} {H : List Nat} {f c M : Nat} {R : List Nat} {es es' : List (Int × Int)} {y t W : Nat} (h : Inn A S P bd H f c M R es y) (hy : y < (sil A f).length) (ht : ((sil A f)[y]).2.1 = (t : Int)) (hW : ((sil A f)[y]).2.2.2.2 = (W : Int)) (hts : t < S) (hWb : W ≤ 1000000) (hcf : c < far) (hP : P t (c + W)) (hlt : c + W < cv R t) (hp : es'.Perm ((((c + W : Nat) : Int), (t : Int)) :: es)) :
    Inn A S P bd H f c M (R.set t (c + W)) es' (y + 1) := by
  obtain ⟨r1, r2, r3, r4, r5, r6⟩ := relax h.row f t W hts hWb (by rw [h.here]; exact hcf) (by rw [h.here]; exact hlt) (by rw [h.here]; exact hP)
  rw [h.here] at r1 r2 r3 r4 r5 r6
  have hne : f ≠ t := fun e => by subst e; have := h.here; omega
  have hlen := hp.length_eq
  have hqb := h.qb
  have hms := h.ms
  simp only [List.length_cons] at hlen
  refine ⟨r1, fun s => Nat.le_trans (r3 s) (h.le s), fun e he => ?_, by rw [r5 f hne]; exact h.here, fun k hk hkl t' W' e1 e2 => ?_, fun g hg hgf hd => ?_, by omega, by omega⟩
  · rcases List.mem_cons.1 (hp.mem_iff.1 he) with rfl | h2
    · exact ⟨c + W, t, rfl, hts, r6, by rw [r4]; exact Nat.le_refl _⟩
    · exact (h.q e h2).mono r3
  · by_cases e : k = y
    · subst e
      rw [ht] at e1
      rw [hW] at e2
      have : t = t' := by omega
      have : W = W' := by omega
      subst_vars
      rw [r4]
      exact Nat.le_refl _
    · exact Nat.le_trans (r3 t') (h.done k (by omega) hkl t' W' e1 e2)
  · by_cases e : g = t
    · subst e
      exact .inl (hp.mem_iff.2 (by rw [r4]; exact List.mem_cons_self))
    · rw [r5 g e] at hd ⊢
      rcases h.rel g hg hgf hd with h1 | h1
      · exact .inl (hp.mem_iff.2 (List.mem_cons_of_mem _ h1))
      · refine .inr (fun a ha t' W' e1 e2 => ?_)
        rw [r5 g e]
        exact Nat.le_trans (r3 t') (h1 a ha t' W' e1 e2)
theorem Inn.fin {A : List Arc} {S : Nat} {P : Nat → Nat → Prop} {bd : Nat} {H : List Nat} {f c M : Nat} {R : List Nat} {es : List (Int × Int)} (h : Inn A S P bd H f c M R es (sil A f).length) : Dij A S P bd H R es := by
  refine ⟨h.row, h.le, h.q, fun g hg hd => ?_, h.qb⟩
  by_cases e : g = f
  · subst e
    refine .inr (fun a ha t W e1 e2 => ?_)
    obtain ⟨k, hk, rfl⟩ := List.getElem_of_mem ha
    rw [h.here]
    exact h.done k hk hk t W e1 e2
  · exact h.rel g hg e hd
/-- the first loop: what is come to waits -/
structure Ph (A : List Arc) (S : Nat) (H : List Nat) (k : Nat) (es : List (Int × Int)) : Prop where
  q : ∀ e ∈ es, Ent S H e
  rel : ∀ f, f < k → cv H f < far → ((cv H f : Int), (f : Int)) ∈ es ∨ sil A f = []
  len : es.length ≤ k
theorem Ph.start (A : List Arc) (S : Nat) (H : List Nat) : Ph A S H 0 [] := ⟨fun _ he => (List.not_mem_nil he).elim, fun _ hf => absurd hf (Nat.not_lt_zero _), Nat.le_refl _⟩
theorem Ph.skip {A : List Arc} {S : Nat} {H : List Nat} {k : Nat} {es : List (Int × Int)} (h : Ph A S H k es) (hs : ¬ cv H k < far ∨ sil A k = []) : Ph A S H (k + 1) es := by
  refine ⟨h.q, fun f hf hd => ?_, Nat.le_succ_of_le h.len⟩
  by_cases e : f = k
  · subst e
    rcases hs with hs | hs
    · exact absurd hd hs
    · exact .inr hs
  · exact h.rel f (by omega) hd
theorem Ph.push {A : List Arc} {S : Nat} {H : List Nat} {k : Nat} {es es' : List (Int × Int)} (h : Ph A S H k es) (hk : k < S) (hd : cv H k < far) (hp : es'.Perm (((cv H k : Int), (k : Int)) :: es)) : Ph A S H (k + 1) es' := by
  have hlen := hp.length_eq
  have hl := h.len
  simp only [List.length_cons] at hlen
  refine ⟨fun e he => ?_, fun f hf hd' => ?_, by omega⟩
  · rcases List.mem_cons.1 (hp.mem_iff.1 he) with rfl | h2
    · exact ⟨cv H k, k, rfl, hk, hd, Nat.le_refl _⟩
    · exact h.q e h2
  · by_cases e : f = k
    · subst e
      exact .inl (hp.mem_iff.2 List.mem_cons_self)
    · rcases h.rel f (by omega) hd' with h1 | h1
      · exact .inl (hp.mem_iff.2 (List.mem_cons_of_mem _ h1))
      · exact .inr h1
theorem Ph.fin {A : List Arc} {S : Nat} {P : Nat → Nat → Prop} {bd : Nat} {H : List Nat} {es : List (Int × Int)} (h : Ph A S H S es) (hr : Row S P bd H) : Dij A S P bd H H es := by
  refine ⟨hr, fun _ => Nat.le_refl _, h.q, fun f hf hd => ?_, Nat.add_le_add_right h.len _⟩
  rcases h.rel f hf hd with h1 | h1
  · exact .inl h1
  · exact .inr (fun a ha => by rw [h1] at ha; exact (List.not_mem_nil ha).elim)
/-- a row along which no silent arc betters anything -/
structure Settled (A : List Arc) (S : Nat) (P : Nat → Nat → Prop) (bd : Nat) (H R : List Nat) : Prop where
  row : Row S P bd R
  le : ∀ s, cv R s ≤ cv H s
  done : ∀ f, f < S → cv R f < far → Done A R f
theorem Dij.fin {A : List Arc} {S : Nat} {P : Nat → Nat → Prop} {bd : Nat} {H R : List Nat} (h : Dij A S P bd H R []) : Settled A S P bd H R :=
  ⟨h.row, h.le, fun f hf hd => (h.rel f hf hd).resolve_left (List.not_mem_nil)⟩
theorem pot_le {S : Nat} {P : Nat → Nat → Prop} {bd : Nat} {R : List Nat} (h : Row S P bd R) : pot (bd + 1000000 * S + 1) R ≤ S * (bd + 1000000 * S + 1) := by
  have hfl := fin_le R
  rw [h.len] at hfl
  have hm : 1000000 * fin R ≤ 1000000 * S := Nat.mul_le_mul_left _ hfl
  have key : ∀ L : List Nat, (∀ v ∈ L, (if v < far then v else bd + 1000000 * S + 1) ≤ bd + 1000000 * S + 1) → pot (bd + 1000000 * S + 1) L ≤ L.length * (bd + 1000000 * S + 1) := by
    intro L hL
    induction L with
    | nil => simp [pot]
    | cons a L ih =>
      have h1 := ih (fun v hv => hL v (List.mem_cons_of_mem _ hv))
      have h2 := hL a List.mem_cons_self
      have e : pot (bd + 1000000 * S + 1) (a :: L) = (if a < far then a else bd + 1000000 * S + 1) + pot (bd + 1000000 * S + 1) L := by simp [pot]
      rw [e, List.length_cons, Nat.add_mul, Nat.one_mul]
      omega
  have := key R (fun v hv => by
    split
    · rename_i hd
      obtain ⟨k, hk, rfl⟩ := List.getElem_of_mem hv
      have e : cv R k = R[k] := by unfold cv; simp [hk]
      have := h.small k (by rw [e]; exact hd)
      rw [e] at this
      omega
    · omega)
  rw [h.len] at this
  exact this
end Go.Proofs.YtfjocafepigijaaDoor.Wd
/- The document's Cost: the least cost of a walk. Condition: the machine is right, and texts have at most 61 symbols. -/
namespace Go.Proofs.YtfjocafepigijaaDoor.CR
open Go.RowKit Mv Wk

theorem placedF {S : Nat} {inn out : List Int} {f : Nat} (hS : S ≤ 3000) (hn : inn.length ≤ 61) (hk : out.length ≤ 61) (hf : f < S) :
    ∃ P1 P3 P2 P4 PJ : Nat, wrap64 ((f : Int) * ((inn.length : Int) + 1)) = (P1 : Int) ∧ wrap64 ((P1 : Int) + (inn.length : Int)) = (P3 : Int) ∧ wrap64 ((P3 : Int) * ((out.length : Int) + 1)) = (P2 : Int) ∧ wrap64 ((P2 : Int) + ((out.length : Int) + 1)) = (P4 : Int) ∧ wrap64 ((P4 : Int) - 1) = (PJ : Int) ∧ PJ = idx (inn.length + 1) (cols out true) f inn.length (cols out true - 1) := by
  have h1 : f * (inn.length + 1) ≤ 186000 := Nat.le_trans (Nat.mul_le_mul (Nat.le_of_lt (Nat.lt_of_lt_of_le hf hS)) (show inn.length + 1 ≤ 62 by omega)) (by decide)
  have h2 : (f * (inn.length + 1) + inn.length) * (out.length + 1) ≤ 11536000 := Nat.le_trans (Nat.mul_le_mul (show f * (inn.length + 1) + inn.length ≤ 186064 by omega) (show out.length + 1 ≤ 62 by omega)) (by decide)
  refine ⟨f * (inn.length + 1), f * (inn.length + 1) + inn.length, (f * (inn.length + 1) + inn.length) * (out.length + 1), (f * (inn.length + 1) + inn.length) * (out.length + 1) + (out.length + 1), (f * (inn.length + 1) + inn.length) * (out.length + 1) + out.length, ?_, ?_, ?_, ?_, ?_, rfl⟩
  · exact wrap_nat (by simp) (by omega)
  · exact wrap_nat (by simp) (by omega)
  · exact wrap_nat (by simp) (by omega)
  · exact wrap_nat (by simp) (by omega)
  · exact wrap_nat (by simp; omega) (by omega)
theorem nat_le {x : Nat} (h : (x : Int) ≤ 1000000) : x ≤ 1000000 := by omega
theorem meas2 {X n : Nat} (h : X < n) : n - (intOf (.int .i64 ((X : Int) + 1))).toNat < n - (intOf (.int .i64 (X : Int))).toNat := by
  simp [intOf]
  omega
theorem lt_dear {p : Nat} (h : p < dear) : decide ((p : Int) < 1152921504606846976) = true := by
  unfold dear at h
  exact decide_eq_true (by omega)

set_option maxHeartbeats 8000000 in
set_option maxRecDepth 100000 in
theorem cost_true2 (S : Nat) (arcs : List (Int × Int × Int × Int × Int)) (fins : List (Int × Int)) (inn out : List Int) (aa af ai ao : Option Addr) (ca cf ci co : Nat) (w : World) (hS : S ≤ 3000) (hS0 : 0 < S) (hi : inn.length ≤ 61) (ho : out.length ≤ 61) (hlA : arcs.length ≤ 20000) (hlF : fins.length ≤ 3000)
    (hR : ∀ x (h : x < arcs.length), arcB (S : Int) arcs[x] = true) (hFi : ∀ x (h : x < fins.length), finB (S : Int) fins[x] = true)
    (hA : arcs.length = 0 ∨ ∃ b off, aa = some ⟨b, off, none⟩ ∧ b < w.heap.size ∧ ∀ j u, (acs arcs)[j]? = some u → w.cell? ⟨b, off + j, none⟩ = some u)
    (hF : fins.length = 0 ∨ ∃ b off, af = some ⟨b, off, none⟩ ∧ b < w.heap.size ∧ ∀ j u, (fcs fins)[j]? = some u → w.cell? ⟨b, off + j, none⟩ = some u)
    (hI : inn.length = 0 ∨ ∃ b off, ai = some ⟨b, off, none⟩ ∧ b < w.heap.size ∧ ∀ j u, (inn.map (Value.int .i64))[j]? = some u → w.cell? ⟨b, off + j, none⟩ = some u)
    (hO : out.length = 0 ∨ ∃ b off, ao = some ⟨b, off, none⟩ ∧ b < w.heap.size ∧ ∀ j u, (out.map (Value.int .i64))[j]? = some u → w.cell? ⟨b, off + j, none⟩ = some u) :
    Calls Tryd.prog 12 #[.agg #[.int .i64 (S : Int), .slice aa arcs.length ca, .slice af fins.length cf], .slice ai inn.length ci, .slice ao out.length co, .bool true] w fun e w' => ∃ v : Nat, e = .returned (.int .i64 (v : Int)) ∧ (IsCost ⟨(S : Int), arcs, fins⟩ inn out true v ∧ (v = dear ∨ v ≤ 11532001000000)) ∧ Below w.heap.size w w' := by
  have HRt : Hid (∀ x (h : x < arcs.length), arcB (S : Int) arcs[x] = true) := hR
  have HFt : Hid (∀ x (h : x < fins.length), finB (S : Int) fins[x] = true) := hFi
  have HLA : Hid (arcs.length ≤ 20000) := hlA
  have HLF : Hid (fins.length ≤ 3000) := hlF
  clear hlA hlF
  have HAx : Hid _ := hA
  have HFx : Hid _ := hF
  have HIx : Hid _ := hI
  have HOx : Hid _ := hO
  clear hR hFi hA hF hI hO
  obtain ⟨i3, hi3, hz30, hz31, hz32⟩ := info_parts info3
  obtain ⟨R, eR⟩ : ∃ R : Nat, R = S * (inn.length + 1) := ⟨_, rfl⟩
  obtain ⟨N, eN⟩ : ∃ N : Nat, N = R * (out.length + 1) := ⟨_, rfl⟩
  have hRb : R ≤ 186000 := by rw [eR]; exact Nat.le_trans (Nat.mul_le_mul hS (show inn.length + 1 ≤ 62 by omega)) (by decide)
  have hNb : N ≤ 11532000 := by rw [eN]; exact Nat.le_trans (Nat.mul_le_mul hRb (show out.length + 1 ≤ 62 by omega)) (by decide)
  have hN0 : 0 < N := by rw [eN, eR]; exact Nat.mul_pos (Nat.mul_pos hS0 (by omega)) (by omega)
  have m1 : wrap64 ((S : Int) * ((inn.length : Int) + 1)) = (R : Int) := wrap_nat (by rw [eR]; simp) (by omega)
  have m2 : wrap64 ((R : Int) * ((out.length : Int) + 1)) = (N : Int) := wrap_nat (by rw [eN]; simp) (by omega)
  have HR : Hid (R = S * (inn.length + 1)) := eR
  have HN : Hid (N = R * (out.length + 1)) := eN
  clear eR eN
  go_enter Tryd.func12, Tryd.ntmps12
  go_wp2_with (at_make; refine wpList_make_full _ rfl _ _ 26 rfl (w.heap.size + 1) 3 i3 (.int .i64 0) 1 Tryd.underlying26 hi3 hz30 hz31 .i64 .i64 _ _ N rfl rfl m2 m2 (by rw [hz32]; omega) (by unfold maxLen; omega) (by simp) ?_; intro w1 hown0 hgrow0)
  have hs0 : St (w.alloc (.cells #[.int .i64 (S : Int), .slice aa arcs.length ca, .slice af fins.length cf] 25)) w1 (w.heap.size + 1) N (List.replicate N 0) := by
    refine ⟨?_, (Below.refl _ _).grown hgrow0 (by simp) (by simp), by simp⟩
    have e : (madeCells (Value.cells (.int .i64 0)) (N * 1)).toList = nc (List.replicate N 0) := by
      rw [Nat.mul_one]
      show (madeCells #[.int .i64 0] N).toList = _
      rw [toList_madeCells_one]
      simp [nc]
    rw [e] at hown0
    simpa using hown0
  have hw1 : w.heap.size + 1 < w1.heap.size := by
    have := (hs0.1.lt (w.heap.size + 1) rfl).2
    exact this
  clear hown0 hgrow0
  go_loopw [12] (fun i wr => ∃ (q : Nat) (B : List Nat), i = .int .i64 q ∧ q ≤ N ∧ St (w.alloc (.cells #[.int .i64 (S : Int), .slice aa arcs.length ca, .slice af fins.length cf] 25)) wr (w.heap.size + 1) N B ∧ w.heap.size + 1 < wr.heap.size ∧ ∀ r, r < q → val B r = dear) (fun i _ => N - (intOf i).toNat)
  case atStart => exact ⟨0, _, rfl, by omega, by simpa using hs0, by simpa using hw1, fun r h => by omega⟩
  case round =>
    clear hs0 hw1
    obtain ⟨q, B, rfl, hq, hst, hwr, hfill⟩ := hrel
    by_cases hlt : q < N
    · have c1 := hst.cell q hlt
      have f1 := hst.frozen q
      have HF : Hid _ := hfill
      clear hfill
      go_wp2
      go_roundw
      case rel =>
        have hss := hst.storeI q dear 1152921504606846976 dear_int (by omega)
        refine ⟨q + 1, B.set q dear, by go_num, by omega, hss.1, Nat.lt_of_lt_of_le hwr hss.2.size, fun r hr => ?_⟩
        rw [val_set B q _ r (by rw [hst.2.2]; exact hlt)]
        split
        · rfl
        · exact HF.out r (by omega)
      case measure => simp [intOf]; omega
    · have hB : B = List.replicate N dear := all_dear hst.2.2 (fun r hr => hfill r (by omega))
      subst hB
      have c1 := hst.cell 0 hN0
      have f1 := hst.frozen 0
      have hss := hst.storeI 0 0 0 rfl (by omega)
      have hs2 : St (w.alloc (.cells #[.int .i64 (S : Int), .slice aa arcs.length ca, .slice af fins.length cf] 25)) (wr.setCell ⟨w.heap.size + 1, 0, none⟩ (.int .i64 0)) (w.heap.size + 1) N (first N) := hss.1
      have hz2 : w.heap.size + 1 < (wr.setCell ⟨w.heap.size + 1, 0, none⟩ (.int .i64 0)).heap.size := Nat.lt_of_lt_of_le hwr hss.2.size
      have hinv : Inv ⟨(S : Int), arcs, fins⟩ inn out true S (first N) := by
        have e : N = S * (inn.length + 1) * cols out true := by rw [HN.out, HR.out]; rfl
        rw [e]
        exact first_inv _ _ _ _ _ hS0
      clear hfill hss
      go_wp2
      go_loopg [13] ((first N).sum + 1) (fun gk a wr => ∃ (ag : Bool) (B : List Nat), a = .bool ag ∧ St (w.alloc (.cells #[.int .i64 (S : Int), .slice aa arcs.length ca, .slice af fins.length cf] 25)) wr (w.heap.size + 1) N B ∧ w.heap.size + 1 < wr.heap.size ∧ Inv ⟨(S : Int), arcs, fins⟩ inn out true S B ∧ (ag = true → gk = B.sum + 1) ∧ (ag = false → gk = 0 ∧ Fix arcs inn out B))
      case atStart => exact ⟨true, first N, rfl, hs2, hz2, hinv, (fun _ => rfl), (fun h => by cases h)⟩
      case round =>
        clear hs2 hz2 hinv c1 f1 hst hwr
        obtain ⟨ag, B0, rfl, hst, hwr, hinv, hk1, hk2⟩ := hrel
        cases ag with
        | true =>
          have hgk := hk1 rfl
          have HGK : Hid (gk = B0.sum + 1) := hgk
          have HI0 : Hid _ := hinv
          obtain ⟨wo, rfl⟩ : ∃ wo : World, wo = wr := ⟨_, rfl⟩
          clear hk1 hk2 hgk hinv
          go_wp2
          go_loopw [13, 14] (fun a x wr => ∃ (ag : Bool) (B : List Nat) (X : Nat), a = .bool ag ∧ x = .int .i64 X ∧ X ≤ arcs.length ∧ St (w.alloc (.cells #[.int .i64 (S : Int), .slice aa arcs.length ca, .slice af fins.length cf] 25)) wr (w.heap.size + 1) N B ∧ w.heap.size + 1 < wr.heap.size ∧ Inv ⟨(S : Int), arcs, fins⟩ inn out true S B ∧ Pass arcs inn out B0 ag B X 0 0) (fun _ x _ => arcs.length - (intOf x).toNat)
          case atStart => exact ⟨false, B0, 0, rfl, rfl, by omega, hst, hwr, HI0.out, Pass.start _ _ _ _⟩
          case round =>
            clear hst hwr
            obtain ⟨ag, B, X, rfl, rfl, hX, hst, hwr, hinv, hpass⟩ := hrel
            have k1 : wr.cell? ⟨w.heap.size, 1, none⟩ = some (.slice aa arcs.length ca) := by rw [hst.old (by omega)]; simp
            have hLA := HLA.out
            by_cases hlt : X < arcs.length
            · have hbx : ∃ b off, aa = some ⟨b, off, none⟩ ∧ b < w.heap.size ∧ ∀ j u, (acs arcs)[j]? = some u → wr.cell? ⟨b, off + j, none⟩ = some u := by
                rcases HAx.out with h | ⟨b, off, e, hb, hc⟩
                · omega
                · refine ⟨b, off, e, hb, fun j u hu => ?_⟩
                  rw [hst.old (by omega), World.cell?_alloc_past _ _ _ hb]
                  exact hc j u hu
              obtain ⟨b, off, rfl, hbl, hcs⟩ := hbx
              have u := acs_at arcs X hlt
              obtain ⟨f, t, I, O, x, ea⟩ : ∃ f t I O x, arcs[X] = (f, t, I, O, x) := ⟨_, _, _, _, _, rfl⟩
              have hab := HRt.out X hlt
              rw [ea] at u hab
              unfold arcB at hab
              simp only [decide_eq_true_eq] at hab
              obtain ⟨g0, g1, g2, g3, g4, g5, g6, g7, g8, g9⟩ := hab
              obtain ⟨f, rfl⟩ : ∃ n : Nat, f = (n : Int) := ⟨f.toNat, by omega⟩
              obtain ⟨t, rfl⟩ : ∃ n : Nat, t = (n : Int) := ⟨t.toNat, by omega⟩
              obtain ⟨x, rfl⟩ : ∃ n : Nat, x = (n : Int) := ⟨x.toNat, by omega⟩
              have p0 := hcs _ _ u.1
              have p1 := hcs _ _ u.2.1
              have p2 := hcs _ _ u.2.2.1
              have p3 := hcs _ _ u.2.2.2.1
              have p4 := hcs _ _ u.2.2.2.2
              rw [← Nat.add_assoc] at p1 p2 p3 p4
              have HE0 : Hid (arcs[X] = ((f : Int), (t : Int), I, O, (x : Int))) := ea
              have HP : Hid _ := hpass
              have HV : Hid _ := hinv
              clear u hcs ea hpass hinv hLA
              obtain ⟨wx, rfl⟩ : ∃ wx : World, wx = wr := ⟨_, rfl⟩
              go_wp2
              go_loopw [13, 16] (fun a i wr => ∃ (ag : Bool) (B : List Nat) (i1 : Nat), a = .bool ag ∧ i = .int .i64 i1 ∧ i1 ≤ inn.length + 1 ∧ St (w.alloc (.cells #[.int .i64 (S : Int), .slice (some ⟨b, off, none⟩) arcs.length ca, .slice af fins.length cf] 25)) wr (w.heap.size + 1) N B ∧ wr.heap[wx.heap.size]? = some (.cells #[.int .i64 (f : Int), .int .i64 (t : Int), .int .i64 I, .int .i64 O, .int .i64 (x : Int)] 64 (0, 0)) ∧ Inv ⟨(S : Int), arcs, fins⟩ inn out true S B ∧ Pass arcs inn out B0 ag B X i1 0) (fun _ i _ => inn.length + 1 - (intOf i).toNat)
              case atStart => exact ⟨ag, B, 0, rfl, rfl, by omega, hst.alloc (by omega) _, heap_alloc_new wx _, HV.out, HP.out⟩
              case round =>
                clear hst p0 p1 p2 p3 p4 k1 HP HV
                obtain ⟨ag, B, i1, rfl, rfl, hi1, hst, hbox, hinv, hpass⟩ := hrel
                have hbs : wx.heap.size < wr.heap.size := (Array.getElem?_eq_some_iff.1 hbox).1
                by_cases hil : i1 < inn.length + 1
                · have HP : Hid _ := hpass
                  have HV : Hid _ := hinv
                  clear hpass hinv
                  obtain ⟨wi, rfl⟩ : ∃ wi : World, wi = wr := ⟨_, rfl⟩
                  go_wp2
                  have HE : Hid (Env S N (w.heap.size + 1) wx.heap.size X i1 f t x I O arcs fins inn out ai ao (w.alloc (.cells #[.int .i64 (S : Int), .slice (some ⟨b, off, none⟩) arcs.length ca, .slice af fins.length cf] 25))) := by
                    refine ⟨hS, hi, ho, hlt, HE0.out, by omega, by omega, by omega, g4, g6, by rw [HN.out, HR.out], hNb, hil, by omega, ?_, ?_⟩
                    · rcases HIx.out with h | ⟨b2, off2, e, hb, hc⟩
                      · exact .inl h
                      · exact .inr ⟨b2, off2, e, by omega, fun j u hu => by rw [World.cell?_alloc_past _ _ _ hb]; exact hc j u hu⟩
                    · rcases HOx.out with h | ⟨b2, off2, e, hb, hc⟩
                      · exact .inl h
                      · exact .inr ⟨b2, off2, e, by omega, fun j u hu => by rw [World.cell?_alloc_past _ _ _ hb]; exact hc j u hu⟩
                  refine loopJ S N (w.heap.size + 1) wx.heap.size X i1 f t x ci co I O arcs fins inn out ai ao B0 (w.alloc (.cells #[.int .i64 (S : Int), .slice (some ⟨b, off, none⟩) arcs.length ca, .slice af fins.length cf] 25)) wi ag B _ _ _ _ _ _ _ _ _ _ _ _ _ _ _ _ _ _ _ _ _ _ _ _ _ _ _ _ _ _ _ _ _ _ _ _ _ _ _ _ _ _ _ _ _ _ _ _ _ _ _ _ _ _ _ _ _ _ _ _ _ _ _ _ _ _ _ _ _ _ _ _ _ _ _ _ _ _ _ _ _ _ _ _ _ _ _ _ _ _ _ _ _ _ _ _ _ _ _ _ _ _ _ _ _ _ _ _ _ _ _ _ _ _ _ _ _ _ _ _ _ _ _ _ _ _ _ _ _ _ _ _ _ _ _ _ _ _ _ _ _ _ _ _ _ _ _ _ _ _ _ _ _ _ _ _ _ _ _ _ _ _ _ _ _ _ _ _ _ _ _ _ _ _ _ _ _ _ _ _ _ _ _ _ _ _ _ _ _ HE hst hbox HV HP _ ?_
                  dsimp only
                  intro ag B wr v0 v1 v2 v3 v4 v5 v6 v7 v8 v9 v10 v11 v12 v13 v14 v15 v16 v17 v18 v19 v20 v21 v22 v23 v24 v25 v26 v27 v28 v29 v30 v31 v32 v33 v34 v35 v36 v37 v38 v39 v40 v41 v42 v43 v44 v45 v46 v47 v48 v49 v50 v51 v52 v53 v54 v55 v56 v57 v58 v59 v60 v61 v62 v63 v64 v65 v66 v67 v68 v69 v70 v71 v72 v73 v74 v75 v76 v77 v78 v79 v80 v81 v82 v83 v84 v85 v86 v87 v88 v89 v90 hst hbox hinv hpass
                  have HP : Hid (Pass arcs inn out B0 ag B X (i1 + 1) 0) := Pass.nextI hpass
                  have HV : Hid _ := hinv
                  clear hpass hinv
                  go_wp2
                  go_roundw
                  case rel => exact ⟨ag, B, i1 + 1, rfl, by go_num, by omega, hst, hbox, HV.out, HP.out⟩
                  case measure => simp [intOf]; omega
                · have e : i1 = inn.length + 1 := by omega
                  have HP : Hid (Pass arcs inn out B0 ag B X (inn.length + 1) 0) := by rw [← e]; exact hpass
                  have HV : Hid _ := hinv
                  have hLA := HLA.out
                  clear hpass hinv e
                  go_wp2
                  go_roundw
                  case rel => exact ⟨ag, B, X + 1, rfl, by go_num, by omega, hst, by omega, HV.out, HP.out.nextX⟩
                  case measure => simp [intOf]; omega
            · rcases Pass.fin (by obtain rfl : X = arcs.length := by omega
                                  exact hpass) with ⟨rfl, hfx⟩ | ⟨rfl, hsm⟩
              · have HX : Hid (Fix arcs inn out B) := hfx
                have HV : Hid _ := hinv
                clear hfx hinv hpass
                go_wp2
                go_roundg 0
                case measure => rw [HGK.out]; omega
                case rel => exact ⟨false, B, rfl, hst, hwr, HV.out, (fun h => by cases h), (fun _ => ⟨rfl, HX.out⟩)⟩
              · have HX : Hid (B.sum < B0.sum) := hsm
                have HV : Hid _ := hinv
                clear hsm hinv hpass
                go_wp2
                go_roundg (B.sum + 1)
                case measure => rw [HGK.out]; have := HX.out; omega
                case rel => exact ⟨true, B, rfl, hst, hwr, HV.out, (fun _ => rfl), (fun h => by cases h)⟩
        | false =>
          have HX : Hid (Fix arcs inn out B0) := (hk2 rfl).2
          have HV : Hid _ := hinv
          clear hk1 hk2 hinv
          go_wp2
          go_loopw [22, 23] (fun a x wr => ∃ l X : Nat, a = .int .i64 (l : Int) ∧ x = .int .i64 X ∧ X ≤ fins.length ∧ St (w.alloc (.cells #[.int .i64 (S : Int), .slice aa arcs.length ca, .slice af fins.length cf] 25)) wr (w.heap.size + 1) N B0 ∧ w.heap.size + 1 < wr.heap.size ∧ Lst fins inn out B0 X l) (fun _ x _ => fins.length - (intOf x).toNat)
          case atStart => exact ⟨dear, 0, by rw [← dear_int], rfl, Nat.zero_le _, hst, hwr, Lst.start _ _ _ _⟩
          case round =>
            clear hst hwr
            obtain ⟨l, X, rfl, rfl, hX, hst, hwr, hl⟩ := hrel
            have k2 : wr.cell? ⟨w.heap.size, 2, none⟩ = some (.slice af fins.length cf) := by rw [hst.old (by omega)]; simp
            have hLF := HLF.out
            by_cases hlt : X < fins.length
            · have hbx : ∃ b off, af = some ⟨b, off, none⟩ ∧ b < w.heap.size ∧ ∀ j u, (fcs fins)[j]? = some u → wr.cell? ⟨b, off + j, none⟩ = some u := by
                rcases HFx.out with h | ⟨b, off, e, hb, hc⟩
                · omega
                · refine ⟨b, off, e, hb, fun j u hu => ?_⟩
                  rw [hst.old (by omega), World.cell?_alloc_past _ _ _ hb]
                  exact hc j u hu
              obtain ⟨b, off, rfl, hbl, hcs⟩ := hbx
              have u := fcs_at fins X hlt
              obtain ⟨f, x, ea⟩ : ∃ f x, fins[X] = (f, x) := ⟨_, _, rfl⟩
              have hab := HFt.out X hlt
              rw [ea] at u hab
              unfold finB at hab
              simp only [decide_eq_true_eq] at hab
              obtain ⟨g0, g1, g2, g3⟩ := hab
              obtain ⟨f, rfl⟩ : ∃ n : Nat, f = (n : Int) := ⟨f.toNat, by omega⟩
              obtain ⟨x, rfl⟩ : ∃ n : Nat, x = (n : Int) := ⟨x.toNat, by omega⟩
              have p0 := hcs _ _ u.1
              have p1 := hcs _ _ u.2
              rw [← Nat.add_assoc] at p1
              have HE0 : Hid (fins[X] = ((f : Int), (x : Int))) := ea
              obtain ⟨P1, P3, P2, P4, PJ, n1, n2, n3, n4, n5, eP⟩ := placedF (inn := inn) (out := out) hS hi ho (Int.ofNat_lt.1 g1)
              have hPN : PJ < N := by
                rw [eP, HN.out, HR.out]
                exact idx_lt (Int.ofNat_lt.1 g1) (Nat.lt_succ_self _) (Nat.lt_succ_self _)
              have cP := hst.cell PJ hPN
              obtain ⟨pv, hpv⟩ : ∃ v, val B0 PJ = v := ⟨_, rfl⟩
              rw [hpv] at cP
              rw [eP] at hpv
              obtain ⟨X2, eX2, aX⟩ := wrap_up (n := X) (by omega)
              have HX2 : Hid (X2 = X + 1) := eX2
              have HXb : Hid (X2 ≤ fins.length) := by rw [eX2]; exact hlt
              have HXl : Hid (X < fins.length) := hlt
              have HL : Hid _ := hl
              have HG : Hid (w.heap.size + 1 < wr.heap.size) := hwr
              have HPv : Hid _ := hpv
              have Hx : Hid (x ≤ 1000000) := nat_le g3
              have dX : decide ((X : Int) < (fins.length : Int)) = true := decide_eq_true (Int.ofNat_lt.2 hlt)
              clear u hcs ea hl eP hpv eX2 hX g0 g1 g2 g3
              obtain ⟨wx, rfl⟩ : ∃ wx : World, wx = wr := ⟨_, rfl⟩
              by_cases hd : pv = dear
              · have cP2 : wx.cell? ⟨w.heap.size + 1, PJ, none⟩ = some (.int .i64 1152921504606846976) := by rw [cP, hd, ← dear_int]
                have HLk : Hid (Lst fins inn out B0 X2 l) := by rw [HX2.out]; exact HL.out.keep HXl.out (by rw [HE0.out]) (fun h => by rw [HPv.out, hd] at h; exact absurd h (Nat.lt_irrefl _))
                clear cP hd
                go_wp2
                repeat (go_quiet (fail); go_wp2)
                go_roundw
                case rel => exact ⟨l, X2, rfl, by rw [HX2.out]; simp, HXb.out, by first | exact hst.alloc (Nat.le_of_lt HG.out) _ | exact (hst.alloc (Nat.le_of_lt HG.out) _).drewN _, by first | exact Nat.lt_of_lt_of_le HG.out (by simp) | simp, HLk.out⟩
                case measure => exact meas2 HXl.out
              · have hpd : pv < dear := HPv.out ▸ Nat.lt_of_le_of_ne (HV.out.top _) (fun h => hd (HPv.out ▸ h))
                have dP := lt_dear hpd
                obtain ⟨pw, epw, m7⟩ := wrap_plus hpd Hx.out
                have m8 : IntKind.i64.wrap ((pv : Int) + (x : Int)) = (pw : Int) := (wrap_same _).trans m7
                have HPW : Hid (pw = pv + x) := epw
                have HPD : Hid (pv < dear) := hpd
                clear epw hd hpd
                by_cases hbet : pw < l
                · have nb : (pw : Int) < (l : Int) := Int.ofNat_lt.2 hbet
                  have HLk : Hid (Lst fins inn out B0 X2 pw) := by rw [HX2.out, HPW.out]; exact HL.out.took HXl.out (by rw [HE0.out]) (by rw [HE0.out]) HPv.out HPD.out (by rw [← HPW.out]; exact hbet)
                  clear hbet
                  go_wp2
                  repeat (go_quiet (fail); go_wp2)
                  go_roundw
                  case rel => exact ⟨pw, X2, by first | rfl | go_num, by rw [HX2.out]; simp, HXb.out, by first | exact hst.alloc (Nat.le_of_lt HG.out) _ | exact (hst.alloc (Nat.le_of_lt HG.out) _).drewN _, by first | exact Nat.lt_of_lt_of_le HG.out (by simp) | simp, HLk.out⟩
                  case measure => exact meas2 HXl.out
                · have nb : ¬ ((pw : Int) < (l : Int)) := fun h => hbet (Int.ofNat_lt.1 h)
                  have nb2 : (l : Int) ≤ (pw : Int) := Int.not_lt.1 nb
                  have HLk : Hid (Lst fins inn out B0 X2 l) := by rw [HX2.out]; exact HL.out.keep HXl.out (by rw [HE0.out]) (fun h => by rw [HPv.out, HE0.out]; rw [HPW.out] at nb2; exact nb2)
                  clear hbet
                  go_wp2
                  repeat (go_quiet (fail); go_wp2)
                  go_roundw
                  case rel => exact ⟨l, X2, by first | rfl | go_num, by rw [HX2.out]; simp, HXb.out, by first | exact hst.alloc (Nat.le_of_lt HG.out) _ | exact (hst.alloc (Nat.le_of_lt HG.out) _).drewN _, by first | exact Nat.lt_of_lt_of_le HG.out (by simp) | simp, HLk.out⟩
                  case measure => exact meas2 HXl.out
            · have eX : X = fins.length := Nat.le_antisymm hX (Nat.not_lt.1 hlt)
              have HL : Hid (Lst fins inn out B0 fins.length l) := eX ▸ hl
              have dX : decide ((X : Int) < (fins.length : Int)) = false := decide_eq_false (fun h => hlt (Int.ofNat_lt.1 h))
              clear eX hl
              go_wp2
              go_ret
              exact ⟨l, rfl, ⟨HL.out.fin ⟨rfl, hS0, HRt.out⟩ (by rw [hst.2.2]; exact Nat.le_trans hNb (by decide)) HFt.out HV.out HX.out, HL.out.bound (by rw [hst.2.2]; exact hNb) HFt.out HV.out⟩, ((Below.refl _ w).alloc (Nat.le_refl _) _).trans (hst.2.1.mono (Nat.le_succ _))⟩
end Go.Proofs.YtfjocafepigijaaDoor.CR
