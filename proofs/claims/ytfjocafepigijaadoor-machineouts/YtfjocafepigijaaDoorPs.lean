/- The program's push: an entry more. Condition: there are fewer than a million. -/
import Derived.Test.YtfjocafepigijaaDoorPo
import Derived.Deep.RegionLaw
import Derived.Maps.AppendAt
namespace Go.Proofs.YtfjocafepigijaaDoor.Ps
open Go.RowKit Mv Qp Sk Po

/-- an append onto an owned row, as one step of a region that draws its order; where what comes lies -/
theorem step_append_at {P : Program} {ops : Array Oper} {o : Oper} {a : Act} {w : World} {K : Act → World → Prop} {Q : Exit → Act → World → Prop} {E : Prop}
    (hgd : o.guard = none) (s x : Operand) (t : TypeId) (ho : o.op = .call { callee := .builtin .append, args := #[s, x], argTypes := #[t, t] })
    (base : Nat) (e : TypeId) (i : TypeInfo) (z : Value) (size bytes : Nat) (ht : P.underlying t = some (.slice e)) (hi : P.info? e = some i) (hz : i.zero = some z)
    (hsize : i.size = size) (hby : i.bytes = bytes) (hzs : z.cells.size = size) (hsz : 0 < size)
    (v : Value) (n : Nat) (xs : List Value) (hs : a.eval s = v) (hown : w.ownsRow base e size v n xs)
    (ad : Addr) (m c : Nat) (news : List Value) (hx : a.eval x = .slice (some ad) m c) (hl : news.length = m * size) (hnews : ∀ j u, news[j]? = some u → w.cell? (ad.add j) = some u) (h1 : ∀ u ∈ news, u.oneCell' = true)
    (h63 : n + m ≤ maxLen) (hbytes : (n + m) * bytes ≤ 140737488355328) (hbase : base ≤ w.heap.size)
    (h : ∀ v' w', w'.ownsRow base e size v' (n + m) (xs ++ news) → w.grownBy w' v.ownBlock → (v'.ownBlock = v.ownBlock ∨ v'.ownBlock = some w.heap.size) → K (a.put o.dst v') w') :
    if Region.wanted o (yielded ops a.tmps) = true then Oper.wp P o a w K Q else E := by
  have hw : Region.wanted o (yielded ops a.tmps) = true := by simp [Region.wanted, hgd]
  rw [if_pos hw]
  obtain ⟨v', w', hr, h2, h3, h4, h5⟩ := run_append_own_at (P := P) w base t o.type e i z size bytes ht hi hz hsize hby hzs hsz v n xs hown ad m c news hl hnews h1 h63 hbytes hbase
  unfold Oper.wp execOp
  simp only [ho, resolve, invoke, builtin, Sem.run_bind, Sem.run_pure, Result.andThen_ok, List.map_toArray, List.map_cons, List.map_nil, hs, hx, hr]
  exact h v' w' h2 h3 h5

theorem own_some {w : World} {base e size n : Nat} {v : Value} {xs : List Value} (h : w.ownsRow base e size v n xs) (hn : 0 < n) : ∃ g cap, v = .slice (some ⟨g, 0, none⟩) n cap ∧ base ≤ g ∧ g < w.heap.size := by
  rcases h.2 with ⟨_, h0⟩ | ⟨g, cap, cur, hv, hb, hg, _⟩
  · omega
  · exact ⟨g, cap, hv, hb, (Array.getElem?_eq_some_iff.1 hg).1⟩
theorem two_one (a b : Int) : ∀ x ∈ [Value.int .i64 a, .int .i64 b], x.oneCell' = true := by
  intro x hx
  simp at hx
  rcases hx with rfl | rfl <;> rfl
theorem cell_two_at (w : World) (g : Nat) (a b : Value) (t : TypeId) (hg : g = w.heap.size) : ∀ j u, [a, b][j]? = some u → (w.alloc (.cells #[a, b] t)).cell? ((⟨g, 0, none⟩ : Addr).add j) = some u := by
  intro j u hj
  subst hg
  match j, hj with
  | 0, hj => simp at hj; subst hj; simp [Addr.add]
  | 1, hj => simp at hj; subst hj; simp [Addr.add]
theorem info69 : (Tryd.prog.info? 192).map (fun i => (i.zero, i.size, i.bytes)) = some (some (.agg #[.int .i64 0, .int .i64 0]), 2, 16) := by kernel_rfl
theorem fcs_snoc (l : List (Int × Int)) (c s : Int) : fcs l ++ [.int .i64 c, .int .i64 s] = fcs (l ++ [(c, s)]) := by simp [fcs, fc]

theorem kept2 {w w1 : World} {a b : Obj} {row : Option Nat} (h : ((w.alloc a).alloc b).drew.grownBy w1 row) {F : Nat} (_ : row = some F → False) : (∀ k, k < w.heap.size → some k ≠ row → w1.cell? ⟨k, 3, none⟩ = w.cell? ⟨k, 3, none⟩) ∧ ∀ {a0 a1 a2 v : Value}, IsF w F a0 a1 a2 v → row ≠ some F → w1.frozen? ⟨F, 3, none⟩ = false := by
  have e : ∀ k, k < w.heap.size → some k ≠ row → w1.heap[k]? = w.heap[k]? := fun k hk hne => by
    rw [h.block k (by simp; omega) hne]
    show ((w.alloc a).alloc b).heap[k]? = _
    rw [heap_alloc_old _ _ (by simp; omega), heap_alloc_old _ _ hk]
  exact ⟨fun k hk hne => World.cell?_of_block (w := w) (e k hk hne), fun hF hne => frozen_of_row w1 F 3 _ 167 ((e F hF.lt (fun h => hne h.symm)).trans hF)⟩

/-- what stands beside the row while an entry is laid into it -/
structure Side (w wr : World) (F : Nat) (a0 a1 a2 v : Value) (c s : Int) (X : Nat → Prop) : Prop where
  box : wr.heap[w.heap.size]? = some (.cells #[.int .i64 c, .int .i64 s] 192 (0, 0))
  field : IsF wr F a0 a1 a2 v
  kept : Kp X w wr
theorem begun {w w1 : World} {F g base n cap : Nat} {a0 a1 a2 v : Value} {c s : Int} {xs : List Value} (h : ((w.alloc (.cells #[.int .i64 c, .int .i64 s] 192)).alloc (.cells #[.int .i64 c, .int .i64 s] 192)).drew.grownBy w1 v.ownBlock) (hF : IsF w F a0 a1 a2 v) (hown : w.ownsRow base 192 2 v n xs) (hvF : v.ownBlock ≠ some F) : Side w (w1.setCell ⟨F, 3, none⟩ (.slice (some ⟨g, 0, none⟩) (n + 1) cap)) F a0 a1 a2 (.slice (some ⟨g, 0, none⟩) (n + 1) cap) c s (fun k => k = F ∨ v.ownBlock = some k) := by
  have e : ∀ k, k < w.heap.size + 1 → some k ≠ v.ownBlock → w1.heap[k]? = (w.alloc (.cells #[.int .i64 c, .int .i64 s] 192)).heap[k]? := fun k hk hne => by
    rw [h.block k (by simp; omega) hne]
    show ((w.alloc _).alloc _).heap[k]? = _
    rw [heap_alloc_old _ _ (by simp; omega)]
  have hfl := hF.lt
  refine ⟨?_, ?_, ?_⟩
  · rw [Below.heap_setCell _ _ _ _ (by simp; omega), e _ (by omega) (fun h2 => by have := (hown.lt _ h2.symm).2; omega)]
    exact heap_alloc_new _ _
  · have h1 : IsF w1 F a0 a1 a2 v := by
      show w1.heap[F]? = _
      rw [e F (by omega) (fun h2 => hvF h2.symm), heap_alloc_old _ _ hfl]
      exact hF
    exact h1.store _
  · refine Kp.setCell ?_ _ _ _ (fun _ => .inl rfl)
    have h0 : Kp (fun k => k = F ∨ v.ownBlock = some k) w ((w.alloc (.cells #[.int .i64 c, .int .i64 s] 192)).alloc (.cells #[.int .i64 c, .int .i64 s] 192)).drew := by
      have := ((Kp.refl (fun k => k = F ∨ v.ownBlock = some k) w).alloc (.cells #[.int .i64 c, .int .i64 s] 192)).alloc (.cells #[.int .i64 c, .int .i64 s] 192)
      exact ⟨this.os, this.tape, this.output, this.size, this.block⟩
    exact h0.grown h (fun k hk _ => .inr hk)

theorem Side.store {w wr : World} {F g : Nat} {a0 a1 a2 v : Value} {c s : Int} {X : Nat → Prop} (h : Side w wr F a0 a1 a2 v c s X) (h1 : g ≠ w.heap.size) (h2 : g ≠ F) (h3 : g < w.heap.size → X g) (d i j : Nat) (a b : Value) : Side w (((wr.drewN d).setCell ⟨g, i, none⟩ a).setCell ⟨g, j, none⟩ b) F a0 a1 a2 v c s X := by
  refine ⟨?_, ?_, ((h.kept.drewN d).setCell _ _ _ h3).setCell _ _ _ h3⟩
  · rw [Below.heap_setCell _ _ _ _ (fun e => h1 e.symm), Below.heap_setCell _ _ _ _ (fun e => h1 e.symm)]
    exact h.box
  · show (((wr.drewN d).setCell ⟨g, i, none⟩ a).setCell ⟨g, j, none⟩ b).heap[F]? = _
    rw [Below.heap_setCell _ _ _ _ (fun e => h2 e.symm), Below.heap_setCell _ _ _ _ (fun e => h2 e.symm)]
    exact h.field
theorem movedP {w wr : World} {base g cap n m F : Nat} {a0 a1 a2 v : Value} {X : Nat → Prop} {p z : List (Int × Int)} {c s a b : Int} (hown : wr.ownsRow base 192 2 (.slice (some ⟨g, 0, none⟩) n cap) n (fcs p)) (hs : Side w wr F a0 a1 a2 v c s X) (hperm : (p.set (m + 1) (c, s)).Perm z) (hpl : p.length = n) (hk : m + 1 < n) (hv : p[m / 2]? = some (a, b)) (h1 : g ≠ w.heap.size) (h2 : g ≠ F) (h3 : g < w.heap.size → X g) (d : Nat) :
    ∃ (k' : Nat) (p' : List (Int × Int)), Value.int .i64 ((m : Int) / 2) = .int .i64 (k' : Int) ∧ k' < n ∧ p'.length = n ∧ (p'.set k' (c, s)).Perm z ∧ (((wr.drewN d).setCell ⟨g, (m + 1) * 2, none⟩ (.int .i64 a)).setCell ⟨g, (m + 1) * 2 + 1, none⟩ (.int .i64 b)).ownsRow base 192 2 (.slice (some ⟨g, 0, none⟩) n cap) n (fcs p') ∧ Side w (((wr.drewN d).setCell ⟨g, (m + 1) * 2, none⟩ (.int .i64 a)).setCell ⟨g, (m + 1) * 2 + 1, none⟩ (.int .i64 b)) F a0 a1 a2 v c s X := by
  have e : p[m / 2]'(by omega) = (a, b) := (List.getElem?_eq_some_iff.1 hv).2
  refine ⟨m / 2, p.set (m + 1) (a, b), by simp, by omega, by simpa using hpl, ?_, (put2 hown (m + 1) a b d).1, hs.store h1 h2 h3 d _ _ _ _⟩
  rw [← e]
  exact (set_swap p (m + 1) (m / 2) (c, s) (by omega) (by omega) (by omega)).trans hperm

set_option maxHeartbeats 2000000 in
set_option maxRecDepth 100000 in
theorem push_any (F base : Nat) (a0 a1 a2 v : Value) (es : List (Int × Int)) (c s : Int) (w : World) (hF : IsF w F a0 a1 a2 v) (hown : w.ownsRow base 192 2 v es.length (fcs es)) (hb : F < base) (hbs : base ≤ w.heap.size) (hl : es.length < 1000000000000) :
    Calls Tryd.prog 99 #[.pointer (some ⟨F, 3, none⟩), .agg #[.int .i64 c, .int .i64 s]] w fun e w' => e = .returned (.tuple #[]) ∧ ∃ v' es', es'.Perm ((c, s) :: es) ∧ IsF w' F a0 a1 a2 v' ∧ w'.ownsRow base 192 2 v' es'.length (fcs es') ∧ (v'.ownBlock = v.ownBlock ∨ ∃ g, v'.ownBlock = some g ∧ w.heap.size ≤ g) ∧ Kp (fun k => k = F ∨ v.ownBlock = some k) w w' := by
  obtain ⟨i0, hi, hz0, hz1, hz2⟩ := info_parts info69
  have k3 : w.cell? ⟨F, 3, none⟩ = some v := hF.cell 3
  have hfl := hF.lt
  have k31 : ∀ o1, (w.alloc o1).cell? ⟨F, 3, none⟩ = some v := fun o1 => by rw [World.cell?_alloc_past _ _ _ hfl]; exact k3
  have k32 : ∀ o1 o2, ((w.alloc o1).alloc o2).cell? ⟨F, 3, none⟩ = some v := fun o1 o2 => by rw [World.cell?_alloc_past _ _ _ (by simp; omega)]; exact k31 o1
  have HO : Hid (w.ownsRow base 192 2 v es.length (fcs es)) := hown
  have HF : Hid (IsF w F a0 a1 a2 v) := hF
  have hvF : v.ownBlock ≠ some F := fun h => by have := (hown.lt F h).1; omega
  clear hown hF
  go_enter Tryd.func99, Tryd.ntmps99
  go_wp2
  go_region_law (refine step_append_at rfl (.tmp 9) (.tmp 11) 165 rfl base 192 i0 (.agg #[.int .i64 0, .int .i64 0]) 2 16 Tryd.underlying165 hi hz0 hz1 hz2 rfl (by decide) _ _ _ rfl ((HO.out.alloc _).alloc _).drew ⟨_, 0, none⟩ 1 1 [.int .i64 c, .int .i64 s] rfl rfl (cell_two_at _ _ _ _ _ (by simp)) (two_one _ _) (by unfold maxLen; omega) (by omega) (by simp; omega) ?_; intro v1 w1 hown1 hgr1 hloc1; have hk1 := kept2 hgr1 (fun h => hvF h); obtain ⟨g, cap, rfl, hg1, hg2⟩ := own_some hown1 (Nat.succ_pos _); have q3 : w1.cell? ⟨F, 3, none⟩ = some v := (hk1.1 F hfl (fun h => hvF h.symm)).trans k3; have qf : w1.frozen? ⟨F, 3, none⟩ = false := hk1.2 HF.out hvF; have HR : Hid (((w.alloc (.cells #[.int .i64 c, .int .i64 s] 192)).alloc (.cells #[.int .i64 c, .int .i64 s] 192)).drew.grownBy w1 v.ownBlock) := hgr1; clear hgr1 hk1)
  all_goals
    have hown2 : (w1.setCell ⟨F, 3, none⟩ (.slice (some ⟨g, 0, none⟩) (es.length + 1) cap)).ownsRow base 192 2 (.slice (some ⟨g, 0, none⟩) (es.length + 1) cap) (es.length + 1) (fcs (es ++ [(c, s)])) := own_set (by rw [← fcs_snoc]; exact hown1) (by omega) _ _
    have hst := begun HR.out HF.out HO.out hvF (g := g) (cap := cap)
    have hgX : Hid (g < w.heap.size → (g = F ∨ v.ownBlock = some g)) := fun h => by rcases hloc1 with h1 | h1 <;> simp [Value.ownBlock] at h1 <;> first | exact .inr h1.symm | omega
    have hgw : g ≠ w.heap.size := fun h => by rcases hloc1 with h1 | h1 <;> simp [Value.ownBlock] at h1 <;> first | (have := (HO.out.lt g h1.symm).2; omega) | omega
    have hgF : g ≠ F := by omega
    have HLo : Hid _ := hloc1
    have qn : (w1.setCell ⟨F, 3, none⟩ (.slice (some ⟨g, 0, none⟩) (es.length + 1) cap)).cell? ⟨F, 3, none⟩ = some (.slice (some ⟨g, 0, none⟩) (es.length + 1) cap) := hst.field.cell 3
    clear hown1 hloc1 q3 qf k31 k32
    go_wp2
    clear qn
  all_goals
    go_loopw [5] (fun a wr => ∃ (k : Nat) (p : List (Int × Int)), a = .int .i64 k ∧ k < es.length + 1 ∧ p.length = es.length + 1 ∧ (p.set k (c, s)).Perm ((c, s) :: es) ∧ wr.ownsRow base 192 2 (.slice (some ⟨g, 0, none⟩) (es.length + 1) cap) (es.length + 1) (fcs p) ∧ Side w wr F a0 a1 a2 (.slice (some ⟨g, 0, none⟩) (es.length + 1) cap) c s (fun k => k = F ∨ v.ownBlock = some k)) (fun a _ => (intOf a).toNat)
    case atStart => exact ⟨es.length, es ++ [(c, s)], by first | rfl | go_num, Nat.lt_succ_self _, by simp, by rw [List.set_append_right _ _ (Nat.le_refl _)]; simp <;> exact List.perm_append_singleton _ _, hown2, hst⟩
    case round =>
      clear hown2 hst
      obtain ⟨k, p, rfl, hk, hpl, hperm, hown, hsd⟩ := hrel
      have y0 : wr.cell? ⟨w.heap.size, 0, none⟩ = some (.int .i64 c) := cell_of_row wr _ 0 _ 192 (0, 0) hsd.box
      have y1 : wr.cell? ⟨w.heap.size, 1, none⟩ = some (.int .i64 s) := cell_of_row wr _ 1 _ 192 (0, 0) hsd.box
      have HP : Hid _ := hperm
      have HS : Hid _ := hsd
      clear hperm hsd
      have f0 := hown.frozenAt (k * 2)
      have f1 := hown.frozenAt (k * 2 + 1)
      obtain ⟨z0, c0⟩ : ∃ z, wr.cell? ⟨g, k * 2, none⟩ = some z := ⟨_, by rw [hown.cellAt _ (by omega)]; exact (fcs_at p k (by omega)).1⟩
      obtain ⟨z1, c1⟩ : ∃ z, wr.cell? ⟨g, k * 2 + 1, none⟩ = some z := ⟨_, by rw [hown.cellAt _ (by omega)]; exact (fcs_at p k (by omega)).2⟩
      by_cases hk0 : k = 0
      · subst hk0
        simp only [Nat.zero_mul, Nat.zero_add] at f0 f1 c0 c1
        go_wp2
        repeat (go_quiet (fail); go_wp2)
        go_end0
        exact ⟨rfl, _, p.set 0 (c, s), HP.out, (HS.out.store hgw hgF hgX.out _ _ _ _ _).field, by rw [List.length_set, hpl]; exact (put2 hown 0 c s _).1, HLo.out.imp id (fun h => ⟨_, h, by simp; omega⟩), (HS.out.store hgw hgF hgX.out _ _ _ _ _).kept⟩
      · obtain ⟨m, rfl⟩ : ∃ m, k = m + 1 := ⟨k - 1, by omega⟩
        obtain ⟨⟨v1, s1⟩, e1⟩ : ∃ v, p[m / 2]? = some v := ⟨_, List.getElem?_eq_getElem (by omega)⟩
        have ca : wr.cell? ⟨g, m / 2 * 2, none⟩ = some (.int .i64 v1) := by rw [hown.cellAt _ (by omega), (fcs_at p (m / 2) (by omega)).1, (List.getElem?_eq_some_iff.1 e1).2]
        have cb : wr.cell? ⟨g, m / 2 * 2 + 1, none⟩ = some (.int .i64 s1) := by rw [hown.cellAt _ (by omega), (fcs_at p (m / 2) (by omega)).2, (List.getElem?_eq_some_iff.1 e1).2]
        have HE : Hid (p[m / 2]? = some (v1, s1)) := e1
        clear e1
        by_cases hlt : c < v1
        · go_wp2
          repeat (go_quiet (fail); go_wp2)
          exact ⟨movedP hown HS.out HP.out hpl hk HE.out hgw hgF hgX.out _, by simp [intOf]; omega⟩
        · go_wp2
          repeat (go_quiet (fail); go_wp2)
          go_end0
          exact ⟨rfl, _, p.set (m + 1) (c, s), HP.out, (HS.out.store hgw hgF hgX.out _ _ _ _ _).field, by rw [List.length_set, hpl]; exact (put2 hown (m + 1) c s _).1, HLo.out.imp id (fun h => ⟨_, h, by simp; omega⟩), (HS.out.store hgw hgF hgX.out _ _ _ _ _).kept⟩
end Go.Proofs.YtfjocafepigijaaDoor.Ps
