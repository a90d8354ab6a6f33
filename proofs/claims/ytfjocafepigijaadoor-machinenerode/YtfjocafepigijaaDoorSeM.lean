/- The program's push: an entry more. Condition: there are fewer than a million. -/
import Derived.Test.YtfjocafepigijaaDoorPo
import Derived.Deep.RegionLaw
import Derived.Maps.AppendAt
import Derived.Test.YtfjocafepigijaaDoorCeM
import Derived.Test.YtfjocafepigijaaDoorTdM
namespace Go.Proofs.YtfjocafepigijaaDoor.Ps
open Go.RowKit Mv Qp Sk Po

/-- an append onto an owned row, as one step of a region that draws its order; where what comes lies -/
theorem step_append_at {P : Program} {ops : Array Oper} {o : Oper} {a : Act} {w : World} {K : Act → World → Prop} {Q : Exit → Act → World → Prop} {E : Prop}
    (hgd : o.guard = none) (s x : Operand) (t : TypeId) (ho : o.op = .call { callee := .builtin .append, args := #[s, x], argTypes := #[t, t] })
    (base : Nat) (e : TypeId) (i : TypeInfo) (z : Value) (size bytes : Nat) (ht : P.underlying t = some (.slice e)) (hi : P.info? e = some i) (hz : i.zero = some z)
    (hsize : i.size = size) (hby : i.bytes = bytes) (hzs : z.cells.size = size) (hsz : 0 < size)
    (v : Value) (n : Nat) (xs : List Value) (hs : a.eval s = v) (hown : w.ownsRow base e size v n xs)
    (ad : Addr) (m c : Nat) (news : List Value) (hx : a.eval x = .slice (some ad) m c) (hl : news.length = m * size) (hnews : ∀ j u, news[j]? = some u → w.cell? (ad.add j) = some u) (h1 : ∀ u ∈ news, u.oneCell' = true)
    (h63 : n + m ≤ maxLen) (hbytes : (n + m) * bytes ≤ 140737488355328) (hbase : base ≤ w.heap.size)
    (h : ∀ v' w', w'.ownsRow base e size v' (n + m) (xs ++ news) → w.grownBy w' v.ownBlock → (v'.ownBlock = v.ownBlock ∨ v'.ownBlock = some w.heap.size) → K (a.put o.dst v') w') :
    if Region.wanted o (yielded ops a.tmps) = true then Oper.wp P o a w K Q else E := by
  have hw : Region.wanted o (yielded ops a.tmps) = true := by simp [Region.wanted, hgd]
  rw [if_pos hw]
  obtain ⟨v', w', hr, h2, h3, h4, h5⟩ := run_append_own_at (P := P) w base t o.type e i z size bytes ht hi hz hsize hby hzs hsz v n xs hown ad m c news hl hnews h1 h63 hbytes hbase
  unfold Oper.wp execOp
  simp only [ho, resolve, invoke, builtin, Sem.run_bind, Sem.run_pure, Result.andThen_ok, List.map_toArray, List.map_cons, List.map_nil, hs, hx, hr]
  exact h v' w' h2 h3 h5

theorem own_some {w : World} {base e size n : Nat} {v : Value} {xs : List Value} (h : w.ownsRow base e size v n xs) (hn : 0 < n) : ∃ g cap, v = .slice (some ⟨g, 0, none⟩) n cap ∧ base ≤ g ∧ g < w.heap.size := by
  rcases h.2 with ⟨_, h0⟩ | ⟨g, cap, cur, hv, hb, hg, _⟩
  · omega
  · exact ⟨g, cap, hv, hb, (Array.getElem?_eq_some_iff.1 hg).1⟩
theorem two_one (a b : Int) : ∀ x ∈ [Value.int .i64 a, .int .i64 b], x.oneCell' = true := by
  intro x hx
  simp at hx
  rcases hx with rfl | rfl <;> rfl
theorem cell_two_at (w : World) (g : Nat) (a b : Value) (t : TypeId) (hg : g = w.heap.size) : ∀ j u, [a, b][j]? = some u → (w.alloc (.cells #[a, b] t)).cell? ((⟨g, 0, none⟩ : Addr).add j) = some u := by
  intro j u hj
  subst hg
  match j, hj with
  | 0, hj => simp at hj; subst hj; simp [Addr.add]
  | 1, hj => simp at hj; subst hj; simp [Addr.add]
theorem info69 : (Tryd.prog.info? 192).map (fun i => (i.zero, i.size, i.bytes)) = some (some (.agg #[.int .i64 0, .int .i64 0]), 2, 16) := by kernel_rfl
theorem fcs_snoc (l : List (Int × Int)) (c s : Int) : fcs l ++ [.int .i64 c, .int .i64 s] = fcs (l ++ [(c, s)]) := by simp [fcs, fc]

theorem kept2 {w w1 : World} {a b : Obj} {row : Option Nat} (h : ((w.alloc a).alloc b).drew.grownBy w1 row) {F : Nat} (_ : row = some F → False) : (∀ k, k < w.heap.size → some k ≠ row → w1.cell? ⟨k, 3, none⟩ = w.cell? ⟨k, 3, none⟩) ∧ ∀ {a0 a1 a2 v : Value}, IsF w F a0 a1 a2 v → row ≠ some F → w1.frozen? ⟨F, 3, none⟩ = false := by
  have e : ∀ k, k < w.heap.size → some k ≠ row → w1.heap[k]? = w.heap[k]? := fun k hk hne => by
    rw [h.block k (by simp; omega) hne]
    show ((w.alloc a).alloc b).heap[k]? = _
    rw [heap_alloc_old _ _ (by simp; omega), heap_alloc_old _ _ hk]
  exact ⟨fun k hk hne => World.cell?_of_block (w := w) (e k hk hne), fun hF hne => frozen_of_row w1 F 3 _ 167 ((e F hF.lt (fun h => hne h.symm)).trans hF)⟩

/-- what stands beside the row while an entry is laid into it -/
structure Side (w wr : World) (F : Nat) (a0 a1 a2 v : Value) (c s : Int) (X : Nat → Prop) : Prop where
  box : wr.heap[w.heap.size]? = some (.cells #[.int .i64 c, .int .i64 s] 192 (0, 0))
  field : IsF wr F a0 a1 a2 v
  kept : Kp X w wr
theorem begun {w w1 : World} {F g base n cap : Nat} {a0 a1 a2 v : Value} {c s : Int} {xs : List Value} (h : ((w.alloc (.cells #[.int .i64 c, .int .i64 s] 192)).alloc (.cells #[.int .i64 c, .int .i64 s] 192)).drew.grownBy w1 v.ownBlock) (hF : IsF w F a0 a1 a2 v) (hown : w.ownsRow base 192 2 v n xs) (hvF : v.ownBlock ≠ some F) : Side w (w1.setCell ⟨F, 3, none⟩ (.slice (some ⟨g, 0, none⟩) (n + 1) cap)) F a0 a1 a2 (.slice (some ⟨g, 0, none⟩) (n + 1) cap) c s (fun k => k = F ∨ v.ownBlock = some k) := by
  have e : ∀ k, k < w.heap.size + 1 → some k ≠ v.ownBlock → w1.heap[k]? = (w.alloc (.cells #[.int .i64 c, .int .i64 s] 192)).heap[k]? := fun k hk hne => by
    rw [h.block k (by simp; omega) hne]
    show ((w.alloc _).alloc _).heap[k]? = _
    rw [heap_alloc_old _ _ (by simp; omega)]
  have hfl := hF.lt
  refine ⟨?_, ?_, ?_⟩
  · rw [Below.heap_setCell _ _ _ _ (by simp; omega), e _ (by omega) (fun h2 => by have := (hown.lt _ h2.symm).2; omega)]
    exact heap_alloc_new _ _
  · have h1 : IsF w1 F a0 a1 a2 v := by
      show w1.heap[F]? = _
      rw [e F (by omega) (fun h2 => hvF h2.symm), heap_alloc_old _ _ hfl]
      exact hF
    exact h1.store _
  · refine Kp.setCell ?_ _ _ _ (fun _ => .inl rfl)
    have h0 : Kp (fun k => k = F ∨ v.ownBlock = some k) w ((w.alloc (.cells #[.int .i64 c, .int .i64 s] 192)).alloc (.cells #[.int .i64 c, .int .i64 s] 192)).drew := by
      have := ((Kp.refl (fun k => k = F ∨ v.ownBlock = some k) w).alloc (.cells #[.int .i64 c, .int .i64 s] 192)).alloc (.cells #[.int .i64 c, .int .i64 s] 192)
      exact ⟨this.os, this.tape, this.output, this.size, this.block⟩
    exact h0.grown h (fun k hk _ => .inr hk)

theorem Side.store {w wr : World} {F g : Nat} {a0 a1 a2 v : Value} {c s : Int} {X : Nat → Prop} (h : Side w wr F a0 a1 a2 v c s X) (h1 : g ≠ w.heap.size) (h2 : g ≠ F) (h3 : g < w.heap.size → X g) (d i j : Nat) (a b : Value) : Side w (((wr.drewN d).setCell ⟨g, i, none⟩ a).setCell ⟨g, j, none⟩ b) F a0 a1 a2 v c s X := by
  refine ⟨?_, ?_, ((h.kept.drewN d).setCell _ _ _ h3).setCell _ _ _ h3⟩
  · rw [Below.heap_setCell _ _ _ _ (fun e => h1 e.symm), Below.heap_setCell _ _ _ _ (fun e => h1 e.symm)]
    exact h.box
  · show (((wr.drewN d).setCell ⟨g, i, none⟩ a).setCell ⟨g, j, none⟩ b).heap[F]? = _
    rw [Below.heap_setCell _ _ _ _ (fun e => h2 e.symm), Below.heap_setCell _ _ _ _ (fun e => h2 e.symm)]
    exact h.field
theorem movedP {w wr : World} {base g cap n m F : Nat} {a0 a1 a2 v : Value} {X : Nat → Prop} {p z : List (Int × Int)} {c s a b : Int} (hown : wr.ownsRow base 192 2 (.slice (some ⟨g, 0, none⟩) n cap) n (fcs p)) (hs : Side w wr F a0 a1 a2 v c s X) (hperm : (p.set (m + 1) (c, s)).Perm z) (hpl : p.length = n) (hk : m + 1 < n) (hv : p[m / 2]? = some (a, b)) (h1 : g ≠ w.heap.size) (h2 : g ≠ F) (h3 : g < w.heap.size → X g) (d : Nat) :
    ∃ (k' : Nat) (p' : List (Int × Int)), Value.int .i64 ((m : Int) / 2) = .int .i64 (k' : Int) ∧ k' < n ∧ p'.length = n ∧ (p'.set k' (c, s)).Perm z ∧ (((wr.drewN d).setCell ⟨g, (m + 1) * 2, none⟩ (.int .i64 a)).setCell ⟨g, (m + 1) * 2 + 1, none⟩ (.int .i64 b)).ownsRow base 192 2 (.slice (some ⟨g, 0, none⟩) n cap) n (fcs p') ∧ Side w (((wr.drewN d).setCell ⟨g, (m + 1) * 2, none⟩ (.int .i64 a)).setCell ⟨g, (m + 1) * 2 + 1, none⟩ (.int .i64 b)) F a0 a1 a2 v c s X := by
  have e : p[m / 2]'(by omega) = (a, b) := (List.getElem?_eq_some_iff.1 hv).2
  refine ⟨m / 2, p.set (m + 1) (a, b), by simp, by omega, by simpa using hpl, ?_, (put2 hown (m + 1) a b d).1, hs.store h1 h2 h3 d _ _ _ _⟩
  rw [← e]
  exact (set_swap p (m + 1) (m / 2) (c, s) (by omega) (by omega) (by omega)).trans hperm

set_option maxHeartbeats 2000000 in
set_option maxRecDepth 100000 in
theorem push_any (F base : Nat) (a0 a1 a2 v : Value) (es : List (Int × Int)) (c s : Int) (w : World) (hF : IsF w F a0 a1 a2 v) (hown : w.ownsRow base 192 2 v es.length (fcs es)) (hb : F < base) (hbs : base ≤ w.heap.size) (hl : es.length < 1000000000000) :
    Calls Tryd.prog 99 #[.pointer (some ⟨F, 3, none⟩), .agg #[.int .i64 c, .int .i64 s]] w fun e w' => e = .returned (.tuple #[]) ∧ ∃ v' es', es'.Perm ((c, s) :: es) ∧ IsF w' F a0 a1 a2 v' ∧ w'.ownsRow base 192 2 v' es'.length (fcs es') ∧ (v'.ownBlock = v.ownBlock ∨ ∃ g, v'.ownBlock = some g ∧ w.heap.size ≤ g) ∧ Kp (fun k => k = F ∨ v.ownBlock = some k) w w' := by
  obtain ⟨i0, hi, hz0, hz1, hz2⟩ := info_parts info69
  have k3 : w.cell? ⟨F, 3, none⟩ = some v := hF.cell 3
  have hfl := hF.lt
  have k31 : ∀ o1, (w.alloc o1).cell? ⟨F, 3, none⟩ = some v := fun o1 => by rw [World.cell?_alloc_past _ _ _ hfl]; exact k3
  have k32 : ∀ o1 o2, ((w.alloc o1).alloc o2).cell? ⟨F, 3, none⟩ = some v := fun o1 o2 => by rw [World.cell?_alloc_past _ _ _ (by simp; omega)]; exact k31 o1
  have HO : Hid (w.ownsRow base 192 2 v es.length (fcs es)) := hown
  have HF : Hid (IsF w F a0 a1 a2 v) := hF
  have hvF : v.ownBlock ≠ some F := fun h => by have := (hown.lt F h).1; omega
  clear hown hF
  go_enter Tryd.func99, Tryd.ntmps99
  go_wp2
  go_region_law (refine step_append_at rfl (.tmp 9) (.tmp 11) 165 rfl base 192 i0 (.agg #[.int .i64 0, .int .i64 0]) 2 16 Tryd.underlying165 hi hz0 hz1 hz2 rfl (by decide) _ _ _ rfl ((HO.out.alloc _).alloc _).drew ⟨_, 0, none⟩ 1 1 [.int .i64 c, .int .i64 s] rfl rfl (cell_two_at _ _ _ _ _ (by simp)) (two_one _ _) (by unfold maxLen; omega) (by omega) (by simp; omega) ?_; intro v1 w1 hown1 hgr1 hloc1; have hk1 := kept2 hgr1 (fun h => hvF h); obtain ⟨g, cap, rfl, hg1, hg2⟩ := own_some hown1 (Nat.succ_pos _); have q3 : w1.cell? ⟨F, 3, none⟩ = some v := (hk1.1 F hfl (fun h => hvF h.symm)).trans k3; have qf : w1.frozen? ⟨F, 3, none⟩ = false := hk1.2 HF.out hvF; have HR : Hid (((w.alloc (.cells #[.int .i64 c, .int .i64 s] 192)).alloc (.cells #[.int .i64 c, .int .i64 s] 192)).drew.grownBy w1 v.ownBlock) := hgr1; clear hgr1 hk1)
  all_goals
    have hown2 : (w1.setCell ⟨F, 3, none⟩ (.slice (some ⟨g, 0, none⟩) (es.length + 1) cap)).ownsRow base 192 2 (.slice (some ⟨g, 0, none⟩) (es.length + 1) cap) (es.length + 1) (fcs (es ++ [(c, s)])) := own_set (by rw [← fcs_snoc]; exact hown1) (by omega) _ _
    have hst := begun HR.out HF.out HO.out hvF (g := g) (cap := cap)
    have hgX : Hid (g < w.heap.size → (g = F ∨ v.ownBlock = some g)) := fun h => by rcases hloc1 with h1 | h1 <;> simp [Value.ownBlock] at h1 <;> first | exact .inr h1.symm | omega
    have hgw : g ≠ w.heap.size := fun h => by rcases hloc1 with h1 | h1 <;> simp [Value.ownBlock] at h1 <;> first | (have := (HO.out.lt g h1.symm).2; omega) | omega
    have hgF : g ≠ F := by omega
    have HLo : Hid _ := hloc1
    have qn : (w1.setCell ⟨F, 3, none⟩ (.slice (some ⟨g, 0, none⟩) (es.length + 1) cap)).cell? ⟨F, 3, none⟩ = some (.slice (some ⟨g, 0, none⟩) (es.length + 1) cap) := hst.field.cell 3
    clear hown1 hloc1 q3 qf k31 k32
    go_wp2
    clear qn
  all_goals
    go_loopw [5] (fun a wr => ∃ (k : Nat) (p : List (Int × Int)), a = .int .i64 k ∧ k < es.length + 1 ∧ p.length = es.length + 1 ∧ (p.set k (c, s)).Perm ((c, s) :: es) ∧ wr.ownsRow base 192 2 (.slice (some ⟨g, 0, none⟩) (es.length + 1) cap) (es.length + 1) (fcs p) ∧ Side w wr F a0 a1 a2 (.slice (some ⟨g, 0, none⟩) (es.length + 1) cap) c s (fun k => k = F ∨ v.ownBlock = some k)) (fun a _ => (intOf a).toNat)
    case atStart => exact ⟨es.length, es ++ [(c, s)], by first | rfl | go_num, Nat.lt_succ_self _, by simp, by rw [List.set_append_right _ _ (Nat.le_refl _)]; simp <;> exact List.perm_append_singleton _ _, hown2, hst⟩
    case round =>
      clear hown2 hst
      obtain ⟨k, p, rfl, hk, hpl, hperm, hown, hsd⟩ := hrel
      have y0 : wr.cell? ⟨w.heap.size, 0, none⟩ = some (.int .i64 c) := cell_of_row wr _ 0 _ 192 (0, 0) hsd.box
      have y1 : wr.cell? ⟨w.heap.size, 1, none⟩ = some (.int .i64 s) := cell_of_row wr _ 1 _ 192 (0, 0) hsd.box
      have HP : Hid _ := hperm
      have HS : Hid _ := hsd
      clear hperm hsd
      have f0 := hown.frozenAt (k * 2)
      have f1 := hown.frozenAt (k * 2 + 1)
      obtain ⟨z0, c0⟩ : ∃ z, wr.cell? ⟨g, k * 2, none⟩ = some z := ⟨_, by rw [hown.cellAt _ (by omega)]; exact (fcs_at p k (by omega)).1⟩
      obtain ⟨z1, c1⟩ : ∃ z, wr.cell? ⟨g, k * 2 + 1, none⟩ = some z := ⟨_, by rw [hown.cellAt _ (by omega)]; exact (fcs_at p k (by omega)).2⟩
      by_cases hk0 : k = 0
      · subst hk0
        simp only [Nat.zero_mul, Nat.zero_add] at f0 f1 c0 c1
        go_wp2
        repeat (go_quiet (fail); go_wp2)
        go_end0
        exact ⟨rfl, _, p.set 0 (c, s), HP.out, (HS.out.store hgw hgF hgX.out _ _ _ _ _).field, by rw [List.length_set, hpl]; exact (put2 hown 0 c s _).1, HLo.out.imp id (fun h => ⟨_, h, by simp; omega⟩), (HS.out.store hgw hgF hgX.out _ _ _ _ _).kept⟩
      · obtain ⟨m, rfl⟩ : ∃ m, k = m + 1 := ⟨k - 1, by omega⟩
        obtain ⟨⟨v1, s1⟩, e1⟩ : ∃ v, p[m / 2]? = some v := ⟨_, List.getElem?_eq_getElem (by omega)⟩
        have ca : wr.cell? ⟨g, m / 2 * 2, none⟩ = some (.int .i64 v1) := by rw [hown.cellAt _ (by omega), (fcs_at p (m / 2) (by omega)).1, (List.getElem?_eq_some_iff.1 e1).2]
        have cb : wr.cell? ⟨g, m / 2 * 2 + 1, none⟩ = some (.int .i64 s1) := by rw [hown.cellAt _ (by omega), (fcs_at p (m / 2) (by omega)).2, (List.getElem?_eq_some_iff.1 e1).2]
        have HE : Hid (p[m / 2]? = some (v1, s1)) := e1
        clear e1
        by_cases hlt : c < v1
        · go_wp2
          repeat (go_quiet (fail); go_wp2)
          exact ⟨movedP hown HS.out HP.out hpl hk HE.out hgw hgF hgX.out _, by simp [intOf]; omega⟩
        · go_wp2
          repeat (go_quiet (fail); go_wp2)
          go_end0
          exact ⟨rfl, _, p.set (m + 1) (c, s), HP.out, (HS.out.store hgw hgF hgX.out _ _ _ _ _).field, by rw [List.length_set, hpl]; exact (put2 hown (m + 1) c s _).1, HLo.out.imp id (fun h => ⟨_, h, by simp; omega⟩), (HS.out.store hgw hgF hgX.out _ _ _ _ _).kept⟩
end Go.Proofs.YtfjocafepigijaaDoor.Ps
/- The program's settle: it goes along silent arcs until none betters anything. Conditions: the field lies apart from the row; few states. -/
namespace Go.Proofs.YtfjocafepigijaaDoor.Se
open Go.RowKit Mv Qp Sk Po Ps Wd
open CR (nc)

/-- a list of arcs that is only read, in a block of the field's own -/
def Lies (w : World) (F K0 : Nat) (v : Value) (L : List Arc) : Prop := ∃ a cap, v = .slice a L.length cap ∧ (L.length = 0 ∨ ∃ b, a = some ⟨b, 0, none⟩ ∧ b < K0 ∧ b ≠ F ∧ ∀ j u, (acs L)[j]? = some u → w.cell? ⟨b, j, none⟩ = some u)
/-- the silent arcs, state by state -/
structure Sil (w : World) (F K0 sb S : Nat) (A : List Arc) : Prop where
  lt : sb < K0
  ne : sb ≠ F
  size : K0 ≤ w.heap.size
  row : ∀ f, f < S → ∃ v, w.cell? ⟨sb, f, none⟩ = some v ∧ Lies w F K0 v (sil A f)
theorem Lies.kept {w w' : World} {F K0 : Nat} {v : Value} {L : List Arc} {X : Nat → Prop} (h : Lies w F K0 v L) (hk : Kp X w w') (hX : ∀ k, k < K0 → k ≠ F → ¬ X k) (hs : K0 ≤ w.heap.size) : Lies w' F K0 v L := by
  obtain ⟨a, cap, hv, h⟩ := h
  refine ⟨a, cap, hv, ?_⟩
  rcases h with h | ⟨b, ha, hb, hne, hc⟩
  · exact .inl h
  · exact .inr ⟨b, ha, hb, hne, fun j u hu => (hk.cell (by omega) (hX b hb hne)).trans (hc j u hu)⟩
theorem Sil.kept {w w' : World} {F K0 sb S : Nat} {A : List Arc} {X : Nat → Prop} (h : Sil w F K0 sb S A) (hk : Kp X w w') (hX : ∀ k, k < K0 → k ≠ F → ¬ X k) : Sil w' F K0 sb S A := by
  refine ⟨h.lt, h.ne, Nat.le_trans h.size hk.size, fun f hf => ?_⟩
  obtain ⟨v, hv, hl⟩ := h.row f hf
  exact ⟨v, (hk.cell (Nat.lt_of_lt_of_le h.lt h.size) (hX sb h.lt h.ne)).trans hv, hl.kept hk hX h.size⟩
theorem nc_at {R : List Nat} {s : Nat} (h : s < R.length) : (nc R)[s]? = some (.int .i64 (cv R s : Nat)) := by
  unfold nc cv
  simp [h]
theorem nc_set (R : List Nat) (q v : Nat) : (nc R).set q (.int .i64 (v : Nat)) = nc (R.set q v) := by
  unfold nc
  rw [List.map_set]
theorem far_int : ((far : Nat) : Int) = 9223372036854775807 := by unfold far; omega
theorem not_far {p : Nat} (h : p < far) : ((p : Int) != 9223372036854775807) = true := by
  unfold far at h
  have : ¬ (p : Int) = 9223372036854775807 := by omega
  simpa using this
theorem not_far2 {p : Nat} (h : p < far) : ((p : Int) == 9223372036854775807) = false := by
  unfold far at h
  have : ¬ (p : Int) = 9223372036854775807 := by omega
  simpa using this
theorem not_far3 {p : Nat} (h : p < far) : ¬ (p : Int) = 9223372036854775807 := by
  unfold far at h
  omega
/-- what stands in memory while a row is settled -/
structure Mem (w wr : World) (F K0 C S capC : Nat) (a0 a1 a2 v0 v : Value) (R : List Nat) (es : List (Int × Int)) : Prop where
  field : IsF wr F a0 a1 a2 v
  queue : wr.ownsRow K0 192 2 v es.length (fcs es)
  row : wr.ownsRow K0 3 1 (.slice (some ⟨C, 0, none⟩) S capC) S (nc R)
  ne : v.ownBlock ≠ some C
  loc : v.ownBlock = v0.ownBlock ∨ ∃ g, v.ownBlock = some g ∧ w.heap.size ≤ g
  kept : Kp (fun k => k = F ∨ k = C ∨ v0.ownBlock = some k) w wr
theorem Mem.push {w wr w' : World} {F K0 C S capC : Nat} {a0 a1 a2 v0 v v' : Value} {R : List Nat} {es es' : List (Int × Int)} (h : Mem w wr F K0 C S capC a0 a1 a2 v0 v R es) (hCF : C ≠ F) (hCw : C < w.heap.size)
    (h1 : IsF w' F a0 a1 a2 v') (h2 : w'.ownsRow K0 192 2 v' es'.length (fcs es')) (h3 : v'.ownBlock = v.ownBlock ∨ ∃ g, v'.ownBlock = some g ∧ wr.heap.size ≤ g) (h4 : Kp (fun k => k = F ∨ v.ownBlock = some k) wr w') : Mem w w' F K0 C S capC a0 a1 a2 v0 v' R es' := by
  have hCr : C < wr.heap.size := Nat.lt_of_lt_of_le hCw h.kept.size
  refine ⟨h1, h2, ?_, ?_, ?_, ?_⟩
  · have hb := h4.block C hCr (fun hx => by rcases hx with hx | hx; exact hCF hx; exact h.ne hx)
    refine ⟨h.row.1, ?_⟩
    rcases h.row.2 with hn | ⟨g, cap, cur, hv, hbg, hg, rest⟩
    · exact .inl hn
    · refine .inr ⟨g, cap, cur, hv, hbg, ?_, rest⟩
      simp only [Value.slice.injEq, Option.some.injEq, Addr.mk.injEq, and_true, true_and] at hv
      rw [← hv.1] at hg ⊢
      exact hb.trans hg
  · rcases h3 with h3 | ⟨g, h3, hg⟩
    · rw [h3]; exact h.ne
    · rw [h3]; intro e; cases e; omega
  · rcases h3 with h3 | ⟨g, h3, hg⟩
    · rw [h3]; exact h.loc
    · exact .inr ⟨g, h3, Nat.le_trans h.kept.size hg⟩
  · have hX : Kp (fun k => k = F ∨ k = C ∨ v0.ownBlock = some k ∨ w.heap.size ≤ k) wr w' := h4.mono (fun k _ hx => by
      rcases hx with hx | hx
      · exact .inl hx
      · rcases h.loc with hl | ⟨g, hl, hg⟩
        · exact .inr (.inr (.inl (hl ▸ hx)))
        · rw [hl] at hx; cases hx; exact .inr (.inr (.inr hg)))
    refine ⟨hX.os.trans h.kept.os, hX.tape.trans h.kept.tape, hX.output.trans h.kept.output, Nat.le_trans h.kept.size hX.size, fun k hk hx => ?_⟩
    refine (hX.block k (Nat.lt_of_lt_of_le hk h.kept.size) (fun hy => ?_)).trans (h.kept.block k hk hx)
    rcases hy with hy | hy | hy | hy
    · exact hx (.inl hy)
    · exact hx (.inr (.inl hy))
    · exact hx (.inr (.inr hy))
    · omega
theorem Mem.alloc {w wr : World} {F K0 C S capC : Nat} {a0 a1 a2 v0 v : Value} {R : List Nat} {es : List (Int × Int)} (h : Mem w wr F K0 C S capC a0 a1 a2 v0 v R es) (o : Obj) : Mem w (wr.alloc o) F K0 C S capC a0 a1 a2 v0 v R es :=
  ⟨h.field.kept ((Kp.refl (fun _ => False) wr).alloc o) (fun h => h), h.queue.alloc o, h.row.alloc o, h.ne, h.loc, h.kept.alloc o⟩
theorem Mem.drewN {w wr : World} {F K0 C S capC : Nat} {a0 a1 a2 v0 v : Value} {R : List Nat} {es : List (Int × Int)} (h : Mem w wr F K0 C S capC a0 a1 a2 v0 v R es) (d : Nat) : Mem w (wr.drewN d) F K0 C S capC a0 a1 a2 v0 v R es :=
  ⟨h.field, h.queue, h.row, h.ne, h.loc, h.kept.drewN d⟩
theorem Mem.cell {w wr : World} {F K0 C S capC : Nat} {a0 a1 a2 v0 v : Value} {R : List Nat} {es : List (Int × Int)} (h : Mem w wr F K0 C S capC a0 a1 a2 v0 v R es) (hl : R.length = S) {s : Nat} (hs : s < S) : wr.cell? ⟨C, s, none⟩ = some (.int .i64 (cv R s : Nat)) := by
  rw [h.row.cellAt s (by omega)]
  exact nc_at (by omega)

theorem Mem.store {w wr : World} {F K0 C S capC : Nat} {a0 a1 a2 v0 v : Value} {R : List Nat} {es : List (Int × Int)} (h : Mem w wr F K0 C S capC a0 a1 a2 v0 v R es) (hCF : C ≠ F) (t c : Nat) : Mem w (wr.setCell ⟨C, t, none⟩ (.int .i64 (c : Nat))) F K0 C S capC a0 a1 a2 v0 v (R.set t c) es := by
  have hs := h.row.stored t (.int .i64 (c : Nat))
  rw [nc_set] at hs
  refine ⟨?_, h.queue.kept hs.2 (.inr h.ne), hs.1, h.ne, h.loc, h.kept.setCell _ _ _ (fun _ => .inr (.inl rfl))⟩
  show (wr.setCell ⟨C, t, none⟩ (.int .i64 (c : Nat))).heap[F]? = _
  rw [Below.heap_setCell _ _ _ _ (fun e => hCF e.symm)]
  exact h.field
theorem own_slice {w : World} {base e size n : Nat} {v : Value} {xs : List Value} (h : w.ownsRow base e size v n xs) : ∃ a cap, v = .slice a n cap := by
  rcases h.2 with ⟨rfl, rfl⟩ | ⟨g, cap, cur, hv, _⟩
  · exact ⟨none, 0, rfl⟩
  · exact ⟨_, _, hv⟩
theorem qlen {A : List Arc} {S : Nat} {P : Nat → Nat → Prop} {bd : Nat} {H R : List Nat} {es : List (Int × Int)} (h : Dij A S P bd H R es) (hr : Wd.Row S P bd H) (hS : S ≤ 40) (hb : bd ≤ 10000000000) : es.length < 1000000000000 := by
  have h1 := h.qb
  have h2 := pot_le hr
  have h3 : S * (bd + 1000000 * S + 1) ≤ 40 * 10040000001 := Nat.mul_le_mul hS (by omega)
  omega

theorem boxed2 {wr w' : World} {b C t F : Nat} {o2 o : Obj} {u : Value} {v : Value} (h : wr.heap[b]? = some o2) (hC : C ≠ b) (hF : F ≠ b) (hv : v.ownBlock ≠ some b) (hk : Kp (fun k => k = F ∨ v.ownBlock = some k) ((wr.setCell ⟨C, t, none⟩ u).alloc o).drew w') : w'.heap[b]? = some o2 := by
  have hb := (Array.getElem?_eq_some_iff.1 h).1
  rw [hk.block b (by simp; omega) (fun hx => by rcases hx with hx | hx; exact hF hx.symm; exact hv hx)]
  show ((wr.setCell ⟨C, t, none⟩ u).alloc o).heap[b]? = _
  rw [heap_alloc_old _ _ (by simp; omega), Below.heap_setCell _ _ _ _ (fun e => hC e.symm)]
  exact h
theorem locN {wr : World} {b C t : Nat} {o2 o : Obj} {u v v' : Value} (h3 : v'.ownBlock = v.ownBlock ∨ ∃ g, v'.ownBlock = some g ∧ ((wr.setCell ⟨C, t, none⟩ u).alloc o).drew.heap.size ≤ g) (hv : v.ownBlock ≠ some b) (h : wr.heap[b]? = some o2) : v'.ownBlock ≠ some b := by
  have hb := (Array.getElem?_eq_some_iff.1 h).1
  rcases h3 with h3 | ⟨g, h3, hg⟩
  · rw [h3]; exact hv
  · rw [h3]
    intro e
    cases e
    simp at hg
    omega
theorem boxed {wr : World} {b : Nat} {o2 o : Obj} (h : wr.heap[b]? = some o2) : (wr.alloc o).heap[b]? = some o2 := by
  rw [heap_alloc_old _ _ (Array.getElem?_eq_some_iff.1 h).1]
  exact h
theorem qlen2 {S : Nat} {P : Nat → Nat → Prop} {bd : Nat} {H R : List Nat} {es : List (Int × Int)} (h1 : es.length + pot (bd + 1000000 * S + 1) R ≤ S + pot (bd + 1000000 * S + 1) H) (hr : Wd.Row S P bd H) (hS : S ≤ 40) (hb : bd ≤ 10000000000) : es.length < 1000000000000 := by
  have h2 := pot_le hr
  have h3 : S * (bd + 1000000 * S + 1) ≤ 40 * 10040000001 := Nat.mul_le_mul hS (by omega)
  omega
theorem plus {A : List Arc} {S : Nat} {P : Nat → Nat → Prop} {bd : Nat} {H : List Nat} {f c M : Nat} {R : List Nat} {es : List (Int × Int)} {y W : Nat} (h : Inn A S P bd H f c M R es y) (hc : c < far) (hS : S ≤ 40) (hb : bd ≤ 10000000000) (hW : W ≤ 1000000) : ∃ m : Nat, m = c + W ∧ wrap64 ((c : Int) + (W : Int)) = (m : Int) ∧ IntKind.i64.wrap ((c : Int) + (W : Int)) = (m : Int) := by
  have h1 := h.row.small f (by rw [h.here]; exact hc)
  rw [h.here] at h1
  have h2 := fin_le R
  rw [h.row.len] at h2
  have h3 : 1000000 * fin R ≤ 1000000 * 40 := Nat.mul_le_mul_left _ (Nat.le_trans h2 hS)
  refine ⟨c + W, rfl, ?_, ?_⟩
  · unfold wrap64; omega
  · rw [IntKind.wrap_i64]; omega

set_option maxHeartbeats 4000000 in
set_option maxRecDepth 100000 in
theorem settle_any (F K0 sb S C capC capS : Nat) (A : List Arc) (P : Nat → Nat → Prop) (bd : Nat) (H : List Nat) (a0 a1 v0 : Value) (w : World) (hM : Mem w w F K0 C S capC a0 a1 (.slice (some ⟨sb, 0, none⟩) S capS) v0 v0 H []) (hSil : Sil w F K0 sb S A) (hF : F < K0) (hr : Wd.Row S P bd H) (hS : S ≤ 40) (hbd : bd ≤ 10000000000) (hAl : A.length ≤ 120)
    (hA : ∀ a ∈ A, arcB (S : Int) a = true) (hP : ∀ a ∈ A, ∀ f t c W : Nat, a.2.2.1 = 0 → a.2.2.2.1 = 0 → a.1 = (f : Int) → a.2.1 = (t : Int) → a.2.2.2.2 = (W : Int) → P f c → P t (c + W)) :
    Calls Tryd.prog 89 #[.pointer (some ⟨F, 0, none⟩), .slice (some ⟨C, 0, none⟩) S capC] w fun e w' => e = .returned (.tuple #[]) ∧ ∃ R v, Settled A S P bd H R ∧ Mem w w' F K0 C S capC a0 a1 (.slice (some ⟨sb, 0, none⟩) S capS) v0 v R [] := by
  have hCw : C < w.heap.size := (hM.row.lt C rfl).2
  have hCK : K0 ≤ C := (hM.row.lt C rfl).1
  have hCF : C ≠ F := by omega
  have hXK : ∀ k, k < K0 → k ≠ F → ¬ (k = F ∨ k = C ∨ v0.ownBlock = some k) := fun k hk hne hx => by
    rcases hx with hx | hx | hx
    · exact hne hx
    · omega
    · have := (hM.queue.lt k hx).1; omega
  have HMM : Hid _ := hM
  have HSil : Hid _ := hSil
  have HXK : Hid _ := hXK
  have HrR : Hid _ := hr
  have HA : Hid _ := hA
  have HPc : Hid _ := hP
  have HK0 : Hid (K0 ≤ w.heap.size) := hSil.size
  have HBD : Hid (bd ≤ 10000000000) := hbd
  have HSS : Hid (S ≤ 40) := hS
  have HAl : Hid (A.length ≤ 120) := hAl
  clear hM hSil hXK hr hA hP hbd hS hAl
  go_enter Tryd.func89, Tryd.ntmps89
  go_wp2
  go_loopw [12] (fun a wr => ∃ (k : Nat) (es : List (Int × Int)) (v : Value), a = .int .i64 k ∧ k ≤ S ∧ Mem w wr F K0 C S capC a0 a1 (.slice (some ⟨sb, 0, none⟩) S capS) v0 v H es ∧ Ph A S H k es) (fun a _ => S - (intOf a).toNat)
  case atStart => exact ⟨0, [], v0, rfl, Nat.zero_le _, HMM.out, Ph.start _ _ _⟩
  case round =>
    obtain ⟨k, es, v, rfl, hk, hm, hph⟩ := hrel
    have hSS := HSS.out
    by_cases hlt : k < S
    · have ck := hm.cell HrR.out.len hlt
      obtain ⟨x, hx⟩ : ∃ x, cv H k = x := ⟨_, rfl⟩
      rw [hx] at ck
      have HX : Hid (cv H k = x) := hx
      have HM : Hid _ := hm
      have HPh : Hid _ := hph
      have q2 : wr.cell? ⟨F, 2, none⟩ = some (.slice (some ⟨sb, 0, none⟩) S capS) := hm.field.cell 2
      clear hx hph
      by_cases hxf : x < far
      · have d1 := not_far hxf
        have d3 := not_far3 hxf
        have HXF : Hid (x < far) := hxf
        clear hxf
        obtain ⟨vf, hvf, af, capf, rfl, _⟩ := (HSil.out.kept hm.kept HXK.out).row k hlt
        by_cases h0 : (sil A k).length = 0
        · have h00 : ¬ ((0 : Int) < ((sil A k).length : Int)) := by omega
          have HL0 : Hid (sil A k = []) := List.eq_nil_of_length_eq_zero h0
          have h0b : ¬ (0 < (sil A k).length) := by omega
          clear h0 hm
          go_wp2
          repeat (go_quiet (fail); go_wp2)
          go_roundw
          case rel => exact ⟨k + 1, es, v, by go_num, by omega, by first | exact HM.out | exact HM.out.drewN _, HPh.out.skip (.inr HL0.out)⟩
          case measure => simp [intOf]; omega
        · have h00 : (0 : Int) < ((sil A k).length : Int) := by omega
          have h0b : 0 < (sil A k).length := by omega
          have hlen : es.length ≤ 40 := Nat.le_trans HPh.out.len (Nat.le_trans hk hSS)
          clear hm h0
          go_wp2_with (go_at_call 99; refine (push_any F K0 a0 a1 (.slice (some ⟨sb, 0, none⟩) S capS) v es x k _ HM.out.field HM.out.queue hF (Nat.le_trans HK0.out HM.out.kept.size) (by omega)).mono ?_; rintro e w' ⟨rfl, v', es', hp, h1, h2, h3, h4⟩)
          go_roundw
          case rel => exact ⟨k + 1, es', v', by go_num, by omega, HM.out.push hCF hCw h1 h2 h3 h4, HPh.out.push hlt (by rw [HX.out]; exact HXF.out) (by rw [HX.out]; exact hp)⟩
          case measure => simp [intOf]; omega
      · have e1 : x = far := by have := HrR.out.top k; rw [HX.out] at this; omega
        have ck2 : wr.cell? ⟨C, k, none⟩ = some (.int .i64 9223372036854775807) := by rw [ck, e1, far_int]
        have HXF : Hid (¬ x < far) := hxf
        clear ck e1 hxf hm
        go_wp2
        repeat (go_quiet (fail); go_wp2)
        go_roundw
        case rel => exact ⟨k + 1, es, v, by go_num, by omega, by first | exact HM.out | exact HM.out.drewN _, HPh.out.skip (.inl (by rw [HX.out]; exact HXF.out))⟩
        case measure => simp [intOf]; omega
    · obtain rfl : k = S := by omega
      have HD : Hid (Dij A k P bd H H es) := hph.fin HrR.out
      have HM : Hid _ := hm
      clear hph hm
      go_wp2
      go_loopg [38] (2 * pot (bd + 1000000 * k + 1) H + es.length) (fun gk a wr => ∃ (R : List Nat) (es : List (Int × Int)) (v : Value), True ∧ Mem w wr F K0 C k capC a0 a1 (.slice (some ⟨sb, 0, none⟩) k capS) v0 v R es ∧ Dij A k P bd H R es ∧ gk = 2 * pot (bd + 1000000 * k + 1) R + es.length)
      case atStart => exact ⟨H, es, v, trivial, HM.out, HD.out, rfl⟩
      case round =>
        clear HM HD
        obtain ⟨R, es, v, _, hm, hd, hgk⟩ := hrel
        have HM : Hid _ := hm
        have HD : Hid _ := hd
        have HG : Hid _ := hgk
        have HQ : Hid (es.length < 1000000000000) := qlen hd HrR.out HSS.out HBD.out
        have hvs : ∃ av cv, v = .slice av es.length cv := own_slice hm.queue
        obtain ⟨av, cv', rfl⟩ := hvs
        have q3 : wr.cell? ⟨F, 3, none⟩ = some (.slice av es.length cv') := hm.field.cell 3
        have q2 : wr.cell? ⟨F, 2, none⟩ = some (.slice (some ⟨sb, 0, none⟩) k capS) := hm.field.cell 2
        by_cases hne : 0 < es.length
        · have hne2 : (0 : Int) < (es.length : Int) := by omega
          obtain ⟨g, cq, hv, hg1, hg2⟩ := own_some hm.queue hne
          cases hv
          clear hm hd hgk
          go_wp2_with (go_at_call 100; refine (pop_one F g cv' K0 a0 a1 (.slice (some ⟨sb, 0, none⟩) k capS) es _ HM.out.field HM.out.queue hF hne (Nat.le_of_lt HQ.out)).mono ?_; rintro e w1 ⟨c, s, es', rfl, hp, h1, h2, h4⟩; have HM1 : Hid (Mem w w1 F K0 C k capC a0 a1 (.slice (some ⟨sb, 0, none⟩) k capS) v0 (.slice (some ⟨g, 0, none⟩) es'.length cv') R es') := HM.out.push hCF hCw h1 h2 (.inl rfl) (h4.mono (fun k _ hx => by rcases hx with hx | hx; exact .inl hx; exact .inr (by rw [hx]; rfl))); have hent := HD.out.q (c, s) (hp.mem_iff.2 List.mem_cons_self); have HPm : Hid _ := hp; clear hp h1 h2 h4 q2 q3; obtain ⟨c0, s0, he, hs0, hc0, hcv⟩ := hent; cases he; have ck : ∀ o, (w1.alloc o).cell? ⟨C, s0, none⟩ = some (.int .i64 (cv R s0 : Nat)) := fun o => (HM1.out.alloc o).cell HD.out.row.len hs0; have q2 : ∀ o, (w1.alloc o).cell? ⟨F, 2, none⟩ = some (.slice (some ⟨sb, 0, none⟩) k capS) := fun o => (HM1.out.alloc o).field.cell 2; obtain ⟨x, hx⟩ : ∃ x, cv R s0 = x := ⟨_, rfl⟩; rw [hx] at ck hcv; have HX : Hid (cv R s0 = x) := hx; have HCV : Hid (x ≤ c0) := hcv; have HC0 : Hid (c0 < far) := hc0; clear hx hcv hc0)
          by_cases hst : x < c0
          · have hs1 : (x : Int) < (c0 : Int) := Int.ofNat_lt.2 hst
            have HST : Hid (x < c0) := hst
            clear hst
            go_quiet (fail)
            go_wp2
            go_roundg (2 * pot (bd + 1000000 * k + 1) R + es'.length)
            case measure => rw [HG.out, HPm.out.length_eq]; simp
            case rel => exact ⟨R, es', _, trivial, (HM1.out.alloc _).drewN _, HD.out.stale HPm.out (by rw [HX.out]; exact HST.out), rfl⟩
          · have hs1 : ¬ (x : Int) < (c0 : Int) := fun h => hst (Int.ofNat_lt.1 h)
            have hs2 : (c0 : Int) ≤ (x : Int) := Int.not_lt.1 hs1
            have hxc : x = c0 := Nat.le_antisymm HCV.out (Nat.not_lt.1 hst)
            have HI : Hid (Inn A k P bd H s0 c0 (2 * pot (bd + 1000000 * k + 1) R + es'.length) R es' 0) := HD.out.take HPm.out (by rw [HX.out]; exact hxc)
            clear hst hxc
            obtain ⟨R0, hR0⟩ : ∃ R0, R0 = R := ⟨_, rfl⟩
            obtain ⟨es0, hes0⟩ : ∃ e0, e0 = es' := ⟨_, rfl⟩
            have HI0 : Hid (R0 = R ∧ es0 = es') := ⟨hR0, hes0⟩
            clear hR0 hes0
            obtain ⟨vf, hvf0, hLf⟩ := HSil.out.row s0 hs0
            obtain ⟨af, capf, rfl, _⟩ := id hLf
            have HLf : Hid (Lies w F K0 (.slice af (sil A s0).length capf) (sil A s0)) := hLf
            have hvf : w1.cell? ⟨sb, s0, none⟩ = some (.slice af (sil A s0).length capf) := (HM1.out.kept.cell (Nat.lt_of_lt_of_le HSil.out.lt HSil.out.size) (HXK.out sb HSil.out.lt HSil.out.ne)).trans hvf0
            clear hLf hvf0
            have hvf1 : ∀ o, (w1.alloc o).cell? ⟨sb, s0, none⟩ = some (.slice af (sil A s0).length capf) := fun o => by
              rw [World.cell?_alloc_past _ _ _ (World.block_lt_of_cell? _ _ hvf)]
              exact hvf
            go_quiet (fail)
            go_wp2
            go_quiet (fail)
            go_wp2
            have hbx0 := heap_alloc_new w1 (.cells #[.int .i64 (c0 : Int), .int .i64 (s0 : Int)] 192)
            have hwb : w.heap.size ≤ w1.heap.size := HM1.out.kept.size
            have hgb : g ≠ w1.heap.size := by have := (HM1.out.queue.lt g rfl).2; omega
            have hCb : C ≠ w1.heap.size := by omega
            have hFb : F ≠ w1.heap.size := by have := HM1.out.field.lt; omega
            go_loopw [65] (fun a wr => ∃ (y : Nat) (R : List Nat) (es : List (Int × Int)) (v : Value), a = .int .i64 y ∧ y ≤ (sil A s0).length ∧ Mem w wr F K0 C k capC a0 a1 (.slice (some ⟨sb, 0, none⟩) k capS) v0 v R es ∧ wr.heap[w1.heap.size]? = some (.cells #[.int .i64 (c0 : Int), .int .i64 (s0 : Int)] 192 (0, 0)) ∧ v.ownBlock ≠ some w1.heap.size ∧ Inn A k P bd H s0 c0 (2 * pot (bd + 1000000 * k + 1) R0 + es0.length) R es y) (fun a _ => (sil A s0).length - (intOf a).toNat)
            case atStart => exact ⟨0, R, es', .slice (some ⟨g, 0, none⟩) es'.length cv', rfl, Nat.zero_le _, by first | exact ((HM1.out.alloc _).drewN _).drewN _ | exact (HM1.out.alloc _).drewN _ | exact HM1.out.alloc _, hbx0, by simpa [Value.ownBlock] using hgb, by rw [HI0.out.1, HI0.out.2]; exact HI.out⟩
            case round =>
              clear hbx0
              have HG0 : Hid (gk = 2 * pot (bd + 1000000 * k + 1) R0 + es0.length + 1) := by
                have h1 := HG.out
                have h2 := HPm.out.length_eq
                rw [List.length_cons] at h2
                rw [HI0.out.1, HI0.out.2]
                show gk = 2 * pot (bd + 1000000 * k + 1) R + es'.length + 1
                omega
              have hsl : (sil A s0).length ≤ 120 := Nat.le_trans (List.length_filter_le _ _) HAl.out
              clear HI0 HI HM HD HG HPm HM1 ck q2 HX HCV hvf hvf1 hs1 hs2 HQ
              obtain ⟨y, R, es, v, rfl, hy, hm, hbx, hvb, hin⟩ := hrel
              have y0 : ∀ o, (wr.alloc o).cell? ⟨w1.heap.size, 0, none⟩ = some (.int .i64 (c0 : Int)) := fun o => by
                rw [World.cell?_alloc_past _ _ _ (Array.getElem?_eq_some_iff.1 hbx).1]; exact cell_of_row wr _ 0 _ 192 (0, 0) hbx
              have HM : Hid _ := hm
              have HI : Hid _ := hin
              have HBX : Hid _ := hbx
              have HQ : Hid (es.length < 1000000000000) := qlen2 hin.qb HrR.out HSS.out HBD.out
              by_cases hlt : y < (sil A s0).length
              · obtain ⟨a', cap', he, hl⟩ := HLf.out.kept hm.kept HXK.out HK0.out
                cases he
                obtain ⟨b, rfl, hbK, hbF, hcs⟩ := hl.resolve_left (by omega)
                have u := acs_at (sil A s0) y hlt
                have hma : (sil A s0)[y] ∈ A := (List.mem_filter.1 (List.getElem_mem hlt)).1
                have hfa := (List.mem_filter.1 (List.getElem_mem hlt)).2
                have hab := HA.out _ hma
                obtain ⟨fI, tI, iI, oI, xI, ea⟩ : ∃ f t i o x, (sil A s0)[y] = (f, t, i, o, x) := ⟨_, _, _, _, _, rfl⟩
                rw [ea] at u hab hma hfa
                unfold arcB at hab
                simp only [decide_eq_true_eq] at hab
                obtain ⟨g0, g1, g2, g3, g4, g5, g6, g7, g8, g9⟩ := hab
                obtain ⟨t, rfl⟩ : ∃ n : Nat, tI = (n : Int) := ⟨tI.toNat, by omega⟩
                obtain ⟨x, rfl⟩ : ∃ n : Nat, xI = (n : Int) := ⟨xI.toNat, by omega⟩
                have ht : t < k := Int.ofNat_lt.1 g3
                have hxb : x ≤ 1000000 := CR.nat_le g9
                simp only [Bool.and_eq_true, beq_iff_eq] at hfa
                obtain ⟨⟨hi0, ho0⟩, hf0⟩ := hfa
                have hPt : P t (c0 + x) := HPc.out _ hma s0 t c0 x hi0 ho0 hf0 rfl rfl (hin.here ▸ hin.row.real s0 hs0 (by rw [hin.here]; exact HC0.out))
                have p0 := hcs _ _ u.1
                have p1 := hcs _ _ u.2.1
                have p2 := hcs _ _ u.2.2.1
                have p3 := hcs _ _ u.2.2.2.1
                have p4 := hcs _ _ u.2.2.2.2
                have ct : ∀ o, (wr.alloc o).cell? ⟨C, t, none⟩ = some (.int .i64 (cv R t : Nat)) := fun o => (hm.alloc o).cell hin.row.len ht
                have ft : ∀ o, (wr.alloc o).frozen? ⟨C, t, none⟩ = false := fun o => (hm.alloc o).row.frozenAt t
                obtain ⟨z, hz⟩ : ∃ z, cv R t = z := ⟨_, rfl⟩
                have HZ : Hid (cv R t = z) := hz
                rw [hz] at ct
                obtain ⟨cw, ecw, m7, m8⟩ := plus (c := c0) (W := x) hin HC0.out HSS.out HBD.out hxb
                have HCW : Hid (cw = c0 + x) := ecw
                have HE1 : Hid (((sil A s0)[y]).2.1 = (t : Int) ∧ ((sil A s0)[y]).2.2.2.2 = (x : Int)) := by rw [ea]; exact ⟨rfl, rfl⟩
                have HPt : Hid (P t (c0 + x)) := hPt
                have hvb1 : Hid (v.ownBlock ≠ some w1.heap.size) := hvb
                clear hz ecw ea u hcs hma hPt hin g0 g1 g2 g3 g4 g5 g6 g7 g8 g9 hi0 ho0 hf0 hbx hvb
                by_cases hbet : cw < z
                · have nb : (cw : Int) < (z : Int) := Int.ofNat_lt.2 hbet
                  have HB : Hid (c0 + x < cv R t) := by rw [HZ.out, ← HCW.out]; exact hbet
                  clear hbet hm
                  have hCr : C < wr.heap.size := Nat.lt_of_lt_of_le hCw HM.out.kept.size
                  have hCn : ¬ wr.heap.size = C := by omega
                  have hCm : ¬ C = wr.heap.size := by omega
                  have ya : ∀ z, ((wr.alloc (.cells #[.int .i64 fI, .int .i64 (t : Int), .int .i64 iI, .int .i64 oI, .int .i64 (x : Int)] 64)).setCell ⟨C, t, none⟩ z).cell? ⟨wr.heap.size, 1, none⟩ = some (.int .i64 (t : Int)) := fun z => by
                    rw [World.cell?_of_block (w := wr.alloc (.cells #[.int .i64 fI, .int .i64 (t : Int), .int .i64 iI, .int .i64 oI, .int .i64 (x : Int)] 64)) (Below.heap_setCell _ _ _ _ hCn)]
                    exact cell_of_row _ _ 1 _ 64 (0, 0) (heap_alloc_new _ _)
                  go_wp2
                  go_region_with (go_at_call 99; (refine (push_any F K0 a0 a1 (.slice (some ⟨sb, 0, none⟩) k capS) v es cw t _ (by first | exact ((HM.out.store hCF t cw).alloc _).field | exact (((HM.out.store hCF t cw).alloc _).drewN _).field) (by first | exact ((HM.out.store hCF t cw).alloc _).queue | exact (((HM.out.store hCF t cw).alloc _).drewN _).queue) hF (Nat.le_trans HK0.out (by first | exact ((HM.out.store hCF t cw).alloc _).kept.size | exact (((HM.out.store hCF t cw).alloc _).drewN _).kept.size)) HQ.out).mono ?_; rintro e w' ⟨rfl, v', es1, hp, h1, h2, h3, h4⟩; have HN : Hid (Mem w w' F K0 C k capC a0 a1 (.slice (some ⟨sb, 0, none⟩) k capS) v0 v' (R.set t cw) es1 ∧ w'.heap[w1.heap.size]? = some (.cells #[.int .i64 (c0 : Int), .int .i64 (s0 : Int)] 192 (0, 0)) ∧ v'.ownBlock ≠ some w1.heap.size ∧ es1.Perm (((cw : Int), (t : Int)) :: es)) := ⟨(((HM.out.store hCF t cw).alloc _).drewN _).push hCF hCw h1 h2 h3 h4, boxed2 HBX.out hCb hFb hvb1.out h4, locN h3 hvb1.out HBX.out, hp⟩; clear hp h1 h2 h3 h4))
                  all_goals go_wp2
                  all_goals exact ⟨⟨y + 1, R.set t cw, es1, v', by go_num, by omega, HN.out.1, HN.out.2.1, HN.out.2.2.1, by rw [HCW.out]; exact HI.out.took hlt HE1.out.1 HE1.out.2 ht hxb HC0.out HPt.out HB.out (by rw [← HCW.out]; exact HN.out.2.2.2)⟩, by simp [intOf]; omega⟩
                · have nb : ¬ (cw : Int) < (z : Int) := fun h => hbet (Int.ofNat_lt.1 h)
                  have nb2 : (z : Int) ≤ (cw : Int) := Int.not_lt.1 nb
                  have HB : Hid (¬ c0 + x < cv R t) := by rw [HZ.out, ← HCW.out]; exact hbet
                  clear hbet hm
                  go_wp2
                  exact ⟨⟨y + 1, R, es, v, by go_num, by omega, HM.out.alloc _, boxed HBX.out, hvb1.out, HI.out.skip hlt HE1.out.1 HE1.out.2 HB.out⟩, by simp [intOf]; omega⟩
              · have eY : y = (sil A s0).length := by omega
                have HI2 : Hid (Inn A k P bd H s0 c0 (2 * pot (bd + 1000000 * k + 1) R0 + es0.length) R es (sil A s0).length) := eY ▸ hin
                clear eY hin hm
                go_wp2
                go_roundg (2 * pot (bd + 1000000 * k + 1) R + es.length)
                case measure => rw [HG0.out]; have := HI2.out.ms; omega
                case rel => exact ⟨R, es, v, trivial, HM.out, HI2.out.fin, rfl⟩
        · have hne2 : ¬ (0 : Int) < (es.length : Int) := by omega
          have HE : Hid (es = []) := List.eq_nil_of_length_eq_zero (by omega)
          clear hm hd hgk
          go_wp2
          go_end0
          have e1 := HE.out
          subst e1
          exact ⟨rfl, R, HD.out.fin, _, HM.out⟩
end Go.Proofs.YtfjocafepigijaaDoor.Se
