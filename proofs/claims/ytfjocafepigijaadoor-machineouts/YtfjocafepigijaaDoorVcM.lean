/- told (14): append of a text as it lies (nil or not) onto a row of the call's own, at a step of a region that draws. Conditions: the bounds of the law that it leans on. -/
import Derived.Test.YtfjocafepigijaaDoorVdM
import Derived.Laws.AppendOwnNone
import Derived.Test.YtfjocafepigijaaDoorVeM
namespace Go.Proofs.YtfjocafepigijaaDoor.Ot
open Go.RowKit Mv Sy Po Ps Cm Pa Am Wd St Ra Set

theorem run_tx (w : World) (base : Nat) (v : Value) (n : Nat) (xs : List Value) (hown : w.ownsRow base 3 1 v n xs) (y : Value) (t : List Int) (hx : Tx w y t) (h63 : n + t.length ≤ 100000) (hbase : base ≤ w.heap.size) :
    ∃ v' w', (Builtin.append_ #[26, 26] 26 #[v, y]).run Tryd.prog w = .ok v' w' ∧ w'.ownsRow base 3 1 v' (n + t.length) (xs ++ ints t) ∧ w.grownBy w' v.ownBlock ∧ (v'.ownBlock = v.ownBlock ∨ v'.ownBlock = some w.heap.size) := by
  obtain ⟨i3, hi3, hz0, hz1, hz2⟩ := info_parts inf3
  obtain ⟨a, c, rfl, h⟩ := hx
  rcases h with ⟨rfl, e⟩ | ⟨b, off, cs, rfl, hb, hc⟩
  · rw [e]
    exact ⟨v, w, run_append_owned_none (P := Tryd.prog) w base 26 26 3 i3 1 Tryd.underlying26 hi3 v n xs hown, by simpa [ints] using hown, ⟨rfl, rfl, rfl, Nat.le_refl _, fun _ _ _ => rfl⟩, .inl rfl⟩
  · obtain ⟨v', w', hr, h2, h3, h4, h5⟩ := run_append_own_at (P := Tryd.prog) w base 26 26 3 i3 (.int .i64 0) 1 8 Tryd.underlying26 hi3 hz0 hz1 hz2 rfl (by decide) v n xs hown ⟨b, off, none⟩ t.length c (ints t) (by simp [ints]) (fun j u hu => by
      have hadd : (⟨b, off, none⟩ : Addr).add j = ⟨b, off + j, none⟩ := by unfold Addr.add; split <;> simp_all
      rw [hadd]
      exact hc j u hu) (ints_all t) (by unfold maxLen; omega) (by omega) hbase
    exact ⟨v', w', hr, h2, h3, h5⟩
theorem step_tx {ops : Array Oper} {o : Oper} {a : Act} {w : World} {K : Act → World → Prop} {Q : Exit → Act → World → Prop} {E : Prop}
    (hgd : o.guard = none) (s x : Operand) (ho : o.op = .call { callee := .builtin .append, args := #[s, x], argTypes := #[26, 26] }) (ht : o.type = 26)
    (base : Nat) (v : Value) (n : Nat) (xs : List Value) (hs : a.eval s = v) (hown : w.ownsRow base 3 1 v n xs)
    (y : Value) (t : List Int) (hx : a.eval x = y) (htx : Tx w y t) (h63 : n + t.length ≤ 100000) (hbase : base ≤ w.heap.size)
    (h : ∀ v' w', w'.ownsRow base 3 1 v' (n + t.length) (xs ++ ints t) → w.grownBy w' v.ownBlock → (v'.ownBlock = v.ownBlock ∨ v'.ownBlock = some w.heap.size) → K (a.put o.dst v') w') :
    if Region.wanted o (yielded ops a.tmps) = true then Oper.wp Tryd.prog o a w K Q else E := by
  have hw : Region.wanted o (yielded ops a.tmps) = true := by simp [Region.wanted, hgd]
  rw [if_pos hw]
  obtain ⟨v', w', hr, h2, h3, h5⟩ := run_tx w base v n xs hown y t htx h63 hbase
  unfold Oper.wp execOp
  simp only [ho, ht, resolve, invoke, builtin, Sem.run_bind, Sem.run_pure, Result.andThen_ok, List.map_toArray, List.map_cons, List.map_nil, hs, hx, hr]
  exact h v' w' h2 h3 h5
end Go.Proofs.YtfjocafepigijaaDoor.Ot
/- told (14) walked. Conditions: the machine is small and right. -/
namespace Go.Proofs.YtfjocafepigijaaDoor.Ot
open Go.RowKit Mv Sy Po Ps Cm Pa Am Wd St Ra Set

theorem usd_len (A : List Arc) : (usd A).length ≤ A.length := usd_ind (fun A l => l.length ≤ A.length) (Nat.le_refl _) (fun A a l h => by
  unfold addU
  rw [List.length_append, List.length_singleton]
  split
  · rw [List.length_append, List.length_singleton]; omega
  · omega) A
/-- 1 + n + .. + n to the i -/
def gs (n : Nat) : Nat → Nat
  | 0 => 1
  | i + 1 => gs n i * n + 1
theorem gs_mono (n : Nat) : ∀ i, gs n i ≤ gs n (i + 1) := by
  intro i
  induction i with
  | zero => show 1 ≤ 1 * n + 1; omega
  | succ i ih => show gs n i * n + 1 ≤ gs n (i + 1) * n + 1; have := Nat.mul_le_mul_right n ih; omega
theorem lv_gs (s : List Int) : ∀ k, (lv s k).length ≤ gs s.length k
  | 0 => by simp [lv, gs]
  | k + 1 => by rw [lv_len]; show _ ≤ gs s.length k * s.length + 1; have := Nat.mul_le_mul_right s.length (lv_gs s k); omega
theorem gs_le (n : Nat) {i j : Nat} (h : i ≤ j) : gs n i ≤ gs n j := by
  induction h with
  | refl => exact Nat.le_refl _
  | step _ ih => exact Nat.le_trans ih (gs_mono n _)
theorem sym_new {w V2 w5 : World} {bx fb nu : Nat} {mb : Array Value} {vs v5 : Value} {fl' : List Bool} {u : List Int} {c : Int} (h : fl'.length = 61 ∧ (∀ d : Nat, d < 61 → fl'[d]? = some (decide ((d : Int) ∈ u ++ [c]))) ∧ V2.heap[bx]? = some (.cells mb 25 (0, 0)) ∧ V2.ownsRow w.heap.size 4 1 (.slice (some ⟨fb, 0, none⟩) 61 61) 61 (fl'.map Value.bool) ∧ V2.ownsRow w.heap.size 3 1 vs nu (ints u) ∧ Below w.heap.size w V2) (hn : u.length = nu) (o : Obj) (ho : w5.ownsRow w.heap.size 3 1 v5 (nu + 1) (ints u ++ [.int .i64 c])) (hg : (V2.alloc o).grownBy w5 vs.ownBlock) : Fl w w5 bx fb mb v5 fl' (u ++ [c]) := by
  obtain ⟨h1, h2, h3, h4, h5, h6⟩ := h
  subst hn
  exact Fl.sym h1 h2 ((heap_alloc_old _ _ (lt_at h3)).trans h3) (h4.alloc o) (h5.alloc o) (h6.alloc h6.size o) ho hg
theorem take_more {U t : List Int} {y : Nat} {c1 : Int} (h : U[y]? = some c1) : (U.take (y + 1)).map (fun c => t ++ [c]) = (U.take y).map (fun c => t ++ [c]) ++ [t ++ [c1]] := by
  obtain ⟨h1, h2⟩ := List.getElem?_eq_some_iff.1 h
  rw [List.take_succ_eq_append_getElem h1, h2, List.map_append]
  rfl
theorem own_ne {g h n c : Nat} (e : g ≠ h) : (Value.slice (some ⟨g, 0, none⟩) n c).ownBlock ≠ some h := fun k => e (by have k2 : some g = some h := k; simpa using k2)
theorem al1 (W : World) (o : Obj) : Below W.heap.size W (W.alloc o).drew := below_drewN (below_al W o) 1
theorem al2 (W : World) (o p : Obj) : Below W.heap.size W ((W.alloc o).alloc p).drew := below_drewN ((below_al W o).alloc (below_al W o).size _) 1
theorem tA (W : World) : (W.alloc (.cells #[] 3)).drew.ownsRow W.heap.size 3 1 (.slice (some ⟨W.heap.size, 0, none⟩) 0 0) 0 [] := (World.ownsRow_made W #[] 0 (Nat.le_refl _) (by decide) rfl).drew
theorem tAC (W : World) (o : Obj) : ((W.alloc (.cells #[] 3)).alloc o).drew.ownsRow W.heap.size 3 1 (.slice (some ⟨W.heap.size, 0, none⟩) 0 0) 0 [] := ((World.ownsRow_made W #[] 0 (Nat.le_refl _) (by decide) rfl).alloc o).drew
theorem tCA (W : World) (o : Obj) : ((W.alloc o).alloc (.cells #[] 3)).drew.ownsRow W.heap.size 3 1 (.slice (some ⟨W.heap.size + 1, 0, none⟩) 0 0) 0 [] := by
  have h := (World.ownsRow_made (W.alloc o) #[] 0 (base := W.heap.size) (e := 3) (size := 1) (by simp) (by decide) rfl).drew
  have e : (W.alloc o).heap.size = W.heap.size + 1 := by simp
  rw [e] at h
  exact h
theorem tB {V W w5 : World} {v v5 : Value} {t : List Int} (hb : Below V.heap.size V W) (hv : W.ownsRow V.heap.size 3 1 v 0 []) (ho : w5.ownsRow V.heap.size 3 1 v5 (0 + t.length) ([] ++ ints t)) (hg : W.grownBy w5 v.ownBlock) : (∃ (a : Option Addr) (c : Nat), v5 = .slice a t.length c) ∧ w5.ownsRow V.heap.size 3 1 v5 t.length (ints t) ∧ Below V.heap.size V w5 := by
  rw [Nat.zero_add, List.nil_append] at ho
  exact ⟨oslice ho, ho, hb.grown hg hb.size (fun b hb1 => (hv.lt _ hb1).1)⟩
theorem tC {W w5 : World} {g : Nat} {v u0 : Value} (hc : W.cell? ⟨g, 0, none⟩ = some u0) (hg : W.grownBy w5 v.ownBlock) (hne : v.ownBlock ≠ some g) : ∀ j u, [u0][j]? = some u → w5.cell? ((⟨g, 0, none⟩ : Addr).add j) = some u := fun j u hu => by
  have hj : j = 0 := by have := (List.getElem?_eq_some_iff.1 hu).1; simpa using this
  subst hj
  have e : u0 = u := by simpa using hu
  subst e
  rw [show (⟨g, 0, none⟩ : Addr).add 0 = ⟨g, 0, none⟩ by simp [Addr.add]]
  exact hg.cell hc (fun h => hne h.symm)
theorem cAC (W : World) (o : Obj) (u : Value) (ty : TypeId) : ((W.alloc o).alloc (.cells #[u] ty)).drew.cell? ⟨W.heap.size + 1, 0, none⟩ = some u := by
  have e : (W.alloc o).heap.size = W.heap.size + 1 := by simp
  have h := cell_of_row _ _ 0 _ _ _ (heap_alloc_new (W.alloc o) (.cells #[u] ty))
  rw [e] at h
  exact h
theorem cCA (W : World) (o : Obj) (u : Value) (ty : TypeId) : ((W.alloc (.cells #[u] ty)).alloc o).drew.cell? ⟨W.heap.size, 0, none⟩ = some u := by
  have e : W.heap.size < (W.alloc (.cells #[u] ty)).heap.size := by simp
  exact cell_of_row _ _ 0 _ _ _ ((heap_alloc_old (W.alloc (.cells #[u] ty)) o e).trans (heap_alloc_new W (.cells #[u] ty)))
set_option maxHeartbeats 8000000 in
set_option maxRecDepth 100000 in
theorem told_any (m : M) (v : Value) (inn : List Int) (ai la : Option Addr) (ci L S ln lc : Nat) (er : Int) (w : World) (hm : IsM w v m) (hi : IsI w (.slice ai inn.length ci) inn) (hS : Sml m S) (hx : checkP m 0) (hl : inn.length ≤ 60) (hL : L ≤ 8)
    (hout : (er = 0 ∧ ln = (alls (Eg S inn m.arcs) (fn S inn m.fins) (usd m.arcs) (L + 1)).length ∧ ln ≤ 500) ∨ (er = 7 ∧ ln = 0 ∧ 500 < (alls (Eg S inn m.arcs) (fn S inn m.fins) (usd m.arcs) (L + 1)).length)) :
    Calls Tryd.prog 14 #[v, .slice ai inn.length ci, .int .i64 (L : Int), .slice la ln lc, .int .i64 er] w fun e w' => e = .returned (.bool true) ∧ Below w.heap.size w w' := by
  obtain ⟨i3, hi3, hx0, hx1, hx2⟩ := info_parts inf3
  obtain ⟨va, vf, rfl, hra, hrf⟩ := id hm
  have HRA : Hid (Mv.Row w va 5 m.arcs.length (acs m.arcs)) := hra
  obtain ⟨z1, aa, ca, rfl, z2⟩ := hra
  obtain ⟨z3, af, cf, rfl, z4⟩ := hrf
  have HM : Hid (IsM w (.agg #[.int .i64 m.st, .slice aa m.arcs.length ca, .slice af m.fins.length cf]) m ∧ IsI w (.slice ai inn.length ci) inn ∧ Sml m S) := ⟨hm, hi, hS⟩
  have hA : m.arcs.length ≤ 120 := hS.few.2.1
  have HOUT : Hid ((er = 0 ∧ ln = (alls (Eg S inn m.arcs) (fn S inn m.fins) (usd m.arcs) (L + 1)).length ∧ ln ≤ 500) ∨ (er = 7 ∧ ln = 0 ∧ 500 < (alls (Eg S inn m.arcs) (fn S inn m.fins) (usd m.arcs) (L + 1)).length)) := hout
  obtain ⟨O1, hO1⟩ : ∃ O1 : Obj, Obj.cells #[.int .i64 m.st, .slice aa m.arcs.length ca, .slice af m.fins.length cf] 25 = O1 := ⟨_, rfl⟩
  have hmk := run_mk67
  have HF0 : Hid (Fl w ((w.alloc O1).alloc (.cells (madeCells #[.bool false] 61) 4)) w.heap.size (w.heap.size + 1) #[.int .i64 m.st, .slice aa m.arcs.length ca, .slice af m.fins.length cf] (.slice none 0 0) (List.replicate 61 false) []) := by
    have B1 := below_al w O1
    have s1 : (w.alloc O1).heap.size = w.heap.size + 1 := by simp
    have e : (madeCells #[.bool false] 61).toList = List.replicate 61 (.bool false) := by rw [toList_madeCells_one]
    have hrow : ((w.alloc O1).alloc (.cells (madeCells #[.bool false] 61) 4)).ownsRow w.heap.size 4 1 (.slice (some ⟨w.heap.size + 1, 0, none⟩) 61 61) 61 ((List.replicate 61 false).map Value.bool) := by
      rw [← s1]
      refine ⟨by simp, .inr ⟨(w.alloc O1).heap.size, 61, madeCells #[.bool false] 61, rfl, B1.size, heap_alloc_new _ _, Nat.le_refl _, by unfold maxLen; omega, ?_, ?_⟩⟩
      · rw [← Array.length_toList, e]; simp
      · rw [e]; simp
    exact ⟨(heap_alloc_old _ _ (by rw [s1]; omega)).trans (by rw [← hO1]; exact heap_alloc_new _ _), hrow, by simp, fun c hc => by rw [List.getElem?_replicate, if_pos hc]; simp, World.ownsRow_nil _ _ _ _, B1.alloc B1.size _⟩
  have HX : Hid (checkP m 0) := hx
  clear hm hi hS hout z1 z2 z3 z4 hx
  go_enter Tryd.func14, Tryd.ntmps14
  go_upto_region 4 with fail
  obtain ⟨fb, hfb⟩ : ∃ fb, w.heap.size + 1 = fb := ⟨_, rfl⟩
  obtain ⟨bx, hbx⟩ : ∃ bx, w.heap.size = bx := ⟨_, rfl⟩
  rw [hfb, hbx] at HF0
  rw [hfb, hbx]
  clear hfb hbx hmk
  generalize (w.alloc O1).alloc (.cells (madeCells #[.bool false] 61) 4) = V1 at *
  go_loopw [12, 13] (fun a i wr => ∃ (y : Nat) (vs : Value) (fl : List Bool), a = vs ∧ i = .int .i64 (y : Int) ∧ y ≤ m.arcs.length ∧ Fl w wr bx fb #[.int .i64 m.st, .slice aa m.arcs.length ca, .slice af m.fins.length cf] vs fl (usd (m.arcs.take y))) (fun _ i _ => m.arcs.length - (intOf i).toNat)
  case atStart => exact ⟨0, _, _, rfl, rfl, Nat.zero_le _, HF0.out⟩
  case round =>
    clear HF0
    obtain ⟨y, vs, fl, rfl, rfl, hy, hfl⟩ := hrel
    obtain ⟨av, cv, rfl⟩ := oslice hfl.row
    have HFL : Hid (Fl w wr bx fb #[.int .i64 m.st, .slice aa m.arcs.length ca, .slice af m.fins.length cf] (.slice av (usd (m.arcs.take y)).length cv) fl (usd (m.arcs.take y))) := hfl
    have b1 := cell_of_row _ _ 1 _ _ _ hfl.box
    by_cases hlt : y < m.arcs.length
    · obtain ⟨ab, ao, rfl, hab, hac⟩ : ∃ b off, aa = some ⟨b, off, none⟩ ∧ b < w.heap.size ∧ ∀ j u, (acs m.arcs)[j]? = some u → wr.cell? ⟨b, off + j, none⟩ = some u := by
        obtain ⟨_, a', c', e', _, hx⟩ := HRA.out
        simp only [Value.slice.injEq, true_and] at e'
        obtain ⟨rfl, rfl⟩ := e'
        obtain ⟨b, off, e, hb, hc⟩ := hx.resolve_left (by omega)
        exact ⟨b, off, e, hb, fun j u hu => (hfl.below.cell (p := ⟨b, off + j, none⟩) hb).trans (hc j u hu)⟩
      have u3 := hac _ _ (acs_at m.arcs y hlt).2.2.2.1
      rw [← Nat.add_assoc] at u3
      obtain ⟨c, hcE⟩ : ∃ c : Nat, (m.arcs[y]).2.2.2.1 = (c : Int) := ⟨(m.arcs[y]).2.2.2.1.toNat, by have := (HM.out.2.2.rgt.arc _ (List.getElem_mem hlt)).2.2.2.1; omega⟩
      have hc60 : c ≤ 60 := by have := HM.out.2.2.out _ (List.getElem_mem hlt); omega
      rw [hcE] at u3
      have HUP : Hid (usd (m.arcs.take (y + 1)) = addU (usd (m.arcs.take y)) (c : Int)) := by show _ = _; rw [List.take_succ_eq_append_getElem hlt, usd_up, hcE]
      have hfc := hfl.flags.cellAt c (by omega)
      rw [show (fl.map Value.bool)[c]? = some (.bool (decide ((c : Int) ∈ usd (m.arcs.take y)))) by rw [List.getElem?_map, hfl.is c (by omega)]; rfl] at hfc
      have hff := hfl.flags.frozenAt c
      obtain ⟨nu, hnu⟩ : ∃ nu, (usd (m.arcs.take y)).length = nu := ⟨_, rfl⟩
      have hnu120 : nu ≤ 120 := by rw [← hnu]; have := usd_len (m.arcs.take y); rw [List.length_take] at this; omega
      have HNU : Hid ((usd (m.arcs.take y)).length = nu) := hnu
      rw [hnu] at HFL
      rw [hnu]
      clear hfl hac hcE hnu
      by_cases hc0 : c = 0
      · subst hc0
        have HU2 : Hid (usd (m.arcs.take (y + 1)) = usd (m.arcs.take y)) := by show _ = _; rw [HUP.out]; unfold addU; rw [if_neg (fun h => by have := h.1; omega)]
        go_wp2
        go_roundw
        case rel => exact ⟨y + 1, _, fl, rfl, by go_num, hlt, by rw [HU2.out]; exact HFL.out⟩
        case measure => simp [intOf]; omega
      · have hcp : (0 : Int) < (c : Int) := by omega
        by_cases hmu : (c : Int) ∈ usd (m.arcs.take y)
        · have HU2 : Hid (usd (m.arcs.take (y + 1)) = usd (m.arcs.take y)) := by show _ = _; rw [HUP.out]; unfold addU; rw [if_neg (fun h => h.2 hmu)]
          rw [decide_eq_true hmu] at hfc
          clear hmu
          go_wp2
          go_roundw
          case rel => exact ⟨y + 1, _, fl, rfl, by go_num, hlt, by rw [HU2.out]; exact HFL.out⟩
          case measure => simp [intOf]; omega
        · have HU2 : Hid (usd (m.arcs.take (y + 1)) = usd (m.arcs.take y) ++ [(c : Int)]) := by show _ = _; rw [HUP.out]; unfold addU; rw [if_pos ⟨hcp, hmu⟩]
          rw [decide_eq_false hmu] at hfc
          obtain ⟨fl', h1, h2, h3, h4, h5, h6⟩ := HFL.out.flag (c := c) (by omega)
          rw [HNU.out] at h5
          have HFN : Hid (fl'.length = 61 ∧ (∀ d : Nat, d < 61 → fl'[d]? = some (decide ((d : Int) ∈ usd (m.arcs.take y) ++ [(c : Int)]))) ∧ (wr.setCell ⟨fb, c, none⟩ (.bool true)).heap[bx]? = some (.cells #[.int .i64 m.st, .slice (some ⟨ab, ao, none⟩) m.arcs.length ca, .slice af m.fins.length cf] 25 (0, 0)) ∧ (wr.setCell ⟨fb, c, none⟩ (.bool true)).ownsRow w.heap.size 4 1 (.slice (some ⟨fb, 0, none⟩) 61 61) 61 (fl'.map Value.bool) ∧ (wr.setCell ⟨fb, c, none⟩ (.bool true)).ownsRow w.heap.size 3 1 (.slice av nu cv) nu (ints (usd (m.arcs.take y))) ∧ Below w.heap.size w (wr.setCell ⟨fb, c, none⟩ (.bool true))) := ⟨h1, h2, h3, h4, h5, h6⟩
          clear h1 h2 h3 h4 h5 h6 hmu
          go_upto_region 9 with fail
          clear hfc hff u3 b1
          generalize wr.setCell ⟨fb, c, none⟩ (.bool true) = V2 at *
          have hsz : w.heap.size ≤ V2.heap.size := HFN.out.2.2.2.2.2.size
          go_wp2_with (refine wpList_append_own_at _ rfl _ _ 26 rfl w.heap.size 3 i3 (.int .i64 0) 1 8 Tryd.underlying26 hi3 hx0 hx1 hx2 rfl (by decide) _ _ _ rfl (HFN.out.2.2.2.2.1.alloc _) ⟨_, 0, none⟩ 1 1 [.int .i64 (c : Int)] rfl rfl (cell_one_new _ _ _) (sl_one _ rfl) (by unfold maxLen; omega) (by omega) (by simp; omega) ?_; intro v5 w5 ho5 hg5 _ hl5; have HN : Hid _ := sym_new HFN.out HNU.out (.cells #[.int .i64 (c : Int)] 3) ho5 hg5; obtain ⟨gg, cc, rfl, _, _⟩ := own_some ho5 (Nat.succ_pos _); clear ho5 hg5 hl5)
          go_roundw
          case rel => exact ⟨y + 1, _, fl', rfl, by go_num, hlt, by rw [HU2.out]; exact HN.out⟩
          case measure => simp [intOf]; omega
    · obtain rfl : y = m.arcs.length := by omega
      rw [List.take_length] at HFL
      obtain ⟨U, hU⟩ : ∃ U, usd m.arcs = U := ⟨_, rfl⟩
      have HU : Hid (usd m.arcs = U) := hU
      obtain ⟨nu, hnu⟩ : ∃ nu, U.length = nu := ⟨_, rfl⟩
      have hnu120 : nu ≤ 120 := by rw [← hnu, ← hU]; have := usd_len m.arcs; omega
      have HNU : Hid (U.length = nu) := hnu
      rw [hU, hnu] at HFL
      rw [List.take_length, hU, hnu]
      clear hfl hU hnu hlt hy
      go_upto_region 12 with fail
      go_loopw [15, 16] (fun a i wx => ∃ (j q : Nat), a = .int .i64 (q : Int) ∧ i = .int .i64 (j : Int) ∧ j ≤ L ∧ q = gs nu j ∧ q ≤ 2000 ∧ wx = wr) (fun _ i _ => L - (intOf i).toNat)
      case atStart => exact ⟨0, 1, rfl, rfl, Nat.zero_le _, rfl, by decide, rfl⟩
      case round =>
        obtain ⟨j, q, rfl, rfl, hj, hq, hq2, rfl⟩ := hrel
        have HQ : Hid (q = gs nu j) := hq
        clear hq
        by_cases hjl : j < L
        · have hmulb : q * nu ≤ 2000 * 120 := Nat.mul_le_mul hq2 hnu120
          obtain ⟨P, hP, hPi, hPb⟩ : ∃ P : Nat, P = q * nu ∧ wrap64 ((q : Int) * (nu : Int)) = (P : Int) ∧ P ≤ 240000 := ⟨q * nu, rfl, by rw [← Int.natCast_mul]; unfold wrap64; omega, by omega⟩
          have HP : Hid (P = q * nu) := hP
          clear hP hmulb
          by_cases hbig : 2000 < P + 1
          · have hbig' : (2000 : Int) < (P : Int) + 1 := by omega
            go_wp2
            go_ret
            exact ⟨rfl, HFL.out.below⟩
          · have hbig' : ¬ (2000 : Int) < (P : Int) + 1 := by omega
            go_wp2
            go_roundw
            case rel => exact ⟨j + 1, P + 1, by go_num, by go_num, hjl, by show P + 1 = gs nu j * nu + 1; rw [HP.out, HQ.out], by omega, trivial⟩
            case measure => simp [intOf]; omega
        · obtain rfl : j = L := by omega
          have HLV : Hid (∀ k, k ≤ j → (lv U k).length ≤ 2000) := fun k hk => Nat.le_trans (lv_gs U k) (Nat.le_trans (gs_le _ hk) (by rw [HNU.out, ← HQ.out]; exact hq2))
          have HLQ0 : Hid (Lq w (wr.alloc (.cells #[.slice none 0 0] 26)) bx #[.int .i64 m.st, .slice aa m.arcs.length ca, .slice af m.fins.length cf] (.slice av nu cv) (.slice (some ⟨wr.heap.size, 0, none⟩) 1 1) (.slice none 0 0) U (lv U 0) [] [.slice none 0 0] []) := by
            have hb := below_al wr (.cells #[.slice none 0 0] 26)
            refine ⟨(hb.block _ (lt_at HFL.out.box)).trans HFL.out.box, HFL.out.row.alloc _, ⟨rfl, .inr ⟨wr.heap.size, 1, #[.slice none 0 0], rfl, HFL.out.below.size, heap_alloc_new _ _, Nat.le_refl _, by unfold maxLen; omega, rfl, rfl⟩⟩, (Tls.nil _).add (t := []) ⟨none, 0, rfl, .inl ⟨rfl, rfl⟩⟩, World.ownsRow_nil _ _ _ _, Tls.nil _, fun b hb => (by cases hb), HFL.out.below.alloc HFL.out.below.size _⟩
          clear HFL hq2
          go_upto_region 20 with fail
          generalize wr.alloc (.cells #[.slice none 0 0] 26) = W0 at *
          have HAL : Hid (∀ k, k ≤ j + 1 → (alls (Eg S inn m.arcs) (fn S inn m.fins) U k).length ≤ 18000) := fun k hk => Nat.le_trans (alls_len k (fun i hi => HLV.out i (by omega))) (Nat.mul_le_mul_right 2000 (show k ≤ 9 by omega))
          go_loopw [17, 18, 19] (fun a b c wx => ∃ (k cnt : Nat) (vl : Value) (lvs : List Value), a = .int .i64 (cnt : Int) ∧ b = vl ∧ c = .int .i64 (k : Int) ∧ k ≤ j + 1 ∧ cnt = (alls (Eg S inn m.arcs) (fn S inn m.fins) U k).length ∧ Lq w wx bx #[.int .i64 m.st, .slice aa m.arcs.length ca, .slice af m.fins.length cf] (.slice av nu cv) vl (.slice none 0 0) U (lv U k) [] lvs []) (fun _ _ c _ => j + 1 - (intOf c).toNat)
          case atStart => exact ⟨0, 0, _, _, rfl, rfl, rfl, Nat.zero_le _, rfl, HLQ0.out⟩
          case round =>
            clear HLQ0
            obtain ⟨k, cnt, vl, lvs, rfl, rfl, rfl, hk, hcnt, hlq⟩ := hrel
            have hcb : cnt ≤ 18000 := by rw [hcnt]; exact HAL.out k hk
            have HCN : Hid (cnt = (alls (Eg S inn m.arcs) (fn S inn m.fins) U k).length) := hcnt
            obtain ⟨avl, cvl, rfl⟩ := oslice hlq.lrow
            clear hcnt
            by_cases hkj : k ≤ j
            · have hkj' : (k : Int) ≤ (j : Int) := by omega
              obtain ⟨nl, hnl⟩ : ∃ nl, (lv U k).length = nl := ⟨_, rfl⟩
              have HNL : Hid ((lv U k).length = nl) := hnl
              have hnl2 : nl ≤ 2000 := by rw [← hnl]; exact HLV.out k hkj
              rw [hnl] at hlq
              have HLQ : Hid (Lq w wr bx #[.int .i64 m.st, .slice aa m.arcs.length ca, .slice af m.fins.length cf] (.slice av nu cv) (.slice avl nl cvl) (.slice none 0 0) U (lv U k) [] lvs []) := hlq
              rw [hnl]
              clear hlq hnl
              go_upto_region 24 with fail
              go_loopw [17, 20, 21] (fun a b c wx => ∃ (i c4 : Nat) (vn : Value) (nvs : List Value), a = .int .i64 (c4 : Int) ∧ b = vn ∧ c = .int .i64 (i : Int) ∧ i ≤ nl ∧ c4 = cnt + Ot.cf (Eg S inn m.arcs) (fn S inn m.fins) ((lv U k).take i) ∧ Lq w wx bx #[.int .i64 m.st, .slice aa m.arcs.length ca, .slice af m.fins.length cf] (.slice av nu cv) (.slice avl nl cvl) vn U (lv U k) (nxl U ((lv U k).take i)) lvs nvs) (fun _ _ c _ => nl - (intOf c).toNat)
              case atStart => exact ⟨0, cnt, _, _, rfl, rfl, rfl, Nat.zero_le _, by rw [List.take_zero, cf_nil]; rfl, by rw [List.take_zero, nxl_nil]; exact HLQ.out⟩
              case round =>
                clear HLQ
                obtain ⟨i, c4, vn, nvs, rfl, rfl, rfl, hi4, hc4, hlq⟩ := hrel
                obtain ⟨avn, cvn, rfl⟩ := oslice hlq.nrow
                have hc4b : c4 ≤ 20000 := by
                  rw [hc4]
                  have h1 := cf_le (E := Eg S inn m.arcs) (F := fn S inn m.fins) (T := (lv U k).take i)
                  rw [List.length_take] at h1
                  omega
                have HC4 : Hid (c4 = cnt + Ot.cf (Eg S inn m.arcs) (fn S inn m.fins) ((lv U k).take i)) := hc4
                clear hc4
                by_cases hil : i < nl
                · have hlv : i < (lv U k).length := by rw [HNL.out]; exact hil
                  obtain ⟨t, htE⟩ : ∃ t, (lv U k)[i]? = some t := ⟨_, List.getElem?_eq_getElem hlv⟩
                  have htlen : t.length = k := ((lv_mem U k t).1 (List.mem_of_getElem? htE)).1
                  have htk9 : t.length ≤ 9 := by omega
                  have HTAKE : Hid ((lv U k).take (i + 1) = (lv U k).take i ++ [t]) := by
                    obtain ⟨h1, h2⟩ := List.getElem?_eq_some_iff.1 htE
                    show _ = _
                    rw [List.take_succ_eq_append_getElem h1, h2]
                  obtain ⟨tv, htv⟩ : ∃ tv, lvs[i]? = some tv := ⟨_, List.getElem?_eq_getElem (by rw [hlq.ltl.1]; exact hlv)⟩
                  obtain ⟨t2, h1, htx⟩ := hlq.ltl.2 i tv htv
                  rw [htE] at h1
                  cases h1
                  have hlrow := hlq.lrow
                  rw [HNL.out] at hlrow
                  obtain ⟨lb, lc, hle, _, _⟩ := own_some hlrow (by omega)
                  rw [Value.slice.injEq] at hle
                  obtain ⟨ha1, _, ha2⟩ := hle
                  subst ha1 ha2
                  obtain ⟨at1, ct1, htvE, _⟩ := (id htx : Tx wr tv t)
                  subst htvE
                  have l0 := (hlrow.cellAt i (by omega)).trans htv
                  have hIM : IsM wr (.agg #[.int .i64 m.st, .slice aa m.arcs.length ca, .slice af m.fins.length cf]) m := HM.out.1.below hlq.below
                  have hII : IsI wr (.slice ai inn.length ci) inn := HM.out.2.1.below hlq.below
                  have hIT : IsI wr (.slice at1 t.length ct1) t := htx.row (by omega)
                  obtain ⟨c, hcI, hcB⟩ := Mc.cost_ex m inn t _ _ _ wr hIM hII hIT HX.out (by omega) (by omega)
                  have K12 : Hid (∀ W, Below wr.heap.size wr W → Calls Tryd.prog 12 #[(.agg #[.int .i64 m.st, .slice aa m.arcs.length ca, .slice af m.fins.length cf]), .slice ai inn.length ci, .slice at1 t.length ct1, .bool true] W fun e W' => e = .returned (.int .i64 (c : Int)) ∧ Below W.heap.size W W') := fun W hW => (Mc.cost_of2 m inn t _ _ _ W (hIM.below hW) (hII.below hW) (hIT.below hW) HX.out (by omega) (by omega)).mono (fun e W' ⟨d, h1, h2, h3⟩ => ⟨by rw [h1, h2.1.one hcI], h3⟩)
                  obtain ⟨b, c5, hbd, hc5a, hc5b, hc5n⟩ : ∃ (b : Bool) (c5 : Nat), decide ((c : Int) < 1152921504606846976) = b ∧ (b = true → c5 = c4 + 1) ∧ (b = false → c5 = c4) ∧ c5 = cnt + Ot.cf (Eg S inn m.arcs) (fn S inn m.fins) ((lv U k).take (i + 1)) := by
                    have hca := cost_an HM.out.2.2.rgt HM.out.2.2.fin hcI
                    rw [HTAKE.out]
                    rcases hcB with h0 | h0
                    · have hno : ¬ An (Eg S inn m.arcs) (fn S inn m.fins) t := fun h => by have := hca.2 h; omega
                      refine ⟨false, c4, ?_, fun h => (by cases h), fun _ => rfl, by rw [cf_no hno]; exact HC4.out⟩
                      rw [h0, ← CR.dear_int]; simp
                    · have hlt : c < Wk.dear := by unfold Wk.dear; omega
                      exact ⟨true, c4 + 1, CR.lt_dear hlt, fun _ => rfl, fun h => (by cases h), by rw [cf_yes (hca.1 hlt), HC4.out]; rfl⟩
                  have HC5 : Hid ((b = true → c5 = c4 + 1) ∧ (b = false → c5 = c4) ∧ c5 = cnt + Ot.cf (Eg S inn m.arcs) (fn S inn m.fins) ((lv U k).take (i + 1))) := ⟨hc5a, hc5b, hc5n⟩
                  have HLQ : Hid (Lq w wr bx #[.int .i64 m.st, .slice aa m.arcs.length ca, .slice af m.fins.length cf] (.slice av nu cv) (.slice (some ⟨lb, 0, none⟩) nl cvl) (.slice avn (nxl U ((lv U k).take i)).length cvn) U (lv U k) (nxl U ((lv U k).take i)) lvs nvs) := by have h := hlq; exact h
                  have HTX : Hid (Tx wr (.slice at1 t.length ct1) t) := htx
                  have HTE : Hid ((lv U k)[i]? = some t ∧ lvs[i]? = some (.slice at1 t.length ct1)) := ⟨htE, htv⟩
                  have hbx := hlq.box
                  have b0 := cell_of_row _ _ 0 _ _ _ hbx
                  have b1 := cell_of_row _ _ 1 _ _ _ hbx
                  have b2 := cell_of_row _ _ 2 _ _ _ hbx
                  have HBD : Hid (decide ((c : Int) < 1152921504606846976) = b) := hbd
                  have HTL : Hid (t.length ≤ 9) := htk9
                  have HLV2 : Hid (i < nl) := hil
                  clear hlv htE htlen htv hlq hlrow htx hIM hII hIT hcI hcB hc5a hc5b hc5n hbx hbd htk9
                  go_upto_region 26 with fail
                  go_cut [84] from 77 to 83 (fun s wx => s = .bool b ∧ Below wr.heap.size wr wx)
                  case first =>
                    have hdd := HBD.out
                    go_region_with (go_at_call 12; refine (K12.out _ (below_drewN (Below.refl _ _) 1)).mono ?_; rintro e w2 ⟨rfl, hb2⟩; have HB2 : Hid (Below wr.heap.size wr w2) := (below_drewN (Below.refl _ _) 1).trans hb2; clear hb2)
                    all_goals (go_wp2_with fail; go_meet)
                    all_goals exact ⟨rfl, HB2.out⟩
                  case rest =>
                  obtain ⟨rfl, hbw⟩ := hcut
                  obtain ⟨V, hV⟩ : ∃ V, wc = V := ⟨_, rfl⟩
                  rw [hV] at hbw ⊢
                  have HLV1 : Hid (Lq w V bx #[.int .i64 m.st, .slice aa m.arcs.length ca, .slice af m.fins.length cf] (.slice av nu cv) (.slice (some ⟨lb, 0, none⟩) nl cvl) (.slice avn (nxl U ((lv U k).take i)).length cvn) U (lv U k) (nxl U ((lv U k).take i)) lvs nvs) := HLQ.out.laid hbw
                  clear hV hbw b0 b1 b2 l0 HBD K12 HLQ HTX
                  go_upto_if 84 with fail
                  go_cut [17] from 84 to 86 (fun s wx => s = .int .i64 (c5 : Int) ∧ wx = V)
                  case first =>
                    cases b with
                    | true =>
                      have H5 : Hid (c5 = c4 + 1) := HC5.out.1 rfl
                      go_wp2
                      go_meet
                      exact ⟨by rw [H5.out]; go_num, rfl⟩
                    | false =>
                      have h5 := HC5.out.2.1 rfl
                      subst h5
                      go_wp2
                      go_meet
                      exact ⟨rfl, rfl⟩
                  case rest =>
                  obtain ⟨rfl, hV⟩ := hcut
                  rw [hV]
                  clear hV
                  go_upto_region 29 with fail
                  go_loopw [20, 22] (fun a b wx => ∃ (y : Nat) (vn : Value) (nvs : List Value), a = vn ∧ b = .int .i64 (y : Int) ∧ y ≤ nu ∧ Lq w wx bx #[.int .i64 m.st, .slice aa m.arcs.length ca, .slice af m.fins.length cf] (.slice av nu cv) (.slice (some ⟨lb, 0, none⟩) nl cvl) vn U (lv U k) (nxl U ((lv U k).take i) ++ (U.take y).map fun c => t ++ [c]) lvs nvs) (fun _ b _ => nu - (intOf b).toNat)
                  case atStart => exact ⟨0, _, _, rfl, rfl, Nat.zero_le _, by rw [List.take_zero, List.map_nil, List.append_nil]; exact HLV1.out⟩
                  case round =>
                    clear HLV1
                    obtain ⟨y, vn5, nvs, rfl, rfl, hy5, hq⟩ := hrel
                    obtain ⟨an5, cn5, rfl⟩ := oslice hq.nrow
                    obtain ⟨nx5, hnx5⟩ : ∃ n, (nxl U ((lv U k).take i) ++ (U.take y).map fun c => t ++ [c]).length = n := ⟨_, rfl⟩
                    have HNX5 : Hid ((nxl U ((lv U k).take i) ++ (U.take y).map fun c => t ++ [c]).length = nx5 ∧ nx5 ≤ 1000000) := by
                      have e := hnx5
                      refine ⟨e, ?_⟩
                      rw [List.length_append, nxl_len, List.length_map, List.length_take, List.length_take, HNU.out] at e
                      have h1 : min i (lv U k).length * nu ≤ 2000 * 120 := Nat.mul_le_mul (by rw [HNL.out]; omega) hnu120
                      omega
                    rw [hnx5] at hq ⊢
                    clear hnx5
                    have HQ5 : Hid (Lq w wr bx #[.int .i64 m.st, .slice aa m.arcs.length ca, .slice af m.fins.length cf] (.slice av nu cv) (.slice (some ⟨lb, 0, none⟩) nl cvl) (.slice an5 nx5 cn5) U (lv U k) (nxl U ((lv U k).take i) ++ (U.take y).map fun c => t ++ [c]) lvs nvs) := hq
                    by_cases hyu : y < nu
                    · obtain ⟨t2, h1, htx⟩ := hq.ltl.2 i _ HTE.out.2
                      rw [HTE.out.1] at h1
                      cases h1
                      have HTX : Hid (Tx wr (.slice at1 t.length ct1) t) := htx
                      have hlrow := hq.lrow
                      rw [HNL.out] at hlrow
                      have l0 := (hlrow.cellAt i (by have := HLV2.out; omega)).trans HTE.out.2
                      have hsy := hq.syms
                      rw [HNU.out] at hsy
                      obtain ⟨sg, sc, hse, _, _⟩ := own_some hsy (by omega)
                      rw [Value.slice.injEq] at hse
                      obtain ⟨ha1, _, ha2⟩ := hse
                      subst ha1 ha2
                      obtain ⟨c1, hc1⟩ : ∃ c1, U[y]? = some c1 := ⟨_, List.getElem?_eq_getElem (by rw [HNU.out]; exact hyu)⟩
                      have s0 : wr.cell? ⟨sg, y, none⟩ = some (.int .i64 c1) := (hsy.cellAt y (by omega)).trans (by simp [ints, hc1])
                      have SB : Hid (∀ W, Below wr.heap.size wr W → W.cell? ⟨lb, i, none⟩ = some (.slice at1 t.length ct1) ∧ W.cell? ⟨sg, y, none⟩ = some (.int .i64 c1)) := fun W hW => ⟨(hW.cell (p := ⟨lb, i, none⟩) (hlrow.lt _ rfl).2).trans l0, (hW.cell (p := ⟨sg, y, none⟩) (hsy.lt _ rfl).2).trans s0⟩
                      have HC1 : Hid (U[y]? = some c1) := hc1
                      have SQ : Hid (∀ (W : World) (v' : Value) (x' : List (List Int)) (n' : List Value), Lq w W bx #[.int .i64 m.st, .slice aa m.arcs.length ca, .slice af m.fins.length cf] (.slice (some ⟨sg, 0, none⟩) nu cv) (.slice (some ⟨lb, 0, none⟩) nl cvl) v' U (lv U k) x' lvs n' → W.cell? ⟨lb, i, none⟩ = some (.slice at1 t.length ct1) ∧ W.cell? ⟨sg, y, none⟩ = some (.int .i64 c1)) := fun W v' x' n' h => ⟨by have h1 := h.lrow; rw [HNL.out] at h1; exact (h1.cellAt i (by have := HLV2.out; omega)).trans HTE.out.2, by have h1 := h.syms; rw [HNU.out] at h1; exact (h1.cellAt y (by omega)).trans (by simp [ints, hc1])⟩
                      have NR : Hid (∀ W, Below wr.heap.size wr W → W.ownsRow w.heap.size 26 1 (.slice an5 nx5 cn5) nx5 nvs) := fun W h => by have h1 := (HQ5.out.laid h).nrow; rw [HNX5.out.1] at h1; exact h1
                      obtain ⟨i26, hi26, hs0, hs1, hs2⟩ := info_parts inf26
                      have hiN := HLV2.out
                      clear hq htx hlrow hsy hc1
                      go_upto_region 31 with fail
                      refine wp_region_noPanic ?_
                      go_region_held3 (fun W => W.cell? ⟨lb, i, none⟩ = some (.slice at1 t.length ct1) ∧ W.cell? ⟨sg, y, none⟩ = some (.int .i64 c1)) (first | exact SB.out _ (below_drewN (Below.refl _ _) 1) | exact SB.out _ (al1 _ _) | exact SB.out _ (al2 _ _ _) | exact SQ.out _ _ _ _ HN8.out | exact SB.out _ (HN7.out.2.2.alloc HN7.out.2.2.size _) | exact SB.out _ HN7.out.2.2 | exact SB.out _ (HB5.out.2.2.alloc HB5.out.2.2.size _) | exact SB.out _ HB5.out.2.2) (first | (refine step_tx rfl (.tmp 94) (.tmp 98) rfl rfl wr.heap.size _ 0 [] rfl (tA wr) (.slice at1 t.length ct1) t rfl (HTX.out.below (al1 wr _)) (by have := HTL.out; omega) ((al1 wr _).size) ?_; intro v5 w5 ho5 hg5 hl5; have HB5 : Hid _ := tB (al1 wr _) (tA wr) ho5 hg5;  obtain ⟨⟨a5, m5, hv5⟩, z1, z2⟩ := HB5.out; clear z1 z2 ho5 hg5 hl5; subst hv5) | (refine step_tx rfl (.tmp 94) (.tmp 98) rfl rfl wr.heap.size _ 0 [] rfl (tAC wr _) (.slice at1 t.length ct1) t rfl (HTX.out.below (al2 wr _ _)) (by have := HTL.out; omega) ((al2 wr _ _).size) ?_; intro v5 w5 ho5 hg5 hl5; have HB5 : Hid _ := tB (al2 wr _ _) (tAC wr _) ho5 hg5; have HCB : Hid _ := tC (cAC wr _ (.int .i64 c1) 3) hg5 (own_ne (Nat.ne_of_lt (Nat.lt_succ_self _))); obtain ⟨⟨a5, m5, hv5⟩, z1, z2⟩ := HB5.out; clear z1 z2 ho5 hg5 hl5; subst hv5) | (refine step_tx rfl (.tmp 94) (.tmp 98) rfl rfl wr.heap.size _ 0 [] rfl (tCA wr _) (.slice at1 t.length ct1) t rfl (HTX.out.below (al2 wr _ _)) (by have := HTL.out; omega) ((al2 wr _ _).size) ?_; intro v5 w5 ho5 hg5 hl5; have HB5 : Hid _ := tB (al2 wr _ _) (tCA wr _) ho5 hg5; have HCB : Hid _ := tC (cCA wr _ (.int .i64 c1) 3) hg5 (own_ne (Nat.ne_of_gt (Nat.lt_succ_self _))); obtain ⟨⟨a5, m5, hv5⟩, z1, z2⟩ := HB5.out; clear z1 z2 ho5 hg5 hl5; subst hv5) | (refine step_append_at rfl (.tmp 99) (.tmp 104) 26 rfl wr.heap.size 3 i3 (.int .i64 0) 1 8 Tryd.underlying26 hi3 hx0 hx1 hx2 rfl (by decide) _ _ _ rfl (HB5.out.2.1.alloc _) ⟨_, 0, none⟩ 1 1 [.int .i64 c1] rfl rfl (cell_one_new _ _ _) (sl_one _ rfl) (by have := HTL.out; unfold maxLen; omega) (by have := HTL.out; omega) ((HB5.out.2.2.alloc HB5.out.2.2.size _).size) ?_; intro v7 w7 ho7 hg7 hl7; have HN7 : Hid _ := txt_new (HB5.out.2.2.alloc HB5.out.2.2.size _) ho7 hg7 (HB5.out.2.1.alloc _); obtain ⟨⟨a7, m7, hv7⟩, z1, z2⟩ := HN7.out; clear z1 z2 ho7 hg7 hl7; subst hv7) | (refine step_append_at rfl (.tmp 99) (.tmp 104) 26 rfl wr.heap.size 3 i3 (.int .i64 0) 1 8 Tryd.underlying26 hi3 hx0 hx1 hx2 rfl (by decide) _ _ _ rfl (HB5.out.2.1) ⟨_, 0, none⟩ 1 1 [.int .i64 c1] rfl rfl (HCB.out) (sl_one _ rfl) (by have := HTL.out; unfold maxLen; omega) (by have := HTL.out; omega) ((HB5.out.2.2).size) ?_; intro v7 w7 ho7 hg7 hl7; have HN7 : Hid _ := txt_new (HB5.out.2.2) ho7 hg7 (HB5.out.2.1); obtain ⟨⟨a7, m7, hv7⟩, z1, z2⟩ := HN7.out; clear z1 z2 ho7 hg7 hl7; subst hv7) | (refine step_append_at rfl (.tmp 93) (.tmp 106) 29 rfl w.heap.size 26 i26 (.slice none 0 0) 1 24 Tryd.underlying29 hi26 hs0 hs1 hs2 rfl (by decide) _ _ _ rfl (NR.out _ (HN7.out.2.2.alloc HN7.out.2.2.size (.cells #[.slice a7 (t.length + 1) m7] 26))) ⟨_, 0, none⟩ 1 1 [.slice a7 (t.length + 1) m7] rfl rfl (cell_one_new _ _ _) (sl_one _ rfl) (by have := HNX5.out.2; unfold maxLen; omega) (by have := HNX5.out.2; omega) (Nat.le_trans HQ5.out.below.size (HN7.out.2.2.alloc HN7.out.2.2.size (.cells #[.slice a7 (t.length + 1) m7] 26)).size) ?_; intro v8 w8 ho8 hg8 hl8; obtain ⟨g8, c8, rfl, _, _⟩ := own_some ho8 (Nat.succ_pos _); have HN8 : Hid _ := (HQ5.out.laid (HN7.out.2.2.alloc HN7.out.2.2.size (.cells #[.slice a7 (t.length + 1) m7] 26))).more (by rw [HNX5.out.1]; exact ho8) hg8 hl8 (HN7.out.2.1.below (below_al _ _)); clear ho8 hg8 hl8))
                      all_goals refine NoPanic.normal ?_
                      all_goals go_wp2_with fail
                      all_goals go_roundw
                      all_goals first
                        | exact ⟨y + 1, _, _, rfl, by go_num, hyu, by rw [take_more HC1.out, ← List.append_assoc]; exact HN8.out⟩
                        | (simp [intOf]; omega)
                    · obtain rfl : y = nu := by omega
                      have htU : U.take y = U := List.take_of_length_le (by rw [HNU.out]; exact Nat.le_refl _)
                      have HQ6 : Hid (Lq w wr bx #[.int .i64 m.st, .slice aa m.arcs.length ca, .slice af m.fins.length cf] (.slice av y cv) (.slice (some ⟨lb, 0, none⟩) nl cvl) (.slice an5 nx5 cn5) U (lv U k) (nxl U ((lv U k).take (i + 1))) lvs nvs) := by have h := hq; rw [htU, ← nxl_up, ← HTAKE.out] at h; exact h
                      clear hq htU
                      go_wp2
                      go_roundw
                      case rel => exact ⟨i + 1, c5, _, nvs, rfl, rfl, by go_num, HLV2.out, HC5.out.2.2, HQ6.out⟩
                      case measure => simp [intOf]; omega
                · obtain rfl : i = nl := by omega
                  have htk : (lv U k).take i = lv U k := List.take_of_length_le (Nat.le_of_eq HNL.out)
                  rw [htk] at hlq HC4
                  have HLT : Hid (Lq w wr bx #[.int .i64 m.st, .slice aa m.arcs.length ca, .slice af m.fins.length cf] (.slice av nu cv) (.slice avn (nxl U (lv U k)).length cvn) (.slice none 0 0) U (lv U (k + 1)) [] nvs []) := by have := hlq.turn; rw [← lv_nxl] at this; exact this
                  rw [htk]
                  clear hlq htk
                  go_wp2
                  go_roundw
                  case rel => exact ⟨k + 1, c4, _, nvs, rfl, rfl, by go_num, Nat.succ_le_succ hkj, by rw [HC4.out, alls_cf, HCN.out], HLT.out⟩
                  case measure => simp [intOf]; omega
            · obtain rfl : k = j + 1 := by omega
              have HB : Hid (Below w.heap.size w wr) := hlq.below
              have hkj' : ¬ ((j : Int) + 1 ≤ (j : Int)) := by omega
              have hout := HOUT.out
              rw [HU.out, ← HCN.out] at hout
              clear hlq
              rcases hout with ⟨rfl, rfl, h5⟩ | ⟨rfl, rfl, h5⟩
              · have h5' : ¬ (500 : Int) < (ln : Int) := by omega
                go_wp2
                go_ret
                exact ⟨rfl, HB.out⟩
              · have h5' : (500 : Int) < (cnt : Int) := by omega
                go_wp2
                go_ret
                exact ⟨rfl, HB.out⟩
end Go.Proofs.YtfjocafepigijaaDoor.Ot
