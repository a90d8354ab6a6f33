/- The document's TableOf (51): the table of a plain machine's sets, or that there are too many. Condition: the machine is right. -/
import Derived.Test.YtfjocafepigijaaDoorFaM
import Derived.Deep.CutRange
namespace Go.Proofs.YtfjocafepigijaaDoor.Su
open Go.RowKit Mv Po Ps Cm

/-- a table lies in memory -/
structure Tl (w' : World) (base : Nat) (vt vf : Value) (tos : List (List (Option Nat))) (fins : List Bool) : Prop where
  rows : ∃ tv, w'.ownsRow base 26 1 vt tos.length tv ∧ Rls w' tv tos
  fin : w'.ownsRow base 4 1 vf fins.length (bcs fins)
/-- what TableOf hands back -/
def TbQ (S : Nat) (A : List (Int × Int × Int × Int × Int)) (F : List (Int × Int)) (w : World) (e : Ending) (w' : World) : Prop :=
  ∃ (at_ : Option Addr) (nt ct : Nat) (af_ : Option Addr) (nf cf_ : Nat) (ok : Bool), e = .returned (.tuple #[.agg #[.slice at_ nt ct, .slice af_ nf cf_], .bool ok]) ∧ Below w.heap.size w w' ∧ ((ok = true ∧ ∃ n, Done S A n ∧ Tl w' w.heap.size (.slice at_ nt ct) (.slice af_ nf cf_) (tab S A n).2 ((tab S A n).1.map (fi F))) ∨ (ok = false ∧ Many S A))
theorem take_one {α β : Type} (g : α → β) {l : List α} {k : Nat} {x : α} (h : l[k]? = some x) : (l.take (k + 1)).map g = (l.take k).map g ++ [g x] := by
  obtain ⟨h1, h2⟩ := List.getElem?_eq_some_iff.1 h
  rw [List.take_succ_eq_append_getElem h1, h2, List.map_append]
  rfl
theorem take_pre {α : Type} {l l' : List α} (h : l <+: l') {k : Nat} (hk : k ≤ l.length) : l.take k = l'.take k := by
  obtain ⟨r, rfl⟩ := h
  rw [List.take_append_of_le_length hk]
theorem pre_at {α : Type} {l l' : List α} (h : l <+: l') {k : Nat} {x : α} (hk : l[k]? = some x) : l'[k]? = some x := by
  obtain ⟨r, rfl⟩ := h
  rw [List.getElem?_append_left (List.getElem?_eq_some_iff.1 hk).1]
  exact hk
theorem getD_some {α : Type} {l : List α} {k : Nat} {x d : α} (h : l[k]? = some x) : l.getD k d = x := by rw [List.getD_eq_getElem?_getD, h]; rfl
theorem own_nil_new (W : World) (u : Value) (base ty : Nat) (hb : base ≤ W.heap.size) : (W.alloc (.cells #[u] ty)).ownsRow base ty 1 (.slice (some ⟨W.heap.size, 0, none⟩) 1 1) 1 [u] := ⟨rfl, .inr ⟨W.heap.size, 1, #[u], rfl, hb, heap_alloc_new _ _, Nat.le_refl _, by unfold maxLen; omega, rfl, rfl⟩⟩
theorem cell_one_new (w : World) (u : Value) (ty : TypeId) : ∀ j v, [u][j]? = some v → (w.alloc (.cells #[u] ty)).cell? ((⟨w.heap.size, 0, none⟩ : Addr).add j) = some v := fun j v hj => by
  have e0 : j = 0 := by have := (List.getElem?_eq_some_iff.1 hj).1; simpa using this
  subst e0
  have e : u = v := by simpa using hj
  subst e
  rw [show (⟨w.heap.size, 0, none⟩ : Addr).add 0 = ⟨w.heap.size, 0, none⟩ by simp [Addr.add]]
  exact cell_of_row _ _ 0 _ _ _ (heap_alloc_new w _)
theorem sl_one (v : Value) (h : v.oneCell' = true) : ∀ u ∈ [v], u.oneCell' = true := fun u hu => by rw [List.mem_singleton.1 hu]; exact h
theorem To.tabGrown {w wr w1 : World} {bx p2 p4 S : Nat} {mb : Array Value} {vs vt vf : Value} {sets : List (List Bool)} {sv tv : List Value} {tos : List (List (Option Nat))} {fins : List Bool} (h : To w wr bx p2 p4 S mb vs vt vf sets sv tos tv fins) (hg : wr.grownBy w1 vt.ownBlock) : w1.heap[p4]? = some (.cells #[vt, vf] 97 (0, 0)) :=
  (hg.block p4 (lt_at h.tab) (fun e => by obtain ⟨d', hd'⟩ := own_ty h.trow e.symm; exact ty_ne h.tab hd' (by decide))).trans h.tab
theorem To.tabGrownF {w wr w1 : World} {bx p2 p4 S : Nat} {mb : Array Value} {vs vt vf : Value} {sets : List (List Bool)} {sv tv : List Value} {tos : List (List (Option Nat))} {fins : List Bool} (h : To w wr bx p2 p4 S mb vs vt vf sets sv tos tv fins) (hg : wr.grownBy w1 vf.ownBlock) : w1.heap[p4]? = some (.cells #[vt, vf] 97 (0, 0)) :=
  (hg.block p4 (lt_at h.tab) (fun e => by obtain ⟨d', hd'⟩ := own_ty h.frow e.symm; exact ty_ne h.tab hd' (by decide))).trans h.tab
theorem row97 : (Tryd.prog.info? 97).map (·.size) = some 2 := by kernel_rfl
/-- two results, of which the first lies in a block -/
theorem results_row_tmp {P : Program} {fn : Func} {p u : Tmp} {ty : TypeId} (h : fn.results = #[.cell p ty, .tmp u]) (tmps : Array Value) (w : World) (g : Nat) (t : TypeId) (cs : Array Value) (fr : Nat × Nat) (d : TypeDesc)
    (hp : tmps.getD p undef = .pointer (some ⟨g, 0, none⟩)) (hg : w.heap[g]? = some (.cells cs t fr))
    (hu : P.underlying ty = some d) (hd : (match d with | .struct _ | .array _ _ => true | _ => false) = true) (hi : (P.info? ty).map (·.size) = some cs.size) :
    (results fn tmps).run P w = .ok (.tuple #[.agg cs, tmps.getD u undef]) w := by
  rw [results_cell_tmp h, hp]
  simp [asAddr, run_loadVar_row w g t ty cs fr d hg hu hd hi]
theorem To.ret {w wr : World} {bx p2 p4 S : Nat} {mb : Array Value} {vs vt vf : Value} {sets : List (List Bool)} {sv tv : List Value} {tos : List (List (Option Nat))} {fins : List Bool} (h : To w wr bx p2 p4 S mb vs vt vf sets sv tos tv fins) (hp : w.heap.size ≤ p2) :
    ((wr.setCell ⟨p2, 0, none⟩ vt).setCell ⟨p2, 1, none⟩ vf).heap[p2]? = some (.cells #[vt, vf] 97 (0, 0)) ∧ Below w.heap.size w ((wr.setCell ⟨p2, 0, none⟩ vt).setCell ⟨p2, 1, none⟩ vf) ∧ Tl ((wr.setCell ⟨p2, 0, none⟩ vt).setCell ⟨p2, 1, none⟩ vf) w.heap.size vt vf tos fins := by
  have hk0 : Kp (fun b => b = p2) wr (wr.setCell ⟨p2, 0, none⟩ vt) := (Kp.refl _ wr).setCell _ _ _ (fun _ => rfl)
  have hk : Kp (fun b => b = p2) wr ((wr.setCell ⟨p2, 0, none⟩ vt).setCell ⟨p2, 1, none⟩ vf) := hk0.setCell _ _ _ (fun _ => rfl)
  have nt : ∀ {b : Nat} {d : Array Value} {ty : TypeId}, wr.heap[b]? = some (.cells d ty (0, 0)) → ty ≠ 97 → ¬ b = p2 := fun {b d ty} hb hne e => by subst e; exact ty_ne hb h.out hne
  have e1 := heap_setCell_same wr p2 0 _ 97 vt h.out
  have e2 := heap_setCell_same _ p2 1 _ 97 vf e1
  exact ⟨e2, below_kp h.below hk (fun b hb e => by omega), ⟨_, own_kp2 h.trow hk (fun b hb => by obtain ⟨d, hd⟩ := own_ty h.trow hb; exact nt hd (by decide)), h.ttl.kept hk (fun u hu b hb => by obtain ⟨d, hd⟩ := h.ttl.ty hu hb; exact nt hd (by decide))⟩, own_kp2 h.frow hk (fun b hb => by obtain ⟨d, hd⟩ := own_ty h.frow hb; exact nt hd (by decide))⟩
set_option maxHeartbeats 8000000 in
set_option maxRecDepth 100000 in
theorem tableOf_any (S : Nat) (A : List (Int × Int × Int × Int × Int)) (F : List (Int × Int)) (aa af : Option Addr) (ca cf : Nat) (w : World) (hG : Gd S A) (hA : Mv.Row w (.slice aa A.length ca) 5 A.length (acs A)) (hF : Mv.Row w (.slice af F.length cf) 2 F.length (fcs F)) (hf : ∀ k (h : k < F.length), finB (S : Int) F[k] = true) :
    Calls Tryd.prog 51 #[.agg #[.int .i64 (S : Int), .slice aa A.length ca, .slice af F.length cf]] w (TbQ S A F w) := by
  obtain ⟨i67, hi67, hy0, hy1, hy2⟩ := info_parts inf67
  obtain ⟨i26, hi26, hx0, hx1, hx2⟩ := info_parts inf26'
  obtain ⟨i4, hi4, hz0, hz1, hz2⟩ := info_parts inf4
  have hS0 := hG.pos
  have hS3 := hG.few
  obtain ⟨O1, hO1⟩ : ∃ O1 : Obj, Obj.cells #[.int .i64 (S : Int), .slice aa A.length ca, .slice af F.length cf] 25 = O1 := ⟨_, rfl⟩
  obtain ⟨W0, hW0⟩ : ∃ W0, ((w.alloc O1).alloc (.cells #[.slice none 0 0, .slice none 0 0] 97)).alloc (.cells #[.slice none 0 0, .slice none 0 0] 97) = W0 := ⟨_, rfl⟩
  have HALL : Hid (Gd S A ∧ Mv.Row w (.slice aa A.length ca) 5 A.length (acs A) ∧ Mv.Row w (.slice af F.length cf) 2 F.length (fcs F) ∧ ∀ k (h : k < F.length), finB (S : Int) F[k] = true) := ⟨hG, hA, hF, hf⟩
  have s1 : (w.alloc O1).heap.size = w.heap.size + 1 := by simp
  have s2 : ((w.alloc O1).alloc (.cells #[.slice none 0 0, .slice none 0 0] 97)).heap.size = w.heap.size + 2 := by simp
  have B1 := below_al w O1
  have B0 : Below w.heap.size w W0 := by rw [← hW0]; exact (B1.alloc B1.size _).alloc (B1.alloc B1.size _).size _
  have HT0 : Hid (To w W0 w.heap.size (w.heap.size + 1) (w.heap.size + 2) S #[.int .i64 (S : Int), .slice aa A.length ca, .slice af F.length cf] (.slice none 0 0) (.slice none 0 0) (.slice none 0 0) [] [] [] [] []) := by
    have x1 : W0.heap[w.heap.size]? = some (.cells #[.int .i64 (S : Int), .slice aa A.length ca, .slice af F.length cf] 25 (0, 0)) := by
      rw [← hW0, heap_alloc_old _ _ (by rw [s2]; omega), heap_alloc_old _ _ (by rw [s1]; omega), ← hO1]
      exact heap_alloc_new _ _
    have x2 : W0.heap[w.heap.size + 1]? = some (.cells #[.slice none 0 0, .slice none 0 0] 97 (0, 0)) := by
      rw [← hW0, heap_alloc_old _ _ (by rw [s2]; omega), ← s1]
      exact heap_alloc_new _ _
    have x3 : W0.heap[w.heap.size + 2]? = some (.cells #[.slice none 0 0, .slice none 0 0] 97 (0, 0)) := by
      rw [← hW0, ← s2]
      exact heap_alloc_new _ _
    exact ⟨x1, x2, x3, by omega, by omega, World.ownsRow_nil _ _ _ _, Bls.nil _ _, World.ownsRow_nil _ _ _ _, Rls.nil _, World.ownsRow_nil _ _ _ _, fun b hb => (by cases hb), B0⟩
  clear hG hA hF hf B1 B0
  have hmk := run_mk26
  go_enter Tryd.func51, Tryd.ntmps51
  go_upto_region 2 with fail
  obtain ⟨p4, h4⟩ : ∃ p, w.heap.size + 2 = p := ⟨_, rfl⟩
  obtain ⟨p2, h2⟩ : ∃ p, w.heap.size + 1 = p := ⟨_, rfl⟩
  obtain ⟨bx, hbx⟩ : ∃ p, w.heap.size = p := ⟨_, rfl⟩
  rw [h4, h2, hbx] at HT0
  rw [h4, h2, hbx]
  have HP2 : Hid (w.heap.size ≤ p2) := by show _ ≤ _; omega
  clear h4 h2 s1 s2 hbx hW0 hO1
  have b0 := cell_of_row _ _ 0 _ _ _ HT0.out.box
  have b1 := cell_of_row _ _ 1 _ _ _ HT0.out.box
  have b2 := cell_of_row _ _ 2 _ _ _ HT0.out.box
  have K78 := first_any S A aa af ca F.length cf W0 HALL.out.1 (HALL.out.2.1.below HT0.out.below)
  go_upto_region 4 with (go_at_call 78; (with_reducible refine K78.mono ?_); clear K78; rintro e w1 ⟨a1, c1, rfl, ho1, hb1⟩; have HF1 : Hid (w1.ownsRow W0.heap.size 4 1 (.slice a1 S c1) S (bcs (first S A)) ∧ Below W0.heap.size W0 w1) := ⟨ho1, hb1⟩; clear ho1 hb1)
  have HT1 : Hid (To w (w1.alloc (.cells #[.slice a1 S c1] 67)) bx p2 p4 S #[.int .i64 (S : Int), .slice aa A.length ca, .slice af F.length cf] (.slice (some ⟨w1.heap.size, 0, none⟩) 1 1) (.slice none 0 0) (.slice none 0 0) (tab S A 0).1 [.slice a1 S c1] (tab S A 0).2 [] (((tab S A 0).1.take 0).map (fi F))) := by
    have h := (HT0.out.laid HF1.out.2).laid (below_al w1 (.cells #[.slice a1 S c1] 67))
    have hbl : Bl (w1.alloc (.cells #[.slice a1 S c1] 67)) (.slice a1 S c1) S (first S A) := (Bl.own HF1.out.1 (clo_len _ _ _) hS0).kept (kp_below (below_al w1 _) (fun _ => False)) (fun _ _ => id)
    exact ⟨h.box, h.out, h.tab, h.ne, h.le4, own_nil_new w1 _ w.heap.size 67 (Nat.le_trans HT0.out.below.size HF1.out.2.size), (Bls.nil _ S).add hbl, h.trow, h.ttl, h.frow, fun b hb => (by cases hb), h.below⟩
  clear HT0 b0 b1 b2 HF1
  generalize w1.alloc (.cells #[.slice a1 S c1] 67) = W1 at *
  go_loopw [5, 6] (fun a b wr => ∃ (k : Nat) (vs vt vf : Value) (sv tv : List Value), a = vs ∧ b = .int .i64 (k : Int) ∧ To w wr bx p2 p4 S #[.int .i64 (S : Int), .slice aa A.length ca, .slice af F.length cf] vs vt vf (tab S A k).1 sv (tab S A k).2 tv (((tab S A k).1.take k).map (fi F)) ∧ At S A k ∧ (tab S A k).1.length ≤ 560) (fun _ b _ => 600 - (intOf b).toNat)
  case atStart => exact ⟨0, _, _, _, _, _, rfl, rfl, HT1.out, fun i hi => absurd hi (Nat.not_lt_zero i), by show (1 : Nat) ≤ 560; omega⟩
  case round =>
    clear HT1
    obtain ⟨k, vs, vt, vf, sv, tv, rfl, rfl, hto, hat, hlen⟩ := hrel
    obtain ⟨sets, hsets⟩ : ∃ l, (tab S A k).1 = l := ⟨_, rfl⟩
    obtain ⟨tos, htos⟩ : ∃ l, (tab S A k).2 = l := ⟨_, rfl⟩
    obtain ⟨fins, hfins⟩ : ∃ l, (((tab S A k).1.take k).map (fi F)) = l := ⟨_, rfl⟩
    have HS : Hid ((tab S A k).1 = sets ∧ (tab S A k).2 = tos ∧ (((tab S A k).1.take k).map (fi F)) = fins) := ⟨hsets, htos, hfins⟩
    rw [hfins, hsets, htos] at hto
    rw [hsets] at hlen
    have HAT : Hid (At S A k) := hat
    obtain ⟨avs, cvs, rfl⟩ := oslice hto.srow
    obtain ⟨avt, cvt, rfl⟩ := oslice hto.trow
    obtain ⟨avf, cvf, rfl⟩ := oslice hto.frow
    obtain ⟨n, hn⟩ : ∃ n, sets.length = n := ⟨_, rfl⟩
    have HN : Hid (sets.length = n) := hn
    have HTL : Hid (tos.length = k) := by show _ = _; rw [← htos]; exact tab_len S A k
    have HTO : Hid (To w wr bx p2 p4 S #[.int .i64 (S : Int), .slice aa A.length ca, .slice af F.length cf] (.slice avs n cvs) (.slice avt tos.length cvt) (.slice avf fins.length cvf) sets sv tos tv fins) := by have h := hto; rw [hn] at h; exact h
    rw [hn] at hlen
    rw [hn]
    clear hto hsets htos hfins hat hn
    have t0 := cell_of_row _ _ 0 _ _ _ HTO.out.tab
    have t1 := cell_of_row _ _ 1 _ _ _ HTO.out.tab
    by_cases hlt : k < n
    · by_cases hbig : 500 < n
      · have hbig' : (500 : Int) < (n : Int) := by omega
        have o0 := cell_of_row _ _ 0 _ _ _ HTO.out.out
        have o1 := cell_of_row _ _ 1 _ _ _ HTO.out.out
        have z0 := frozen_of_row _ _ 0 _ _ HTO.out.out
        have z1 := frozen_of_row _ _ 1 _ _ HTO.out.out
        have HMANY : Hid (Many S A) := ⟨k, HAT.out, by rw [HS.out.1, HN.out]; exact hbig⟩
        go_wp2
        have hr := HTO.out.ret HP2.out
        exact bodyPost_ret (results_row_tmp rfl _ _ p2 97 _ (0, 0) _ rfl hr.1 Tryd.underlying97 rfl row97) rfl ⟨_, _, _, _, _, _, false, rfl, hr.2.1, .inr ⟨rfl, HMANY.out⟩⟩
      · have hbig' : ¬ (500 : Int) < (n : Int) := by omega
        obtain ⟨P, hP⟩ : ∃ P, sets[k]? = some P := ⟨_, List.getElem?_eq_getElem (by rw [HN.out]; exact hlt)⟩
        have HP : Hid (sets[k]? = some P ∧ (tab S A k).1.getD k [] = P ∧ P.length = S) := ⟨hP, by rw [HS.out.1]; exact getD_some hP, tab_each S A k P (by rw [HS.out.1]; exact List.mem_of_getElem? hP)⟩
        have HKN : Hid (k < n ∧ n ≤ 500) := ⟨hlt, by omega⟩
        have HQ0 : Hid (Tq w (wr.alloc (.cells (madeCells #[.int .i64 0] 61) 3)) bx p2 p4 S #[.int .i64 (S : Int), .slice aa A.length ca, .slice af F.length cf] (.slice avs n cvs) (.slice avt tos.length cvt) (.slice avf fins.length cvf) (tr S A sets P 0).1 sv tos tv fins wr.heap.size (List.replicate 61 0)) := ⟨HTO.out.laid (below_al _ _), own_mk26 wr w.heap.size HTO.out.below.size, by simp, fun v hv e => by obtain ⟨d, hd⟩ := HTO.out.ttl.ty hv e; have := lt_at hd; omega⟩
        clear hP hbig t0 t1 hlen
        go_upto_region 10 with fail
        clear hlt
        generalize wr.alloc (.cells (madeCells #[.int .i64 0] 61) 3) = W2 at *
        generalize wr.heap.size = tb at *
        clear HTO
        go_loopw [5, 8] (fun a c wx => ∃ (y cc : Nat) (vs : Value) (sv : List Value) (rw : List Int), a = vs ∧ c = .int .i64 (cc : Int) ∧ cc = y + 1 ∧ y ≤ 60 ∧ Tq w wx bx p2 p4 S #[.int .i64 (S : Int), .slice aa A.length ca, .slice af F.length cf] vs (.slice avt tos.length cvt) (.slice avf fins.length cvf) (tr S A sets P y).1 sv tos tv fins tb rw ∧ Lr rw (tr S A sets P y).2 y) (fun _ c _ => 62 - (intOf c).toNat)
        case atStart => exact ⟨0, 1, _, _, _, rfl, rfl, rfl, by omega, HQ0.out, ⟨rfl, fun k h => absurd h (Nat.not_lt_zero k)⟩⟩
        case round =>
          clear HQ0
          obtain ⟨y, cc, vs, sv, rw, rfl, rfl, hcc, hy, htq, hlr⟩ := hrel
          obtain ⟨avs, cvs, rfl⟩ := oslice htq.base.srow
          obtain ⟨m, hm⟩ : ∃ m, (tr S A sets P y).1.length = m := ⟨_, rfl⟩
          have HM : Hid ((tr S A sets P y).1.length = m) := hm
          have hm560 : m ≤ 560 := by
            have h1 := tr_grow S A sets P y
            rw [HN.out] at h1
            have := HKN.out.2
            omega
          rw [hm]
          have HTQ : Hid (Tq w wr bx p2 p4 S #[.int .i64 (S : Int), .slice aa A.length ca, .slice af F.length cf] (.slice avs m cvs) (.slice avt tos.length cvt) (.slice avf fins.length cvf) (tr S A sets P y).1 sv tos tv fins tb rw) := by have h := htq; rw [hm] at h; exact h
          have HLR : Hid (Lr rw (tr S A sets P y).2 y) := hlr
          have HCC : Hid (cc = y + 1) := hcc
          have hcb : cc ≤ 61 := by omega
          clear htq hlr hm
          by_cases hy60 : y < 60
          · have hc60 : (cc : Int) ≤ 60 := by omega
            clear hcc
            obtain ⟨x0, _, cw⟩ := HTQ.out.cell (c := cc) (by omega)
            have fz := HTQ.out.frozen cc
            have HQ1 : Hid (Tq w (wr.setCell ⟨tb, cc, none⟩ (.int .i64 (-1))) bx p2 p4 S #[.int .i64 (S : Int), .slice aa A.length ca, .slice af F.length cf] (.slice avs m cvs) (.slice avt tos.length cvt) (.slice avf fins.length cvf) (tr S A sets P y).1 sv tos tv fins tb (rw.set cc (-1))) := HTQ.out.put cc (-1)
            go_upto_region 13 with fail
            clear cw fz HTQ
            generalize wr.setCell ⟨tb, cc, none⟩ (.int .i64 (-1)) = V1 at *
            have hPK : (tr S A sets P y).1[k]? = some P := pre_at (tr_pre S A sets P 0 y (Nat.zero_le _)) HP.out.1
            have hkm : k < m := by rw [← HM.out]; exact (List.getElem?_eq_some_iff.1 hPK).1
            obtain ⟨pv, hpv⟩ : ∃ pv, sv[k]? = some pv := ⟨_, List.getElem?_eq_getElem (by rw [HQ1.out.base.stl.1, HM.out]; exact hkm)⟩
            obtain ⟨P2, h1, hbl⟩ := HQ1.out.base.stl.2 k pv hpv
            rw [hPK] at h1
            cases h1
            obtain ⟨pb, pc, rfl, hisb⟩ := hbl.isb (by omega)
            have hsr := HQ1.out.base.srow
            rw [HM.out] at hsr
            obtain ⟨sb, sc, hse, _, _⟩ := own_some hsr (by omega)
            rw [Value.slice.injEq] at hse
            obtain ⟨ha1, _, ha2⟩ := hse
            subst ha1 ha2
            have e0 := (hsr.cellAt k (by omega)).trans hpv
            have b0 := cell_of_row _ _ 0 _ _ _ HQ1.out.base.box
            have b1 := cell_of_row _ _ 1 _ _ _ HQ1.out.base.box
            have b2 := cell_of_row _ _ 2 _ _ _ HQ1.out.base.box
            have K79 : Hid (∀ W, Below V1.heap.size V1 W → Calls Tryd.prog 79 #[(.agg #[.int .i64 (S : Int), .slice aa A.length ca, .slice af F.length cf]), .slice (some ⟨pb, 0, none⟩) S pc, .int .i64 (cc : Int)] W fun e w' => ∃ (a : Option Addr) (c1 : Nat), e = .returned (.slice a S c1) ∧ w'.ownsRow W.heap.size 4 1 (.slice a S c1) S (bcs (nx S A P cc)) ∧ Below W.heap.size W w') := fun W hW => next_any S A aa af _ ca F.length cf pc cc P W HALL.out.1 (HALL.out.2.1.below (HQ1.out.base.below.trans (hW.mono HQ1.out.base.below.size))) (hisb.below hW) HP.out.2.2 (by omega)
            clear hbl hisb hsr hPK hpv
            go_cut [9] from 32 to 38 (fun s wx => ∃ (a : Option Addr) (c : Nat), s = .slice a S c ∧ wx.ownsRow V1.heap.size 4 1 (.slice a S c) S (bcs (nx S A P cc)) ∧ Below V1.heap.size V1 wx)
            case first =>
              go_region_with (go_at_call 79; refine (K79.out _ (below_drewN (Below.refl _ _) 1)).mono ?_; rintro e w9 ⟨a9, c9, rfl, ho9, hb9⟩; have HO9 : Hid (w9.ownsRow V1.heap.size 4 1 (.slice a9 S c9) S (bcs (nx S A P cc)) ∧ Below V1.heap.size V1 w9) := ⟨ho9, (below_drewN (Below.refl _ _) 1).trans hb9⟩; clear ho9 hb9)
              all_goals (go_wp2_with fail; go_meet)
              all_goals exact ⟨_, _, rfl, HO9.out.1, HO9.out.2⟩
            case rest =>
            obtain ⟨a9, c9, rfl, ho9, hb9⟩ := hcut
            obtain ⟨V2, hV2⟩ : ∃ V2, wc = V2 := ⟨_, rfl⟩
            rw [hV2] at ho9 hb9 ⊢
            have HQ2 : Hid (Tq w V2 bx p2 p4 S #[.int .i64 (S : Int), .slice aa A.length ca, .slice af F.length cf] (.slice (some ⟨sb, 0, none⟩) m cvs) (.slice avt tos.length cvt) (.slice avf fins.length cvf) (tr S A sets P y).1 sv tos tv fins tb (rw.set cc (-1))) := HQ1.out.laid hb9
            have HBL : Hid (Bl V2 (.slice a9 S c9) S (nx S A P cc)) := Bl.own ho9 (nx_len _ _ _ _) hS0
            have HAP : Hid (∀ b, (Value.slice avf fins.length cvf).ownBlock = some b → (Value.slice a9 S c9).ownBlock ≠ some b) := fun b hb e => by
              have h1 := (HQ1.out.base.frow.lt b hb).2
              have h2 := (ho9.lt b e).1
              omega
            have HIB : Hid (IsB V2 (.slice a9 S c9) (nx S A P cc)) := by
              obtain ⟨b, c, e, h⟩ := HBL.out.isb (by omega)
              rw [e]
              exact h
            have K80 := void_any a9 c9 S (nx S A P cc) V2 HIB.out (nx_len _ _ _ _) (by omega)
            clear ho9 hb9 hV2 K79 HQ1 e0 b0 b1 b2
            obtain ⟨vb, hvb⟩ : ∃ b, void (nx S A P cc) = b := ⟨_, rfl⟩
            rw [hvb] at K80
            have HVB : Hid (void (nx S A P cc) = vb) := hvb
            clear hvb
            cases vb with
            | true =>
              go_wp2_with (go_at_call 80; (with_reducible refine K80.mono ?_); clear K80; rintro e w10 ⟨rfl, hb10⟩; have HQ3 : Hid (Tq w w10 bx p2 p4 S #[.int .i64 (S : Int), .slice aa A.length ca, .slice af F.length cf] (.slice (some ⟨sb, 0, none⟩) m cvs) (.slice avt tos.length cvt) (.slice avf fins.length cvf) (tr S A sets P y).1 sv tos tv fins tb (rw.set cc (-1))) := HQ2.out.laid hb10; clear hb10)
              go_roundw
              case rel =>
                have hts := ts_void (s := tr S A sets P y) HVB.out
                rw [HCC.out] at hts
                have hrl : rw.length = 61 := by have h := HQ2.out.len; rw [List.length_set] at h; exact h
                have hl2 := HLR.out.add (o := none) hrl hy60
                refine ⟨y + 1, cc + 1, _, sv, rw.set cc (-1), rfl, by go_num, by rw [HCC.out], hy60, ?_, ?_⟩
                · rw [tr_up, hts]
                  exact HQ3.out
                · rw [tr_up, hts, HCC.out]
                  exact hl2
              case measure => simp [intOf]; omega
            | false =>
              go_upto_region 16 with (go_at_call 80; (with_reducible refine K80.mono ?_); clear K80; rintro e w10 ⟨rfl, hb10⟩; have HQ3 : Hid (Tq w w10 bx p2 p4 S #[.int .i64 (S : Int), .slice aa A.length ca, .slice af F.length cf] (.slice (some ⟨sb, 0, none⟩) m cvs) (.slice avt tos.length cvt) (.slice avf fins.length cvf) (tr S A sets P y).1 sv tos tv fins tb (rw.set cc (-1)) ∧ Bl w10 (.slice a9 S c9) S (nx S A P cc)) := ⟨HQ2.out.laid hb10, HBL.out.kept (kp_below hb10 (fun _ => False)) (fun _ _ => id)⟩; clear hb10)
              clear HQ2 HBL HIB
              have hm560i : (m : Int) ≤ 560 := by omega
              go_loopw [10] (fun a wx => ∃ q : Nat, a = .int .i64 (q : Int) ∧ q ≤ m ∧ Below w10.heap.size w10 wx ∧ ∀ j, j < q → (tr S A sets P y).1[j]? ≠ some (nx S A P cc)) (fun a _ => m - (intOf a).toNat)
              case atStart => exact ⟨0, rfl, Nat.zero_le _, Below.refl _ _, fun j h => absurd h (Nat.not_lt_zero j)⟩
              case round =>
                obtain ⟨q, rfl, hq, hbw, hno⟩ := hrel
                have HQ4 : Hid (Tq w wr bx p2 p4 S #[.int .i64 (S : Int), .slice aa A.length ca, .slice af F.length cf] (.slice (some ⟨sb, 0, none⟩) m cvs) (.slice avt tos.length cvt) (.slice avf fins.length cvf) (tr S A sets P y).1 sv tos tv fins tb (rw.set cc (-1)) ∧ Bl wr (.slice a9 S c9) S (nx S A P cc)) := ⟨HQ3.out.1.laid hbw, HQ3.out.2.kept (kp_below hbw (fun _ => False)) (fun _ _ => id)⟩
                have HBW : Hid (Below w10.heap.size w10 wr) := hbw
                have HNO : Hid (∀ j, j < q → (tr S A sets P y).1[j]? ≠ some (nx S A P cc)) := hno
                clear hbw hno
                by_cases hqm : q < m
                · obtain ⟨Q, hQ⟩ : ∃ Q, (tr S A sets P y).1[q]? = some Q := ⟨_, List.getElem?_eq_getElem (by rw [HM.out]; exact hqm)⟩
                  obtain ⟨qv, hqv⟩ : ∃ qv, sv[q]? = some qv := ⟨_, List.getElem?_eq_getElem (by rw [HQ4.out.1.base.stl.1, HM.out]; exact hqm)⟩
                  obtain ⟨Q2, h1, hbl⟩ := HQ4.out.1.base.stl.2 q qv hqv
                  rw [hQ] at h1
                  cases h1
                  have hQl : Q.length = S := hbl.1
                  obtain ⟨qb, qc, rfl, hisb⟩ := hbl.isb (by omega)
                  have hsr := HQ4.out.1.base.srow
                  rw [HM.out] at hsr
                  have e0 := (hsr.cellAt q (by omega)).trans hqv
                  have hnl : (nx S A P cc).length = S := nx_len _ _ _ _
                  have K81 := sameSet_any (some ⟨qb, 0, none⟩) a9 qc c9 S Q (nx S A P cc) wr hisb (by obtain ⟨b, c, e, h⟩ := HQ4.out.2.isb (by omega); rw [e]; exact h) hQl hnl (by omega)
                  obtain ⟨eb, heb⟩ : ∃ eb, decide (Q = nx S A P cc) = eb := ⟨_, rfl⟩
                  rw [heb] at K81
                  clear hbl hisb hsr hqv hQl hnl
                  cases eb with
                  | false =>
                    have HX : Hid (∀ j, j < q + 1 → (tr S A sets P y).1[j]? ≠ some (nx S A P cc)) := fun j hj => by
                      by_cases e : j = q
                      · subst e; rw [hQ]; intro h; exact of_decide_eq_false heb (Option.some.inj h)
                      · exact HNO.out j (by omega)
                    clear heb hQ
                    go_wp2_with (go_at_call 81; (with_reducible refine K81.mono ?_); clear K81; rintro e w11 ⟨rfl, hb11⟩; have HB11 : Hid (Below w10.heap.size w10 w11) := HBW.out.trans (hb11.mono HBW.out.size); clear hb11)
                    go_roundw
                    case rel => exact ⟨q + 1, by go_num, hqm, HB11.out, HX.out⟩
                    case measure => simp [intOf]; omega
                  | true =>
                    have HX : Hid ((tr S A sets P y).1.idxOf (nx S A P cc) = q) := idx_of HNO.out (.inr (by rw [hQ, of_decide_eq_true heb]))
                    clear heb hQ
                    have hqm2 : ((q : Int) == (m : Int)) = false := by have h : ¬ (q : Int) = (m : Int) := (by omega); simpa using h
                    go_wp2_with (go_at_call 81; (with_reducible refine K81.mono ?_); clear K81; rintro e w11 ⟨rfl, hb11⟩; have HQ5 : Hid (Tq w w11 bx p2 p4 S #[.int .i64 (S : Int), .slice aa A.length ca, .slice af F.length cf] (.slice (some ⟨sb, 0, none⟩) m cvs) (.slice avt tos.length cvt) (.slice avf fins.length cvf) (tr S A sets P y).1 sv tos tv fins tb (rw.set cc (-1))) := HQ4.out.1.laid hb11; obtain ⟨x5, _, cw5⟩ := HQ5.out.cell (c := cc) (by omega); have fz5 := HQ5.out.frozen cc; clear hb11 e0)
                    have HQ6 : Hid (Tq w (w11.setCell ⟨tb, cc, none⟩ (.int .i64 (q : Int))) bx p2 p4 S #[.int .i64 (S : Int), .slice aa A.length ca, .slice af F.length cf] (.slice (some ⟨sb, 0, none⟩) m cvs) (.slice avt tos.length cvt) (.slice avf fins.length cvf) (tr S A sets P y).1 sv tos tv fins tb (rw.set cc (q : Int))) := by have h := HQ5.out.put cc (q : Int); rw [set_set] at h; exact h
                    have hts := ts_old (s := tr S A sets P y) HVB.out HX.out (by rw [HM.out]; exact hqm)
                    rw [HCC.out] at hts
                    have hrl : rw.length = 61 := by have h := HQ5.out.len; rw [List.length_set] at h; exact h
                    have HL2 : Hid _ := HLR.out.add (o := some q) hrl hy60
                    have HTS : Hid _ := hts
                    clear hts hrl cw5 fz5
                    go_roundw
                    case rel =>
                      refine ⟨y + 1, cc + 1, _, sv, rw.set cc (q : Int), rfl, by go_num, by rw [HCC.out], hy60, ?_, ?_⟩
                      · rw [tr_up, HTS.out]
                        exact HQ6.out
                      · rw [tr_up, HTS.out, HCC.out]
                        exact HL2.out
                    case measure => simp [intOf]; omega
                · obtain rfl : q = m := by omega
                  have HX : Hid ((tr S A sets P y).1.idxOf (nx S A P cc) = (tr S A sets P y).1.length) := by show _ = _; rw [HM.out]; exact idx_of HNO.out (.inl HM.out.symm)
                  have hso : Hid (wr.ownsRow w.heap.size 67 1 (.slice (some ⟨sb, 0, none⟩) q cvs) q sv) := by have h := HQ4.out.1.base.srow; rw [HM.out] at h; exact h
                  go_wp2_with (refine wpList_append_own_at _ rfl _ _ 100 rfl w.heap.size 67 i67 (.slice none 0 0) 1 24 Tryd.underlying100 hi67 hy0 hy1 hy2 rfl (by decide) _ _ _ rfl (hso.out.alloc _) ⟨_, 0, none⟩ 1 1 [.slice a9 S c9] rfl rfl (cell_one_new _ _ _) (sl_one _ rfl) (by unfold maxLen; omega) (by omega) (by have := HQ4.out.1.base.below.size; simp; omega) ?_; intro v12 w12 ho12 hg12 _ hl12; obtain ⟨g12, c12, rfl, _, _⟩ := own_some ho12 (Nat.succ_pos _); have HQ5 : Hid _ := (HQ4.out.1.laid (below_al wr (.cells #[.slice a9 S c9] 67))).addSet (by rw [HM.out]; exact ho12) hg12 (HQ4.out.2.kept (kp_below (below_al wr _) (fun _ => False)) (fun _ _ => id)) HAP.out; obtain ⟨x5, _, cw5⟩ := HQ5.out.cell (c := cc) (by omega); have fz5 := HQ5.out.frozen cc; clear ho12 hg12 hl12)
                  have HQ6 : Hid (Tq w (w12.setCell ⟨tb, cc, none⟩ (.int .i64 (q : Int))) bx p2 p4 S #[.int .i64 (S : Int), .slice aa A.length ca, .slice af F.length cf] (.slice (some ⟨g12, 0, none⟩) (q + 1) c12) (.slice avt tos.length cvt) (.slice avf fins.length cvf) ((tr S A sets P y).1 ++ [nx S A P cc]) (sv ++ [.slice a9 S c9]) tos tv fins tb (rw.set cc (q : Int))) := by have h := HQ5.out.put cc (q : Int); rw [set_set] at h; exact h
                  have hts := ts_new (s := tr S A sets P y) HVB.out HX.out
                  rw [HCC.out, HM.out] at hts
                  have hrl : rw.length = 61 := by have h := HQ5.out.len; rw [List.length_set] at h; exact h
                  have HL2 : Hid _ := HLR.out.add (o := some q) hrl hy60
                  have HTS : Hid _ := hts
                  clear hts hrl cw5 fz5
                  go_roundw
                  case rel =>
                    refine ⟨y + 1, cc + 1, _, sv ++ [.slice a9 S c9], rw.set cc (q : Int), rfl, by go_num, by rw [HCC.out], hy60, ?_, ?_⟩
                    · rw [tr_up, HTS.out]
                      have h := HQ6.out
                      rw [HCC.out] at h ⊢
                      exact h
                    · rw [tr_up, HTS.out, HCC.out]
                      exact HL2.out
                  case measure => simp [intOf]; omega
          · have hc60 : ¬ (cc : Int) ≤ 60 := by omega
            obtain rfl : y = 60 := by omega
            obtain ⟨r, hr⟩ : ∃ r, (tr S A sets P 60).2 = r := ⟨_, rfl⟩
            obtain ⟨sets2, hsets2⟩ : ∃ r, (tr S A sets P 60).1 = r := ⟨_, rfl⟩
            have HR : Hid ((tr S A sets P 60).2 = r ∧ (tr S A sets P 60).1 = sets2) := ⟨hr, hsets2⟩
            rw [hr] at HLR
            rw [hsets2] at HTQ HM
            have HRL : Hid (Rl wr (.slice (some ⟨tb, 0, none⟩) 61 61) r) := HTQ.out.rl HLR.out.2
            have hPK : sets2[k]? = some P := by rw [← hsets2]; exact pre_at (tr_pre S A sets P 0 60 (Nat.zero_le _)) HP.out.1
            have hkm : k < m := by rw [← HM.out]; exact (List.getElem?_eq_some_iff.1 hPK).1
            have t0 := cell_of_row _ _ 0 _ _ _ HTQ.out.base.tab
            have HKP : Hid (sets2[k]? = some P ∧ k < m) := ⟨hPK, hkm⟩
            have hk5 := HKN.out.1
            have hk6 := HKN.out.2
            have htr : Hid (wr.ownsRow w.heap.size 26 1 (.slice avt tos.length cvt) tos.length tv) := HTQ.out.base.trow
            clear hcc hr hsets2 hPK
            go_upto_region 22 with (refine wpList_append_own_at _ rfl _ _ 29 rfl w.heap.size 26 i26 (.slice none 0 0) 1 24 Tryd.underlying29 hi26 hx0 hx1 hx2 rfl (by decide) _ _ _ rfl (htr.out.alloc _) ⟨_, 0, none⟩ 1 1 [.slice (some ⟨tb, 0, none⟩) 61 61] rfl rfl (cell_one_new _ _ _) (sl_one _ rfl) (by have := HTL.out; unfold maxLen; omega) (by have := HTL.out; omega) (by have := HTQ.out.base.below.size; simp; omega) ?_; intro v13 w13 ho13 hg13 _ hl13; obtain ⟨g13, c13, rfl, _, _⟩ := own_some ho13 (Nat.succ_pos _); have hlt13 := HTQ.out.base.laid (below_al wr (.cells #[.slice (some ⟨tb, 0, none⟩) 61 61] 26)); have x13 := hlt13.tabGrown hg13; have y13 := cell_of_row _ _ 0 _ _ _ x13; have z13 := frozen_of_row _ _ 0 _ _ x13; have HT3 : Hid _ := hlt13.addRow ho13 hg13 (HRL.out.kept (kp_below (below_al wr _) (fun _ => False)) (fun _ _ => id)); clear ho13 hg13 hl13 hlt13 x13)
            clear t0 y13 z13 HTQ HRL
            generalize w13.setCell ⟨p4, 0, none⟩ (.slice (some ⟨g13, 0, none⟩) (tos.length + 1) c13) = V3 at *
            obtain ⟨pv, hpv⟩ : ∃ pv, sv[k]? = some pv := ⟨_, List.getElem?_eq_getElem (by rw [HT3.out.stl.1, HM.out]; exact hkm)⟩
            obtain ⟨P2, h1, hbl⟩ := HT3.out.stl.2 k pv hpv
            rw [HKP.out.1] at h1
            cases h1
            obtain ⟨pb, pc, rfl, hisb⟩ := hbl.isb (by omega)
            have hsr := HT3.out.srow
            rw [HM.out] at hsr
            obtain ⟨sb, sc, hse, _, _⟩ := own_some hsr (by omega)
            rw [Value.slice.injEq] at hse
            obtain ⟨ha1, _, ha2⟩ := hse
            subst ha1 ha2
            have e0 := (hsr.cellAt k (by omega)).trans hpv
            have b0 := cell_of_row _ _ 0 _ _ _ HT3.out.box
            have b1 := cell_of_row _ _ 1 _ _ _ HT3.out.box
            have b2 := cell_of_row _ _ 2 _ _ _ HT3.out.box
            have d1 := cell_of_row _ _ 1 _ _ _ HT3.out.tab
            have hPl : P.length = S := HP.out.2.2
            have K82 : Hid (∀ W, Below V3.heap.size V3 W → Calls Tryd.prog 82 #[(.agg #[.int .i64 (S : Int), .slice aa A.length ca, .slice af F.length cf]), .slice (some ⟨pb, 0, none⟩) S pc] W fun e w' => e = .returned (.bool (fi F P)) ∧ Below W.heap.size W w') := fun W hW => ends_any S F aa af _ ca A.length cf pc P W (HALL.out.2.2.1.below (HT3.out.below.trans (hW.mono HT3.out.below.size))) HALL.out.2.2.2 (hisb.below hW) hPl hS0
            have HFL : Hid (fins.length = k) := by show _ = _; rw [← HS.out.2.2, List.length_map, List.length_take, HS.out.1, HN.out]; omega
            obtain ⟨fl, hfl⟩ : ∃ fl, fins.length = fl := ⟨_, rfl⟩
            have hfl5 : fl ≤ 500 := by rw [← hfl, HFL.out]; omega
            have HFN : Hid (fins.length = fl) := hfl
            rw [hfl] at d1
            have HT3b : Hid (To w V3 bx p2 p4 S #[.int .i64 (S : Int), .slice aa A.length ca, .slice af F.length cf] (.slice (some ⟨sb, 0, none⟩) m cvs) (.slice (some ⟨g13, 0, none⟩) (tos.length + 1) c13) (.slice avf fl cvf) sets2 sv (tos ++ [r]) (tv ++ [.slice (some ⟨tb, 0, none⟩) 61 61]) fins) := by have h := HT3.out; rw [hfl] at h; exact h
            obtain ⟨xb, hxb⟩ : ∃ b, fi F P = b := ⟨_, rfl⟩
            have HXB : Hid (fi F P = xb) := hxb
            rw [hxb] at K82
            clear hbl hisb hsr hpv hPl HT3 hxb hfl
            have frw : Hid (∀ W, Below V3.heap.size V3 W → W.ownsRow w.heap.size 4 1 (.slice avf fl cvf) fl (bcs fins)) := fun W hW => by have h := (HT3b.out.laid hW).frow; rw [HFN.out] at h; exact h
            have HNX : Hid ((tab S A (k + 1)).1 = sets2 ∧ (tab S A (k + 1)).2 = tos ++ [r] ∧ ((tab S A (k + 1)).1.take (k + 1)).map (fi F) = fins ++ [xb] ∧ At S A (k + 1) ∧ sets2.length ≤ 560) := by
              have e1 : (tab S A (k + 1)).1 = sets2 := by
                show (tr S A (tab S A k).1 ((tab S A k).1.getD k []) 60).1 = sets2
                rw [HP.out.2.1, HS.out.1]; exact HR.out.2
              have e2 : (tab S A (k + 1)).2 = tos ++ [r] := by
                show (tab S A k).2 ++ [(tr S A (tab S A k).1 ((tab S A k).1.getD k []) 60).2] = _
                rw [HP.out.2.1, HS.out.1, HS.out.2.1, HR.out.1]
              have hlk : k < (tab S A k).1.length := by rw [HS.out.1, HN.out]; exact hk5
              have e3 := take_pre (tab_pre S A k (k + 1) (Nat.le_succ k)) (Nat.le_of_lt hlk)
              refine ⟨e1, e2, ?_, HAT.out.up hlk, by rw [HM.out]; exact hm560⟩
              rw [e1] at e3 ⊢
              rw [take_one (fi F) HKP.out.1, HXB.out, ← e3, HS.out.2.2]
            refine wp_region_noPanic ?_
            go_region_law (first
              | (go_simp; refine (K82.out _ (below_drewN (Below.refl _ _) 1)).mono ?_; rintro e w14 ⟨rfl, hb14⟩; have HB14 : Hid (Below V3.heap.size V3 w14) := (below_drewN (Below.refl _ _) 1).trans hb14; clear hb14; have d14 : w14.cell? ⟨p4, 1, none⟩ = some (.slice avf fl cvf) := cell_of_row _ _ 1 _ _ _ (HT3b.out.laid HB14.out).tab; have d15 : ∀ o, (w14.alloc o).cell? ⟨p4, 1, none⟩ = some (.slice avf fl cvf) := fun o => cell_of_row _ _ 1 _ _ _ ((HT3b.out.laid HB14.out).laid (below_al w14 o)).tab; dsimp only)
              | (refine step_append_at rfl (.tmp 75) (.tmp 82) 67 rfl w.heap.size 4 i4 (.bool false) 1 1 Tryd.underlying67 hi4 hz0 hz1 hz2 rfl (by decide) _ _ _ rfl ((frw.out w14 HB14.out).alloc _) ⟨_, 0, none⟩ 1 1 [.bool xb] rfl rfl (cell_one_new _ _ _) (sl_one _ rfl) (by unfold maxLen; omega) (by omega) (((HT3b.out.below.trans (HB14.out.mono HT3b.out.below.size)).alloc (HT3b.out.below.trans (HB14.out.mono HT3b.out.below.size)).size (.cells #[.bool xb] 4)).size) ?_; intro v15 w15 ho15 hg15 hl15; obtain ⟨g15, c15, rfl, _, _⟩ := own_some ho15 (Nat.succ_pos _); have hlt15 := (HT3b.out.laid HB14.out).laid (below_al w14 (.cells #[.bool xb] 4)); have x15 := hlt15.tabGrownF hg15; have y15 := cell_of_row _ _ 1 _ _ _ x15; have z15 := frozen_of_row _ _ 1 _ _ x15; have HT5 : Hid _ := hlt15.addFin (by rw [HFN.out]; exact ho15) hg15 hl15; clear ho15 hg15 hl15 hlt15 x15))
            all_goals refine NoPanic.normal ?_
            all_goals go_wp2_with fail
            all_goals go_roundw
            all_goals first
              | exact ⟨k + 1, _, _, _, _, _, rfl, by go_num, by rw [HNX.out.2.2.1, HNX.out.1, HNX.out.2.1]; exact HT5.out, HNX.out.2.2.2.1, by rw [HNX.out.1]; exact HNX.out.2.2.2.2⟩
              | (simp [intOf]; omega)
    · have hn5 : n ≤ 500 ∨ 500 < n := by omega
      have HNL : Hid (¬ k < (tab S A k).1.length) := by show ¬ k < _; rw [HS.out.1, HN.out]; exact hlt
      have o0 := cell_of_row _ _ 0 _ _ _ HTO.out.out
      have o1 := cell_of_row _ _ 1 _ _ _ HTO.out.out
      have z0 := frozen_of_row _ _ 0 _ _ HTO.out.out
      have z1 := frozen_of_row _ _ 1 _ _ HTO.out.out
      rcases hn5 with h5 | h5
      · have h5' : (n : Int) ≤ 500 := by omega
        have HD : Hid (Done S A k) := Done.of HAT.out HNL.out (by rw [HS.out.1, HN.out]; exact h5)
        clear h5
        go_wp2
        repeat (go_quiet (fail); go_wp2)
        have hr := HTO.out.ret HP2.out
        have e1 : tos = (tab S A k).2 := HS.out.2.1.symm
        have e2 : fins = (tab S A k).1.map (fi F) := by rw [← HS.out.2.2, List.take_of_length_le (Nat.le_of_eq HD.out.len)]
        exact bodyPost_ret (results_row_tmp rfl _ _ p2 97 _ (0, 0) _ rfl hr.1 Tryd.underlying97 rfl row97) rfl ⟨_, _, _, _, _, _, true, rfl, hr.2.1, .inl ⟨rfl, k, HD.out, by rw [← e1, ← e2]; exact hr.2.2⟩⟩
      · have h5' : ¬ (n : Int) ≤ 500 := by omega
        have HMANY : Hid (Many S A) := ⟨k, HAT.out, by rw [HS.out.1, HN.out]; exact h5⟩
        clear h5
        go_wp2
        repeat (go_quiet (fail); go_wp2)
        have hr := HTO.out.ret HP2.out
        exact bodyPost_ret (results_row_tmp rfl _ _ p2 97 _ (0, 0) _ rfl hr.1 Tryd.underlying97 rfl row97) rfl ⟨_, _, _, _, _, _, false, rfl, hr.2.1, .inr ⟨rfl, HMANY.out⟩⟩
end Go.Proofs.YtfjocafepigijaaDoor.Su
/- The document's unlike (52): its closure (83): where a symbol leads; how the square lies. Condition: rows lead to rows. -/
namespace Go.Proofs.YtfjocafepigijaaDoor.Su
open Go.RowKit Mv Po Ps Cm

/-- the table that lies in memory -/
def tbo (tos : List (List (Option Nat))) (fins : List Bool) : Tb := ⟨tos.length, fun i c => (tos.getD i []).getD (c - 1) none, fun i => fins.getD i false⟩
theorem tbo_tbl (S : Nat) (A : List (Int × Int × Int × Int × Int)) (F : List (Int × Int)) (n : Nat) : tbo (tab S A n).2 ((tab S A n).1.map (fi F)) = tbl S A F n := by
  unfold tbo tbl
  rw [tab_len]
  congr 1
  funext i
  rw [List.getD_eq_getElem?_getD, List.getElem?_map]
  cases e : (tab S A n).1[i]? with
  | none =>
    show false = F.any fun f => ((tab S A n).1.getD i []).getD f.1.toNat false
    rw [List.getD_eq_getElem?_getD, e]
    symm
    rw [List.any_eq_false]
    intro f _
    simp
  | some bs =>
    show fi F bs = F.any fun f => ((tab S A n).1.getD i []).getD f.1.toNat false
    rw [List.getD_eq_getElem?_getD, e]
    rfl
theorem Tl.below {w w' : World} {base : Nat} {vt vf : Value} {tos : List (List (Option Nat))} {fins : List Bool} (h : Tl w base vt vf tos fins) (hb : Below w.heap.size w w') : Tl w' base vt vf tos fins := by
  obtain ⟨⟨tv, h1, h2⟩, h3⟩ := h
  exact ⟨⟨tv, own_kp2 h1 (kp_below hb (fun _ => False)) (fun _ _ => id), h2.kept (kp_below hb (fun _ => False)) (fun _ _ _ _ => id)⟩, own_kp2 h3 (kp_below hb (fun _ => False)) (fun _ _ => id)⟩
/-- a row's number, out of memory: the table's block, the row's -/
theorem Tl.at {w : World} {base i c : Nat} {at_ : Option Addr} {ct : Nat} {vf : Value} {tos : List (List (Option Nat))} {fins : List Bool} (h : Tl w base (.slice at_ tos.length ct) vf tos fins) (hi : i < tos.length) (hc : 1 ≤ c ∧ c ≤ 60) : ∃ tb rb rc, at_ = some ⟨tb, 0, none⟩ ∧ tb < w.heap.size ∧ rb < w.heap.size ∧ w.cell? ⟨tb, i, none⟩ = some (.slice (some ⟨rb, 0, none⟩) 61 rc) ∧ w.cell? ⟨rb, c, none⟩ = some (.int .i64 (enc ((tbo tos fins).to i c))) := by
  obtain ⟨⟨tv, h1, h2⟩, _⟩ := h
  obtain ⟨g, cap, e, _, hg⟩ := own_some h1 (by omega)
  rw [Value.slice.injEq] at e
  obtain ⟨rfl, _, rfl⟩ := e
  have hl : i < tv.length := by rw [h2.1]; exact hi
  obtain ⟨r, hr, b, c2, cs, e2, h3, h4⟩ := h2.2 i _ (List.getElem?_eq_getElem hl)
  refine ⟨g, b, c2, rfl, hg, lt_at h3, ?_, ?_⟩
  · rw [← e2]
    exact (h1.cellAt i (by omega)).trans (List.getElem?_eq_getElem hl)
  · have h5 := h4 (c - 1) (by omega)
    rw [show c - 1 + 1 = c by omega] at h5
    rw [h5]
    show some (Value.int .i64 (enc (r.getD (c - 1) none))) = some (Value.int .i64 (enc ((tos.getD i []).getD (c - 1) none)))
    rw [List.getD_eq_getElem?_getD (l := tos), hr]
    rfl
theorem Tl.finAt {w : World} {base i : Nat} {af_ : Option Addr} {cf_ : Nat} {vt : Value} {tos : List (List (Option Nat))} {fins : List Bool} (h : Tl w base vt (.slice af_ fins.length cf_) tos fins) (hi : i < fins.length) : ∃ fb, af_ = some ⟨fb, 0, none⟩ ∧ fb < w.heap.size ∧ w.cell? ⟨fb, i, none⟩ = some (.bool ((tbo tos fins).fin i)) := by
  obtain ⟨g, cap, e, _, hg⟩ := own_some h.fin (by omega)
  rw [Value.slice.injEq] at e
  obtain ⟨rfl, _, rfl⟩ := e
  refine ⟨g, rfl, hg, (h.fin.cellAt i (by omega)).trans ?_⟩
  rw [bcs_at (List.getElem?_eq_getElem hi)]
  show some (Value.bool fins[i]) = some (Value.bool (fins.getD i false))
  rw [List.getD_eq_getElem?_getD, List.getElem?_eq_getElem hi]
  rfl
theorem Tl.finAt' {w : World} {base i n : Nat} {af_ : Option Addr} {cf_ : Nat} {vt : Value} {tos : List (List (Option Nat))} {fins : List Bool} (h : Tl w base vt (.slice af_ n cf_) tos fins) (hn : fins.length = n) (hi : i < n) : ∃ fb, af_ = some ⟨fb, 0, none⟩ ∧ fb < w.heap.size ∧ w.cell? ⟨fb, i, none⟩ = some (.bool ((tbo tos fins).fin i)) := by
  subst hn
  exact h.finAt hi
set_option maxHeartbeats 1000000 in
set_option maxRecDepth 100000 in
/-- the closure: where a symbol leads from a row -/
theorem to_any (p3 p1 base i c ct nf cf_ : Nat) (at_ af_ : Option Addr) (tos : List (List (Option Nat))) (fins : List Bool) (w : World) (h3 : w.heap[p3]? = some (.cells #[.int .i64 (tos.length : Int)] 3 (0, 0))) (h1 : w.heap[p1]? = some (.cells #[.slice at_ tos.length ct, .slice af_ nf cf_] 97 (0, 0))) (hT : Tl w base (.slice at_ tos.length ct) (.slice af_ nf cf_) tos fins) (hi : i ≤ tos.length) (hc : 1 ≤ c ∧ c ≤ 60) :
    Calls Tryd.prog 83 #[.int .i64 (i : Int), .int .i64 (c : Int), .pointer (some ⟨p3, 0, none⟩), .pointer (some ⟨p1, 0, none⟩)] w fun e w' => e = .returned (.int .i64 ((nt (tbo tos fins) i c : Nat) : Int)) ∧ Below w.heap.size w w' := by
  have c3 := cell_of_row _ _ 0 _ _ _ h3
  have c1 := cell_of_row _ _ 0 _ _ _ h1
  obtain ⟨n, hnE⟩ : ∃ n, tos.length = n := ⟨_, rfl⟩
  have HN : Hid (tos.length = n) := hnE
  rcases Nat.lt_or_ge i tos.length with hlt | hge
  · obtain ⟨tb, rb, rc, rfl, _, _, d0, d1⟩ := hT.at hlt hc
    have hci0 : (0 : Int) ≤ (c : Int) := by omega
    have hne : ((i : Int) == (n : Int)) = false := by have h : ¬ (i : Int) = (n : Int) := (by omega); simpa using h
    have hst : stt (tbo tos fins).n i = some i := stt_lt hlt
    have HR : Hid (nt (tbo tos fins) i c = match (tbo tos fins).to i c with | some j => j | none => (tbo tos fins).n) := by
      show _ = _
      unfold nt
      rw [hst]
      rfl
    have hin : i < n := by omega
    obtain ⟨o, ho⟩ : ∃ o, (tbo tos fins).to i c = o := ⟨_, rfl⟩
    rw [ho] at d1 HR
    rw [hnE] at c1 c3
    clear hT h3 h1 hst hlt hi hnE ho
    cases o with
    | none =>
      have HR2 : Hid (nt (tbo tos fins) i c = n) := by rw [HR.out]; exact HN.out
      have d2 : w.cell? ⟨rb, c, none⟩ = some (.int .i64 (-1)) := d1
      clear d1 HR
      go_enter Tryd.func83, Tryd.ntmps83
      go_wp2
      repeat (go_quiet (fail); go_wp2)
      go_ret
      exact ⟨(by rw [HR2.out]; rfl), by first | exact Below.refl _ _ | exact below_drewN (Below.refl _ _) _⟩
    | some j =>
      have HR2 : Hid (nt (tbo tos fins) i c = j) := HR.out
      have d2 : w.cell? ⟨rb, c, none⟩ = some (.int .i64 (j : Int)) := d1
      have hj0 : ¬ (j : Int) < 0 := by omega
      clear d1 HR
      go_enter Tryd.func83, Tryd.ntmps83
      go_wp2
      repeat (go_quiet (fail); go_wp2)
      go_ret
      exact ⟨(by rw [HR2.out]; rfl), by first | exact Below.refl _ _ | exact below_drewN (Below.refl _ _) _⟩
  · obtain rfl : i = tos.length := by omega
    have HR2 : Hid (nt (tbo tos fins) tos.length c = n) := by
      show _ = _
      unfold nt
      rw [show stt (tbo tos fins).n tos.length = none from stt_n _]
      exact HN.out
    rw [hnE] at c1 c3 HR2 ⊢
    clear hT h3 h1 hge hi hnE
    go_enter Tryd.func83, Tryd.ntmps83
    go_wp2
    repeat (go_quiet (fail); go_wp2)
    go_ret
    exact ⟨(by rw [HR2.out]; rfl), by first | exact Below.refl _ _ | exact below_drewN (Below.refl _ _) _⟩
end Go.Proofs.YtfjocafepigijaaDoor.Su
/- The document's unlike (52): how the square lies, beside the table and its length. No conditions. -/
namespace Go.Proofs.YtfjocafepigijaaDoor.Su
open Go.RowKit Mv Po Ps Cm

theorem run_mk100 (n : Nat) (hn : n ≤ 100000) (W : World) : (Instr.makeSlice 100 (.int .i64 (n : Int)) (.int .i64 (n : Int))).run Tryd.prog W = .ok (.slice (some ⟨W.heap.size, 0, none⟩) n n) (W.alloc (.cells (madeCells #[.slice none 0 0] n) 67)) := by
  obtain ⟨i0, hi, hz0, hz1, hz2⟩ := info_parts inf67
  have hr := run_make (P := Tryd.prog) W 100 67 i0 (.slice none 0 0) Tryd.underlying100 hi hz0 .i64 .i64 (n : Int) (n : Int) (by omega) (Int.le_refl _) (by rw [hz2]; omega) (by omega)
  simp only [Int.toNat_natCast, hz1, Nat.mul_one] at hr
  exact hr
theorem own_mk100 (W : World) (base n : Nat) (hb : base ≤ W.heap.size) (hn : n ≤ 100000) : (W.alloc (.cells (madeCells #[.slice none 0 0] n) 67)).ownsRow base 67 1 (.slice (some ⟨W.heap.size, 0, none⟩) n n) n (List.replicate n (.slice none 0 0)) := by
  have e : (madeCells #[.slice none 0 0] n).toList = List.replicate n (.slice none 0 0) := by rw [toList_madeCells_one]
  refine ⟨by simp, .inr ⟨W.heap.size, n, madeCells #[.slice none 0 0] n, rfl, hb, heap_alloc_new _ _, Nat.le_refl _, by unfold maxLen; omega, ?_, ?_⟩⟩
  · rw [← Array.length_toList, e]; simp
  · rw [e]; simp
/-- a row of the square -/
def rwU (N : Nat) (U : Nat → Nat → Bool) (i : Nat) : List Bool := (List.range N).map (U i)
theorem rwU_len (N : Nat) (U : Nat → Nat → Bool) (i : Nat) : (rwU N U i).length = N := by simp [rwU]
theorem rwU_at {N i j : Nat} {U : Nat → Nat → Bool} (h : j < N) : (rwU N U i)[j]? = some (U i j) := by simp [rwU, h]
theorem rwU_set {N i j : Nat} {U : Nat → Nat → Bool} {b : Bool} (h : j < N) : (rwU N U i).set j b = rwU N (up2 U i j b) i := by
  apply List.ext_getElem?
  intro k
  by_cases hk : k < N
  · rw [rwU_at hk]
    by_cases e : j = k
    · subst e
      rw [List.getElem?_set_self (by rw [rwU_len]; exact h)]
      simp [up2]
    · rw [List.getElem?_set_ne e, rwU_at hk]
      have : ¬ k = j := fun h => e h.symm
      simp [up2, this]
  · rw [List.getElem?_eq_none (by rw [List.length_set, rwU_len]; omega), List.getElem?_eq_none (by rw [rwU_len]; omega)]
theorem rwU_other {N i j a : Nat} {U : Nat → Nat → Bool} {b : Bool} (h : a ≠ i) : rwU N (up2 U i j b) a = rwU N U a := by
  unfold rwU
  apply List.map_congr_left
  intro k _
  simp [up2, h]
theorem rwU_congr {N i : Nat} {U V : Nat → Nat → Bool} (h : ∀ j, j < N → U i j = V i j) : rwU N U i = rwU N V i := by
  unfold rwU
  apply List.map_congr_left
  intro k hk
  exact h k (List.mem_range.1 hk)
/-- the square on its way: so many rows are there -/
structure Un (w wr : World) (p1 p3 n N ub : Nat) (mb : Array Value) (uv : List Value) (bk : Nat → Nat) (U : Nat → Nat → Bool) (R : Nat) : Prop where
  box : wr.heap[p1]? = some (.cells mb 97 (0, 0))
  num : wr.heap[p3]? = some (.cells #[.int .i64 (n : Int)] 3 (0, 0))
  heads : wr.ownsRow w.heap.size 67 1 (.slice (some ⟨ub, 0, none⟩) N N) N uv
  head : ∀ i, i < R → uv[i]? = some (.slice (some ⟨bk i, 0, none⟩) N N)
  rows : ∀ i, i < R → wr.ownsRow w.heap.size 4 1 (.slice (some ⟨bk i, 0, none⟩) N N) N (bcs (rwU N U i))
  inj : ∀ i j, i < R → j < R → bk i = bk j → i = j
  below : Below w.heap.size w wr
section
variable {w wr w1 : World} {p1 p3 n N ub R : Nat} {mb : Array Value} {uv : List Value} {bk : Nat → Nat} {U V : Nat → Nat → Bool}
theorem Un.laid (h : Un w wr p1 p3 n N ub mb uv bk U R) (hb : Below wr.heap.size wr w1) : Un w w1 p1 p3 n N ub mb uv bk U R :=
  ⟨(hb.block _ (lt_at h.box)).trans h.box, (hb.block _ (lt_at h.num)).trans h.num, own_kp2 h.heads (kp_below hb (fun _ => False)) (fun _ _ => id), h.head, fun i hi => own_kp2 (h.rows i hi) (kp_below hb (fun _ => False)) (fun _ _ => id), h.inj, h.below.trans (hb.mono h.below.size)⟩
theorem Un.congr (h : Un w wr p1 p3 n N ub mb uv bk U R) (he : ∀ i j, i < R → j < N → U i j = V i j) : Un w wr p1 p3 n N ub mb uv bk V R :=
  ⟨h.box, h.num, h.heads, h.head, fun i hi => by rw [← rwU_congr (fun j hj => he i j hi hj)]; exact h.rows i hi, h.inj, h.below⟩
/-- a place of the square -/
theorem Un.put (h : Un w wr p1 p3 n N ub mb uv bk U R) {i j : Nat} (hi : i < R) (hj : j < N) (b : Bool) : Un w (wr.setCell ⟨bk i, j, none⟩ (.bool b)) p1 p3 n N ub mb uv bk (up2 U i j b) R := by
  have hk : Kp (fun x => x = bk i) wr (wr.setCell ⟨bk i, j, none⟩ (.bool b)) := (Kp.refl _ wr).setCell _ _ _ (fun _ => rfl)
  obtain ⟨d, hd⟩ := own_ty (h.rows i hi) (k := bk i) rfl
  have hge := ((h.rows i hi).lt (bk i) rfl).1
  have nt : ∀ {x : Nat} {d' : Array Value} {ty : TypeId}, wr.heap[x]? = some (.cells d' ty (0, 0)) → ty ≠ 4 → ¬ x = bk i := fun {x d' ty} hx hne e => by subst e; exact ty_ne hx hd hne
  refine ⟨(hk.block _ (lt_at h.box) (nt h.box (by decide))).trans h.box, (hk.block _ (lt_at h.num) (nt h.num (by decide))).trans h.num, own_kp2 h.heads hk (fun x hx => by obtain ⟨d', hd'⟩ := own_ty h.heads hx; exact nt hd' (by decide)), h.head, fun a ha => ?_, h.inj, below_kp h.below hk (fun x hx e => by omega)⟩
  by_cases e : a = i
  · subst e
    have hst := ((h.rows a ha).stored j (.bool b)).1
    have h2 : (bcs (rwU N U a)).set j (.bool b) = bcs (rwU N (up2 U a j b) a) := by
      unfold bcs
      rw [← List.map_set, rwU_set hj]
    rw [← h2]
    exact hst
  · rw [rwU_other e]
    refine own_kp2 (h.rows a ha) hk (fun x hx hx2 => e (h.inj a i ha hi ?_))
    have : bk a = x := by have h3 : some (bk a) = some x := hx; simpa using h3
    rw [this, hx2]
/-- a row more: all no -/
theorem Un.row (h : Un w wr p1 p3 n N ub mb uv bk U R) (hR : R < N) (hz : ∀ j, j < N → U R j = false) (hN : N ≤ 100000) : Un w ((wr.alloc (.cells (madeCells #[.bool false] N) 4)).setCell ⟨ub, R, none⟩ (.slice (some ⟨wr.heap.size, 0, none⟩) N N)) p1 p3 n N ub mb (uv.set R (.slice (some ⟨wr.heap.size, 0, none⟩) N N)) (fun i => if i = R then wr.heap.size else bk i) U (R + 1) := by
  have h1 := h.laid (below_al wr (.cells (madeCells #[.bool false] N) 4))
  have hn := own_mkB wr w.heap.size N h.below.size hN
  have hk : Kp (fun x => x = ub) (wr.alloc (.cells (madeCells #[.bool false] N) 4)) ((wr.alloc (.cells (madeCells #[.bool false] N) 4)).setCell ⟨ub, R, none⟩ (.slice (some ⟨wr.heap.size, 0, none⟩) N N)) := (Kp.refl _ _).setCell _ _ _ (fun _ => rfl)
  obtain ⟨d, hd⟩ := own_ty h1.heads (k := ub) rfl
  have hge := (h1.heads.lt ub rfl).1
  have nt : ∀ {x : Nat} {d' : Array Value} {ty : TypeId}, (wr.alloc (.cells (madeCells #[.bool false] N) 4)).heap[x]? = some (.cells d' ty (0, 0)) → ty ≠ 67 → ¬ x = ub := fun {x d' ty} hx hne e => by subst e; exact ty_ne hx hd hne
  have hul : uv.length = N := by have := h.heads.1; omega
  refine ⟨(hk.block _ (lt_at h1.box) (nt h1.box (by decide))).trans h1.box, (hk.block _ (lt_at h1.num) (nt h1.num (by decide))).trans h1.num, ?_, fun i hi => ?_, fun i hi => ?_, fun i j hi hj e => ?_, below_kp h1.below hk (fun x hx e => by omega)⟩
  · have hst := (h1.heads.stored R (.slice (some ⟨wr.heap.size, 0, none⟩) N N)).1
    exact hst
  · by_cases e : i = R
    · subst e
      rw [if_pos rfl, List.getElem?_set_self (by omega)]
    · rw [if_neg e, List.getElem?_set_ne (fun h => e h.symm)]
      exact h.head i (by omega)
  · by_cases e : i = R
    · subst e
      rw [if_pos rfl]
      have e2 : rwU N U i = List.replicate N false := by
        apply List.ext_getElem?
        intro k
        by_cases hk : k < N
        · rw [rwU_at hk, hz k hk, List.getElem?_replicate, if_pos hk]
        · rw [List.getElem?_eq_none (by rw [rwU_len]; omega), List.getElem?_eq_none (by simp; omega)]
      rw [e2]
      exact own_kp2 hn hk (fun x hx => by obtain ⟨d', hd'⟩ := own_ty hn hx; exact nt hd' (by decide))
    · rw [if_neg e]
      exact own_kp2 (h1.rows i (by omega)) hk (fun x hx => by obtain ⟨d', hd'⟩ := own_ty (h1.rows i (by omega)) hx; exact nt hd' (by decide))
  · by_cases e1 : i = R
    · by_cases e2 : j = R
      · omega
      · rw [if_pos e1, if_neg e2] at e
        have := ((h.rows j (by omega)).lt (bk j) rfl).2
        omega
    · by_cases e2 : j = R
      · rw [if_neg e1, if_pos e2] at e
        have := ((h.rows i (by omega)).lt (bk i) rfl).2
        omega
      · rw [if_neg e1, if_neg e2] at e
        exact h.inj i j (by omega) (by omega) e
theorem Un.headAt (h : Un w wr p1 p3 n N ub mb uv bk U R) {i : Nat} (hi : i < R) (hN : i < N) : wr.cell? ⟨ub, i, none⟩ = some (.slice (some ⟨bk i, 0, none⟩) N N) := (h.heads.cellAt i (by omega)).trans (h.head i hi)
theorem Un.at (h : Un w wr p1 p3 n N ub mb uv bk U R) {i j : Nat} (hi : i < R) (hj : j < N) : wr.cell? ⟨bk i, j, none⟩ = some (.bool (U i j)) := ((h.rows i hi).cellAt j (by omega)).trans (bcs_at (rwU_at hj))
theorem Un.frozen (h : Un w wr p1 p3 n N ub mb uv bk U R) {i : Nat} (hi : i < R) (j : Nat) : wr.frozen? ⟨bk i, j, none⟩ = false := (h.rows i hi).frozenAt j
end
end Go.Proofs.YtfjocafepigijaaDoor.Su
