/- put: a line more, if none has that claim. Conditions: few lines, few numbers; the claim's literals are numbers of 64 bits. -/
import Derived.Test.YtcnanbimpajonaaAg
import Derived.Deep.RegionLaw
import Derived.Deep.Cut
import Derived.Deep.CutRange
import Derived.Deep.DeepCutAuto
namespace Go.Proofs.Ytcnanbimpajonaa.Pt
open Go.RowKit Cl Co Cp Mq Nu Ag

/-- a call, as one step of a region that draws its order -/
theorem step_call {P : Program} {ops : Array Oper} {o : Oper} {a : Act} {w : World} {K : Act → World → Prop} {Q : Exit → Act → World → Prop} {E : Prop}
    (hgd : o.guard = none) (f : FuncId) (fn : Func) (hfn : P.funcs[f]? = some fn) (hname : (fn.name == "runtime.NumGoroutine") = false) (hb : fn.body.isNone = false) (x : Operand) (t : TypeId) (ho : o.op = .call { callee := .value (.func f), args := #[x], argTypes := #[t] }) (v : Value) (hx : a.eval x = v)
    (R : Value → World → Prop) (h : Calls P f #[v] w fun e w' => ∃ v', e = .returned v' ∧ R v' w') (hK : ∀ v' w', R v' w' → K (a.put o.dst v') w') :
    if Region.wanted o (yielded ops a.tmps) = true then Oper.wp P o a w K Q else E := by
  have hw : Region.wanted o (yielded ops a.tmps) = true := by simp [Region.wanted, hgd]
  rw [if_pos hw]
  obtain ⟨dst, op, ty, pos, aft, gd⟩ := o
  dsimp only at ho
  subst ho
  unfold Oper.wp
  rw [execOp_call_go]
  have e : #[] ++ #[x].map a.eval ++ #[] = #[v] := by simp [hx]
  rw [e]
  have h1 : ¬ fn.name = "runtime.NumGoroutine" := by simpa using hname
  have h2 : ¬ fn.body = none := by intro e; rw [e] at hb; cases hb
  have hr : (callFunc f #[v]).run P w = .ok (.enter f #[v]) w := by simp [callFunc, run_program, hfn, h1, h2]
  rw [hr]
  refine Calls.mono h ?_
  rintro e w' ⟨v', rfl, hr⟩
  exact hK v' w' hr
/-- an append onto an owned row, as one step of a region that draws its order; where what comes lies -/
theorem step_append_at {P : Program} {ops : Array Oper} {o : Oper} {a : Act} {w : World} {K : Act → World → Prop} {Q : Exit → Act → World → Prop} {E : Prop}
    (hgd : o.guard = none) (s x : Operand) (t : TypeId) (ho : o.op = .call { callee := .builtin .append, args := #[s, x], argTypes := #[t, t] })
    (base : Nat) (e : TypeId) (i : TypeInfo) (z : Value) (size bytes : Nat) (ht : P.underlying t = some (.slice e)) (hi : P.info? e = some i) (hz : i.zero = some z)
    (hsize : i.size = size) (hby : i.bytes = bytes) (hzs : z.cells.size = size) (hsz : 0 < size)
    (v : Value) (n : Nat) (xs : List Value) (hs : a.eval s = v) (hown : w.ownsRow base e size v n xs)
    (ad : Addr) (m c : Nat) (news : List Value) (hx : a.eval x = .slice (some ad) m c) (hl : news.length = m * size) (hnews : ∀ j u, news[j]? = some u → w.cell? (ad.add j) = some u) (h1 : ∀ u ∈ news, u.oneCell' = true)
    (h63 : n + m ≤ maxLen) (hbytes : (n + m) * bytes ≤ 140737488355328) (hbase : base ≤ w.heap.size)
    (h : ∀ v' w', w'.ownsRow base e size v' (n + m) (xs ++ news) → w.grownBy w' v.ownBlock → (v'.ownBlock = v.ownBlock ∨ v'.ownBlock = some w.heap.size) → K (a.put o.dst v') w') :
    if Region.wanted o (yielded ops a.tmps) = true then Oper.wp P o a w K Q else E := by
  have hw : Region.wanted o (yielded ops a.tmps) = true := by simp [Region.wanted, hgd]
  rw [if_pos hw]
  obtain ⟨v', w', hr, h2, h3, h4, h5⟩ := run_append_own_at (P := P) w base t o.type e i z size bytes ht hi hz hsize hby hzs hsz v n xs hown ad m c news hl hnews h1 h63 hbytes hbase
  unfold Oper.wp execOp
  simp only [ho, resolve, invoke, builtin, Sem.run_bind, Sem.run_pure, Result.andThen_ok, List.map_toArray, List.map_cons, List.map_nil, hs, hx, hr]
  exact h v' w' h2 h3 h5
theorem info36 : (Try.prog.info? 38).map (fun i => (i.zero, i.size, i.bytes)) = some (some (.agg #[.int .i64 0, .bool false, .int .i64 0, .int .i64 0, .slice none 0 0]), 5, 56) := by kernel_rfl

theorem cell_five_at (w : World) (g : Nat) (a b c d e : Value) (t : TypeId) (hg : g = w.heap.size) : ∀ j u, [a, b, c, d, e][j]? = some u → (w.alloc (.cells #[a, b, c, d, e] t)).cell? ((⟨g, 0, none⟩ : Addr).add j) = some u := by
  intro j u hj
  subst hg
  match j, hj with
  | 0, hj => simp at hj; subst hj; simp [Addr.add]
  | 1, hj => simp at hj; subst hj; simp [Addr.add]
  | 2, hj => simp at hj; subst hj; simp [Addr.add]
  | 3, hj => simp at hj; subst hj; simp [Addr.add]
  | 4, hj => simp at hj; subst hj; simp [Addr.add]

theorem five_one (a c d : Int) (b : Bool) (x : Option Addr) (n k : Nat) : ∀ u ∈ [Value.int .i64 a, .bool b, .int .i64 c, .int .i64 d, .slice x n k], u.oneCell' = true := by
  intro u hu
  simp at hu
  rcases hu with rfl | rfl | rfl | rfl | rfl <;> rfl

set_option maxHeartbeats 2000000 in
set_option maxRecDepth 100000 in
theorem put_any (base A mb : Nat) (g : C) (L : List Ln) (r : Int) (c : C) (fv : Value) (fr : List Int) (w : World) (hA : Arg base w A mb g L) (hc : Wc c) (hf : IsN w fv fr) (hl : L.length < 100000) (hfl : fr.length < 1000) :
    Calls Try.prog 28 #[.pointer (some ⟨A, 0, none⟩), .int .i64 r, vc c, fv] w fun e w' => e = .returned (.tuple #[]) ∧ Arg base w' A mb g (putL L r c fr) ∧ Kt base w w' := by
  obtain ⟨v, n, Z, hA⟩ := hA
  obtain ⟨c0, c1, c2⟩ := c
  have hb0 : Below w.heap.size w (w.alloc (.cells #[.bool c0, .int .i64 c1, .int .i64 c2] 24)) := (Below.refl _ w).alloc (Nat.le_refl _) _
  have hk0 : ∀ nq, Kt base w ((w.alloc (.cells #[.bool c0, .int .i64 c1, .int .i64 c2] 24)).drewN nq) := fun nq => Kt.of_below (below_drewN hb0 nq) (Nat.le_of_lt (Nat.lt_of_le_of_lt hA.lo.1 hA.lt))
  have hW : ∀ nq, ArgAt base ((w.alloc (.cells #[.bool c0, .int .i64 c1, .int .i64 c2] 24)).drewN nq) A mb g L v n Z := fun nq => hA.below (below_drewN hb0 nq)
  have hlk : ∀ nq, (Instr.lookup 51 (.map (some mb)) (.agg #[.bool c0, .int .i64 c1, .int .i64 c2]) true).run Try.prog ((w.alloc (.cells #[.bool c0, .int .i64 c1, .int .i64 c2] 24)).drewN nq) = .ok (told (idx L (c0, c1, c2))) ((w.alloc (.cells #[.bool c0, .int .i64 c1, .int .i64 c2] 24)).drewN nq) := fun nq => (hW nq).mp.look (c := (c0, c1, c2)) hc
  have hp4 : ∀ nq, ((w.alloc (.cells #[.bool c0, .int .i64 c1, .int .i64 c2] 24)).drewN nq).cell? ⟨A, 4, none⟩ = some (.map (some mb)) := fun nq => (hW nq).cell.2.2.2.2
  have hx0 : ∀ nq, ((w.alloc (.cells #[.bool c0, .int .i64 c1, .int .i64 c2] 24)).drewN nq).cell? ⟨w.heap.size, 0, none⟩ = some (.bool c0) := fun nq => cell_of_row _ _ 0 _ 24 (0, 0) (heap_alloc_new w _)
  have hx1 : ∀ nq, ((w.alloc (.cells #[.bool c0, .int .i64 c1, .int .i64 c2] 24)).drewN nq).cell? ⟨w.heap.size, 1, none⟩ = some (.int .i64 c1) := fun nq => cell_of_row _ _ 1 _ 24 (0, 0) (heap_alloc_new w _)
  have hx2 : ∀ nq, ((w.alloc (.cells #[.bool c0, .int .i64 c1, .int .i64 c2] 24)).drewN nq).cell? ⟨w.heap.size, 2, none⟩ = some (.int .i64 c2) := fun nq => cell_of_row _ _ 2 _ 24 (0, 0) (heap_alloc_new w _)
  have HW : Hid _ := hW
  have HK0 : Hid _ := hk0
  have HA : Hid (ArgAt base w A mb g L v n Z) := hA
  clear hW hk0 hA
  unfold vc
  cases hi : idx L (c0, c1, c2) with
  | some i =>
    rw [hi] at hlk
    unfold told at hlk
    dsimp only at hlk
    have HI : Hid _ := hi
    clear hi
    go_enter Try.func28, Try.ntmps28
    go_wp2
    go_quiet (fail)
    go_wp2
    refine bodyPost_ret (results_none rfl _ _ _) rfl ?_
    refine ⟨rfl, ⟨v, n, Z, ?_⟩, HK0.out _⟩
    have e : putL L r (c0, c1, c2) fr = L := by unfold putL; rw [HI.out]; rfl
    rw [e]
    exact HW.out _
  | none =>
    rw [hi] at hlk
    unfold told at hlk
    dsimp only at hlk
    have HI : Hid _ := hi
    clear hi
    go_enter Try.func28, Try.ntmps28
    go_wp2
    go_quiet (fail)
    clear hlk
    go_upto_region 3 with fail
    have hWA := HW.out (nq + 1)
    obtain ⟨w1, hup, hm1, hg1⟩ := hWA.mp.store (by have := HA.out.cnt; unfold maxLen; omega) hc L.length (by omega)
    have hmid := hWA.mid hm1 hg1
    have HM : Hid _ := hmid
    have HH : Hid (IsN w fv fr) := hf
    have p3 : ∀ nq, ((w.alloc (.cells #[.bool c0, .int .i64 c1, .int .i64 c2] 24)).drewN nq).cell? ⟨A, 3, none⟩ = some v := fun nq => (HW.out nq).cell.2.2.2.1
    obtain ⟨av, cv, hv⟩ : ∃ a c, v = .slice a L.length c := by
      rcases HA.out.row.2 with ⟨h1, h2⟩ | ⟨gg, cap, _, h1, _⟩
      · exact ⟨none, 0, by rw [h1, h2]⟩
      · exact ⟨_, _, h1⟩
    subst hv
    unfold vc at hup
    dsimp only at hup
    clear hm1 hg1 hWA hmid hf
    go_cut [] from 20 to 29 (fun wx => ∃ n', Mid base wx A mb g L (.slice av L.length cv) n' Z (c0, c1, c2) ∧ Kt base w wx ∧ wx.heap[w.heap.size]? = some (.cells #[.bool c0, .int .i64 c1, .int .i64 c2] 24 (0, 0)) ∧ IsN wx fv fr)
    case first =>
      go_region
      have HK1 : Hid _ := HK0.out (nq + 1)
      have HB1 : Hid _ := hb0
      clear hup hp4 hx0 hx1 hx2 p3 hb0 HK0
      go_wp2_with fail
      go_meet
      case rel =>
        have hk := HK1.out.trans HM.out.2
        refine ⟨n + 1, HM.out.1, hk, HM.out.2.ty _ _ _ _ (heap_alloc_new w _) (by decide) (by decide), hk.isN HH.out⟩
    case rest =>
      obtain ⟨n', hmid, hkt, hbox, hfN⟩ := hcut
      clear hp4 hx0 hx1 hx2 p3 hup HM HK0 hb0
      have q3 : wc.cell? ⟨A, 3, none⟩ = some (.slice av L.length cv) := cell_of_row _ _ 3 _ 53 (0, 0) hmid.str
      have b0 : wc.cell? ⟨w.heap.size, 0, none⟩ = some (.bool c0) := cell_of_row _ _ 0 _ 24 (0, 0) hbox
      have b1 : wc.cell? ⟨w.heap.size, 1, none⟩ = some (.int .i64 c1) := cell_of_row _ _ 1 _ 24 (0, 0) hbox
      have b2 : wc.cell? ⟨w.heap.size, 2, none⟩ = some (.int .i64 c2) := cell_of_row _ _ 2 _ 24 (0, 0) hbox
      have hAl : A < wc.heap.size := hmid.lt
      have hwl : w.heap.size < wc.heap.size := (Array.getElem?_eq_some_iff.1 hbox).1
      obtain ⟨i0, hi, hz0, hz1, hz2⟩ := info_parts info36
      have HMi : Hid (Mid base wc A mb g L (.slice av L.length cv) n' Z (c0, c1, c2)) := hmid
      have HKt : Hid (Kt base w wc) := hkt
      have HFN : Hid (IsN wc fv fr) := hfN
      clear hmid hkt hbox hfN
      go_wp2
      go_region_law (first | (refine step_call rfl 45 Try.f45 Try.func45 (by kernel_rfl) (by kernel_rfl) (.tmp 37) 29 rfl fv rfl (fun v' w' => IsN w' v' fr ∧ Below wc.heap.size wc w') ((clone_any fv fr _ (HFN.out.below (Below.refl _ _).drew) (by omega)).mono (fun e w' ⟨v', h1, h2, h3⟩ => ⟨v', h1, h2, (Below.refl _ _).drew.trans h3⟩)) ?_; intro fv2 w2 hr2; obtain ⟨a2, k2, hv2, _⟩ := hr2.1; subst hv2; have HR2 : Hid (IsN w2 (.slice a2 fr.length k2) fr ∧ Below wc.heap.size wc w2) := hr2; have e3 : w2.cell? ⟨A, 3, none⟩ = some (.slice av L.length cv) := (hr2.2.cell hAl).trans q3; have e0 : w2.cell? ⟨w.heap.size, 0, none⟩ = some (.bool c0) := (hr2.2.cell hwl).trans b0; have e1 : w2.cell? ⟨w.heap.size, 1, none⟩ = some (.int .i64 c1) := (hr2.2.cell hwl).trans b1; have e2 : w2.cell? ⟨w.heap.size, 2, none⟩ = some (.int .i64 c2) := (hr2.2.cell hwl).trans b2; have hA2 : A < w2.heap.size := Nat.lt_of_lt_of_le hAl hr2.2.size; have e3' : ∀ o, (w2.alloc o).cell? ⟨A, 3, none⟩ = some (.slice av L.length cv) := fun o => (World.cell?_alloc_past _ _ _ hA2).trans e3; clear hr2) | (refine step_append_at rfl (.tmp 34) (.tmp 40) 25 rfl base 38 i0 (.agg #[.int .i64 0, .bool false, .int .i64 0, .int .i64 0, .slice none 0 0]) 5 56 Try.underlying25 hi hz0 hz1 hz2 rfl (by decide) (.slice av L.length cv) L.length (zcs Z) rfl ((own_below HMi.out.row HR2.out.2).alloc _) ⟨_, 0, none⟩ 1 1 [.int .i64 r, .bool c0, .int .i64 c1, .int .i64 c2, .slice a2 fr.length k2] rfl rfl (cell_five_at _ _ _ _ _ _ _ _ (by simp)) (five_one _ _ _ _ _ _ _) (by unfold maxLen; omega) (by omega) (by have := HMi.out.lo.1; simp; omega) ?_; intro v1 w1 ho1 hg1 _; obtain ⟨gg, kk, rfl, _, _⟩ := own_some ho1 (Nat.succ_pos _); have hD := (HMi.out.below (HR2.out.2.alloc HR2.out.2.size _)).done HI.out r fr (.slice a2 fr.length k2) (HR2.out.1.alloc _) ho1 hg1; have z1 := hD.1.1; have z2 := hD.1.2; have HD : Hid _ := hD.2; clear hD ho1 hg1))
      all_goals
        go_end0
        exact ⟨rfl, HD.out.1, HKt.out.trans ((Kt.of_below (HR2.out.2.alloc HR2.out.2.size _) (Nat.le_of_lt (Nat.lt_of_le_of_lt HMi.out.lo.1 hAl))).trans HD.out.2)⟩
end Go.Proofs.Ytcnanbimpajonaa.Pt
