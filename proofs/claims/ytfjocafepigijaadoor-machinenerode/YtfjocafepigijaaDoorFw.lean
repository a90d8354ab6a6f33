/- firstApart (53): the first text that just one of two tables reads. Conditions: the tables lie as T and U say, of 1 to 500 rows. -/
import Derived.Test.YtfjocafepigijaaDoorCiM
namespace Go.Proofs.YtfjocafepigijaaDoor.Su
open Go.RowKit Go.Shelf Mv Po Ps Cm Ra Ot Pa

/-- what firstApart hands back -/
def FaQ (T U : Tb) (w : World) (e : Ending) (w' : World) : Prop :=
  ∃ (v : Value) (b : Bool) (r : Option (List Nat)), e = .returned (.tuple #[v, .bool b]) ∧ Below w.heap.size w w' ∧ IsAp T U false r ∧ ((b = true ∧ ∃ t, r = some t ∧ w'.ownsRow w.heap.size 3 1 v t.length (ns t)) ∨ (b = false ∧ r = none ∧ v = .slice none 0 0))
theorem bs_old {T U : Tb} {p : Vis} {l : List Vis} {c : Nat} (h : hasD l (dst T U p.1 c) = true) : bs T U false p l c = l := by
  unfold bs hd
  rw [h]
  simp
theorem bs_new {T U : Tb} {p : Vis} {l : List Vis} {c : Nat} (h : hasD l (dst T U p.1 c) = false) : bs T U false p l c = l ++ [(dst T U p.1 c, p.2 ++ [c])] := by
  unfold bs hd
  rw [h]
  simp
theorem dus_few {T U : Tb} {l : List Vis} {n m : Nat} (h : Dus T U l) (hT : T.n = n) (hU : U.n = m) (hn : n ≤ 500) (hm : m ≤ 500) : l.length ≤ 251001 := by
  have h1 := h.len
  rw [hT, hU] at h1
  exact Nat.le_trans h1 (Nat.le_trans (Nat.mul_le_mul (Nat.succ_le_succ hn) (Nat.succ_le_succ hm)) (by decide))
set_option maxHeartbeats 8000000 in
set_option maxRecDepth 100000 in
theorem firstApart_any (T U : Tb) (ba1 p1 g1 n1 cap1 ba2 p2 g2 n2 cap2 : Nat) (X1 X2 : Nat → Nat → Int) (f1 f2 d1 d2 : Nat → Bool) (w : World) (hT : IsT T n1 X1 f1) (hU : IsT U n2 X2 f2) (hP1 : PT w ba1 p1 g1 n1 cap1 X1 f1 d1) (hP2 : PT w ba2 p2 g2 n2 cap2 X2 f2 d2) (hn1 : n1 ≤ 500) (hn2 : n2 ≤ 500) (h01 : 0 < n1) (h02 : 0 < n2) :
    Calls Tryd.prog 53 #[.pointer (some ⟨p1, 0, none⟩), .pointer (some ⟨p2, 0, none⟩)] w (FaQ T U w) := by
  obtain ⟨i159, hi159, hz0, hz1, hz2⟩ := info_parts inf159
  have hmm := @run_makeMap Tryd.prog
  have HT : Hid (IsT T n1 X1 f1 ∧ IsT U n2 X2 f2) := ⟨hT, hU⟩
  have HPT : Hid (∀ W, Below w.heap.size w W → PT W ba1 p1 g1 n1 cap1 X1 f1 d1 ∧ PT W ba2 p2 g2 n2 cap2 X2 f2 d2) := fun W hW => ⟨hP1.below hW, hP2.below hW⟩
  clear hT hU hP1 hP2
  go_enter Tryd.func53, Tryd.ntmps53
  go_upto_region 2 with fail
  have HB0 : Hid (Below w.heap.size w (w.alloc (.cells #[.int .i64 0, .int .i64 0, .int .i64 0, .int .i64 0] 159)) ∧ (w.alloc (.cells #[.int .i64 0, .int .i64 0, .int .i64 0, .int .i64 0] 159)).ownsRow w.heap.size 159 4 (.slice (some ⟨w.heap.size, 0, none⟩) 1 1) 1 [.int .i64 0, .int .i64 0, .int .i64 0, .int .i64 0]) := ⟨below_al _ _, own_four _ _ _ _ _ _ (Nat.le_refl _)⟩
  generalize w.alloc (.cells #[.int .i64 0, .int .i64 0, .int .i64 0, .int .i64 0] 159) = W0 at *
  obtain ⟨v6, hv6⟩ : ∃ v, Value.slice (some ⟨w.heap.size, 0, none⟩) 1 1 = v := ⟨_, rfl⟩
  rw [hv6] at HB0
  rw [hv6]
  clear hv6
  have hw0 : W2 (0, 0) := ⟨w64s (.inr ⟨by omega, by omega⟩), w64s (.inr ⟨by omega, by omega⟩)⟩
  obtain ⟨W2', hr0, hm0, hg0⟩ := (dm_made W0).store (c := 0) (by unfold maxLen; omega) hw0
  have HFA : Hid (Fz w W2' W0.heap.size v6 [((some 0, some 0), 0, 0)] (fun a => if a = (0, 0) then some 0 else none)) := by
    have hbA := below_al W0 (.map #[] 0)
    have hB1 := HB0.out.1.trans (hbA.mono HB0.out.1.size)
    have hkA : Kp (fun b => b = W0.heap.size) (W0.alloc (.map #[] 0)) W2' := (Kp.refl _ _).grown hg0 (fun b hb _ => by injection hb with hb; exact hb.symm)
    have hr1 := own_kp2 HB0.out.2 (kp_below hbA (fun _ => False)) (fun _ _ => id)
    exact ⟨own_kp2 hr1 hkA (fun b hb e => by have e2 : b = W0.heap.size := e; have := (HB0.out.2.lt b hb).2; omega), hm0, HB0.out.1.size, below_kp hB1 hkA (fun b hb e => by have e2 : b = W0.heap.size := e; have := HB0.out.1.size; omega)⟩
  have hr9 : (Instr.mapUpdate 161 (.map (some W0.heap.size)) (.agg #[.int .i64 0, .int .i64 0]) (.int .i64 0)).run Tryd.prog (W0.alloc (.map #[] 0)) = .ok () W2' := hr0
  clear hm0 hg0 hr0 hw0
  go_upto_region 3 with fail
  clear hr9 hmm
  obtain ⟨mb, hmb⟩ : ∃ b, W0.heap.size = b := ⟨_, rfl⟩
  rw [hmb] at HFA
  rw [hmb]
  clear hmb HB0
  go_upto_region 4 with fail
  go_loopw [6, 8] (fun a b wr => ∃ (k : Nat) (vv : Value) (vs : List (Duo × Nat × Nat)) (G : Int × Int → Option Nat), a = vv ∧ b = .int .i64 (k : Int) ∧ Fz w wr mb vv vs G ∧ Vl vs (bf T U false k) ∧ Kd (bf T U false k) G ∧ BAt T U false k) (fun _ b _ => 300000 - (intOf b).toNat)
  case atStart => exact ⟨0, _, _, _, rfl, rfl, HFA.out, Vl.begin, Kd.begin, BAt.zero T U false⟩
  case round =>
    clear HFA
    obtain ⟨k, vv, vs, G, rfl, rfl, hfz, hvl, hkd, hba⟩ := hrel
    obtain ⟨va, vc, rfl⟩ := oslice hfz.row
    obtain ⟨N, hN⟩ : ∃ n, vs.length = n := ⟨_, rfl⟩
    obtain ⟨l, hl⟩ : ∃ l, bf T U false k = l := ⟨_, rfl⟩
    rw [hl] at hvl hkd
    rw [hN] at hfz
    have HL : Hid (bf T U false k = l) := hl
    have HVL : Hid (Vl vs l) := hvl
    have HKD : Hid (Kd l G) := hkd
    have HBA : Hid (BAt T U false k) := hba
    have HDU : Hid (Dus T U l) := by rw [← hl]; exact bf_dus false HT.out.1.ok HT.out.2.ok (by rw [HT.out.1.sz]; exact h01) (by rw [HT.out.2.sz]; exact h02) k
    have hNb : N ≤ 251001 := by
      have h1 := dus_few HDU.out HT.out.1.sz HT.out.2.sz hn1 hn2
      rw [← hvl.len, hN] at h1
      exact h1
    have hN3 : N ≤ 300000 := by omega
    have HN : Hid (vs.length = N ∧ l.length = N) := ⟨hN, by rw [← hvl.len]; exact hN⟩
    have hkN : k ≤ N := by have h := hba.le; rw [hl, HN.out.2] at h; exact h
    have HFZ0 : Hid (Fz w wr mb (.slice va N vc) vs G) := hfz
    rw [hN]
    clear hl hvl hkd hba hN
    by_cases hlt : k < N
    · obtain ⟨e0, he0⟩ : ∃ e, l[k]? = some e := ⟨_, List.getElem?_eq_getElem (by rw [HN.out.2]; exact hlt)⟩
      obtain ⟨x, hx⟩ : ∃ x, vs[k]? = some x := ⟨_, List.getElem?_eq_getElem (by rw [HN.out.1]; exact hlt)⟩
      have hxe := HVL.out.duo k x e0 hx he0
      obtain ⟨⟨s1, s2⟩, fr, sy⟩ := x
      dsimp only at hxe
      have HE : Hid (l[k]? = some e0 ∧ e0.1 = (s1, s2)) := ⟨he0, hxe.symm⟩
      have hrow := hfz.row
      rw [HN.out.1] at hrow
      obtain ⟨vg, vc2, hve, _, _⟩ := own_some hrow (by omega)
      rw [Value.slice.injEq] at hve
      obtain ⟨rfl, _, rfl⟩ := hve
      obtain ⟨i1, hi1⟩ : ∃ i, enc s1 = i := ⟨_, rfl⟩
      obtain ⟨i2, hi2⟩ : ∃ i, enc s2 = i := ⟨_, rfl⟩
      have c0 := (hrow.cellAt (k * 4) (by omega)).trans (vcs_at hx).1
      have c1 := (hrow.cellAt (k * 4 + 1) (by omega)).trans (vcs_at hx).2.1
      dsimp only at c0 c1
      rw [hi1] at c0
      rw [hi2] at c1
      have HI : Hid (enc s1 = i1 ∧ enc s2 = i2) := ⟨hi1, hi2⟩
      have HS : Hid (InT n1 s1 ∧ InT n2 s2) := by
        have hm : e0 ∈ l := List.mem_of_getElem? he0
        have h1 := HDU.out.left e0 hm
        have h2 := HDU.out.right e0 hm
        rw [HE.out.2, HT.out.1.sz] at h1
        rw [HE.out.2, HT.out.2.sz] at h2
        exact ⟨h1, h2⟩
      clear he0 hx hxe hrow hi1 hi2 hfz
      go_upto_region 7 with fail
      clear c0 c1
      have hx9 := heap_alloc_new wr (.cells #[.int .i64 i1, .int .i64 i2] 157)
      have HF0 : Hid (Fz w (wr.alloc (.cells #[.int .i64 i1, .int .i64 i2] 157)) mb (.slice (some ⟨vg, 0, none⟩) N vc) vs G) := HFZ0.out.laid (below_al _ _)
      generalize hWA : wr.alloc (.cells #[.int .i64 i1, .int .i64 i2] 157) = WA at *
      obtain ⟨b9, hb9⟩ : ∃ b, wr.heap.size = b := ⟨_, rfl⟩
      rw [hb9] at hx9
      try rw [hb9]
      clear hb9 hWA HFZ0
      have HCE : Hid _ := fun (W : World) (hSw : W.heap[b9]? = some (.cells #[.int .i64 i1, .int .i64 i2] 157 (0, 0))) => (And.intro (cell_of_row _ _ 0 _ _ _ hSw) (cell_of_row _ _ 1 _ _ _ hSw))
      refine wp_region_held_drew (S := fun W => W.heap[b9]? = some (.cells #[.int .i64 i1, .int .i64 i2] 157 (0, 0))) (by kernel_rfl) (by exact hx9) (fun hHeld => ?_)
      have hS0 := hHeld
      have HF1 : Hid (Fz w WA.drew mb (.slice (some ⟨vg, 0, none⟩) N vc) vs G) := HF0.out.laid (below_drewN (Below.refl _ _) 1)
      clear HF0 hx9
      generalize hV0 : WA.drew = V0 at *
      clear hV0
      refine wpAnyH_take (i := 0) (oi := { dst := some 30, op := Op.move (Operand.tmp 0), type := 85, pos := "apart.go:45", after := #[], guard := none }) (v := ?_) rfl (by kernel_rfl) (by kernel_rfl) (by kernel_rfl) (fun _ _ _ h => h) (Or.inl ⟨by rfl, ?_⟩) (by assumption) ?_
      case refine_2 => intro w hSw; (try dsimp only at hSw); obtain ⟨z0, z1⟩ := HCE.out _ hSw; go_simp; (try with_reducible rfl)
      simp only [Act.put, List.setIfInBounds_toArray, List.set_cons_zero, List.set_cons_succ]
      refine wpAnyH_take (i := 1) (oi := { dst := some 31, op := Op.fieldAddr 157 (Operand.tmp 9) 0, type := 0, pos := "apart.go:45", after := #[], guard := none }) (v := ?_) rfl (by kernel_rfl) (by kernel_rfl) (by kernel_rfl) (fun _ _ _ h => h) (Or.inl ⟨by rfl, ?_⟩) (by assumption) ?_
      case refine_2 => intro w hSw; (try dsimp only at hSw); obtain ⟨z0, z1⟩ := HCE.out _ hSw; go_simp; (try with_reducible rfl)
      simp only [Act.put, List.setIfInBounds_toArray, List.set_cons_zero, List.set_cons_succ]
      refine wpAnyH_take (i := 2) (oi := { dst := some 32, op := Op.load 3 (Operand.tmp 31), type := 3, pos := "apart.go:45", after := #[{ on := 1, ground := Ground.data }], guard := none }) (v := ?_) rfl (by kernel_rfl) (by kernel_rfl) (by kernel_rfl) (fun _ _ _ h => h) (Or.inl ⟨by rfl, ?_⟩) (by assumption) ?_
      case refine_2 => intro w hSw; (try dsimp only at hSw); obtain ⟨z0, z1⟩ := HCE.out _ hSw; go_simp; (try with_reducible rfl)
      simp only [Act.put, List.setIfInBounds_toArray, List.set_cons_zero, List.set_cons_succ]
      refine wpAnyH_take (i := 4) (oi := { dst := some 34, op := Op.move (Operand.tmp 1), type := 85, pos := "apart.go:45", after := #[], guard := none }) (v := ?_) rfl (by kernel_rfl) (by kernel_rfl) (by kernel_rfl) (fun _ _ _ h => h) (Or.inl ⟨by rfl, ?_⟩) (by assumption) ?_
      case refine_2 => intro w hSw; (try dsimp only at hSw); obtain ⟨z0, z1⟩ := HCE.out _ hSw; go_simp; (try with_reducible rfl)
      simp only [Act.put, List.setIfInBounds_toArray, List.set_cons_zero, List.set_cons_succ]
      refine wpAnyH_take (i := 5) (oi := { dst := some 35, op := Op.fieldAddr 157 (Operand.tmp 9) 1, type := 0, pos := "apart.go:45", after := #[], guard := none }) (v := ?_) rfl (by kernel_rfl) (by kernel_rfl) (by kernel_rfl) (fun _ _ _ h => h) (Or.inl ⟨by rfl, ?_⟩) (by assumption) ?_
      case refine_2 => intro w hSw; (try dsimp only at hSw); obtain ⟨z0, z1⟩ := HCE.out _ hSw; go_simp; (try with_reducible rfl)
      simp only [Act.put, List.setIfInBounds_toArray, List.set_cons_zero, List.set_cons_succ]
      refine wpAnyH_take (i := 6) (oi := { dst := some 36, op := Op.load 3 (Operand.tmp 35), type := 3, pos := "apart.go:45", after := #[{ on := 5, ground := Ground.data }], guard := none }) (v := ?_) rfl (by kernel_rfl) (by kernel_rfl) (by kernel_rfl) (fun _ _ _ h => h) (Or.inl ⟨by rfl, ?_⟩) (by assumption) ?_
      case refine_2 => intro w hSw; (try dsimp only at hSw); obtain ⟨z0, z1⟩ := HCE.out _ hSw; go_simp; (try with_reducible rfl)
      simp only [Act.put, List.setIfInBounds_toArray, List.set_cons_zero, List.set_cons_succ]
      refine wpAnyH_ready (rs := [3]) (by kernel_rfl) (by simp) ?_
      refine (AllReadyH.cons (o := { dst := some 33, op := Op.call { callee := Callee.value (Operand.func 84), args := #[Operand.tmp 30, Operand.tmp 32], argTypes := #[85, 3] }, type := 4, pos := "apart.go:45", after := #[{ on := 0, ground := Ground.data }, { on := 2, ground := Ground.data }], guard := none }) rfl (fun K hK => ?_) AllReadyH.nil)
      have KE := ends_duo HT.out.1 V0 (HPT.out V0 HF1.out.below).1 HS.out.1
      rw [HI.out.1] at KE
      go_simp
      (with_reducible refine KE.mono ?_)
      clear KE
      rintro e1 VE ⟨rfl, hbE⟩
      dsimp only
      have HF2 : Hid (Fz w VE mb (.slice (some ⟨vg, 0, none⟩) N vc) vs G) := HF1.out.laid hbE
      have hS1 := (hbE.block _ (lt_at hS0)).trans hS0
      clear hbE
      refine hK.out _ _ ?_ (fun hHeld => ?_)
      · first | exact hS2 | exact hS1
      clear hK K
      try simp only [Act.put, List.setIfInBounds_toArray, List.set_cons_zero, List.set_cons_succ]
      refine wpAnyH_ready (rs := [7]) (by kernel_rfl) (by simp) ?_
      refine (AllReadyH.cons (o := { dst := some 37, op := Op.call { callee := Callee.value (Operand.func 84), args := #[Operand.tmp 34, Operand.tmp 36], argTypes := #[85, 3] }, type := 4, pos := "apart.go:45", after := #[{ on := 4, ground := Ground.data }, { on := 6, ground := Ground.data }, { on := 3, ground := Ground.chain }], guard := none }) rfl (fun K hK => ?_) AllReadyH.nil)
      have KE := ends_duo HT.out.2 VE (HPT.out VE HF2.out.below).2 HS.out.2
      rw [HI.out.2] at KE
      go_simp
      (with_reducible refine KE.mono ?_)
      clear KE
      rintro e1 VF ⟨rfl, hbE⟩
      dsimp only
      have HF3 : Hid (Fz w VF mb (.slice (some ⟨vg, 0, none⟩) N vc) vs G) := HF2.out.laid hbE
      have hS2 := (hbE.block _ (lt_at hS1)).trans hS1
      clear hbE
      refine hK.out _ _ ?_ (fun hHeld => ?_)
      · first | exact hS2 | exact hS1
      clear hK K
      try simp only [Act.put, List.setIfInBounds_toArray, List.set_cons_zero, List.set_cons_succ]
      refine wpAnyH_take (i := 8) (oi := { dst := some 38, op := Op.binOp BinOp.neq 4 (Operand.tmp 33) (Operand.tmp 37) 4, type := 4, pos := "apart.go:45", after := #[{ on := 3, ground := Ground.data }, { on := 7, ground := Ground.data }], guard := none }) (v := ?_) rfl (by kernel_rfl) (by kernel_rfl) (by kernel_rfl) (fun _ _ _ h => h) (Or.inl ⟨by rfl, ?_⟩) (by assumption) ?_
      case refine_2 => intro w hSw; (try dsimp only at hSw); obtain ⟨z0, z1⟩ := HCE.out _ hSw; go_simp; (try with_reducible rfl)
      simp only [Act.put, List.setIfInBounds_toArray, List.set_cons_zero, List.set_cons_succ]
      refine wpAnyH_done (by kernel_rfl) ?_ _
      have HX9 : Hid (VF.heap[b9]? = some (.cells #[.int .i64 i1, .int .i64 i2] 157 (0, 0))) := hS2
      clear hS0 hS1 hS2 HF1 HF2
      obtain ⟨bd, hbd⟩ : ∃ b, df T U (s1, s2) = b := ⟨_, rfl⟩
      have HBD : Hid (df T U (s1, s2) = bd) := hbd
      clear hbd
      cases bd with
      | true =>
        have hbd2 : (T.fo s1 == U.fo s2) = false := by
          have h : (!(T.fo s1 == U.fo s2)) = true := HBD.out
          cases hq : (T.fo s1 == U.fo s2) with
          | false => rfl
          | true => rw [hq] at h; cases h
        simp only [hbd2, Bool.not_false]
        have K85 := textTo_any w.heap.size (.slice (some ⟨vg, 0, none⟩) N vc) vs l k N e0 VF (by have h := HF3.out.row; rw [HN.out.1] at h; exact h) HN.out.1 HVL.out HE.out.1 hN3
        have HAP : Hid (IsAp T U false (some e0.2)) := ⟨k, HBA.out, .inl ⟨e0, by rw [HL.out]; exact HE.out.1, by rw [HE.out.2]; exact HBD.out, rfl⟩⟩
        go_wp2_with (go_at_call 85; (with_reducible refine K85.mono ?_); clear K85; rintro e w5 ⟨v, rfl, hv5, hb5⟩; have HV5 : Hid (w5.ownsRow w.heap.size 3 1 v e0.2.length (ns e0.2) ∧ Below w.heap.size w w5) := ⟨own_le hv5 HF3.out.below.size, HF3.out.below.trans (hb5.mono HF3.out.below.size)⟩; clear hv5 hb5)
        go_ret2
        exact ⟨v, true, some e0.2, rfl, HV5.out.2, HAP.out, .inl ⟨rfl, e0.2, rfl, HV5.out.1⟩⟩
      | false =>
        have hbd2 : (T.fo s1 == U.fo s2) = true := by
          have h : (!(T.fo s1 == U.fo s2)) = false := HBD.out
          cases hq : (T.fo s1 == U.fo s2) with
          | true => rfl
          | false => rw [hq] at h; cases h
        simp only [hbd2, Bool.not_true]
        have HBU : Hid (BAt T U false (k + 1)) := HBA.out.up (e := e0) (by rw [HL.out]; exact HE.out.1) (by rw [HE.out.2]; exact HBD.out)
        go_upto_region 10 with fail
        clear hbd2
        have HIN0 : Hid (Vl vs (br T U false e0 l 0) ∧ Kd (br T U false e0 l 0) G) := ⟨HVL.out, HKD.out⟩
        go_loopw [6, 10] (fun a b wx => ∃ (cc y : Nat) (vv : Value) (vs : List (Duo × Nat × Nat)) (G : Int × Int → Option Nat), a = vv ∧ b = .int .i64 (cc : Int) ∧ cc = y + 1 ∧ y ≤ 60 ∧ Fz w wx mb vv vs G ∧ Vl vs (br T U false e0 l y) ∧ Kd (br T U false e0 l y) G ∧ wx.heap[b9]? = some (.cells #[.int .i64 i1, .int .i64 i2] 157 (0, 0))) (fun _ b _ => 62 - (intOf b).toNat)
        case atStart => exact ⟨1, 0, _, vs, G, rfl, rfl, rfl, by omega, by have h := HF3.out; exact h, HIN0.out.1, HIN0.out.2, HX9.out⟩
        case round =>
          clear HF3 HX9 HIN0
          obtain ⟨cc, y, vv2, vs2, G2, rfl, rfl, hcc, hy, hfz, hvl, hkd, hx9⟩ := hrel
          obtain ⟨va2, vc2, rfl⟩ := oslice hfz.row
          obtain ⟨N2, hN2⟩ : ∃ n, vs2.length = n := ⟨_, rfl⟩
          have HFZ : Hid (Fz w wr mb (.slice va2 N2 vc2) vs2 G2) := by have h := hfz; rw [hN2] at h; exact h
          have HN2 : Hid (vs2.length = N2) := hN2
          have HVL2 : Hid (Vl vs2 (br T U false e0 l y)) := hvl
          have HKD2 : Hid (Kd (br T U false e0 l y) G2) := hkd
          have HX9 : Hid (wr.heap[b9]? = some (.cells #[.int .i64 i1, .int .i64 i2] 157 (0, 0))) := hx9
          have HCC : Hid (cc = y + 1) := hcc
          have hN2b : N2 ≤ 251001 := by
            have h1 := dus_few (T := T) (U := U) (l := br T U false e0 l y) (by
              rw [← HL.out]
              have hd := bf_dus false HT.out.1.ok HT.out.2.ok (by rw [HT.out.1.sz]; exact h01) (by rw [HT.out.2.sz]; exact h02) k
              have hm : e0 ∈ bf T U false k := by rw [HL.out]; exact List.mem_of_getElem? HE.out.1
              exact hd.br HT.out.1.ok HT.out.2.ok (hd.left e0 hm) (hd.right e0 hm) y) HT.out.1.sz HT.out.2.sz hn1 hn2
            rw [← hvl.len, hN2] at h1
            exact h1
          rw [hN2]
          clear hfz hvl hkd hx9 hN2
          by_cases hlt : y < 60
          · have hcc60 : (cc : Int) ≤ 60 := by omega
            obtain ⟨j1, hj1⟩ : ∃ j, enc (T.st s1 cc) = j := ⟨_, rfl⟩
            obtain ⟨j2, hj2⟩ : ∃ j, enc (U.st s2 cc) = j := ⟨_, rfl⟩
            have HJ : Hid (enc (T.st s1 cc) = j1 ∧ enc (U.st s2 cc) = j2 ∧ dk (dst T U e0.1 cc) = (j1, j2)) := ⟨hj1, hj2, by rw [HE.out.2]; show (enc (T.st s1 cc), enc (U.st s2 cc)) = _; rw [hj1, hj2]⟩
            have hc1 : 1 ≤ cc := by omega
            have hc2 : cc ≤ 60 := by omega
            clear hj1 hj2 hcc
            go_upto_region 12 with fail
            go_cut [11] from 46 to 56 (fun s wx => ∃ b11, s = .pointer (some ⟨b11, 0, none⟩) ∧ wx.heap[b11]? = some (.cells #[.int .i64 j1, .int .i64 j2] 157 (0, 0)) ∧ Below wr.heap.size wr wx)
            case first =>
              have HCE : Hid _ := fun (W : World) (hSw : W.heap[b9]? = some (.cells #[.int .i64 i1, .int .i64 i2] 157 (0, 0))) => (And.intro (cell_of_row _ _ 0 _ _ _ hSw) (cell_of_row _ _ 1 _ _ _ hSw))
              refine wp_region_held_drew (S := fun W => W.heap[b9]? = some (.cells #[.int .i64 i1, .int .i64 i2] 157 (0, 0))) (by kernel_rfl) (by exact HX9.out) (fun hHeld => ?_)
              have hS0 := hHeld
              have HB0 : Hid (Below wr.heap.size wr wr.drew) := (Below.refl _ _).drew
              generalize hV0 : wr.drew = V0 at *
              clear hV0
              refine wpAnyH_take (i := 0) (oi := { dst := some 46, op := Op.move (Operand.tmp 0), type := 85, pos := "apart.go:49", after := #[], guard := none }) (v := ?_) rfl (by kernel_rfl) (by kernel_rfl) (by kernel_rfl) (fun _ _ _ h => h) (Or.inl ⟨by rfl, ?_⟩) (by assumption) ?_
              case refine_2 => intro w hSw; (try dsimp only at hSw); obtain ⟨z0, z1⟩ := HCE.out _ hSw; go_simp; (try with_reducible rfl)
              simp only [Act.put, List.setIfInBounds_toArray, List.set_cons_zero, List.set_cons_succ]
              refine wpAnyH_take (i := 1) (oi := { dst := some 47, op := Op.fieldAddr 157 (Operand.tmp 9) 0, type := 0, pos := "apart.go:49", after := #[], guard := none }) (v := ?_) rfl (by kernel_rfl) (by kernel_rfl) (by kernel_rfl) (fun _ _ _ h => h) (Or.inl ⟨by rfl, ?_⟩) (by assumption) ?_
              case refine_2 => intro w hSw; (try dsimp only at hSw); obtain ⟨z0, z1⟩ := HCE.out _ hSw; go_simp; (try with_reducible rfl)
              simp only [Act.put, List.setIfInBounds_toArray, List.set_cons_zero, List.set_cons_succ]
              refine wpAnyH_take (i := 2) (oi := { dst := some 48, op := Op.load 3 (Operand.tmp 47), type := 3, pos := "apart.go:49", after := #[{ on := 1, ground := Ground.data }], guard := none }) (v := ?_) rfl (by kernel_rfl) (by kernel_rfl) (by kernel_rfl) (fun _ _ _ h => h) (Or.inl ⟨by rfl, ?_⟩) (by assumption) ?_
              case refine_2 => intro w hSw; (try dsimp only at hSw); obtain ⟨z0, z1⟩ := HCE.out _ hSw; go_simp; (try with_reducible rfl)
              simp only [Act.put, List.setIfInBounds_toArray, List.set_cons_zero, List.set_cons_succ]
              refine wpAnyH_take (i := 3) (oi := { dst := some 49, op := Op.move (Operand.tmp 10), type := 3, pos := "apart.go:49", after := #[], guard := none }) (v := ?_) rfl (by kernel_rfl) (by kernel_rfl) (by kernel_rfl) (fun _ _ _ h => h) (Or.inl ⟨by rfl, ?_⟩) (by assumption) ?_
              case refine_2 => intro w hSw; (try dsimp only at hSw); obtain ⟨z0, z1⟩ := HCE.out _ hSw; go_simp; (try with_reducible rfl)
              simp only [Act.put, List.setIfInBounds_toArray, List.set_cons_zero, List.set_cons_succ]
              refine wpAnyH_take (i := 5) (oi := { dst := some 51, op := Op.move (Operand.tmp 1), type := 85, pos := "apart.go:49", after := #[], guard := none }) (v := ?_) rfl (by kernel_rfl) (by kernel_rfl) (by kernel_rfl) (fun _ _ _ h => h) (Or.inl ⟨by rfl, ?_⟩) (by assumption) ?_
              case refine_2 => intro w hSw; (try dsimp only at hSw); obtain ⟨z0, z1⟩ := HCE.out _ hSw; go_simp; (try with_reducible rfl)
              simp only [Act.put, List.setIfInBounds_toArray, List.set_cons_zero, List.set_cons_succ]
              refine wpAnyH_take (i := 6) (oi := { dst := some 52, op := Op.fieldAddr 157 (Operand.tmp 9) 1, type := 0, pos := "apart.go:49", after := #[], guard := none }) (v := ?_) rfl (by kernel_rfl) (by kernel_rfl) (by kernel_rfl) (fun _ _ _ h => h) (Or.inl ⟨by rfl, ?_⟩) (by assumption) ?_
              case refine_2 => intro w hSw; (try dsimp only at hSw); obtain ⟨z0, z1⟩ := HCE.out _ hSw; go_simp; (try with_reducible rfl)
              simp only [Act.put, List.setIfInBounds_toArray, List.set_cons_zero, List.set_cons_succ]
              refine wpAnyH_take (i := 7) (oi := { dst := some 53, op := Op.load 3 (Operand.tmp 52), type := 3, pos := "apart.go:49", after := #[{ on := 6, ground := Ground.data }], guard := none }) (v := ?_) rfl (by kernel_rfl) (by kernel_rfl) (by kernel_rfl) (fun _ _ _ h => h) (Or.inl ⟨by rfl, ?_⟩) (by assumption) ?_
              case refine_2 => intro w hSw; (try dsimp only at hSw); obtain ⟨z0, z1⟩ := HCE.out _ hSw; go_simp; (try with_reducible rfl)
              simp only [Act.put, List.setIfInBounds_toArray, List.set_cons_zero, List.set_cons_succ]
              refine wpAnyH_take (i := 8) (oi := { dst := some 54, op := Op.move (Operand.tmp 10), type := 3, pos := "apart.go:49", after := #[], guard := none }) (v := ?_) rfl (by kernel_rfl) (by kernel_rfl) (by kernel_rfl) (fun _ _ _ h => h) (Or.inl ⟨by rfl, ?_⟩) (by assumption) ?_
              case refine_2 => intro w hSw; (try dsimp only at hSw); obtain ⟨z0, z1⟩ := HCE.out _ hSw; go_simp; (try with_reducible rfl)
              simp only [Act.put, List.setIfInBounds_toArray, List.set_cons_zero, List.set_cons_succ]
              refine wpAnyH_ready (rs := [4, 11]) (by kernel_rfl) (by simp) ?_
              refine (AllReadyH.cons (o := { dst := some 50, op := Op.call { callee := Callee.value (Operand.func 86), args := #[Operand.tmp 46, Operand.tmp 48, Operand.tmp 49], argTypes := #[85, 3, 3] }, type := 3, pos := "apart.go:49", after := #[{ on := 0, ground := Ground.data }, { on := 2, ground := Ground.data }, { on := 3, ground := Ground.data }], guard := none }) rfl (fun K hK => ?_) (AllReadyH.cons (o := { dst := some 11, op := Op.alloc 157, type := 0, pos := "apart.go:49", after := #[], guard := none }) rfl (fun K hK => ?_) AllReadyH.nil))
              · skip
                have KE := next_duo (c := cc) HT.out.1 V0 (HPT.out _ (HFZ.out.laid HB0.out).below).1 HS.out.1 hc1 hc2
                rw [HI.out.1, HJ.out.1] at KE
                go_simp
                (with_reducible refine KE.mono ?_)
                clear KE
                rintro e1 VA ⟨rfl, hbE⟩
                dsimp only
                have HB1 : Hid (Below wr.heap.size wr VA) := (HB0.out).trans (hbE.mono (HB0.out).size)
                have hS1 := (hbE.block _ (lt_at hS0)).trans hS0
                clear hbE
                refine hK.out _ _ ?_ (fun hHeld => ?_)
                · first | exact hS4 | exact hS3 | exact hS2 | exact hS1
                clear hK K
                try simp only [Act.put, List.setIfInBounds_toArray, List.set_cons_zero, List.set_cons_succ]
                refine wpAnyH_ready (rs := [9, 11]) (by kernel_rfl) (by simp) ?_
                refine (AllReadyH.cons (o := { dst := some 55, op := Op.call { callee := Callee.value (Operand.func 86), args := #[Operand.tmp 51, Operand.tmp 53, Operand.tmp 54], argTypes := #[85, 3, 3] }, type := 3, pos := "apart.go:49", after := #[{ on := 5, ground := Ground.data }, { on := 7, ground := Ground.data }, { on := 8, ground := Ground.data }, { on := 4, ground := Ground.chain }], guard := none }) rfl (fun K hK => ?_) (AllReadyH.cons (o := { dst := some 11, op := Op.alloc 157, type := 0, pos := "apart.go:49", after := #[], guard := none }) rfl (fun K hK => ?_) AllReadyH.nil))
                · skip
                  have KE := next_duo (c := cc) HT.out.2 VA (HPT.out _ (HFZ.out.laid HB1.out).below).2 HS.out.2 hc1 hc2
                  rw [HI.out.2, HJ.out.2.1] at KE
                  go_simp
                  (with_reducible refine KE.mono ?_)
                  clear KE
                  rintro e1 VB ⟨rfl, hbE⟩
                  dsimp only
                  have HB2 : Hid (Below wr.heap.size wr VB) := (HB1.out).trans (hbE.mono (HB1.out).size)
                  have hS2 := (hbE.block _ (lt_at hS1)).trans hS1
                  clear hbE
                  refine hK.out _ _ ?_ (fun hHeld => ?_)
                  · first | exact hS4 | exact hS3 | exact hS2 | exact hS1
                  clear hK K
                  try simp only [Act.put, List.setIfInBounds_toArray, List.set_cons_zero, List.set_cons_succ]
                  refine wpAnyH_take (i := 10) (oi := { dst := some 56, op := Op.build 157 #[(0, Operand.tmp 50), (1, Operand.tmp 55)], type := 157, pos := "apart.go:49", after := #[{ on := 4, ground := Ground.data }, { on := 9, ground := Ground.data }], guard := none }) (v := ?_) rfl (by kernel_rfl) (by kernel_rfl) (by kernel_rfl) (fun _ _ _ h => h) (Or.inl ⟨by rfl, ?_⟩) (by assumption) ?_
                  case refine_2 => intro w hSw; (try dsimp only at hSw); obtain ⟨z0, z1⟩ := HCE.out _ hSw; go_simp; (try with_reducible rfl)
                  simp only [Act.put, List.setIfInBounds_toArray, List.set_cons_zero, List.set_cons_succ]
                  refine wpAnyH_ready (rs := [11]) (by kernel_rfl) (by simp) ?_
                  refine (AllReadyH.cons (o := { dst := some 11, op := Op.alloc 157, type := 0, pos := "apart.go:49", after := #[], guard := none }) rfl (fun K hK => ?_) AllReadyH.nil)
                  go_simp
                  obtain ⟨b11, hb11⟩ : ∃ b, VB.heap.size = b := ⟨_, rfl⟩
                  have HX11 : Hid ((VB.alloc (.cells #[.int .i64 0, .int .i64 0] 157)).heap[b11]? = some (.cells #[.int .i64 0, .int .i64 0] 157 (0, 0)) ∧ wr.heap.size ≤ b11) := ⟨by rw [← hb11]; exact heap_alloc_new _ _, by rw [← hb11]; exact (HB2.out).size⟩
                  have HB3 : Hid (Below wr.heap.size wr (VB.alloc (.cells #[.int .i64 0, .int .i64 0] 157))) := (HB2.out).alloc (HB2.out).size _
                  have hS3 := (heap_alloc_old VB (.cells #[.int .i64 0, .int .i64 0] 157) (lt_at hS2)).trans hS2
                  rw [hb11]
                  clear hb11
                  refine hK.out _ _ ?_ (fun hHeld => ?_)
                  · first | exact hS4 | exact hS3 | exact hS2 | exact hS1
                  clear hK K
                  try simp only [Act.put, List.setIfInBounds_toArray, List.set_cons_zero, List.set_cons_succ]
                  refine wpAnyH_ready (rs := [12]) (by kernel_rfl) (by simp) ?_
                  refine (AllReadyH.cons (o := { dst := none, op := Op.store 157 (Operand.tmp 11) (Operand.tmp 56), type := 0, pos := "apart.go:49", after := #[{ on := 11, ground := Ground.data }, { on := 10, ground := Ground.data }, { on := 9, ground := Ground.chain }, { on := 0, ground := Ground.phase }, { on := 1, ground := Ground.phase }, { on := 2, ground := Ground.phase }, { on := 3, ground := Ground.phase }, { on := 4, ground := Ground.phase }, { on := 5, ground := Ground.phase }, { on := 6, ground := Ground.phase }, { on := 7, ground := Ground.phase }, { on := 8, ground := Ground.phase }, { on := 9, ground := Ground.phase }, { on := 10, ground := Ground.phase }, { on := 11, ground := Ground.phase }], guard := none }) rfl (fun K hK => ?_) AllReadyH.nil)
                  have y0 := cell_of_row _ _ 0 _ _ _ HX11.out.1
                  have y1 := cell_of_row _ _ 1 _ _ _ HX11.out.1
                  have g0 := frozen_of_row _ _ 0 _ _ HX11.out.1
                  have g1 := frozen_of_row _ _ 1 _ _ HX11.out.1
                  go_simp
                  have HK : Hid (Kp (fun b => b = b11) (VB.alloc (.cells #[.int .i64 0, .int .i64 0] 157)) (((VB.alloc (.cells #[.int .i64 0, .int .i64 0] 157)).setCell ⟨b11, 0, none⟩ (.int .i64 j1)).setCell ⟨b11, 1, none⟩ (.int .i64 j2))) := show Kp (fun b => b = b11) _ _ from ((Kp.refl (fun b => b = b11) _).setCell b11 _ _ (fun _ => rfl)).setCell b11 _ _ (fun _ => rfl)
                  have HXZ : Hid ((((VB.alloc (.cells #[.int .i64 0, .int .i64 0] 157)).setCell ⟨b11, 0, none⟩ (.int .i64 j1)).setCell ⟨b11, 1, none⟩ (.int .i64 j2)).heap[b11]? = some (.cells #[.int .i64 j1, .int .i64 j2] 157 (0, 0)) ∧ Below wr.heap.size wr (((VB.alloc (.cells #[.int .i64 0, .int .i64 0] 157)).setCell ⟨b11, 0, none⟩ (.int .i64 j1)).setCell ⟨b11, 1, none⟩ (.int .i64 j2))) := ⟨heap_setCell_same _ b11 1 _ 157 _ (heap_setCell_same _ b11 0 _ 157 _ HX11.out.1), below_kp HB3.out HK.out (fun b hb e => by have e2 : b = b11 := e; have := HX11.out.2; omega)⟩
                  have hS4 := (HK.out.block _ (lt_at hS3) (fun e => by have e2 : b9 = b11 := e; have := lt_at HX9.out; have := HX11.out.2; omega)).trans hS3
                  clear y0 y1 g0 g1
                  refine hK.out _ _ ?_ (fun hHeld => ?_)
                  · first | exact hS4 | exact hS3 | exact hS2 | exact hS1
                  clear hK K
                  try simp only [Act.put, List.setIfInBounds_toArray, List.set_cons_zero, List.set_cons_succ]
                  refine wpAnyH_done (by kernel_rfl) ?_ _
                  go_wp2_with fail
                  go_meet
                  exact ⟨_, rfl, HXZ.out.1, HXZ.out.2⟩
                · skip
                  go_simp
                  obtain ⟨b11, hb11⟩ : ∃ b, VA.heap.size = b := ⟨_, rfl⟩
                  have HX11 : Hid ((VA.alloc (.cells #[.int .i64 0, .int .i64 0] 157)).heap[b11]? = some (.cells #[.int .i64 0, .int .i64 0] 157 (0, 0)) ∧ wr.heap.size ≤ b11) := ⟨by rw [← hb11]; exact heap_alloc_new _ _, by rw [← hb11]; exact (HB1.out).size⟩
                  have HB2 : Hid (Below wr.heap.size wr (VA.alloc (.cells #[.int .i64 0, .int .i64 0] 157))) := (HB1.out).alloc (HB1.out).size _
                  have hS2 := (heap_alloc_old VA (.cells #[.int .i64 0, .int .i64 0] 157) (lt_at hS1)).trans hS1
                  rw [hb11]
                  clear hb11
                  refine hK.out _ _ ?_ (fun hHeld => ?_)
                  · first | exact hS4 | exact hS3 | exact hS2 | exact hS1
                  clear hK K
                  try simp only [Act.put, List.setIfInBounds_toArray, List.set_cons_zero, List.set_cons_succ]
                  refine wpAnyH_ready (rs := [9]) (by kernel_rfl) (by simp) ?_
                  refine (AllReadyH.cons (o := { dst := some 55, op := Op.call { callee := Callee.value (Operand.func 86), args := #[Operand.tmp 51, Operand.tmp 53, Operand.tmp 54], argTypes := #[85, 3, 3] }, type := 3, pos := "apart.go:49", after := #[{ on := 5, ground := Ground.data }, { on := 7, ground := Ground.data }, { on := 8, ground := Ground.data }, { on := 4, ground := Ground.chain }], guard := none }) rfl (fun K hK => ?_) AllReadyH.nil)
                  have KE := next_duo (c := cc) HT.out.2 (VA.alloc (.cells #[.int .i64 0, .int .i64 0] 157)) (HPT.out _ (HFZ.out.laid HB2.out).below).2 HS.out.2 hc1 hc2
                  rw [HI.out.2, HJ.out.2.1] at KE
                  go_simp
                  (with_reducible refine KE.mono ?_)
                  clear KE
                  rintro e1 VB ⟨rfl, hbE⟩
                  dsimp only
                  have HB3 : Hid (Below wr.heap.size wr VB) := (HB2.out).trans (hbE.mono (HB2.out).size)
                  have hS3 := (hbE.block _ (lt_at hS2)).trans hS2
                  have HX11 : Hid (VB.heap[b11]? = some (.cells #[.int .i64 0, .int .i64 0] 157 (0, 0)) ∧ wr.heap.size ≤ b11) := ⟨(hbE.block _ (lt_at HX11.out.1)).trans HX11.out.1, HX11.out.2⟩
                  clear hbE
                  refine hK.out _ _ ?_ (fun hHeld => ?_)
                  · first | exact hS4 | exact hS3 | exact hS2 | exact hS1
                  clear hK K
                  try simp only [Act.put, List.setIfInBounds_toArray, List.set_cons_zero, List.set_cons_succ]
                  refine wpAnyH_take (i := 10) (oi := { dst := some 56, op := Op.build 157 #[(0, Operand.tmp 50), (1, Operand.tmp 55)], type := 157, pos := "apart.go:49", after := #[{ on := 4, ground := Ground.data }, { on := 9, ground := Ground.data }], guard := none }) (v := ?_) rfl (by kernel_rfl) (by kernel_rfl) (by kernel_rfl) (fun _ _ _ h => h) (Or.inl ⟨by rfl, ?_⟩) (by assumption) ?_
                  case refine_2 => intro w hSw; (try dsimp only at hSw); obtain ⟨z0, z1⟩ := HCE.out _ hSw; go_simp; (try with_reducible rfl)
                  simp only [Act.put, List.setIfInBounds_toArray, List.set_cons_zero, List.set_cons_succ]
                  refine wpAnyH_ready (rs := [12]) (by kernel_rfl) (by simp) ?_
                  refine (AllReadyH.cons (o := { dst := none, op := Op.store 157 (Operand.tmp 11) (Operand.tmp 56), type := 0, pos := "apart.go:49", after := #[{ on := 11, ground := Ground.data }, { on := 10, ground := Ground.data }, { on := 9, ground := Ground.chain }, { on := 0, ground := Ground.phase }, { on := 1, ground := Ground.phase }, { on := 2, ground := Ground.phase }, { on := 3, ground := Ground.phase }, { on := 4, ground := Ground.phase }, { on := 5, ground := Ground.phase }, { on := 6, ground := Ground.phase }, { on := 7, ground := Ground.phase }, { on := 8, ground := Ground.phase }, { on := 9, ground := Ground.phase }, { on := 10, ground := Ground.phase }, { on := 11, ground := Ground.phase }], guard := none }) rfl (fun K hK => ?_) AllReadyH.nil)
                  have y0 := cell_of_row _ _ 0 _ _ _ HX11.out.1
                  have y1 := cell_of_row _ _ 1 _ _ _ HX11.out.1
                  have g0 := frozen_of_row _ _ 0 _ _ HX11.out.1
                  have g1 := frozen_of_row _ _ 1 _ _ HX11.out.1
                  go_simp
                  have HK : Hid (Kp (fun b => b = b11) VB ((VB.setCell ⟨b11, 0, none⟩ (.int .i64 j1)).setCell ⟨b11, 1, none⟩ (.int .i64 j2))) := show Kp (fun b => b = b11) _ _ from ((Kp.refl (fun b => b = b11) _).setCell b11 _ _ (fun _ => rfl)).setCell b11 _ _ (fun _ => rfl)
                  have HXZ : Hid (((VB.setCell ⟨b11, 0, none⟩ (.int .i64 j1)).setCell ⟨b11, 1, none⟩ (.int .i64 j2)).heap[b11]? = some (.cells #[.int .i64 j1, .int .i64 j2] 157 (0, 0)) ∧ Below wr.heap.size wr ((VB.setCell ⟨b11, 0, none⟩ (.int .i64 j1)).setCell ⟨b11, 1, none⟩ (.int .i64 j2))) := ⟨heap_setCell_same _ b11 1 _ 157 _ (heap_setCell_same _ b11 0 _ 157 _ HX11.out.1), below_kp HB3.out HK.out (fun b hb e => by have e2 : b = b11 := e; have := HX11.out.2; omega)⟩
                  have hS4 := (HK.out.block _ (lt_at hS3) (fun e => by have e2 : b9 = b11 := e; have := lt_at HX9.out; have := HX11.out.2; omega)).trans hS3
                  clear y0 y1 g0 g1
                  refine hK.out _ _ ?_ (fun hHeld => ?_)
                  · first | exact hS4 | exact hS3 | exact hS2 | exact hS1
                  clear hK K
                  try simp only [Act.put, List.setIfInBounds_toArray, List.set_cons_zero, List.set_cons_succ]
                  refine wpAnyH_done (by kernel_rfl) ?_ _
                  go_wp2_with fail
                  go_meet
                  exact ⟨_, rfl, HXZ.out.1, HXZ.out.2⟩
              · skip
                go_simp
                obtain ⟨b11, hb11⟩ : ∃ b, V0.heap.size = b := ⟨_, rfl⟩
                have HX11 : Hid ((V0.alloc (.cells #[.int .i64 0, .int .i64 0] 157)).heap[b11]? = some (.cells #[.int .i64 0, .int .i64 0] 157 (0, 0)) ∧ wr.heap.size ≤ b11) := ⟨by rw [← hb11]; exact heap_alloc_new _ _, by rw [← hb11]; exact (HB0.out).size⟩
                have HB1 : Hid (Below wr.heap.size wr (V0.alloc (.cells #[.int .i64 0, .int .i64 0] 157))) := (HB0.out).alloc (HB0.out).size _
                have hS1 := (heap_alloc_old V0 (.cells #[.int .i64 0, .int .i64 0] 157) (lt_at hS0)).trans hS0
                rw [hb11]
                clear hb11
                refine hK.out _ _ ?_ (fun hHeld => ?_)
                · first | exact hS4 | exact hS3 | exact hS2 | exact hS1
                clear hK K
                try simp only [Act.put, List.setIfInBounds_toArray, List.set_cons_zero, List.set_cons_succ]
                refine wpAnyH_ready (rs := [4]) (by kernel_rfl) (by simp) ?_
                refine (AllReadyH.cons (o := { dst := some 50, op := Op.call { callee := Callee.value (Operand.func 86), args := #[Operand.tmp 46, Operand.tmp 48, Operand.tmp 49], argTypes := #[85, 3, 3] }, type := 3, pos := "apart.go:49", after := #[{ on := 0, ground := Ground.data }, { on := 2, ground := Ground.data }, { on := 3, ground := Ground.data }], guard := none }) rfl (fun K hK => ?_) AllReadyH.nil)
                have KE := next_duo (c := cc) HT.out.1 (V0.alloc (.cells #[.int .i64 0, .int .i64 0] 157)) (HPT.out _ (HFZ.out.laid HB1.out).below).1 HS.out.1 hc1 hc2
                rw [HI.out.1, HJ.out.1] at KE
                go_simp
                (with_reducible refine KE.mono ?_)
                clear KE
                rintro e1 VA ⟨rfl, hbE⟩
                dsimp only
                have HB2 : Hid (Below wr.heap.size wr VA) := (HB1.out).trans (hbE.mono (HB1.out).size)
                have hS2 := (hbE.block _ (lt_at hS1)).trans hS1
                have HX11 : Hid (VA.heap[b11]? = some (.cells #[.int .i64 0, .int .i64 0] 157 (0, 0)) ∧ wr.heap.size ≤ b11) := ⟨(hbE.block _ (lt_at HX11.out.1)).trans HX11.out.1, HX11.out.2⟩
                clear hbE
                refine hK.out _ _ ?_ (fun hHeld => ?_)
                · first | exact hS4 | exact hS3 | exact hS2 | exact hS1
                clear hK K
                try simp only [Act.put, List.setIfInBounds_toArray, List.set_cons_zero, List.set_cons_succ]
                refine wpAnyH_ready (rs := [9]) (by kernel_rfl) (by simp) ?_
                refine (AllReadyH.cons (o := { dst := some 55, op := Op.call { callee := Callee.value (Operand.func 86), args := #[Operand.tmp 51, Operand.tmp 53, Operand.tmp 54], argTypes := #[85, 3, 3] }, type := 3, pos := "apart.go:49", after := #[{ on := 5, ground := Ground.data }, { on := 7, ground := Ground.data }, { on := 8, ground := Ground.data }, { on := 4, ground := Ground.chain }], guard := none }) rfl (fun K hK => ?_) AllReadyH.nil)
                have KE := next_duo (c := cc) HT.out.2 VA (HPT.out _ (HFZ.out.laid HB2.out).below).2 HS.out.2 hc1 hc2
                rw [HI.out.2, HJ.out.2.1] at KE
                go_simp
                (with_reducible refine KE.mono ?_)
                clear KE
                rintro e1 VB ⟨rfl, hbE⟩
                dsimp only
                have HB3 : Hid (Below wr.heap.size wr VB) := (HB2.out).trans (hbE.mono (HB2.out).size)
                have hS3 := (hbE.block _ (lt_at hS2)).trans hS2
                have HX11 : Hid (VB.heap[b11]? = some (.cells #[.int .i64 0, .int .i64 0] 157 (0, 0)) ∧ wr.heap.size ≤ b11) := ⟨(hbE.block _ (lt_at HX11.out.1)).trans HX11.out.1, HX11.out.2⟩
                clear hbE
                refine hK.out _ _ ?_ (fun hHeld => ?_)
                · first | exact hS4 | exact hS3 | exact hS2 | exact hS1
                clear hK K
                try simp only [Act.put, List.setIfInBounds_toArray, List.set_cons_zero, List.set_cons_succ]
                refine wpAnyH_take (i := 10) (oi := { dst := some 56, op := Op.build 157 #[(0, Operand.tmp 50), (1, Operand.tmp 55)], type := 157, pos := "apart.go:49", after := #[{ on := 4, ground := Ground.data }, { on := 9, ground := Ground.data }], guard := none }) (v := ?_) rfl (by kernel_rfl) (by kernel_rfl) (by kernel_rfl) (fun _ _ _ h => h) (Or.inl ⟨by rfl, ?_⟩) (by assumption) ?_
                case refine_2 => intro w hSw; (try dsimp only at hSw); obtain ⟨z0, z1⟩ := HCE.out _ hSw; go_simp; (try with_reducible rfl)
                simp only [Act.put, List.setIfInBounds_toArray, List.set_cons_zero, List.set_cons_succ]
                refine wpAnyH_ready (rs := [12]) (by kernel_rfl) (by simp) ?_
                refine (AllReadyH.cons (o := { dst := none, op := Op.store 157 (Operand.tmp 11) (Operand.tmp 56), type := 0, pos := "apart.go:49", after := #[{ on := 11, ground := Ground.data }, { on := 10, ground := Ground.data }, { on := 9, ground := Ground.chain }, { on := 0, ground := Ground.phase }, { on := 1, ground := Ground.phase }, { on := 2, ground := Ground.phase }, { on := 3, ground := Ground.phase }, { on := 4, ground := Ground.phase }, { on := 5, ground := Ground.phase }, { on := 6, ground := Ground.phase }, { on := 7, ground := Ground.phase }, { on := 8, ground := Ground.phase }, { on := 9, ground := Ground.phase }, { on := 10, ground := Ground.phase }, { on := 11, ground := Ground.phase }], guard := none }) rfl (fun K hK => ?_) AllReadyH.nil)
                have y0 := cell_of_row _ _ 0 _ _ _ HX11.out.1
                have y1 := cell_of_row _ _ 1 _ _ _ HX11.out.1
                have g0 := frozen_of_row _ _ 0 _ _ HX11.out.1
                have g1 := frozen_of_row _ _ 1 _ _ HX11.out.1
                go_simp
                have HK : Hid (Kp (fun b => b = b11) VB ((VB.setCell ⟨b11, 0, none⟩ (.int .i64 j1)).setCell ⟨b11, 1, none⟩ (.int .i64 j2))) := show Kp (fun b => b = b11) _ _ from ((Kp.refl (fun b => b = b11) _).setCell b11 _ _ (fun _ => rfl)).setCell b11 _ _ (fun _ => rfl)
                have HXZ : Hid (((VB.setCell ⟨b11, 0, none⟩ (.int .i64 j1)).setCell ⟨b11, 1, none⟩ (.int .i64 j2)).heap[b11]? = some (.cells #[.int .i64 j1, .int .i64 j2] 157 (0, 0)) ∧ Below wr.heap.size wr ((VB.setCell ⟨b11, 0, none⟩ (.int .i64 j1)).setCell ⟨b11, 1, none⟩ (.int .i64 j2))) := ⟨heap_setCell_same _ b11 1 _ 157 _ (heap_setCell_same _ b11 0 _ 157 _ HX11.out.1), below_kp HB3.out HK.out (fun b hb e => by have e2 : b = b11 := e; have := HX11.out.2; omega)⟩
                have hS4 := (HK.out.block _ (lt_at hS3) (fun e => by have e2 : b9 = b11 := e; have := lt_at HX9.out; have := HX11.out.2; omega)).trans hS3
                clear y0 y1 g0 g1
                refine hK.out _ _ ?_ (fun hHeld => ?_)
                · first | exact hS4 | exact hS3 | exact hS2 | exact hS1
                clear hK K
                try simp only [Act.put, List.setIfInBounds_toArray, List.set_cons_zero, List.set_cons_succ]
                refine wpAnyH_done (by kernel_rfl) ?_ _
                go_wp2_with fail
                go_meet
                exact ⟨_, rfl, HXZ.out.1, HXZ.out.2⟩
            case rest =>
            obtain ⟨b11, rfl, hx11, hbc⟩ := hcut
            have HF4 : Hid (Fz w wc mb (.slice va2 N2 vc2) vs2 G2) := HFZ.out.laid hbc
            have HX9b : Hid (wc.heap[b9]? = some (.cells #[.int .i64 i1, .int .i64 i2] 157 (0, 0))) := (hbc.block _ (lt_at HX9.out)).trans HX9.out
            have HX11 : Hid (wc.heap[b11]? = some (.cells #[.int .i64 j1, .int .i64 j2] 157 (0, 0))) := hx11
            have d0 := cell_of_row _ _ 0 _ _ _ hx11
            have d1 := cell_of_row _ _ 1 _ _ _ hx11
            have HW2 : Hid (W2 (j1, j2)) := ⟨by show Mp.W64 j1; rw [← HJ.out.1]; exact enc_w (n := n1) (by have h := st_in HT.out.1.ok (s := s1) (by rw [HT.out.1.sz]; exact HS.out.1) cc; rw [HT.out.1.sz] at h; exact h) hn1, by show Mp.W64 j2; rw [← HJ.out.2.1]; exact enc_w (n := n2) (by have h := st_in HT.out.2.ok (s := s2) (by rw [HT.out.2.sz]; exact HS.out.2) cc; rw [HT.out.2.sz] at h; exact h) hn2⟩
            have hlook := HF4.out.nm.look HW2.out
            have hkd := HKD2.out (dst T U e0.1 cc)
            rw [HJ.out.2.2] at hkd
            have HBR : Hid (br T U false e0 l (y + 1) = bs T U false e0 (br T U false e0 l y) cc) := by show _ = _; rw [br_up, HCC.out]
            clear hx11 hbc HX9 HFZ
            cases hg : G2 (j1, j2) with
            | some c0 =>
              rw [hg] at hlook hkd
              dsimp only at hlook
              have HOL : Hid (br T U false e0 l (y + 1) = br T U false e0 l y) := by show _ = _; rw [HBR.out]; exact bs_old hkd.symm
              clear hg hkd
              go_wp2
              go_roundw
              case rel => exact ⟨cc + 1, y + 1, _, vs2, G2, rfl, by go_num, by rw [HCC.out], hlt, HF4.out, by rw [HOL.out]; exact HVL2.out, by rw [HOL.out]; exact HKD2.out, HX9b.out⟩
              case measure => simp [intOf]; omega
            | none =>
              rw [hg] at hlook hkd
              dsimp only at hlook
              have HNW : Hid (br T U false e0 l (y + 1) = br T U false e0 l y ++ [(dst T U e0.1 cc, e0.2 ++ [cc])]) := by show _ = _; rw [HBR.out]; exact bs_new hkd.symm
              have HVN : Hid (Vl (vs2 ++ [(dst T U e0.1 cc, k, cc)]) (br T U false e0 l (y + 1))) := by
                show Vl _ _
                rw [HNW.out]
                exact HVL2.out.add (pre_get (br_pre T U false e0 l 0 y (Nat.zero_le _)) HE.out.1)
              have HKN : Hid (Kd (br T U false e0 l (y + 1)) (fun a => if a = (j1, j2) then some N2 else G2 a)) := by
                have h := HKD2.out.add (d := dst T U e0.1 cc) (t := e0.2 ++ [cc]) (c := N2)
                rw [HJ.out.2.2] at h
                show Kd _ _
                rw [HNW.out]
                exact h
              obtain ⟨w13, hr13, hm13, hg13⟩ := HF4.out.nm.store (c := N2) (by rw [HN2.out]; unfold maxLen; omega) HW2.out
              have HMG : Hid (IsDm w13 mb (vs2.length + 1) (fun a => if a = (j1, j2) then some N2 else G2 a) ∧ wc.grownBy w13 (some mb)) := ⟨hm13, hg13⟩
              have HRO : Hid (w13.ownsRow w.heap.size 159 4 (.slice va2 N2 vc2) N2 (vcs vs2) ∧ Below w.heap.size w w13) := by have h := HF4.out.store hg13; rw [HN2.out] at h; exact h
              have km : ∀ {b : Nat} {c : Array Value} {ty : TypeId}, wc.heap[b]? = some (.cells c ty (0, 0)) → w13.heap[b]? = some (.cells c ty (0, 0)) := fun {b c ty} hb => (hg13.block b (lt_at hb) (fun e => by
                obtain ⟨es, ck, hm⟩ := HF4.out.nm.ty
                cases e
                rw [hm] at hb
                cases hb)).trans hb
              have HX13 : Hid (w13.heap[b11]? = some (.cells #[.int .i64 j1, .int .i64 j2] 157 (0, 0)) ∧ w13.heap[b9]? = some (.cells #[.int .i64 i1, .int .i64 i2] 157 (0, 0))) := ⟨km HX11.out, km HX9b.out⟩
              clear hg hkd hm13 hg13 km
              go_upto_region 14 with fail
              clear hlook
              go_upto_region 16 with fail
              clear hr13 d0 d1
              have d0 := cell_of_row _ _ 0 _ _ _ HX13.out.1
              have d1 := cell_of_row _ _ 1 _ _ _ HX13.out.1
              go_wp2_with (refine wpList_append_own_at _ rfl _ _ 160 rfl w.heap.size 159 i159 (.agg #[.int .i64 0, .int .i64 0, .int .i64 0, .int .i64 0]) 4 32 Tryd.underlying160 hi159 hz0 hz1 hz2 rfl (by decide) _ _ _ rfl (HRO.out.1.alloc _) ⟨_, 0, none⟩ 1 1 [.int .i64 j1, .int .i64 j2, .int .i64 (k : Int), .int .i64 (cc : Int)] rfl rfl (cell_four_new _ _ _ _ _ _) (four_one j1 j2 (k : Int) (cc : Int)) (by unfold maxLen; omega) (by omega) (by have := HRO.out.2.size; simp; omega) ?_; intro v15 w15 ho15 hg15 _ hl15; obtain ⟨g15, c15, rfl, _, _⟩ := own_some ho15 (Nat.succ_pos _); have HFN : Hid (Fz w w15 mb (.slice (some ⟨g15, 0, none⟩) (N2 + 1) c15) (vs2 ++ [(dst T U e0.1 cc, k, cc)]) (fun a => if a = (j1, j2) then some N2 else G2 a)) := Fz.add (by rw [HN2.out]; exact HRO.out.1) HRO.out.2 HMG.out.1 HF4.out.mge (by rw [HN2.out, HE.out.2]; show World.ownsRow _ _ _ _ _ _ (_ ++ [.int .i64 (enc (T.st s1 cc)), .int .i64 (enc (U.st s2 cc)), _, _]); rw [HJ.out.1, HJ.out.2.1]; exact ho15) hg15; have HX15 : Hid (w15.heap[b9]? = some (.cells #[.int .i64 i1, .int .i64 i2] 157 (0, 0))) := (hg15.block b9 (lt_at ((heap_alloc_old w13 _ (lt_at HX13.out.2)).trans HX13.out.2)) (fun e => by obtain ⟨d', hd'⟩ := own_ty HRO.out.1 e.symm; exact ty_ne HX13.out.2 hd' (by decide))).trans ((heap_alloc_old w13 _ (lt_at HX13.out.2)).trans HX13.out.2); clear ho15 hg15 hl15)
              go_roundw
              case rel => exact ⟨cc + 1, y + 1, _, vs2 ++ [(dst T U e0.1 cc, k, cc)], (fun a => if a = (j1, j2) then some N2 else G2 a), rfl, by go_num, by rw [HCC.out], hlt, HFN.out, HVN.out, HKN.out, HX15.out⟩
              case measure => simp [intOf]; omega
          · have hcc60 : ¬ (cc : Int) ≤ 60 := by omega
            obtain rfl : y = 60 := by omega
            have HEB : Hid (bf T U false (k + 1) = br T U false e0 l 60) := by
              show _ = _
              rw [bf_up, HL.out, List.getD_eq_getElem?_getD, HE.out.1]
              rfl
            clear hcc
            go_wp2
            go_roundw
            case rel => exact ⟨k + 1, _, vs2, G2, rfl, by go_num, HFZ.out, by rw [HEB.out]; exact HVL2.out, by rw [HEB.out]; exact HKD2.out, HBU.out⟩
            case measure => simp [intOf]; omega
    · obtain rfl : k = N := by omega
      have HAP : Hid (IsAp T U false none) := ⟨k, HBA.out, .inr ⟨by rw [HL.out]; exact HN.out.2, rfl⟩⟩
      clear hfz
      go_wp2
      go_ret2
      exact ⟨_, false, none, rfl, HFZ0.out.below, HAP.out, .inr ⟨rfl, rfl, rfl⟩⟩
end Go.Proofs.YtfjocafepigijaaDoor.Su
