/- arriving: the arcs to each state, turned round. Condition: the machine is right and small. -/
import Derived.Test.YtfjocafepigijaaDoorEcM
namespace Go.Proofs.YtfjocafepigijaaDoor.Ra
open Go.RowKit Mv Qp Sk Po Ps Wd Se Mp St Cm Nm Nx Tc

/-- an arc turned round -/
def tn (a : Arc) : Arc := (a.2.1, a.1, a.2.2.1, a.2.2.2.1, a.2.2.2.2)
set_option maxHeartbeats 4000000 in
set_option maxRecDepth 100000 in
theorem arriving_any (S : Nat) (A : List Arc) (va vf : Value) (w : World) (hrow : Mv.Row w va 5 A.length (acs A)) (hA : ∀ a ∈ A, ∃ f : Nat, a.2.1 = (f : Int) ∧ f < S) (hS : S ≤ 40) (hAl : A.length ≤ 20000) :
    Calls Tryd.prog 61 #[.agg #[.int .i64 S, va, vf]] w fun e w' => ∃ sb V vs, e = .returned (.slice (some ⟨sb, 0, none⟩) S S) ∧ Rt w w' sb S (rws tn A) V vs := by
  obtain ⟨hxl, aa, ca, rfl, _, hAx⟩ := hrow
  have hmk := run_mk S hS
  have HA : Hid (∀ a ∈ A, ∃ f : Nat, a.2.1 = (f : Int) ∧ f < S) := hA
  have HAx : Hid (A.length = 0 ∨ ∃ b off, aa = some ⟨b, off, none⟩ ∧ b < w.heap.size ∧ ∀ j u, (acs A)[j]? = some u → w.cell? ⟨b, off + j, none⟩ = some u) := hAx
  clear hA hAx hxl
  have hb0 : Below w.heap.size w (w.alloc (.cells #[.int .i64 S, .slice aa A.length ca, vf] 25)) := (Below.refl _ w).alloc (Nat.le_refl _) _
  have hrt := Rt.begun hb0 hS
  rw [show (w.alloc (.cells #[.int .i64 S, .slice aa A.length ca, vf] 25)).heap.size = w.heap.size + 1 by simp] at hrt
  have hrow1 := (heap_alloc_old (w.alloc (.cells #[.int .i64 S, .slice aa A.length ca, vf] 25)) (.cells (mc S) 22) (by simp)).trans (heap_alloc_new w (.cells #[.int .i64 S, .slice aa A.length ca, vf] 25))
  have hb1 := cell_of_row _ _ 1 _ _ _ hrow1
  obtain ⟨i0, hi, hz0, hz1, hz2⟩ := info_parts info36
  go_enter Tryd.func61, Tryd.ntmps61
  go_upto_region 3 with fail
  generalize hV : (w.alloc (.cells #[.int .i64 S, .slice aa A.length ca, vf] 25)).alloc (.cells (mc S) 22) = Vb at *
  clear hV
  generalize w.heap.size + 1 = sb at *
  go_wp2
  go_loopw [12] (fun a wr => ∃ (y : Nat) (V : Nat → Value) (vs : List Value), a = .int .i64 y ∧ y ≤ A.length ∧ Rt w wr sb S (rws tn (A.take y)) V vs) (fun a _ => A.length - (intOf a).toNat)
  case atStart => exact ⟨0, _, _, rfl, Nat.zero_le _, hrt⟩
  case round =>
    clear hrt hb0 hb1 hrow1 hmk
    obtain ⟨y, Vx, vs, rfl, hy, hN⟩ := hrel
    by_cases hlt : y < A.length
    · obtain ⟨b, off, rfl, hbl, hcs⟩ : ∃ b off, aa = some ⟨b, off, none⟩ ∧ b < w.heap.size ∧ ∀ j u, (acs A)[j]? = some u → wr.cell? ⟨b, off + j, none⟩ = some u := by
        obtain ⟨b, off, e, hb, hc⟩ := HAx.out.resolve_left (by omega)
        exact ⟨b, off, e, hb, fun j u hu => (hN.below.cell hb).trans (hc j u hu)⟩
      have u := acs_at A y hlt
      obtain ⟨f, hfa, hf⟩ := HA.out _ (List.getElem_mem hlt)
      obtain ⟨tI, fI, iI, oI, xI, ea⟩ : ∃ f t i1 o1 x, A[y] = (f, t, i1, o1, x) := ⟨_, _, _, _, _, rfl⟩
      rw [ea] at u hfa
      dsimp only at hfa
      subst hfa
      have htk : A.take (y + 1) = A.take y ++ [(tI, (f : Int), iI, oI, xI)] := by rw [← ea]; exact (List.take_append_getElem hlt).symm
      have p0 := hcs _ _ u.1
      have p1 := hcs _ _ u.2.1
      have p2 := hcs _ _ u.2.2.1
      have p3 := hcs _ _ u.2.2.2.1
      have p4 := hcs _ _ u.2.2.2.2
      rw [← Nat.add_assoc] at p1 p2 p3 p4
      have HTK : Hid (rws tn (A.take (y + 1)) = adn (rws tn (A.take y)) f ((f : Int), tI, iI, oI, xI)) := by show _ = _; rw [htk]; exact rws_up _ _ _ _ rfl
      have HRL : Hid ((rws tn (A.take y) f).length ≤ 20000) := Nat.le_trans (rws_len _ _ _) (by rw [List.length_take]; omega)
      have HR : Hid (Rt w (wr.alloc (.cells #[.int .i64 (f : Int), .int .i64 tI, .int .i64 iI, .int .i64 oI, .int .i64 xI] 64)) sb S (rws tn (A.take y)) Vx vs) := hN.alloc _
      have hx := heap_alloc_new wr (.cells #[.int .i64 (f : Int), .int .i64 tI, .int .i64 iI, .int .i64 oI, .int .i64 xI] 64)
      obtain ⟨v0, hv0⟩ : ∃ v, Vx f = v := ⟨_, rfl⟩
      have HV0 : Hid (Vx f = v0) := hv0
      have hvB : ¬ v0.ownBlock = some wr.heap.size := fun e => by rw [← hv0] at e; have := ((hN.rows _).lt _ e).2; omega
      have hsB : ¬ wr.heap.size = sb := fun e => by have := (hN.heads.lt sb rfl).2; omega
      clear u hcs ea htk hN hv0
      go_upto_region 6 with fail
      clear p0 p1 p2 p3 p4
      generalize hV : wr.alloc (.cells #[.int .i64 (f : Int), .int .i64 tI, .int .i64 iI, .int .i64 oI, .int .i64 xI] 64) = V at *
      clear hV
      generalize wr.heap.size = bx at *
      have HCE : Hid _ := fun (W : World) (hSw : W.heap[bx]? = some (.cells #[.int .i64 (f : Int), .int .i64 tI, .int .i64 iI, .int .i64 oI, .int .i64 xI] 64 (0, 0))) => (And.intro (cell_of_row _ _ 0 _ _ _ hSw) (And.intro (cell_of_row _ _ 1 _ _ _ hSw) (And.intro (cell_of_row _ _ 2 _ _ _ hSw) (And.intro (cell_of_row _ _ 3 _ _ _ hSw) (cell_of_row _ _ 4 _ _ _ hSw)))))
      refine wp_region_held_drew (S := fun W => W.heap[bx]? = some (.cells #[.int .i64 (f : Int), .int .i64 tI, .int .i64 iI, .int .i64 oI, .int .i64 xI] 64 (0, 0))) (by kernel_rfl) (by exact hx) (fun hHeld => ?_)
      have HR0 : Hid (Rt w V.drew sb S (rws tn (A.take y)) Vx vs) := HR.out.drew
      have hx0 := hHeld
      clear HR hx
      generalize hV : V.drew = V0 at *
      clear hV
      refine wpAnyH_take (i := 0) (oi := { dst := some 22, op := Op.move (Operand.tmp 3), type := 73, pos := "machine.go:86", after := #[], guard := none }) (v := ?_) rfl (by kernel_rfl) (by kernel_rfl) (by kernel_rfl) (fun _ _ _ h => h) (Or.inl ⟨by rfl, ?_⟩) (by assumption) ?_
      case refine_2 => intro w hSw; (try dsimp only at hSw); obtain ⟨z0, z1, z2, z3, z4⟩ := HCE.out _ hSw; go_simp; (try with_reducible rfl)
      simp only [Act.put, List.setIfInBounds_toArray, List.set_cons_zero, List.set_cons_succ]
      refine wpAnyH_take (i := 1) (oi := { dst := some 23, op := Op.fieldAddr 64 (Operand.tmp 5) 0, type := 0, pos := "machine.go:86", after := #[], guard := none }) (v := ?_) rfl (by kernel_rfl) (by kernel_rfl) (by kernel_rfl) (fun _ _ _ h => h) (Or.inl ⟨by rfl, ?_⟩) (by assumption) ?_
      case refine_2 => intro w hSw; (try dsimp only at hSw); obtain ⟨z0, z1, z2, z3, z4⟩ := HCE.out _ hSw; go_simp; (try with_reducible rfl)
      simp only [Act.put, List.setIfInBounds_toArray, List.set_cons_zero, List.set_cons_succ]
      refine wpAnyH_take (i := 2) (oi := { dst := some 24, op := Op.load 3 (Operand.tmp 23), type := 3, pos := "machine.go:86", after := #[{ on := 1, ground := Ground.data }], guard := none }) (v := ?_) rfl (by kernel_rfl) (by kernel_rfl) (by kernel_rfl) (fun _ _ _ h => h) (Or.inl ⟨by rfl, ?_⟩) (by assumption) ?_
      case refine_2 => intro w hSw; (try dsimp only at hSw); obtain ⟨z0, z1, z2, z3, z4⟩ := HCE.out _ hSw; go_simp; (try with_reducible rfl)
      simp only [Act.put, List.setIfInBounds_toArray, List.set_cons_zero, List.set_cons_succ]
      refine wpAnyH_take (i := 3) (oi := { dst := some 25, op := Op.move (Operand.tmp 3), type := 73, pos := "machine.go:86", after := #[], guard := none }) (v := ?_) rfl (by kernel_rfl) (by kernel_rfl) (by kernel_rfl) (fun _ _ _ h => h) (Or.inl ⟨by rfl, ?_⟩) (by assumption) ?_
      case refine_2 => intro w hSw; (try dsimp only at hSw); obtain ⟨z0, z1, z2, z3, z4⟩ := HCE.out _ hSw; go_simp; (try with_reducible rfl)
      simp only [Act.put, List.setIfInBounds_toArray, List.set_cons_zero, List.set_cons_succ]
      refine wpAnyH_take (i := 4) (oi := { dst := some 26, op := Op.fieldAddr 64 (Operand.tmp 5) 0, type := 0, pos := "machine.go:86", after := #[], guard := none }) (v := ?_) rfl (by kernel_rfl) (by kernel_rfl) (by kernel_rfl) (fun _ _ _ h => h) (Or.inl ⟨by rfl, ?_⟩) (by assumption) ?_
      case refine_2 => intro w hSw; (try dsimp only at hSw); obtain ⟨z0, z1, z2, z3, z4⟩ := HCE.out _ hSw; go_simp; (try with_reducible rfl)
      simp only [Act.put, List.setIfInBounds_toArray, List.set_cons_zero, List.set_cons_succ]
      refine wpAnyH_take (i := 5) (oi := { dst := some 27, op := Op.load 3 (Operand.tmp 26), type := 3, pos := "machine.go:86", after := #[{ on := 4, ground := Ground.data }], guard := none }) (v := ?_) rfl (by kernel_rfl) (by kernel_rfl) (by kernel_rfl) (fun _ _ _ h => h) (Or.inl ⟨by rfl, ?_⟩) (by assumption) ?_
      case refine_2 => intro w hSw; (try dsimp only at hSw); obtain ⟨z0, z1, z2, z3, z4⟩ := HCE.out _ hSw; go_simp; (try with_reducible rfl)
      simp only [Act.put, List.setIfInBounds_toArray, List.set_cons_zero, List.set_cons_succ]
      refine wpAnyH_take (i := 6) (oi := { dst := some 28, op := Op.indexAddr 73 (Operand.tmp 25) (Operand.tmp 27), type := 0, pos := "machine.go:86", after := #[{ on := 3, ground := Ground.data }, { on := 5, ground := Ground.data }], guard := none }) (v := ?_) rfl (by kernel_rfl) (by kernel_rfl) (by kernel_rfl) (fun _ _ _ h => h) (Or.inl ⟨by rfl, ?_⟩) (by assumption) ?_
      case refine_2 => intro w hSw; (try dsimp only at hSw); obtain ⟨z0, z1, z2, z3, z4⟩ := HCE.out _ hSw; go_simp; (try with_reducible rfl)
      simp only [Act.put, List.setIfInBounds_toArray, List.set_cons_zero, List.set_cons_succ]
      refine wpAnyH_take (i := 8) (oi := { dst := some 30, op := Op.load 64 (Operand.tmp 5), type := 64, pos := "machine.go:86", after := #[], guard := none }) (v := ?_) rfl (by kernel_rfl) (by kernel_rfl) (by kernel_rfl) (fun _ _ _ h => h) (Or.inl ⟨by rfl, ?_⟩) (by assumption) ?_
      case refine_2 => intro w hSw; (try dsimp only at hSw); obtain ⟨z0, z1, z2, z3, z4⟩ := HCE.out _ hSw; go_simp; (try with_reducible rfl)
      simp only [Act.put, List.setIfInBounds_toArray, List.set_cons_zero, List.set_cons_succ]
      refine wpAnyH_ready (rs := [7, 9]) (by kernel_rfl) (by simp) ?_
      refine (AllReadyH.cons (o := { dst := some 29, op := Op.load 22 (Operand.tmp 28), type := 22, pos := "machine.go:86", after := #[{ on := 6, ground := Ground.data }], guard := none }) rfl (fun K hK => ?_) (AllReadyH.cons (o := { dst := some 31, op := Op.buildSlice 22 1 #[(0, Operand.tmp 30)], type := 22, pos := "machine.go:86", after := #[{ on := 8, ground := Ground.data }], guard := none }) rfl (fun K hK => ?_) AllReadyH.nil))
      · skip
        have c7 := HR0.out.cell hf
        rw [HV0.out] at c7
        go_simp
        refine hK.out _ _ ?_ (fun hHeld => ?_)
        · first | exact hx1 | exact hx0
        clear hK K
        try simp only [Act.put, List.setIfInBounds_toArray, List.set_cons_zero, List.set_cons_succ]
        clear c7
        refine wpAnyH_ready (rs := [9]) (by kernel_rfl) (by simp) ?_
        refine (AllReadyH.cons (o := { dst := some 31, op := Op.buildSlice 22 1 #[(0, Operand.tmp 30)], type := 22, pos := "machine.go:86", after := #[{ on := 8, ground := Ground.data }], guard := none }) rfl (fun K hK => ?_) AllReadyH.nil)
        go_simp
        have HR1 : Hid _ := HR0.out.alloc (.cells #[.int .i64 (f : Int), .int .i64 tI, .int .i64 iI, .int .i64 oI, .int .i64 xI] 64)
        have hx1 := (heap_alloc_old V0 (.cells #[.int .i64 (f : Int), .int .i64 tI, .int .i64 iI, .int .i64 oI, .int .i64 xI] 64) (lt_get hx0)).trans hx0
        have hn1 := cell_five_at V0 V0.heap.size (.int .i64 (f : Int)) (.int .i64 tI) (.int .i64 iI) (.int .i64 oI) (.int .i64 xI) 64 rfl
        refine hK.out _ _ ?_ (fun hHeld => ?_)
        · exact hx1
        clear hK K
        try simp only [Act.put, List.setIfInBounds_toArray, List.set_cons_zero, List.set_cons_succ]
        generalize hV : V0.alloc (.cells #[.int .i64 (f : Int), .int .i64 tI, .int .i64 iI, .int .i64 oI, .int .i64 xI] 64) = V1 at *
        clear hV
        generalize V0.heap.size = bs at *
        refine wpAnyH_ready (rs := [10]) (by kernel_rfl) (by simp) ?_
        refine (AllReadyH.cons (o := { dst := some 32, op := Op.call { callee := Callee.builtin Builtin.append, args := #[Operand.tmp 29, Operand.tmp 31], argTypes := #[22, 22] }, type := 22, pos := "machine.go:86", after := #[{ on := 7, ground := Ground.data }, { on := 9, ground := Ground.data }], guard := none }) rfl (fun K hK => ?_) AllReadyH.nil)
        refine step_append_at rfl (.tmp 29) (.tmp 31) 22 rfl w.heap.size 64 i0 (.agg #[.int .i64 0, .int .i64 0, .int .i64 0, .int .i64 0, .int .i64 0]) 5 40 Tryd.underlying22 hi hz0 hz1 hz2 rfl (by decide) v0 _ _ rfl (by rw [← HV0.out]; exact HR1.out.rows f) ⟨bs, 0, none⟩ 1 1 [.int .i64 (f : Int), .int .i64 tI, .int .i64 iI, .int .i64 oI, .int .i64 xI] rfl rfl hn1 (five_one _ _ _ _ _) (by have := HRL.out; unfold maxLen; omega) (by have := HRL.out; omega) HR1.out.below.size ?_
        intro v1 w1 ho1 hg1 hl1
        obtain ⟨gg, cc, rfl, _, _⟩ := own_some ho1 (Nat.succ_pos _)
        have hN2 := HR1.out.add (a := ((f : Int), tI, iI, oI, xI)) hf ho1 (by rw [HV0.out]; exact hg1) (by rw [HV0.out]; exact hl1.imp id (fun h => ⟨_, h, Nat.le_refl _⟩))
        have z1 := hN2.1.1
        have z2 := hN2.1.2
        have HN2 : Hid _ := hN2.2
        rw [HV0.out] at z1
        have hx2 := (hg1.block bx (lt_get hx1) (fun e => hvB e.symm)).trans hx1
        clear hN2 ho1 hg1 hl1
        refine hK.out _ _ ?_ (fun hHeld => ?_)
        · exact hx2
        clear hK K
        try simp only [Act.put, List.setIfInBounds_toArray, List.set_cons_zero, List.set_cons_succ]
        refine wpAnyH_take (i := 11) (oi := { dst := some 33, op := Op.indexAddr 73 (Operand.tmp 22) (Operand.tmp 24), type := 0, pos := "machine.go:86", after := #[{ on := 0, ground := Ground.data }, { on := 2, ground := Ground.data }, { on := 0, ground := Ground.phase }, { on := 1, ground := Ground.phase }, { on := 2, ground := Ground.phase }, { on := 3, ground := Ground.phase }, { on := 4, ground := Ground.phase }, { on := 5, ground := Ground.phase }, { on := 6, ground := Ground.phase }, { on := 7, ground := Ground.phase }, { on := 8, ground := Ground.phase }, { on := 9, ground := Ground.phase }, { on := 10, ground := Ground.phase }], guard := none }) (v := ?_) rfl (by kernel_rfl) (by kernel_rfl) (by kernel_rfl) (fun _ _ _ h => h) (Or.inl ⟨by rfl, ?_⟩) (by assumption) ?_
        case refine_2 => intro w hSw; (try dsimp only at hSw); obtain ⟨z0, z1, z2, z3, z4⟩ := HCE.out _ hSw; go_simp; (try with_reducible rfl)
        simp only [Act.put, List.setIfInBounds_toArray, List.set_cons_zero, List.set_cons_succ]
        refine wpAnyH_ready (rs := [12]) (by kernel_rfl) (by simp) ?_
        refine (AllReadyH.cons (o := { dst := none, op := Op.store 22 (Operand.tmp 33) (Operand.tmp 32), type := 0, pos := "machine.go:86", after := #[{ on := 11, ground := Ground.data }, { on := 10, ground := Ground.data }, { on := 10, ground := Ground.chain }, { on := 0, ground := Ground.phase }, { on := 1, ground := Ground.phase }, { on := 2, ground := Ground.phase }, { on := 3, ground := Ground.phase }, { on := 4, ground := Ground.phase }, { on := 5, ground := Ground.phase }, { on := 6, ground := Ground.phase }, { on := 7, ground := Ground.phase }, { on := 8, ground := Ground.phase }, { on := 9, ground := Ground.phase }, { on := 10, ground := Ground.phase }], guard := none }) rfl (fun K hK => ?_) AllReadyH.nil)
        go_simp
        refine hK.out _ _ ?_ (fun hHeld => ?_)
        · exact (heap_setCell_other _ _ _ _ hsB).trans hx2
        clear hK K
        try simp only [Act.put, List.setIfInBounds_toArray, List.set_cons_zero, List.set_cons_succ]
        refine wpAnyH_done (by kernel_rfl) ?_ _
        go_wp2
        exact ⟨⟨y + 1, _, _, by go_num, hlt, by rw [HTK.out]; exact HN2.out⟩, by simp [intOf]; omega⟩
      · skip
        go_simp
        have HR1 : Hid _ := HR0.out.alloc (.cells #[.int .i64 (f : Int), .int .i64 tI, .int .i64 iI, .int .i64 oI, .int .i64 xI] 64)
        have hx1 := (heap_alloc_old V0 (.cells #[.int .i64 (f : Int), .int .i64 tI, .int .i64 iI, .int .i64 oI, .int .i64 xI] 64) (lt_get hx0)).trans hx0
        have hn1 := cell_five_at V0 V0.heap.size (.int .i64 (f : Int)) (.int .i64 tI) (.int .i64 iI) (.int .i64 oI) (.int .i64 xI) 64 rfl
        refine hK.out _ _ ?_ (fun hHeld => ?_)
        · exact hx1
        clear hK K
        try simp only [Act.put, List.setIfInBounds_toArray, List.set_cons_zero, List.set_cons_succ]
        generalize hV : V0.alloc (.cells #[.int .i64 (f : Int), .int .i64 tI, .int .i64 iI, .int .i64 oI, .int .i64 xI] 64) = V1 at *
        clear hV
        generalize V0.heap.size = bs at *
        refine wpAnyH_ready (rs := [7]) (by kernel_rfl) (by simp) ?_
        refine (AllReadyH.cons (o := { dst := some 29, op := Op.load 22 (Operand.tmp 28), type := 22, pos := "machine.go:86", after := #[{ on := 6, ground := Ground.data }], guard := none }) rfl (fun K hK => ?_) AllReadyH.nil)
        have c7 := HR1.out.cell hf
        rw [HV0.out] at c7
        go_simp
        refine hK.out _ _ ?_ (fun hHeld => ?_)
        · first | exact hx1 | exact hx0
        clear hK K
        try simp only [Act.put, List.setIfInBounds_toArray, List.set_cons_zero, List.set_cons_succ]
        clear c7
        refine wpAnyH_ready (rs := [10]) (by kernel_rfl) (by simp) ?_
        refine (AllReadyH.cons (o := { dst := some 32, op := Op.call { callee := Callee.builtin Builtin.append, args := #[Operand.tmp 29, Operand.tmp 31], argTypes := #[22, 22] }, type := 22, pos := "machine.go:86", after := #[{ on := 7, ground := Ground.data }, { on := 9, ground := Ground.data }], guard := none }) rfl (fun K hK => ?_) AllReadyH.nil)
        refine step_append_at rfl (.tmp 29) (.tmp 31) 22 rfl w.heap.size 64 i0 (.agg #[.int .i64 0, .int .i64 0, .int .i64 0, .int .i64 0, .int .i64 0]) 5 40 Tryd.underlying22 hi hz0 hz1 hz2 rfl (by decide) v0 _ _ rfl (by rw [← HV0.out]; exact HR1.out.rows f) ⟨bs, 0, none⟩ 1 1 [.int .i64 (f : Int), .int .i64 tI, .int .i64 iI, .int .i64 oI, .int .i64 xI] rfl rfl hn1 (five_one _ _ _ _ _) (by have := HRL.out; unfold maxLen; omega) (by have := HRL.out; omega) HR1.out.below.size ?_
        intro v1 w1 ho1 hg1 hl1
        obtain ⟨gg, cc, rfl, _, _⟩ := own_some ho1 (Nat.succ_pos _)
        have hN2 := HR1.out.add (a := ((f : Int), tI, iI, oI, xI)) hf ho1 (by rw [HV0.out]; exact hg1) (by rw [HV0.out]; exact hl1.imp id (fun h => ⟨_, h, Nat.le_refl _⟩))
        have z1 := hN2.1.1
        have z2 := hN2.1.2
        have HN2 : Hid _ := hN2.2
        rw [HV0.out] at z1
        have hx2 := (hg1.block bx (lt_get hx1) (fun e => hvB e.symm)).trans hx1
        clear hN2 ho1 hg1 hl1
        refine hK.out _ _ ?_ (fun hHeld => ?_)
        · exact hx2
        clear hK K
        try simp only [Act.put, List.setIfInBounds_toArray, List.set_cons_zero, List.set_cons_succ]
        refine wpAnyH_take (i := 11) (oi := { dst := some 33, op := Op.indexAddr 73 (Operand.tmp 22) (Operand.tmp 24), type := 0, pos := "machine.go:86", after := #[{ on := 0, ground := Ground.data }, { on := 2, ground := Ground.data }, { on := 0, ground := Ground.phase }, { on := 1, ground := Ground.phase }, { on := 2, ground := Ground.phase }, { on := 3, ground := Ground.phase }, { on := 4, ground := Ground.phase }, { on := 5, ground := Ground.phase }, { on := 6, ground := Ground.phase }, { on := 7, ground := Ground.phase }, { on := 8, ground := Ground.phase }, { on := 9, ground := Ground.phase }, { on := 10, ground := Ground.phase }], guard := none }) (v := ?_) rfl (by kernel_rfl) (by kernel_rfl) (by kernel_rfl) (fun _ _ _ h => h) (Or.inl ⟨by rfl, ?_⟩) (by assumption) ?_
        case refine_2 => intro w hSw; (try dsimp only at hSw); obtain ⟨z0, z1, z2, z3, z4⟩ := HCE.out _ hSw; go_simp; (try with_reducible rfl)
        simp only [Act.put, List.setIfInBounds_toArray, List.set_cons_zero, List.set_cons_succ]
        refine wpAnyH_ready (rs := [12]) (by kernel_rfl) (by simp) ?_
        refine (AllReadyH.cons (o := { dst := none, op := Op.store 22 (Operand.tmp 33) (Operand.tmp 32), type := 0, pos := "machine.go:86", after := #[{ on := 11, ground := Ground.data }, { on := 10, ground := Ground.data }, { on := 10, ground := Ground.chain }, { on := 0, ground := Ground.phase }, { on := 1, ground := Ground.phase }, { on := 2, ground := Ground.phase }, { on := 3, ground := Ground.phase }, { on := 4, ground := Ground.phase }, { on := 5, ground := Ground.phase }, { on := 6, ground := Ground.phase }, { on := 7, ground := Ground.phase }, { on := 8, ground := Ground.phase }, { on := 9, ground := Ground.phase }, { on := 10, ground := Ground.phase }], guard := none }) rfl (fun K hK => ?_) AllReadyH.nil)
        go_simp
        refine hK.out _ _ ?_ (fun hHeld => ?_)
        · exact (heap_setCell_other _ _ _ _ hsB).trans hx2
        clear hK K
        try simp only [Act.put, List.setIfInBounds_toArray, List.set_cons_zero, List.set_cons_succ]
        refine wpAnyH_done (by kernel_rfl) ?_ _
        go_wp2
        exact ⟨⟨y + 1, _, _, by go_num, hlt, by rw [HTK.out]; exact HN2.out⟩, by simp [intOf]; omega⟩
    · obtain rfl : y = A.length := by omega
      have HN : Hid (Rt w wr sb S (rws tn A) Vx vs) := by have := hN; rw [List.take_length] at this; exact this
      clear hN
      go_wp2
      go_ret
      exact ⟨_, _, _, rfl, HN.out⟩
end Go.Proofs.YtfjocafepigijaaDoor.Ra
