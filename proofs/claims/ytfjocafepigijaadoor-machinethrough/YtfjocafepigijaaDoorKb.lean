/- usefulPairs: the first pair, and those through which a walk can go. Conditions: right and small machines. -/
import Derived.Test.YtfjocafepigijaaDoorSkM
import Derived.Test.YtfjocafepigijaaDoorMlM
import Derived.Test.YtfjocafepigijaaDoorGb
namespace Go.Proofs.YtfjocafepigijaaDoor.Cu
open Go.RowKit Mv Set Qp Sk Po Ps Wd Se Mp St Cm Nm Nx Ra Am Pa Tc
open CR (nc)

theorem fin_at {w wr : World} {a : Option Addr} {c n : Nat} {L : List (Int × Int)} (h : Mv.Row w (.slice a n c) 2 L.length (fcs L)) (hb : Below w.heap.size w wr) {y : Nat} (hy : y < L.length) : ∃ b off, a = some ⟨b, off, none⟩ ∧ wr.cell? ⟨b, off + y * 2, none⟩ = some (.int .i64 (L[y]).1) ∧ wr.cell? ⟨b, off + y * 2 + 1, none⟩ = some (.int .i64 (L[y]).2) := by
 obtain ⟨_, a', c', e, _, hr⟩ := h
 cases e
 obtain ⟨b, off, e, hbl, hc⟩ := hr.resolve_left (by omega)
 have hcs := fun j u hu => (hb.cell (p := ⟨b, off + j, none⟩) hbl).trans (hc j u hu)
 have u := fcs_at L y hy
 have p0 := hcs _ _ u.1
 have p1 := hcs _ _ u.2
 rw [← Nat.add_assoc] at p1
 exact ⟨b, off, e, p0, p1⟩
set_option maxHeartbeats 8000000 in
set_option maxRecDepth 100000 in
theorem useful_any (C SA SB fb' gb gc nb m : Nat) (F R G : Nat → List Arc) (gs : List Nat) (A B : List Arc) (fa fb : List (Int × Int)) (aa ab af bf : Option Addr) (ca cb cf df : Nat) (w : World) (HCP : Hid (IsCp w C SA SB F R fb' gb gc nb m gs G)) (HFO : Hid (FOk SA F)) (HRO : Hid (ROk SB R)) (h0A : 0 < SA) (h0 : 0 < SB) (hSA : SA ≤ 40) (hSB : SB ≤ 40)
  (HRA : Hid (Mv.Row w (.slice aa A.length ca) 5 A.length (acs A))) (HRB : Hid (Mv.Row w (.slice ab B.length cb) 5 B.length (acs B))) (HGA : Hid (Rgt SA A)) (HGB : Hid (Rgt SB B)) (hAl : A.length ≤ 120) (hBl : B.length ≤ 120)
  (HRFA : Hid (Mv.Row w (.slice af fa.length cf) 2 fa.length (fcs fa))) (HRFB : Hid (Mv.Row w (.slice bf fb.length df) 2 fb.length (fcs fb))) (HFA : Hid (∀ x (h : x < fa.length), finB (SA : Int) fa[x] = true)) (HFB : Hid (∀ x (h : x < fb.length), finB (SB : Int) fb[x] = true)) (hfal : fa.length ≤ 40) (hfbl : fb.length ≤ 40) :
  Calls Tryd.prog 41 #[.agg #[.int .i64 SA, .slice aa A.length ca, .slice af fa.length cf], .agg #[.int .i64 SB, .slice ab B.length cb, .slice bf fb.length df], .pointer (some ⟨C, 0, none⟩)] w fun e w' => ∃ vm ws wl, e = .returned vm ∧ IsSet w' w.heap.size vm (SA * SB) ws ∧ (∀ k, mem ws k = true → k < SA * SB) ∧ mem ws 0 = true ∧ (∀ k ∈ eL SB fa fb fa.length, mem wl k = true) ∧ (∀ k, mem wl k = true → ∀ k' : Nat, (∃ e ∈ arcsP (rws tn A) (rws tn B) SB k, e.2.1 = (k' : Int)) → mem wl k' = true) ∧ (∀ k, mem ws k = true → ∀ k' : Nat, (∃ e ∈ arcsP F R SB k, e.2.1 = (k' : Int)) → mem wl k' = true → mem ws k' = true) ∧ Below w.heap.size w w' := by
 obtain ⟨i0, hi, hz0, hz1, hz2⟩ := info_parts inf3
 have hb1 : Below w.heap.size w (w.alloc (.cells #[.int .i64 SA, .slice aa A.length ca, .slice af fa.length cf] 25)) := (Below.refl _ w).alloc (Nat.le_refl _) _
 have hs1 : (w.alloc (.cells #[.int .i64 SA, .slice aa A.length ca, .slice af fa.length cf] 25)).heap.size = w.heap.size + 1 := by simp
 have hBV := hb1.alloc (by rw [hs1]; omega) (.cells #[.int .i64 SB, .slice ab B.length cb, .slice bf fb.length df] 25)
 have xA := (heap_alloc_old (w.alloc (.cells #[.int .i64 SA, .slice aa A.length ca, .slice af fa.length cf] 25)) (.cells #[.int .i64 SB, .slice ab B.length cb, .slice bf fb.length df] 25) (by rw [hs1]; omega)).trans (heap_alloc_new w (.cells #[.int .i64 SA, .slice aa A.length ca, .slice af fa.length cf] 25))
 have xB := heap_alloc_new (w.alloc (.cells #[.int .i64 SA, .slice aa A.length ca, .slice af fa.length cf] 25)) (.cells #[.int .i64 SB, .slice ab B.length cb, .slice bf fb.length df] 25)
 rw [hs1] at xB
 go_enter Tryd.func41, Tryd.ntmps41
 go_upto_region 2 with fail
 clear hs1 hb1
 generalize hV : (w.alloc (.cells #[.int .i64 SA, .slice aa A.length ca, .slice af fa.length cf] 25)).alloc (.cells #[.int .i64 SB, .slice ab B.length cb, .slice bf fb.length df] 25) = V0 at *
 clear hV
 obtain ⟨ra, hra⟩ : ∃ ra : Array Value, #[.int .i64 SA, .slice aa A.length ca, .slice af fa.length cf] = ra := ⟨_, rfl⟩
 obtain ⟨rb, hrb⟩ : ∃ rb : Array Value, #[.int .i64 SB, .slice ab B.length cb, .slice bf fb.length df] = rb := ⟨_, rfl⟩
 have HRa : Hid (#[Value.int .i64 SA, .slice aa A.length ca, .slice af fa.length cf] = ra) := hra
 have HRb : Hid (#[Value.int .i64 SB, .slice ab B.length cb, .slice bf fb.length df] = rb) := hrb
 have HA2 : Hid (ra[2]? = some (.slice af fa.length cf)) := by show _ = _; rw [← hra]; rfl
 have HB2 : Hid (rb[2]? = some (.slice bf fb.length df)) := by show _ = _; rw [← hrb]; rfl
 have HB0' : Hid (rb[0]? = some (.int .i64 SB)) := by show _ = _; rw [← hrb]; rfl
 have a2 := cell_of_row _ _ 2 _ _ _ xA
 rw [hra] at xA
 rw [hrb] at xB
 clear hra hrb
 have HX0 : Hid (V0.heap[w.heap.size]? = some (.cells ra 25 (0, 0)) ∧ V0.heap[w.heap.size + 1]? = some (.cells rb 25 (0, 0))) := ⟨xA, xB⟩
 have HB0 : Hid (Below w.heap.size w V0) := hBV
 clear xA xB hBV
 go_wp2
 go_loopw [7, 18] (fun s7 a wr => ∃ (i : Nat) (v7 : Value), v7 = s7 ∧ a = .int .i64 i ∧ i ≤ fa.length ∧ Below w.heap.size w wr ∧ (wr.heap[w.heap.size]? = some (.cells ra 25 (0, 0)) ∧ wr.heap[w.heap.size + 1]? = some (.cells rb 25 (0, 0))) ∧ wr.ownsRow (w.heap.size + 2) 3 1 v7 (eL SB fa fb i).length (ns (eL SB fa fb i))) (fun _ a _ => fa.length - (intOf a).toNat)
 case atStart => exact ⟨0, _, rfl, rfl, Nat.zero_le _, HB0.out, HX0.out, ⟨rfl, .inl ⟨rfl, rfl⟩⟩⟩
 case round =>
  clear HB0 HX0 a2
  obtain ⟨i, v7, rfl, rfl, hi', hb, hx, ho⟩ := hrel
  have HO : Hid (wr.ownsRow (w.heap.size + 2) 3 1 v7 (eL SB fa fb i).length (ns (eL SB fa fb i))) := ho
  have HB : Hid (Below w.heap.size w wr) := hb
  have HX : Hid (wr.heap[w.heap.size]? = some (.cells ra 25 (0, 0)) ∧ wr.heap[w.heap.size + 1]? = some (.cells rb 25 (0, 0))) := hx
  by_cases hlt : i < fa.length
  ·obtain ⟨bb, off, rfl, p0, p1⟩ := fin_at HRFA.out hb hlt
   obtain ⟨s, x, ef, hsS, _⟩ := fin_nat (HFA.out i hlt)
   rw [ef] at p0 p1
   dsimp only at p0 p1
   have HEF : Hid (fa[i] = ((s : Int), (x : Int))) := ef
   have hbx := heap_alloc_new wr (.cells #[.int .i64 (s : Int), .int .i64 (x : Int)] 66)
   have HO1 : Hid ((wr.alloc (.cells #[.int .i64 (s : Int), .int .i64 (x : Int)] 66)).ownsRow (w.heap.size + 2) 3 1 v7 (eL SB fa fb i).length (ns (eL SB fa fb i))) := ho.alloc _
   have HB1 : Hid (Below w.heap.size w (wr.alloc (.cells #[.int .i64 (s : Int), .int .i64 (x : Int)] 66))) := hb.alloc hb.size _
   have HX1 : Hid ((wr.alloc (.cells #[.int .i64 (s : Int), .int .i64 (x : Int)] 66)).heap[w.heap.size]? = some (.cells ra 25 (0, 0)) ∧ (wr.alloc (.cells #[.int .i64 (s : Int), .int .i64 (x : Int)] 66)).heap[w.heap.size + 1]? = some (.cells rb 25 (0, 0))) := ⟨(heap_alloc_old _ _ (lt_at hx.1)).trans hx.1, (heap_alloc_old _ _ (lt_at hx.2)).trans hx.2⟩
   have hzw : w.heap.size + 2 ≤ wr.heap.size := lt_at hx.2
   clear ef ho hb hx HO HB HX
   go_upto_region 5 with fail
   clear p0 p1
   generalize hV : wr.alloc (.cells #[.int .i64 (s : Int), .int .i64 (x : Int)] 66) = V1 at *
   clear hV
   generalize wr.heap.size = bx at *
   have b2 := (cell_of_row _ _ 2 _ _ _ HX1.out.2).trans HB2.out
   have HBX : Hid (V1.heap[bx]? = some (.cells #[.int .i64 (s : Int), .int .i64 (x : Int)] 66 (0, 0))) := hbx
   have HSZ : Hid (w.heap.size + 2 ≤ bx) := hzw
   clear hbx hzw
   go_wp2
   go_loopw [7, 25] (fun s7 a wr => ∃ (j : Nat) (v7 : Value), v7 = s7 ∧ a = .int .i64 j ∧ j ≤ fb.length ∧ Below w.heap.size w wr ∧ (wr.heap[w.heap.size]? = some (.cells ra 25 (0, 0)) ∧ wr.heap[w.heap.size + 1]? = some (.cells rb 25 (0, 0))) ∧ wr.heap[bx]? = some (.cells #[.int .i64 (s : Int), .int .i64 (x : Int)] 66 (0, 0)) ∧ wr.ownsRow (w.heap.size + 2) 3 1 v7 (eL SB fa fb i ++ (fb.take j).map (en SB fa[i])).length (ns (eL SB fa fb i ++ (fb.take j).map (en SB fa[i])))) (fun _ a _ => fb.length - (intOf a).toNat)
   case atStart => exact ⟨0, _, rfl, rfl, Nat.zero_le _, HB1.out, HX1.out, HBX.out, by simpa using HO1.out⟩
   case round =>
    clear HB1 HX1 HBX HO1 b2
    obtain ⟨j, v7, rfl, rfl, hj, hb, hx, hbx, ho⟩ := hrel
    by_cases hltj : j < fb.length
    ·obtain ⟨bb2, off2, rfl, p0, p1⟩ := fin_at HRFB.out hb hltj
     obtain ⟨t, y, eg, htS, _⟩ := fin_nat (HFB.out j hltj)
     rw [eg] at p0 p1
     dsimp only at p0 p1
     obtain ⟨TM, htm⟩ : ∃ TM, TM = s * SB := ⟨_, rfl⟩
     obtain ⟨z, hz⟩ : ∃ z, z = s * SB + t := ⟨_, rfl⟩
     have hz6 : z ≤ 1600 := by rw [hz]; exact Nat.le_of_lt (Nat.lt_of_lt_of_le (pair_lt hsS htS) (Nat.le_trans (Nat.mul_le_mul hSA hSB) (by decide)))
     obtain ⟨wm1, wm2⟩ := wrap_mul htm (by omega)
     obtain ⟨ws1, ws2⟩ := wrap_sum (show z = TM + t by rw [htm, hz]) (by omega)
     have HEN : Hid (eL SB fa fb i ++ (fb.take (j + 1)).map (en SB fa[i]) = (eL SB fa fb i ++ (fb.take j).map (en SB fa[i])) ++ [z]) := by
      show _ = _
      rw [List.take_succ_eq_append_getElem hltj, List.map_append, ← List.append_assoc, eg, HEF.out]
      simp [en, hz]
     have HLL : Hid ((eL SB fa fb i ++ (fb.take j).map (en SB fa[i])).length ≤ 3200) := by
      have h1 := eL_len SB fa fb i
      have h2 : fa.length * fb.length ≤ 1600 := Nat.le_trans (Nat.mul_le_mul hfal hfbl) (by decide)
      show _ ≤ _
      rw [List.length_append, List.length_map, List.length_take]
      omega
     have HO : Hid ((wr.alloc (.cells #[.int .i64 (t : Int), .int .i64 (y : Int)] 66)).ownsRow (w.heap.size + 2) 3 1 v7 (eL SB fa fb i ++ (fb.take j).map (en SB fa[i])).length (ns (eL SB fa fb i ++ (fb.take j).map (en SB fa[i])))) := ho.alloc _
     have HB : Hid (Below w.heap.size w (wr.alloc (.cells #[.int .i64 (t : Int), .int .i64 (y : Int)] 66))) := hb.alloc hb.size _
     have HX : Hid (((wr.alloc (.cells #[.int .i64 (t : Int), .int .i64 (y : Int)] 66)).heap[w.heap.size]? = some (.cells ra 25 (0, 0)) ∧ (wr.alloc (.cells #[.int .i64 (t : Int), .int .i64 (y : Int)] 66)).heap[w.heap.size + 1]? = some (.cells rb 25 (0, 0))) ∧ (wr.alloc (.cells #[.int .i64 (t : Int), .int .i64 (y : Int)] 66)).heap[bx]? = some (.cells #[.int .i64 (s : Int), .int .i64 (x : Int)] 66 (0, 0))) := ⟨⟨(heap_alloc_old _ _ (lt_at hx.1)).trans hx.1, (heap_alloc_old _ _ (lt_at hx.2)).trans hx.2⟩, (heap_alloc_old _ _ (lt_at hbx)).trans hbx⟩
     have hby := heap_alloc_new wr (.cells #[.int .i64 (t : Int), .int .i64 (y : Int)] 66)
     clear eg ho hb hx hbx htm hz
     go_upto_region 8 with fail
     clear p0 p1
     generalize hV : wr.alloc (.cells #[.int .i64 (t : Int), .int .i64 (y : Int)] 66) = V2 at *
     clear hV
     generalize wr.heap.size = bY at *
     have q0 := cell_of_row _ _ 0 _ _ _ hby
     have q1 := cell_of_row _ _ 0 _ _ _ HX.out.2
     have q2 := (cell_of_row _ _ 0 _ _ _ HX.out.1.2).trans HB0'.out
     have hsz := lt_at HX.out.1.2
     obtain ⟨av7, cv7, rfl⟩ := Am.own_slice HO.out
     go_wp2_with (refine wpList_append_own_at _ rfl _ _ 26 rfl (w.heap.size + 2) 3 i0 (.int .i64 0) 1 8 Tryd.underlying26 hi hz0 hz1 hz2 rfl (by decide) _ _ _ rfl (HO.out.alloc _) ⟨_, 0, none⟩ 1 1 [.int .i64 (z : Int)] rfl rfl (cell_one_at _ _ z rfl) (ns_one z) (by have := HLL.out; unfold maxLen; omega) (by have := HLL.out; omega) (by simp; omega) ?_; intro v1 w3 ho1 hg1 _ hl1; have HO1 : Hid _ := ho1; have HG1 : Hid ((V2.alloc (.cells #[.int .i64 (z : Int)] 3)).grownBy w3 (Value.slice av7 (eL SB fa fb i ++ (fb.take j).map (en SB fa[i])).length cv7).ownBlock) := hg1; clear ho1 hg1 hl1)
     have hkp : Kp (fun b => w.heap.size + 2 ≤ b ∧ b ≠ bx) V2 w3 := ((Kp.refl _ V2).alloc _).grown HG1.out (fun b e _ => ⟨(HO.out.lt b e).1, fun e2 => by subst e2; obtain ⟨d, hd⟩ := own_ty HO.out e; exact ty_ne hd HX.out.2 (by decide)⟩)
     go_roundw
     case rel => exact ⟨j + 1, _, rfl, by go_num, hltj, below_kp HB.out hkp HB.out.size (fun k _ e => by have := e.1; omega), ⟨(hkp.block _ (lt_at HX.out.1.1) (fun e => by have := e.1; omega)).trans HX.out.1.1, (hkp.block _ (lt_at HX.out.1.2) (fun e => by have := e.1; omega)).trans HX.out.1.2⟩, (hkp.block _ (lt_at HX.out.2) (fun e => e.2 rfl)).trans HX.out.2, by rw [HEN.out, List.length_append, show ns (eL SB fa fb i ++ (fb.take j).map (en SB fa[i]) ++ [z]) = ns (eL SB fa fb i ++ (fb.take j).map (en SB fa[i])) ++ [.int .i64 (z : Int)] by simp [ns]]; exact HO1.out⟩
     case measure => simp [intOf]; omega
    ·obtain rfl : j = fb.length := by omega
     have HO5 : Hid (wr.ownsRow (w.heap.size + 2) 3 1 v7 (eL SB fa fb (i + 1)).length (ns (eL SB fa fb (i + 1)))) := by show World.ownsRow _ _ _ _ _ _ _; rw [eL_up hlt]; rw [List.take_length] at ho; exact ho
     have HB5 : Hid (Below w.heap.size w wr) := hb
     have HX5 : Hid (wr.heap[w.heap.size]? = some (.cells ra 25 (0, 0)) ∧ wr.heap[w.heap.size + 1]? = some (.cells rb 25 (0, 0))) := hx
     clear ho hb hx hbx
     go_wp2
     go_roundw
     case rel => exact ⟨i + 1, _, rfl, by go_num, hlt, HB5.out, HX5.out, HO5.out⟩
     case measure => simp [intOf]; omega
  ·obtain rfl : i = fa.length := by omega
   obtain ⟨ae, ce, rfl⟩ := Am.own_slice ho
   have HOE : Hid (wr.ownsRow w.heap.size 3 1 (.slice ae (eL SB fa fb fa.length).length ce) (eL SB fa fb fa.length).length (ns (eL SB fa fb fa.length))) := own_base ho (by omega)
   have HBV : Hid (Below w.heap.size w wr) := hb
   have xA := hx.1
   have xB := hx.2
   rw [← HRa.out] at xA
   rw [← HRb.out] at xB
   clear ho hb hx HO HB HX
   go_upto_region 11 with fail
   generalize hVV : wr = VV at *
   clear hVV
   have HCE : Hid _ := fun (W : World) (hSw : W.heap[w.heap.size]? = some (.cells #[.int .i64 SA, .slice aa A.length ca, .slice af fa.length cf] 25 (0, 0)) ∧ W.heap[w.heap.size + 1]? = some (.cells #[.int .i64 SB, .slice ab B.length cb, .slice bf fb.length df] 25 (0, 0))) => (And.intro (cell_of_row _ _ 0 _ _ _ hSw.1) (And.intro (cell_of_row _ _ 1 _ _ _ hSw.1) (And.intro (cell_of_row _ _ 2 _ _ _ hSw.1) (And.intro (cell_of_row _ _ 0 _ _ _ hSw.2) (And.intro (cell_of_row _ _ 1 _ _ _ hSw.2) (cell_of_row _ _ 2 _ _ _ hSw.2))))))
   refine wp_region_held_drew (S := fun W => W.heap[w.heap.size]? = some (.cells #[.int .i64 SA, .slice aa A.length ca, .slice af fa.length cf] 25 (0, 0)) ∧ W.heap[w.heap.size + 1]? = some (.cells #[.int .i64 SB, .slice ab B.length cb, .slice bf fb.length df] 25 (0, 0))) (by kernel_rfl) (by exact ⟨xA, xB⟩) (fun hHeld => ?_)
   have hS0 := hHeld
   have hB0 : Below w.heap.size w VV.drew := HBV.out.drew
   have HOV : Hid (VV.drew.ownsRow w.heap.size 3 1 (.slice ae (eL SB fa fb fa.length).length ce) (eL SB fa fb fa.length).length (ns (eL SB fa fb fa.length))) := HOE.out
   clear HBV HOE xA xB
   generalize hV : VV.drew = V0 at *
   clear hV
   refine tk (v := ?_) 0 { dst := some 42, op := .load 25 (.tmp 3), type := 25, pos := "through.go:184", after := #[], guard := none } (by rfl) ?_ ?_
   case refine_2 => intro w hSw; (try dsimp only at hSw); obtain ⟨a0, a1, a2, b0, b1, b2⟩ := HCE.out _ hSw; go_simp; (try with_reducible rfl)
   simp only [Act.put, zS0, zS1, zS2]
   refine tk (v := ?_) 2 { dst := some 44, op := .load 25 (.tmp 4), type := 25, pos := "through.go:184", after := #[], guard := none } (by rfl) ?_ ?_
   case refine_2 => intro w hSw; (try dsimp only at hSw); obtain ⟨a0, a1, a2, b0, b1, b2⟩ := HCE.out _ hSw; go_simp; (try with_reducible rfl)
   simp only [Act.put, zS0, zS1, zS2]
   refine wpAnyH_ready (rs := [1]) (by kernel_rfl) (by simp) ?_
   refine (AllReadyH.cons (o := { dst := some 43, op := .call { callee := .value (.func 61), args := #[.tmp 42], argTypes := #[25] }, type := 73, pos := "through.go:184", after := #[⟨0, .data⟩], guard := none }) rfl (fun K hK => ?_) AllReadyH.nil)
   have KE := arriving_any SA A (.slice aa A.length ca) (.slice af fa.length cf) V0 (HRA.out.below hB0) HGA.out.to hSA (Nat.le_trans hAl (by decide))
   go_simp
   (with_reducible refine KE.mono ?_)
   clear KE
   rintro e1 V1 ⟨s1, Vx1, vs1, rfl, hR1⟩
   dsimp only
   have hb1 := hR1.below
   have hS1 := And.intro ((hb1.block _ (lt_at hS0.1)).trans hS0.1) ((hb1.block _ (lt_at hS0.2)).trans hS0.2)
   have hB1 := hB0.trans (hb1.mono hB0.size)
   have HW1 : Hid (Rws V1 s1 SA (rws tn A)) := Rws.of_rt hR1 (fun q => Nat.le_trans (rws_len _ _ _) (Nat.le_trans hAl (by decide)))
   have HO1 : Hid (Below V0.heap.size V0 V1) := hb1
   clear hR1 hb1
   refine hK.out _ _ ?_ (fun hHeld => ?_)
   ·exact hS1
   clear hK K
   try simp only [Act.put, zS0, zS1, zS2]
   refine wpAnyH_ready (rs := [3]) (by kernel_rfl) (by simp) ?_
   refine (AllReadyH.cons (o := { dst := some 45, op := .call { callee := .value (.func 61), args := #[.tmp 44], argTypes := #[25] }, type := 73, pos := "through.go:184", after := #[⟨2, .data⟩, ⟨1, .chain⟩], guard := none }) rfl (fun K hK => ?_) AllReadyH.nil)
   have KE := arriving_any SB B (.slice ab B.length cb) (.slice bf fb.length df) V1 (HRB.out.below hB1) HGB.out.to hSB (Nat.le_trans hBl (by decide))
   go_simp
   (with_reducible refine KE.mono ?_)
   clear KE
   rintro e2 V2 ⟨s2, Vx2, vs2, rfl, hR2⟩
   dsimp only
   have hb2 := hR2.below
   have hS2 := And.intro ((hb2.block _ (lt_at hS1.1)).trans hS1.1) ((hb2.block _ (lt_at hS1.2)).trans hS1.2)
   have hB2 := hB1.trans (hb2.mono hB1.size)
   have HW2 : Hid (Rws V2 s2 SB (rws tn B)) := Rws.of_rt hR2 (fun q => Nat.le_trans (rws_len _ _ _) (Nat.le_trans hBl (by decide)))
   have HO2 : Hid (Below V1.heap.size V1 V2) := hb2
   clear hR2 hb2
   refine hK.out _ _ ?_ (fun hHeld => ?_)
   ·exact hS2
   clear hK K
   try simp only [Act.put, zS0, zS1, zS2]
   refine wpAnyH_ready (rs := [4]) (by kernel_rfl) (by simp) ?_
   refine (AllReadyH.cons (o := { dst := some 46, op := .call { callee := .value (.func 38), args := #[.tmp 43, .tmp 45], argTypes := #[73, 73] }, type := 71, pos := "through.go:184", after := #[⟨1, .data⟩, ⟨3, .data⟩, ⟨3, .chain⟩], guard := none }) rfl (fun K hK => ?_) AllReadyH.nil)
   have KC := couple_any SA SB s1 s2 (rws tn A) (rws tn B) V2 (HW1.out.below HO2.out) HW2.out hSB h0 HGB.out.inst (fun q _ => Nat.le_trans (rws_len _ _ _) hBl)
   go_simp
   (with_reducible refine KC.mono ?_)
   clear KC
   rintro e3 V3 ⟨C2, gb2, gc2, nb2, m2, gs2, G2, rfl, hcp2, hb3⟩
   dsimp only
   have hS3 := And.intro ((hb3.block _ (lt_at hS2.1)).trans hS2.1) ((hb3.block _ (lt_at hS2.2)).trans hS2.2)
   have hB3 := hB2.trans (hb3.mono hB2.size)
   have HC3 : Hid (IsCp V3 C2 SA SB (rws tn A) (rws tn B) s1 gb2 gc2 nb2 m2 gs2 G2) := hcp2
   have HO3 : Hid (Below V2.heap.size V2 V3) := hb3
   clear hcp2 hb3
   refine hK.out _ _ ?_ (fun hHeld => ?_)
   ·exact hS3
   clear hK K
   try simp only [Act.put, zS0, zS1, zS2]
   refine tk (v := ?_) 5 { dst := some 12, op := .assign (.tmp 46), type := 71, pos := "through.go:184", after := #[⟨4, .data⟩, ⟨4, .chain⟩, ⟨0, .phase⟩, ⟨1, .phase⟩, ⟨2, .phase⟩, ⟨3, .phase⟩, ⟨4, .phase⟩], guard := none } (by rfl) ?_ ?_
   case refine_2 => intro w hSw; (try dsimp only at hSw); obtain ⟨a0, a1, a2, b0, b1, b2⟩ := HCE.out _ hSw; go_simp; (try with_reducible rfl)
   simp only [Act.put, zS0, zS1, zS2]
   refine wpAnyH_done (by kernel_rfl) ?_ _
   have HEV : Hid (V3.ownsRow w.heap.size 3 1 (.slice ae (eL SB fa fb fa.length).length ce) (eL SB fa fb fa.length).length (ns (eL SB fa fb fa.length))) := own_below HOV.out (HO1.out.trans ((HO2.out.trans (HO3.out.mono HO2.out.size)).mono HO1.out.size))
   have HB3 : Hid (Below w.heap.size w V3) := hB3
   have HX3 : Hid (V3.heap[w.heap.size]? = some (.cells #[.int .i64 SA, .slice aa A.length ca, .slice af fa.length cf] 25 (0, 0)) ∧ V3.heap[w.heap.size + 1]? = some (.cells #[.int .i64 SB, .slice ab B.length cb, .slice bf fb.length df] 25 (0, 0))) := hS3
   clear hS0 hS1 hS2 hS3 hB0 hB1 hB2 hB3 HOV HCE HO1 HO2 HO3 HW1 HW2
   have a0 := cell_of_row _ _ 0 _ _ _ HX3.out.1
   have b0 := cell_of_row _ _ 0 _ _ _ HX3.out.2
   obtain ⟨n, hn⟩ : ∃ n, n = SA * SB := ⟨_, rfl⟩
   have HN : Hid (n = SA * SB) := hn
   have hn16 : n ≤ 1600 := by rw [hn]; exact Nat.le_trans (Nat.mul_le_mul hSA hSB) (by decide)
   obtain ⟨wn1, wn2⟩ := wrap_mul hn (by omega)
   have HEN : Hid (∀ i (h : i < (eL SB fa fb fa.length).length), (eL SB fa fb fa.length)[i] < n) := fun i h => by
    have hm := List.getElem_mem h
    rw [hn]
    unfold eL at hm
    obtain ⟨f, hf, hm⟩ := List.mem_flatMap.1 hm
    obtain ⟨g, hg, hm⟩ := List.mem_map.1 hm
    unfold eL
    rw [← hm]
    obtain ⟨k, hk, rfl⟩ := List.getElem_of_mem (List.mem_of_mem_take hf)
    obtain ⟨k2, hk2, rfl⟩ := List.getElem_of_mem hg
    obtain ⟨s, x, e1, h1, _⟩ := fin_nat (HFA.out k hk)
    obtain ⟨t, y, e2, h2, _⟩ := fin_nat (HFB.out k2 hk2)
    rw [e1, e2]
    exact pair_lt (by simpa using h1) (by simpa using h2)
   have hEl : (eL SB fa fb fa.length).length ≤ 20000 := by
    have := eL_len SB fa fb fa.length
    have h2 : fa.length * fb.length ≤ 1600 := Nat.le_trans (Nat.mul_le_mul hfal hfbl) (by decide)
    omega
   have HER : Hid ((eL SB fa fb fa.length).length = 0 ∨ ∃ pb po, ae = some ⟨pb, po, none⟩ ∧ pb < V3.heap.size ∧ ∀ i (h : i < (eL SB fa fb fa.length).length), V3.cell? ⟨pb, po + i, none⟩ = some (.int .i64 ((eL SB fa fb fa.length)[i] : Nat))) := by
    rcases Nat.eq_zero_or_pos (eL SB fa fb fa.length).length with hz | hz
    ·exact .inl hz
    ·obtain ⟨g, cap, e, _, hg⟩ := own_some HEV.out hz
     cases e
     refine .inr ⟨g, 0, rfl, hg, fun i h => ?_⟩
     rw [Nat.zero_add, HEV.out.cellAt i (by omega)]
     simp [ns, h]
   have K1 := reach_any SA SB C2 s1 gb2 gc2 nb2 m2 n (SA * m2) 66 n (rws tn A) (rws tn B) G2 gs2 (eL SB fa fb fa.length) ae ce #[] (fun _ => true) V3 HC3.out (.inl ⟨rfl, fun _ => rfl⟩) HER.out HEN.out hEl hn rfl h0 hSA hSB ⟨Nat.le_refl _, Nat.le_trans hn16 (by decide)⟩ (HGA.out.fokt hAl).fa (HGB.out.rokt hBl).ra
   clear hn
   have HEL : Hid ((eL SB fa fb fa.length).length ≤ 20000) := hEl
   clear hEl
   go_upto_region 14 with (go_at_call 67; (with_reducible refine K1.mono ?_); clear K1; rintro e4 V4 ⟨vl, wl, rfl, hl1, hl2, hl3, hl4, hb4⟩; have HL1 : Hid (IsSet V4 V3.heap.size vl n wl) := hl1; have HL3 : Hid (∀ k ∈ eL SB fa fb fa.length, mem wl k = true) := hl3; have HL4 : Hid (∀ k, mem wl k = true → ∀ k' : Nat, (∃ e ∈ arcsP (rws tn A) (rws tn B) SB k, e.2.1 = (k' : Int)) → mem wl k' = true) := (fun k h k' he => hl4 k h k' he rfl); have HB4 : Hid (Below V3.heap.size V3 V4) := hb4; clear hl1 hl2 hl3 hl4 hb4)
   clear wn1 wn2
   obtain ⟨al, cl, rfl⟩ := Am.own_slice HL1.out.1
   have HBW4 : Hid (Below w.heap.size w V4) := HB3.out.trans (HB4.out.mono HB3.out.size)
   have K2 := reach_any SA SB C fb' gb gc nb m n (SA * m) 68 3000 F R G gs [0] (some ⟨V4.heap.size, 0, none⟩) 1 #[.slice al wl.length cl] (fun k => mem wl k) (V4.alloc (.cells #[.int .i64 0] 3)) (HCP.out.on (HBW4.out.alloc HBW4.out.size _)) (.inr ⟨.slice al wl.length cl, V3.heap.size, n, wl, rfl, ⟨HL1.out.1.alloc _, HL1.out.2⟩, Nat.le_refl _, fun _ _ => rfl⟩) (.inr ⟨V4.heap.size, 0, rfl, by simp, fun i h => by
    have : i = 0 := by simpa using h
    subst this
    simp⟩) (fun i h => by
    have : i = 0 := by simpa using h
    subst this
    show 0 < n
    rw [HN.out]
    exact Nat.mul_pos h0A h0) (show [0].length ≤ 20000 by decide) HN.out rfl h0 hSA hSB ⟨Nat.le_trans hn16 (by decide), Nat.le_refl _⟩ HFO.out.fa HRO.out.ra
   simp only [List.length_cons, List.length_nil, Nat.zero_add] at K2
   rw [show ((3000 : Nat) : Int) = 3000 from rfl] at K2
   have HBA : Hid (Below w.heap.size w (V4.alloc (.cells #[.int .i64 0] 3))) := HBW4.out.alloc HBW4.out.size _
   go_wp2_with (go_at_call 67; (with_reducible refine K2.mono ?_); clear K2; rintro e5 V5 ⟨vu, wu, rfl, hl1, hl2, hl3, hl4, hb5⟩; have HU1 : Hid (IsSet V5 (V4.alloc (.cells #[.int .i64 0] 3)).heap.size vu n wu) := hl1; have HU2 : Hid (∀ k, mem wu k = true → k < n) := hl2; have HU3 : Hid (mem wu 0 = true) := hl3 0 (by simp); have HU4 : Hid (∀ k, mem wu k = true → ∀ k' : Nat, (∃ e ∈ arcsP F R SB k, e.2.1 = (k' : Int)) → mem wl k' = true → mem wu k' = true) := hl4; have HB5 : Hid (Below (V4.alloc (.cells #[.int .i64 0] 3)).heap.size (V4.alloc (.cells #[.int .i64 0] 3)) V5) := hb5; clear hl1 hl2 hl3 hl4 hb5)
   go_ret
   exact ⟨vu, wu, wl, rfl, by have := HU1.out; rw [HN.out] at this; exact ⟨own_base this.1 HBA.out.size, this.2⟩, by rw [← HN.out]; exact HU2.out, HU3.out, HL3.out, HL4.out, HU4.out, HBA.out.trans (HB5.out.mono HBA.out.size)⟩
end Go.Proofs.YtfjocafepigijaaDoor.Cu
