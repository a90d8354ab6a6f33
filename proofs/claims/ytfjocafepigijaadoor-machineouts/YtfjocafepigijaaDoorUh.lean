/- write$1 where the symbol has no set yet. Conditions: as in Ug. -/
import Derived.Test.YtfjocafepigijaaDoorUg
namespace Go.Proofs.YtfjocafepigijaaDoor.Ot
open Go.RowKit Mv Sy Po Ps Cm Pa Am Wd St Ra Set

set_option maxHeartbeats 4000000 in
set_option maxRecDepth 100000 in
theorem tell_new (base b2 B M c v left T S sb ci nb cN p3 p5 : Nat) (ai : Option Addr) (tx : List Int) (R : Nat → List Arc) (V : Nat → Value) (N : Nat → Nat) (f t i x : Int) (G : Gt) (w : World) (hT : Tr b2 w T S sb ci nb cN M ai tx R V N)
    (h3 : w.heap[p3]? = some (.cells #[.pointer (some ⟨T, 0, none⟩)] 60 (0, 0))) (h5 : w.heap[p5]? = some (.cells #[.int .i64 (left : Int)] 3 (0, 0))) (hA : Ar base w B M G) (hv : v < M) (hM : M ≤ 2480) (hn : N v < left) (hc : c ≤ 60) (hp : G c = none) (hB : base ≤ w.heap.size) :
    Calls Tryd.prog 104 #[.int .i64 (v : Int), .agg #[.int .i64 f, .int .i64 t, .int .i64 i, .int .i64 (c : Int), .int .i64 x], .pointer (some ⟨p3, 0, none⟩), .pointer (some ⟨p5, 0, none⟩), .pointer (some ⟨B, 0, none⟩)] w (TlQ base B M c v (N v) left w G) := by
  have hb := (Below.refl w.heap.size w).alloc (Nat.le_refl _) (.cells #[.int .i64 f, .int .i64 t, .int .i64 i, .int .i64 (c : Int), .int .i64 x] 64)
  have HB : Hid (Below w.heap.size w (w.alloc (.cells #[.int .i64 f, .int .i64 t, .int .i64 i, .int .i64 (c : Int), .int .i64 x] 64))) := hb
  have hT1 := hT.below (hb.mono hT.le)
  have x3 := (hb.block p3 (lt_at h3)).trans h3
  have x5 := (hb.block p5 (lt_at h5)).trans h5
  have xa := heap_alloc_new w (.cells #[.int .i64 f, .int .i64 t, .int .i64 i, .int .i64 (c : Int), .int .i64 x] 64)
  have HA : Hid (Ar base (w.alloc (.cells #[.int .i64 f, .int .i64 t, .int .i64 i, .int .i64 (c : Int), .int .i64 x] 64)) B M G) := hA.below hb
  have HN : Hid (N v < left) := hn
  have HP : Hid (G c = none) := hp
  have HBS : Hid (base ≤ w.heap.size) := hB
  obtain ⟨k, hk⟩ : ∃ k, N v = k := ⟨_, rfl⟩
  have nc := hT1.need v hv
  rw [hk] at nc hn
  have hge : ¬ (left : Int) ≤ (k : Int) := by omega
  have hge' : ¬ left ≤ k := by omega
  have hcap := hT1.cap
  clear hk hn hA h3 h5 hp hB
  have trk := hT1.trk
  have HT1 : Hid (Tr b2 (w.alloc (.cells #[.int .i64 f, .int .i64 t, .int .i64 i, .int .i64 (c : Int), .int .i64 x] 64)) T S sb ci nb cN M ai tx R V N) := hT1
  clear hT hT1
  go_enter Tryd.func104, Tryd.ntmps104
  go_upto_region 1 with fail
  generalize hV : w.alloc (.cells #[.int .i64 f, .int .i64 t, .int .i64 i, .int .i64 (c : Int), .int .i64 x] 64) = V1 at *
  clear hV
  have c3 := cell_of_row _ _ 0 _ _ _ x3
  have c5 := cell_of_row _ _ 0 _ _ _ x5
  have t3 := cell_of_row _ _ 3 _ _ _ trk
  have HXA : Hid (V1.heap[w.heap.size]? = some (.cells #[.int .i64 f, .int .i64 t, .int .i64 i, .int .i64 (c : Int), .int .i64 x] 64 (0, 0))) := xa
  have HK1 : Hid (Kp (ArX B G) w V1) := kp_below HB.out _
  have HKS1 : Hid (w.heap.size ≤ V1.heap.size) := HB.out.size
  have HWX : Hid (∀ i, i < w.heap.size → i < w.heap.size) := fun _ h => h
  have HTR1 : Hid (Tr b2 V1 T S sb ci nb cN M ai tx R V N) := HT1.out
  have HX3 : Hid (V1.heap[p3]? = some (.cells #[.pointer (some ⟨T, 0, none⟩)] 60 (0, 0))) := x3
  clear x3 x5 trk hb xa HB
  generalize w.heap.size = bx at *
  have q1 := eql77n
  go_wp2
  go_quiet (fail)
  have HA2 : Hid (Ar base (V1.drewN nq) B M G) := HA.out.below (below_drewN (Below.refl _ _) _)
  have xa := ((below_drewN (Below.refl V1.heap.size V1) nq).block bx (lt_at HXA.out)).trans HXA.out
  have HK2 : Hid (Kp (ArX B G) w (V1.drewN nq)) := HK1.out.trans (kp_below (below_drewN (Below.refl _ _) _) _)
  clear c3 c5 t3 HA HXA HK1 nc
  have HTR : Hid (Tr b2 (V1.drewN nq) T S sb ci nb cN M ai tx R V N) := HTR1.out.below (below_drewN (Below.refl _ _) _)
  have x3 := ((below_drewN (Below.refl V1.heap.size V1) nq).block p3 (lt_at HX3.out)).trans HX3.out
  have HKS : Hid (bx ≤ (V1.drewN nq).heap.size) := HKS1.out
  have HBS2 : Hid (base ≤ (V1.drewN nq).heap.size) := Nat.le_trans HBS.out HKS.out
  have HWZ : Hid (w.heap.size ≤ (V1.drewN nq).heap.size) := HK2.out.size
  clear HTR1 HX3 HKS1 HWX
  generalize V1.drewN nq = V2 at *
  have a3 := cell_of_row _ _ 3 _ _ _ xa
  have ac := HA2.out.row.cell c (by omega)
  rw [show gv G c = .slice none 0 0 by unfold gv; rw [HP.out]] at ac
  have c3 := cell_of_row _ _ 0 _ _ _ x3
  have t3 := cell_of_row _ _ 3 _ _ _ HTR.out.trk
  have HXA : Hid (V2.heap[bx]? = some (.cells #[.int .i64 f, .int .i64 t, .int .i64 i, .int .i64 (c : Int), .int .i64 x] 64 (0, 0))) := xa
  have HX3 : Hid (V2.heap[p3]? = some (.cells #[.pointer (some ⟨T, 0, none⟩)] 60 (0, 0))) := x3
  clear xa x3
  go_upto_region 3 with fail
  go_cut [] from 21 to 30 (fun wx => ∃ v0, Ar base wx B M (upg G c (v0, List.replicate ((M + 63) / 64) 0)) ∧ wx.heap[bx]? = some (.cells #[.int .i64 f, .int .i64 t, .int .i64 i, .int .i64 (c : Int), .int .i64 x] 64 (0, 0)) ∧ Kp (fun b => b = B) V2 wx ∧ ∀ b, v0.ownBlock = some b → V2.heap.size ≤ b)
  case first =>
    go_region_with (go_at_call 59; refine (new_zero M _ (by omega)).mono ?_; rintro e w1 ⟨v0, rfl, hs1, hb1⟩; have HB1 : Hid (Below V2.heap.size V2 w1) := below_undrew hb1; have HS1 : Hid (IsSet w1 V2.heap.size v0 M (List.replicate ((M + 63) / 64) 0)) := hs1; clear hb1 hs1; have d3 := cell_of_row _ _ 3 _ _ _ ((HB1.out.block bx (lt_at HXA.out)).trans HXA.out); have dA := (HA2.out.below HB1.out).row.frozen c; have dC := (HA2.out.below HB1.out).row.cell c (by omega); obtain ⟨g0, cp0, rfl, _, _⟩ := own_some HS1.out.1 (by simp; omega); rw [List.length_replicate] at HS1)
    all_goals (go_wp2_with fail; go_meet)
    all_goals exact ⟨_, HA2.out.new HB1.out HS1.out (by simp) HBS2.out, (heap_setCell_other _ _ _ _ (fun e => by rw [e] at HXA; exact ty_ne HXA.out HA2.out.row (by decide))).trans ((HB1.out.block bx (lt_at HXA.out)).trans HXA.out), kp_then' (kp_below HB1.out _) ((Kp.refl (fun b => b = B) _).setCell _ _ _ (fun _ => rfl)) (fun _ _ e => e), fun b hb => (HS1.out.1.lt _ hb).1⟩
  case rest =>
  obtain ⟨v0, hAr, hbx, hkp, hv0⟩ := hcut
  have HAR : Hid (Ar base wc B M (upg G c (v0, List.replicate ((M + 63) / 64) 0))) := hAr
  have hset := (hAr.set c (v0, List.replicate ((M + 63) / 64) 0) (by unfold upg; rw [if_pos rfl])).1
  obtain ⟨g0, cp0, hv0e, _, _⟩ := own_some hset.1 (by simp; omega)
  have K60 := add_any base v0 M v (List.replicate ((M + 63) / 64) 0) wc hset hv (by omega)
  have HV0 : Hid (v0 = .slice (some ⟨g0, 0, none⟩) ((M + 63) / 64) cp0) := by show _ = _; have := hv0e; simp only [List.length_replicate] at this; exact this
  have HKP : Hid (Kp (ArX B G) w wc) := kp_then' HK2.out hkp (fun i _ e => .inl e)
  have HVB : Hid (∀ b, v0.ownBlock = some b → w.heap.size ≤ b) := fun b hb => Nat.le_trans HWZ.out (hv0 b hb)
  have d3 := cell_of_row _ _ 3 _ _ _ hbx
  have dC := hAr.row.cell c (by omega)
  rw [show gv (upg G c (v0, List.replicate ((M + 63) / 64) 0)) c = v0 by unfold gv upg; simp, HV0.out] at dC
  clear hAr hbx hkp hv0 hv0e hset a3 ac c3 t3
  rw [HV0.out] at K60
  go_wp2_with (go_at_call 60; (with_reducible refine K60.mono ?_); clear K60; rintro e w3 ⟨rfl, hs3, hg3⟩; rw [← HV0.out] at hs3 hg3; have HF : Hid (Ar base w3 B M (upg (upg G c (v0, List.replicate ((M + 63) / 64) 0)) c (v0, put (List.replicate ((M + 63) / 64) 0) v)) ∧ Kp (ArX B G) w w3) := ⟨HAR.out.put (p := (v0, List.replicate ((M + 63) / 64) 0)) (by unfold upg; rw [if_pos rfl]) hs3 (by rw [put_len]; simp) hg3, kp_then' HKP.out ((Kp.refl (fun b => v0.ownBlock = some b) _).grown hg3 (fun b hb _ => hb)) (fun i hi e => absurd (HVB.out i e) (Nat.not_le.2 hi))⟩; clear hs3 hg3)
  go_end0
  exact ⟨rfl, _, HF.out.1, HF.out.2, fun _ => gat_new HP.out (by omega), fun h => absurd HN.out h⟩
theorem tell_any (base b2 B M c v left T S sb ci nb cN p3 p5 : Nat) (ai : Option Addr) (tx : List Int) (R : Nat → List Arc) (V : Nat → Value) (N : Nat → Nat) (f t i x : Int) (G : Gt) (w : World) (hT : Tr b2 w T S sb ci nb cN M ai tx R V N)
    (h3 : w.heap[p3]? = some (.cells #[.pointer (some ⟨T, 0, none⟩)] 60 (0, 0))) (h5 : w.heap[p5]? = some (.cells #[.int .i64 (left : Int)] 3 (0, 0))) (hA : Ar base w B M G) (hv : v < M) (hM : M ≤ 2480) (hc : c ≤ 60) (hB : base ≤ w.heap.size) :
    Calls Tryd.prog 104 #[.int .i64 (v : Int), .agg #[.int .i64 f, .int .i64 t, .int .i64 i, .int .i64 (c : Int), .int .i64 x], .pointer (some ⟨p3, 0, none⟩), .pointer (some ⟨p5, 0, none⟩), .pointer (some ⟨B, 0, none⟩)] w (TlQ base B M c v (N v) left w G) := by
  by_cases hn : N v < left
  · cases hp : G c with
    | none => exact tell_new base b2 B M c v left T S sb ci nb cN p3 p5 ai tx R V N f t i x G w hT h3 h5 hA hv hM hn hc hp hB
    | some pr => exact tell_old base b2 B M c v left T S sb ci nb cN p3 p5 ai tx R V N f t i x G pr w hT h3 h5 hA hv hM hn hc hp
  · exact tell_far base b2 B M c v left T S sb ci nb cN p3 p5 ai tx R V N f t i x G w hT h3 h5 hA hv hn
end Go.Proofs.YtfjocafepigijaaDoor.Ot
