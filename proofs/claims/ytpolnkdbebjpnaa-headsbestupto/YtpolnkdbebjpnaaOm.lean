/- HeadsBest (3) where Check says no. Conditions: lists of at most 1200000 numbers. -/
import Derived.Test.YtpolnkdbebjpnaaOl
import Derived.Test.YtpolnkdbebjpnaaNm
import Derived.Test.YtpolnkdbebjpnaaOc
namespace Go.Proofs.Ytpolnkdbebjpnaa.Hd
open Go.RowKit

set_option maxHeartbeats 8000000 in
set_option maxRecDepth 100000 in
theorem best_no (rows rows2 : List (List Int)) (a a2 : Option Addr) (b off cap b2 off2 cap2 : Nat) (ra ra2 : Nat → Option Addr) (rc rc2 : Nat → Nat) (w : World) (hR : Rw w a b off ra rc rows) (hR2 : Rw w a2 b2 off2 ra2 rc2 rows2) (hN : rows.length ≤ 140737488355328) (hM2 : rows2.length ≤ 1200000) (hM : ∀ h, h < rows2.length → (rows2.getD h []).length ≤ 1200000) (hc : chk rows ≠ 0) :
    Calls Try.prog 3 #[.slice a rows.length cap, .slice a2 rows2.length cap2] w fun e w' => e = .returned (.bool true) ∧ Below w.heap.size w w' := by
  obtain ⟨w0, hw0⟩ : ∃ w0, w.alloc (.cells #[.slice a rows.length cap] 22) = w0 := ⟨_, rfl⟩
  have hb0 : Below w.heap.size w w0 := hw0 ▸ below_al _ _
  have hc0 : w0.cell? ⟨w.heap.size, 0, none⟩ = some (.slice a rows.length cap) := by rw [← hw0]; exact cell_of_row _ _ 0 _ _ _ (heap_alloc_new w _)
  have HCS : Hid (∀ W, Below w0.heap.size w0 W → W.cell? ⟨w.heap.size, 0, none⟩ = some (.slice a rows.length cap) ∧ Below w.heap.size w W) := fun W hW => ⟨(hW.cell (World.block_lt_of_cell? _ _ hc0)).trans hc0, hb0.trans (hW.mono hb0.size)⟩
  have K5 := begun_any w0
  have H6 : Hid (∀ W, Below w.heap.size w W → Calls Try.prog 6 #[.slice a rows.length cap] W fun e w' => e = .returned (.int .i64 (chk rows)) ∧ Below W.heap.size W w') := fun W hW => score_any rows a b off cap ra rc W (hR.below hW) hN
  have H10 : Hid (∀ W, Below w.heap.size w W → Calls Try.prog 10 #[.slice a rows.length cap] W fun e w' => e = .returned (.int .i64 (chk rows)) ∧ Below W.heap.size W w') := fun W hW => check_any rows a b off cap ra rc W (hR.below hW) hN
  have H7 : Hid (∀ W, Below w.heap.size w W → Calls Try.prog 7 #[.slice a rows.length cap] W fun e w' => e = .returned (.tuple #[.slice none 0 0, .int .i64 0, .int .i64 (chk rows)]) ∧ Below W.heap.size W w') := fun W hW => best7_bad rows a b off cap ra rc W (hR.below hW) hN hc
  have H8 : Hid (∀ W, Below w.heap.size w W → Calls Try.prog 8 #[.slice a rows.length cap] W fun e w' => e = .returned (.tuple #[.slice none 0 0, .int .i64 0, .int .i64 (chk rows)]) ∧ Below W.heap.size W w') := fun W hW => flat8_bad rows a b off cap ra rc W (hR.below hW) hN hc
  have H9 : Hid (∀ W, Below w.heap.size w W → Calls Try.prog 9 #[.slice a rows.length cap] W fun e w' => e = .returned (.tuple #[.slice none 0 0, .int .i64 0, .int .i64 (chk rows)]) ∧ Below W.heap.size W w') := fun W hW => one9_bad rows a b off cap ra rc W (hR.below hW) hN hc
  have HR2 : Hid (∀ W, Below w.heap.size w W → Rw W a2 b2 off2 ra2 rc2 rows2) := fun W hW => hR2.below hW
  have HMM : Hid (∀ h, h < rows2.length → (rows2.getD h []).length ≤ 1200000) := hM
  obtain ⟨nn, hnn⟩ : ∃ n, rows.length = n := ⟨_, rfl⟩
  obtain ⟨m2, hm2⟩ : ∃ m, rows2.length = m := ⟨_, rfl⟩
  have HM2 : Hid (rows2.length = m2 ∧ m2 ≤ 1200000) := ⟨hm2, by omega⟩
  obtain ⟨x, hx⟩ : ∃ x, chk rows = x := ⟨_, rfl⟩
  rw [hnn] at HCS hw0 H6 H7 H8 H9 H10
  rw [hx] at hc H6 H7 H8 H9 H10
  rw [hnn, hm2]
  have q0 : (x != 0) = true := by simp [hc]
  have q1 : (x == 0) = false := by simp [hc]
  have qx : (x != x) = false := by simp
  obtain ⟨ps, hps⟩ : ∃ p, w.heap.size = p := ⟨_, rfl⟩
  have HP : Hid (w.heap.size = ps) := hps
  clear hR hR2 hN hM2 hM hnn hm2 hx hb0 hc0
  go_enter Try.func3, Try.ntmps3
  rw [hps] at HCS
  go_upto_region 1 with fail
  try rw [hw0]
  try rw [hps]
  clear hw0 hps
  go_upto_region 3 with (go_at_call 5; (with_reducible refine K5.mono ?_); clear K5; rintro e w1 ⟨rfl, hb⟩; have HB1 : Hid (Below w0.heap.size w0 w1) := hb; clear hb)
  have c0 := (HCS.out w1 HB1.out).1
  have K6 := H6.out w1 (by rw [HP.out]; exact (HCS.out w1 HB1.out).2)
  go_upto_region 4 with (go_at_call 6; (with_reducible refine K6.mono ?_); clear K6; rintro e w2 ⟨rfl, hb⟩; have HB2 : Hid (Below w0.heap.size w0 w2) := HB1.out.trans (hb.mono HB1.out.size); clear hb)
  clear c0
  have c0 := (HCS.out w2 HB2.out).1
  have K7 := H7.out w2 (by rw [HP.out]; exact (HCS.out w2 HB2.out).2)
  go_upto_region 5 with (go_at_call 7; (with_reducible refine K7.mono ?_); clear K7; rintro e w3 ⟨rfl, hb⟩; have HB3 : Hid (Below w0.heap.size w0 w3) := HB2.out.trans (hb.mono HB2.out.size); clear hb)
  obtain ⟨pn, hpn⟩ : ∃ p, w3.heap.size = p := ⟨_, rfl⟩
  obtain ⟨W3, hW3⟩ : ∃ W, w3.alloc (.cells #[.int .i64 0] 3) = W := ⟨_, rfl⟩
  have HW3 : Hid (Below w0.heap.size w0 W3 ∧ W3.cell? ⟨pn, 0, none⟩ = some (.int .i64 0)) := ⟨HB3.out.trans (hW3 ▸ (below_al w3 _).mono HB3.out.size), by rw [← hpn, ← hW3]; exact cell_of_row _ _ 0 _ _ _ (heap_alloc_new w3 _)⟩
  rw [hpn, hW3]
  clear c0 hpn hW3
  have c0 := (HCS.out W3 HW3.out.1).1
  have K8 := H8.out W3 (by rw [HP.out]; exact (HCS.out W3 HW3.out.1).2)
  go_upto_region 6 with (go_at_call 8; (with_reducible refine K8.mono ?_); clear K8; rintro e w4 ⟨rfl, hb⟩; have HB4 : Hid (Below w0.heap.size w0 w4 ∧ Below W3.heap.size W3 w4) := ⟨HW3.out.1.trans (hb.mono HW3.out.1.size), hb⟩; clear hb)
  obtain ⟨pm, hpm⟩ : ∃ p, w4.heap.size = p := ⟨_, rfl⟩
  obtain ⟨W4, hW4⟩ : ∃ W, w4.alloc (.cells #[.int .i64 0] 3) = W := ⟨_, rfl⟩
  have HW4 : Hid (Below w0.heap.size w0 W4 ∧ W4.cell? ⟨pm, 0, none⟩ = some (.int .i64 0) ∧ Below W3.heap.size W3 W4) := ⟨HB4.out.1.trans (hW4 ▸ (below_al w4 _).mono HB4.out.1.size), by rw [← hpm, ← hW4]; exact cell_of_row _ _ 0 _ _ _ (heap_alloc_new w4 _), HB4.out.2.trans (hW4 ▸ (below_al w4 _).mono HB4.out.2.size)⟩
  rw [hpm, hW4]
  clear c0 hpm hW4
  have c0 := (HCS.out W4 HW4.out.1).1
  have K9 := H9.out W4 (by rw [HP.out]; exact (HCS.out W4 HW4.out.1).2)
  go_upto_region 7 with (go_at_call 9; (with_reducible refine K9.mono ?_); clear K9; rintro e w5 ⟨rfl, hb⟩; have HB5 : Hid (Below w0.heap.size w0 w5 ∧ Below W4.heap.size W4 w5) := ⟨HW4.out.1.trans (hb.mono HW4.out.1.size), hb⟩; clear hb)
  obtain ⟨pk, hpk⟩ : ∃ p, w5.heap.size = p := ⟨_, rfl⟩
  obtain ⟨W5, hW5⟩ : ∃ W, w5.alloc (.cells #[.int .i64 0] 3) = W := ⟨_, rfl⟩
  have HW5 : Hid (Below w0.heap.size w0 W5 ∧ W5.cell? ⟨pk, 0, none⟩ = some (.int .i64 0) ∧ Below W4.heap.size W4 W5) := ⟨HB5.out.1.trans (hW5 ▸ (below_al w5 _).mono HB5.out.1.size), by rw [← hpk, ← hW5]; exact cell_of_row _ _ 0 _ _ _ (heap_alloc_new w5 _), HB5.out.2.trans (hW5 ▸ (below_al w5 _).mono HB5.out.2.size)⟩
  rw [hpk, hW5]
  clear c0 hpk hW5
  have HX : Hid (∀ W, Below W5.heap.size W5 W → W.cell? ⟨pn, 0, none⟩ = some (.int .i64 0) ∧ W.cell? ⟨pm, 0, none⟩ = some (.int .i64 0) ∧ W.cell? ⟨pk, 0, none⟩ = some (.int .i64 0) ∧ Below w.heap.size w W) := fun W hW => by
    have h4 := HW5.out.2.2.trans (hW.mono HW5.out.2.2.size)
    have h3 := HW4.out.2.2.trans (h4.mono HW4.out.2.2.size)
    have h0 := HW5.out.1.trans (hW.mono HW5.out.1.size)
    exact ⟨(h3.cell (World.block_lt_of_cell? _ _ HW3.out.2)).trans HW3.out.2, (h4.cell (World.block_lt_of_cell? _ _ HW4.out.2.1)).trans HW4.out.2.1, (hW.cell (World.block_lt_of_cell? _ _ HW5.out.2.1)).trans HW5.out.2.1, by rw [HP.out]; exact (HCS.out W h0).2⟩
  have c0 := (HCS.out W5 HW5.out.1).1
  have K10 := H10.out W5 (by rw [HP.out]; exact (HCS.out W5 HW5.out.1).2)
  go_upto_region 9 with (go_at_call 10; (with_reducible refine K10.mono ?_); clear K10; rintro e W6 ⟨rfl, hb⟩; have HB6 : Hid (Below W5.heap.size W5 W6) := hb; clear hb)
  clear c0 qx
  go_upto_region 10 with fail
  go_loopw [15] (fun c wr => ∃ i : Nat, c = .int .i64 (i : Int) ∧ i ≤ m2 ∧ Below W5.heap.size W5 wr) (fun c _ => m2 - (intOf c).toNat)
  case atStart => exact ⟨0, rfl, Nat.zero_le _, HB6.out⟩
  case round =>
    clear HB6
    obtain ⟨i, rfl, hi, hb⟩ := hrel
    have HI : Hid (Below W5.heap.size W5 wr) := hb
    clear hb
    by_cases hlt : i < m2
    · have hii : (i : Int) < (m2 : Int) := by omega
      have hnb := HM2.out.2
      have HBW : Hid (Below w.heap.size w wr) := (HX.out wr HI.out).2.2.2
      go_upto_region 12 with fail
      obtain ⟨rfl, _⟩ := (HR2.out w (Below.refl _ _)).a0 (by have := HM2.out; omega)
      obtain ⟨l2, hl2⟩ : ∃ l, rows2.getD i [] = l := ⟨_, rfl⟩
      obtain ⟨y2, hy2⟩ : ∃ y, l2.length = y := ⟨_, rfl⟩
      obtain ⟨qa, hqa⟩ : ∃ y, ra2 i = y := ⟨_, rfl⟩
      obtain ⟨qc, hqc⟩ : ∃ y, rc2 i = y := ⟨_, rfl⟩
      have HQ2 : Hid (l2.length = y2 ∧ y2 ≤ 1200000) := ⟨hy2, by have h := HMM.out i (by have := HM2.out; omega); rw [hl2, hy2] at h; exact h⟩
      have HROW : Hid (∀ W, Below wr.heap.size wr W → Rl W qa l2 ∧ W.cell? ⟨b2, off2 + i, none⟩ = some (.slice qa y2 qc)) := fun W hW => by
        have h := HR2.out W (HBW.out.trans (hW.mono HBW.out.size))
        have h1 := h.num i (by have := HM2.out; omega)
        have h2 := h.row i (by have := HM2.out; omega)
        rw [hl2, hqa] at h1
        rw [hl2, hqa, hqc, hy2] at h2
        exact ⟨h1, h2⟩
      obtain ⟨zT, hzT⟩ : ∃ z : Bool, (z = true ↔ isTr l2) := by
        by_cases h : isTr l2
        · exact ⟨true, fun _ => h, fun _ => rfl⟩
        · exact ⟨false, fun e => by (cases e), fun e => absurd e h⟩
      obtain ⟨zF, hzF⟩ : ∃ z : Bool, (z = true ↔ isTr l2 ∧ Fl y2 (un l2)) := by
        by_cases h : isTr l2 ∧ Fl y2 (un l2)
        · exact ⟨true, fun _ => h, fun _ => rfl⟩
        · exact ⟨false, fun e => by (cases e), fun e => absurd e h⟩
      have HZT : Hid (zT = true ↔ isTr l2) := hzT
      have HZF : Hid (zF = true ↔ isTr l2 ∧ Fl y2 (un l2)) := hzF
      have qT : (zT != zT) = false := by cases zT <;> rfl
      have qF : (zF != zF) = false := by cases zF <;> rfl
      clear hl2 hy2 hqa hqc hzT hzF
      have HCE : Hid _ := fun (W : World) (hSw : Below wr.heap.size wr W) => (HROW.out W hSw).2
      refine wp_region_held_drew (S := fun W => Below wr.heap.size wr W) (by kernel_rfl) (by exact below_drewN (Below.refl _ _) 1) (fun hHeld => ?_)
      have hS0 : Below wr.heap.size wr wr.drew := below_drewN (Below.refl _ _) 1
      generalize hV0 : wr.drew = V0 at *
      clear hV0
      refine wpAnyH_take (i := 0) (oi := { dst := some 67, op := Op.move (Operand.tmp 1), type := 22, pos := "chance.go:146", after := #[], guard := none }) (v := ?_) rfl (by kernel_rfl) (by kernel_rfl) (by kernel_rfl) (fun _ _ _ h => h) (Or.inl ⟨by rfl, ?_⟩) (by assumption) ?_
      case refine_2 => intro w hSw; (try dsimp only at hSw); have z0 := HCE.out _ hSw; go_simp; (try with_reducible rfl)
      simp only [Act.put, List.setIfInBounds_toArray, List.set_cons_zero, List.set_cons_succ]
      refine wpAnyH_take (i := 1) (oi := { dst := some 68, op := Op.move (Operand.tmp 15), type := 3, pos := "chance.go:146", after := #[], guard := none }) (v := ?_) rfl (by kernel_rfl) (by kernel_rfl) (by kernel_rfl) (fun _ _ _ h => h) (Or.inl ⟨by rfl, ?_⟩) (by assumption) ?_
      case refine_2 => intro w hSw; (try dsimp only at hSw); have z0 := HCE.out _ hSw; go_simp; (try with_reducible rfl)
      simp only [Act.put, List.setIfInBounds_toArray, List.set_cons_zero, List.set_cons_succ]
      refine wpAnyH_take (i := 2) (oi := { dst := some 69, op := Op.indexAddr 22 (Operand.tmp 67) (Operand.tmp 68), type := 0, pos := "chance.go:146", after := #[{ on := 0, ground := Ground.data }, { on := 1, ground := Ground.data }], guard := none }) (v := ?_) rfl (by kernel_rfl) (by kernel_rfl) (by kernel_rfl) (fun _ _ _ h => h) (Or.inl ⟨by rfl, ?_⟩) (by assumption) ?_
      case refine_2 => intro w hSw; (try dsimp only at hSw); have z0 := HCE.out _ hSw; go_simp; (try with_reducible rfl)
      simp only [Act.put, List.setIfInBounds_toArray, List.set_cons_zero, List.set_cons_succ]
      refine wpAnyH_take (i := 3) (oi := { dst := some 70, op := Op.load 26 (Operand.tmp 69), type := 26, pos := "chance.go:146", after := #[{ on := 2, ground := Ground.data }], guard := none }) (v := ?_) rfl (by kernel_rfl) (by kernel_rfl) (by kernel_rfl) (fun _ _ _ h => h) (Or.inl ⟨by rfl, ?_⟩) (by assumption) ?_
      case refine_2 => intro w hSw; (try dsimp only at hSw); have z0 := HCE.out _ hSw; go_simp; (try with_reducible rfl)
      simp only [Act.put, List.setIfInBounds_toArray, List.set_cons_zero, List.set_cons_succ]
      refine wpAnyH_take (i := 5) (oi := { dst := some 72, op := Op.move (Operand.tmp 1), type := 22, pos := "chance.go:146", after := #[], guard := none }) (v := ?_) rfl (by kernel_rfl) (by kernel_rfl) (by kernel_rfl) (fun _ _ _ h => h) (Or.inl ⟨by rfl, ?_⟩) (by assumption) ?_
      case refine_2 => intro w hSw; (try dsimp only at hSw); have z0 := HCE.out _ hSw; go_simp; (try with_reducible rfl)
      simp only [Act.put, List.setIfInBounds_toArray, List.set_cons_zero, List.set_cons_succ]
      refine wpAnyH_take (i := 6) (oi := { dst := some 73, op := Op.move (Operand.tmp 15), type := 3, pos := "chance.go:146", after := #[], guard := none }) (v := ?_) rfl (by kernel_rfl) (by kernel_rfl) (by kernel_rfl) (fun _ _ _ h => h) (Or.inl ⟨by rfl, ?_⟩) (by assumption) ?_
      case refine_2 => intro w hSw; (try dsimp only at hSw); have z0 := HCE.out _ hSw; go_simp; (try with_reducible rfl)
      simp only [Act.put, List.setIfInBounds_toArray, List.set_cons_zero, List.set_cons_succ]
      refine wpAnyH_take (i := 7) (oi := { dst := some 74, op := Op.indexAddr 22 (Operand.tmp 72) (Operand.tmp 73), type := 0, pos := "chance.go:146", after := #[{ on := 5, ground := Ground.data }, { on := 6, ground := Ground.data }], guard := none }) (v := ?_) rfl (by kernel_rfl) (by kernel_rfl) (by kernel_rfl) (fun _ _ _ h => h) (Or.inl ⟨by rfl, ?_⟩) (by assumption) ?_
      case refine_2 => intro w hSw; (try dsimp only at hSw); have z0 := HCE.out _ hSw; go_simp; (try with_reducible rfl)
      simp only [Act.put, List.setIfInBounds_toArray, List.set_cons_zero, List.set_cons_succ]
      refine wpAnyH_take (i := 8) (oi := { dst := some 75, op := Op.load 26 (Operand.tmp 74), type := 26, pos := "chance.go:146", after := #[{ on := 7, ground := Ground.data }], guard := none }) (v := ?_) rfl (by kernel_rfl) (by kernel_rfl) (by kernel_rfl) (fun _ _ _ h => h) (Or.inl ⟨by rfl, ?_⟩) (by assumption) ?_
      case refine_2 => intro w hSw; (try dsimp only at hSw); have z0 := HCE.out _ hSw; go_simp; (try with_reducible rfl)
      simp only [Act.put, List.setIfInBounds_toArray, List.set_cons_zero, List.set_cons_succ]
      refine wpAnyH_ready (rs := [4]) (by kernel_rfl) (by simp) ?_
      refine (AllReadyH.cons (o := { dst := some 71, op := Op.call { callee := Callee.value (Operand.func 11), args := #[Operand.tmp 70], argTypes := #[26] }, type := 4, pos := "chance.go:146", after := #[{ on := 3, ground := Ground.data }], guard := none }) rfl (fun K hK => ?_) AllReadyH.nil)
      have KC := tree_any l2 qa qc V0 (HROW.out V0 hS0).1 (by have := HQ2.out; omega)
      rw [HQ2.out.1] at KC
      go_simp
      (with_reducible refine KC.mono ?_)
      clear KC
      rintro e9 V1 ⟨z9, rfl, hz9, hb9⟩
      obtain rfl : zT = z9 := by rw [Bool.eq_iff_iff, hz9, HZT.out]
      dsimp only
      have hS1 : Below wr.heap.size wr V1 := hS0.trans (hb9.mono hS0.size)
      clear hz9 hb9
      refine hK.out _ _ ?_ (fun hHeld => ?_)
      · first | exact hS4 | exact hS3 | exact hS2 | exact hS1
      clear hK K
      try simp only [Act.put, List.setIfInBounds_toArray, List.set_cons_zero, List.set_cons_succ]
      refine wpAnyH_ready (rs := [9]) (by kernel_rfl) (by simp) ?_
      refine (AllReadyH.cons (o := { dst := some 76, op := Op.call { callee := Callee.value (Operand.func 12), args := #[Operand.tmp 75], argTypes := #[26] }, type := 4, pos := "chance.go:146", after := #[{ on := 8, ground := Ground.data }, { on := 4, ground := Ground.chain }], guard := none }) rfl (fun K hK => ?_) AllReadyH.nil)
      have KC := hangTree_any l2 qa qc V1 (HROW.out V1 hS1).1 (by have := HQ2.out; omega)
      rw [HQ2.out.1] at KC
      go_simp
      (with_reducible refine KC.mono ?_)
      clear KC
      rintro e9 V2 ⟨z9, rfl, hz9, hb9⟩
      obtain rfl : zT = z9 := by rw [Bool.eq_iff_iff, hz9, HZT.out]
      dsimp only
      have hS2 : Below wr.heap.size wr V2 := hS1.trans (hb9.mono hS1.size)
      clear hz9 hb9
      refine hK.out _ _ ?_ (fun hHeld => ?_)
      · first | exact hS4 | exact hS3 | exact hS2 | exact hS1
      clear hK K
      try simp only [Act.put, List.setIfInBounds_toArray, List.set_cons_zero, List.set_cons_succ]
      refine wpAnyH_take (i := 10) (oi := { dst := some 77, op := Op.binOp BinOp.neq 4 (Operand.tmp 71) (Operand.tmp 76) 4, type := 4, pos := "chance.go:146", after := #[{ on := 4, ground := Ground.data }, { on := 9, ground := Ground.data }], guard := none }) (v := ?_) rfl (by kernel_rfl) (by kernel_rfl) (by kernel_rfl) (fun _ _ _ h => h) (Or.inl ⟨by rfl, ?_⟩) (by assumption) ?_
      case refine_2 => intro w hSw; (try dsimp only at hSw); have z0 := HCE.out _ hSw; go_simp; (try with_reducible rfl)
      simp only [Act.put, List.setIfInBounds_toArray, List.set_cons_zero, List.set_cons_succ]
      refine wpAnyH_take (i := 11) (oi := { dst := some 78, op := Op.move (Operand.tmp 77), type := 4, pos := "chance.go:146", after := #[{ on := 10, ground := Ground.data }, { on := 9, ground := Ground.chain }], guard := none }) (v := ?_) rfl (by kernel_rfl) (by kernel_rfl) (by kernel_rfl) (fun _ _ _ h => h) (Or.inl ⟨by rfl, ?_⟩) (by assumption) ?_
      case refine_2 => intro w hSw; (try dsimp only at hSw); have z0 := HCE.out _ hSw; go_simp; (try with_reducible rfl)
      simp only [Act.put, List.setIfInBounds_toArray, List.set_cons_zero, List.set_cons_succ]
      refine wpAnyH_take (i := 12) (oi := { dst := some 79, op := Op.move (Operand.tmp 1), type := 22, pos := "chance.go:146", after := #[{ on := 11, ground := Ground.guard }], guard := some (11, false) }) (v := ?_) rfl (by kernel_rfl) (by kernel_rfl) (by kernel_rfl) (fun _ _ _ h => h) (Or.inl ⟨by rfl, ?_⟩) (by assumption) ?_
      case refine_2 => intro w hSw; (try dsimp only at hSw); have z0 := HCE.out _ hSw; go_simp; (try with_reducible rfl)
      simp only [Act.put, List.setIfInBounds_toArray, List.set_cons_zero, List.set_cons_succ]
      refine wpAnyH_take (i := 13) (oi := { dst := some 80, op := Op.move (Operand.tmp 15), type := 3, pos := "chance.go:146", after := #[{ on := 11, ground := Ground.guard }], guard := some (11, false) }) (v := ?_) rfl (by kernel_rfl) (by kernel_rfl) (by kernel_rfl) (fun _ _ _ h => h) (Or.inl ⟨by rfl, ?_⟩) (by assumption) ?_
      case refine_2 => intro w hSw; (try dsimp only at hSw); have z0 := HCE.out _ hSw; go_simp; (try with_reducible rfl)
      simp only [Act.put, List.setIfInBounds_toArray, List.set_cons_zero, List.set_cons_succ]
      refine wpAnyH_take (i := 14) (oi := { dst := some 81, op := Op.indexAddr 22 (Operand.tmp 79) (Operand.tmp 80), type := 0, pos := "chance.go:146", after := #[{ on := 12, ground := Ground.data }, { on := 13, ground := Ground.data }, { on := 11, ground := Ground.guard }], guard := some (11, false) }) (v := ?_) rfl (by kernel_rfl) (by kernel_rfl) (by kernel_rfl) (fun _ _ _ h => h) (Or.inl ⟨by rfl, ?_⟩) (by assumption) ?_
      case refine_2 => intro w hSw; (try dsimp only at hSw); have z0 := HCE.out _ hSw; go_simp; (try with_reducible rfl)
      simp only [Act.put, List.setIfInBounds_toArray, List.set_cons_zero, List.set_cons_succ]
      refine wpAnyH_take (i := 15) (oi := { dst := some 82, op := Op.load 26 (Operand.tmp 81), type := 26, pos := "chance.go:146", after := #[{ on := 14, ground := Ground.data }, { on := 11, ground := Ground.guard }], guard := some (11, false) }) (v := ?_) rfl (by kernel_rfl) (by kernel_rfl) (by kernel_rfl) (fun _ _ _ h => h) (Or.inl ⟨by rfl, ?_⟩) (by assumption) ?_
      case refine_2 => intro w hSw; (try dsimp only at hSw); have z0 := HCE.out _ hSw; go_simp; (try with_reducible rfl)
      simp only [Act.put, List.setIfInBounds_toArray, List.set_cons_zero, List.set_cons_succ]
      refine wpAnyH_take (i := 17) (oi := { dst := some 84, op := Op.move (Operand.tmp 1), type := 22, pos := "chance.go:146", after := #[{ on := 11, ground := Ground.guard }], guard := some (11, false) }) (v := ?_) rfl (by kernel_rfl) (by kernel_rfl) (by kernel_rfl) (fun _ _ _ h => h) (Or.inl ⟨by rfl, ?_⟩) (by assumption) ?_
      case refine_2 => intro w hSw; (try dsimp only at hSw); have z0 := HCE.out _ hSw; go_simp; (try with_reducible rfl)
      simp only [Act.put, List.setIfInBounds_toArray, List.set_cons_zero, List.set_cons_succ]
      refine wpAnyH_take (i := 18) (oi := { dst := some 85, op := Op.move (Operand.tmp 15), type := 3, pos := "chance.go:146", after := #[{ on := 11, ground := Ground.guard }], guard := some (11, false) }) (v := ?_) rfl (by kernel_rfl) (by kernel_rfl) (by kernel_rfl) (fun _ _ _ h => h) (Or.inl ⟨by rfl, ?_⟩) (by assumption) ?_
      case refine_2 => intro w hSw; (try dsimp only at hSw); have z0 := HCE.out _ hSw; go_simp; (try with_reducible rfl)
      simp only [Act.put, List.setIfInBounds_toArray, List.set_cons_zero, List.set_cons_succ]
      refine wpAnyH_take (i := 19) (oi := { dst := some 86, op := Op.indexAddr 22 (Operand.tmp 84) (Operand.tmp 85), type := 0, pos := "chance.go:146", after := #[{ on := 17, ground := Ground.data }, { on := 18, ground := Ground.data }, { on := 11, ground := Ground.guard }], guard := some (11, false) }) (v := ?_) rfl (by kernel_rfl) (by kernel_rfl) (by kernel_rfl) (fun _ _ _ h => h) (Or.inl ⟨by rfl, ?_⟩) (by assumption) ?_
      case refine_2 => intro w hSw; (try dsimp only at hSw); have z0 := HCE.out _ hSw; go_simp; (try with_reducible rfl)
      simp only [Act.put, List.setIfInBounds_toArray, List.set_cons_zero, List.set_cons_succ]
      refine wpAnyH_take (i := 20) (oi := { dst := some 87, op := Op.load 26 (Operand.tmp 86), type := 26, pos := "chance.go:146", after := #[{ on := 19, ground := Ground.data }, { on := 11, ground := Ground.guard }], guard := some (11, false) }) (v := ?_) rfl (by kernel_rfl) (by kernel_rfl) (by kernel_rfl) (fun _ _ _ h => h) (Or.inl ⟨by rfl, ?_⟩) (by assumption) ?_
      case refine_2 => intro w hSw; (try dsimp only at hSw); have z0 := HCE.out _ hSw; go_simp; (try with_reducible rfl)
      simp only [Act.put, List.setIfInBounds_toArray, List.set_cons_zero, List.set_cons_succ]
      refine wpAnyH_ready (rs := [16]) (by kernel_rfl) (by simp) ?_
      refine (AllReadyH.cons (o := { dst := some 83, op := Op.call { callee := Callee.value (Operand.func 13), args := #[Operand.tmp 82], argTypes := #[26] }, type := 4, pos := "chance.go:146", after := #[{ on := 15, ground := Ground.data }, { on := 11, ground := Ground.chain }, { on := 11, ground := Ground.guard }], guard := some (11, false) }) rfl (fun K hK => ?_) AllReadyH.nil)
      have KC := flat_any l2 qa qc V2 (HROW.out V2 hS2).1 (by have := HQ2.out; omega)
      rw [HQ2.out.1] at KC
      go_simp
      (with_reducible refine KC.mono ?_)
      clear KC
      rintro e9 V3 ⟨z9, rfl, hz9, hb9⟩
      obtain rfl : zF = z9 := by rw [Bool.eq_iff_iff, hz9, HZF.out]
      dsimp only
      have hS3 : Below wr.heap.size wr V3 := hS2.trans (hb9.mono hS2.size)
      clear hz9 hb9
      refine hK.out _ _ ?_ (fun hHeld => ?_)
      · first | exact hS4 | exact hS3 | exact hS2 | exact hS1
      clear hK K
      try simp only [Act.put, List.setIfInBounds_toArray, List.set_cons_zero, List.set_cons_succ]
      refine wpAnyH_ready (rs := [21]) (by kernel_rfl) (by simp) ?_
      refine (AllReadyH.cons (o := { dst := some 88, op := Op.call { callee := Callee.value (Operand.func 14), args := #[Operand.tmp 87], argTypes := #[26] }, type := 4, pos := "chance.go:146", after := #[{ on := 20, ground := Ground.data }, { on := 16, ground := Ground.chain }, { on := 11, ground := Ground.guard }], guard := some (11, false) }) rfl (fun K hK => ?_) AllReadyH.nil)
      have KC := hangFlat_any l2 qa qc V3 (HROW.out V3 hS3).1 (by have := HQ2.out; omega)
      rw [HQ2.out.1] at KC
      go_simp
      (with_reducible refine KC.mono ?_)
      clear KC
      rintro e9 V4 ⟨z9, rfl, hz9, hb9⟩
      obtain rfl : zF = z9 := by rw [Bool.eq_iff_iff, hz9, HZF.out]
      dsimp only
      have hS4 : Below wr.heap.size wr V4 := hS3.trans (hb9.mono hS3.size)
      clear hz9 hb9
      refine hK.out _ _ ?_ (fun hHeld => ?_)
      · first | exact hS4 | exact hS3 | exact hS2 | exact hS1
      clear hK K
      try simp only [Act.put, List.setIfInBounds_toArray, List.set_cons_zero, List.set_cons_succ]
      refine wpAnyH_take (i := 22) (oi := { dst := some 89, op := Op.binOp BinOp.neq 4 (Operand.tmp 83) (Operand.tmp 88) 4, type := 4, pos := "chance.go:146", after := #[{ on := 16, ground := Ground.data }, { on := 21, ground := Ground.data }, { on := 11, ground := Ground.guard }], guard := some (11, false) }) (v := ?_) rfl (by kernel_rfl) (by kernel_rfl) (by kernel_rfl) (fun _ _ _ h => h) (Or.inl ⟨by rfl, ?_⟩) (by assumption) ?_
      case refine_2 => intro w hSw; (try dsimp only at hSw); have z0 := HCE.out _ hSw; go_simp; (try with_reducible rfl)
      simp only [Act.put, List.setIfInBounds_toArray, List.set_cons_zero, List.set_cons_succ]
      refine wpAnyH_take (i := 23) (oi := { dst := some 90, op := Op.pick (Operand.tmp 78) (Operand.const (Value.bool true)) (Operand.tmp 89), type := 4, pos := "chance.go:146", after := #[{ on := 11, ground := Ground.data }, { on := 22, ground := Ground.data }], guard := none }) (v := ?_) rfl (by kernel_rfl) (by kernel_rfl) (by kernel_rfl) (fun _ _ _ h => h) (Or.inl ⟨by rfl, ?_⟩) (by assumption) ?_
      case refine_2 => intro w hSw; (try dsimp only at hSw); have z0 := HCE.out _ hSw; go_simp; (try with_reducible rfl)
      simp only [Act.put, List.setIfInBounds_toArray, List.set_cons_zero, List.set_cons_succ]
      refine wpAnyH_done (by kernel_rfl) ?_ _
      have HB12 : Hid (Below wr.heap.size wr V4) := hS4
      clear hS0 hS1 hS2 hS3 hS4
      have HB13 : Hid (Below W5.heap.size W5 V4) := HI.out.trans (HB12.out.mono HI.out.size)
      go_wp2
      go_roundw
      case rel => exact ⟨i + 1, by go_num, hlt, HB13.out⟩
      case measure => simp [intOf]; omega
    · have hii : ¬ (i : Int) < (m2 : Int) := by omega
      have hx := HX.out wr HI.out
      have c1 := hx.1
      have c2 := hx.2.1
      have c3 := hx.2.2.1
      clear hx
      go_wp2
      try rw [Exit.noGoto_ret]
      go_ret
      exact ⟨rfl, (HX.out wr HI.out).2.2.2⟩
end Go.Proofs.Ytpolnkdbebjpnaa.Hd
