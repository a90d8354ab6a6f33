/- The document's Gives and Level. Condition: the parts are right and small. -/
import Derived.Test.YtbmgkgoghgdbhaaVa
namespace Go.Proofs.Ytbmgkgoghgdbhaa.Te
open Go.RowKit

theorem gv_bound (b : Int) : ∀ (s : Nat) (t : Ty), sz t ≤ s → Gp t → -(sz t : Int) ≤ gv b t ∧ gv b t ≤ (sz t : Int) := by
  intro s
  induction s with
  | zero => intro t h; have := sz_pos t; omega
  | succ s ih =>
    intro t hs hg
    rcases gp_cases hg with ⟨k, rfl, _⟩ | ⟨x, y, rfl, hx, hy⟩ | ⟨y, x, rfl, hy, hx⟩
    · rw [sz_bs, gv_bs]
      split <;> omega
    · rw [sz_ov] at hs ⊢
      rw [gv_ov]
      have := ih x (by omega) hx
      have := ih y (by omega) hy
      omega
    · rw [sz_un] at hs ⊢
      rw [gv_un]
      have := ih x (by omega) hx
      have := ih y (by omega) hy
      omega
set_option maxRecDepth 100000 in
set_option maxHeartbeats 2000000 in
theorem gives_doc : ∀ (d : Nat) (t : Ty) (a : Option Addr) (c : Nat) (b : Int) (w : World), TyAt w d t a c → Gp t → sz t ≤ 900 → Calls Try.prog 61 #[vty t a c, .int .i64 b] w fun e w' => e = .returned (.int .i64 (gv b t)) ∧ Below w.heap.size w w' := by
  intro d
  induction d using Nat.strongRecOn with
  | ind d ih =>
    intro t a c b w h hg hsz
    have HT : Hid (TyAt w d t a c) := h
    have IH : Hid (∀ m, m < d → ∀ (t : Ty) (a : Option Addr) (c : Nat) (b : Int) (w : World), TyAt w m t a c → Gp t → sz t ≤ 900 → Calls Try.prog 61 #[vty t a c, .int .i64 b] w fun e w' => e = .returned (.int .i64 (gv b t)) ∧ Below w.heap.size w w') := ih
    clear h ih
    rcases gp_cases hg with ⟨k, rfl, _⟩ | ⟨X0, X1, rfl, GX0, GX1⟩ | ⟨X0, X1, rfl, GX0, GX1⟩
    · rw [gv_bs]
      clear hg hsz HT IH
      unfold vty bs
      dsimp only
      rw [show ([] : List Ty).length = 0 from rfl]
      have hVb : Below w.heap.size w (w.alloc (.cells #[.int .i64 1, .int .i64 k, .slice a 0 c] 24)) := (Below.refl _ w).alloc (Nat.le_refl _) _
      by_cases hkb : k = b
      · subst hkb
        rw [if_pos rfl]
        go_enter Try.func61, Try.ntmps61
        go_wp2
        go_ret
        exact ⟨rfl, hVb⟩
      · rw [if_neg hkb]
        go_enter Try.func61, Try.ntmps61
        go_wp2
        go_ret
        exact ⟨rfl, hVb⟩
    · obtain ⟨d', rfl⟩ := HT.out.pos
      obtain ⟨gg, go_, a0, c0, rfl, hgg, y0, y1, y2, hx⟩ := HT.out.kid (j := 0) (by simp [ov])
      obtain ⟨gg2, go2, a1, c1, ef, hgg2, y3, y4, y5, hy⟩ := HT.out.kid (j := 1) (by simp [ov])
      simp only [Option.some.injEq, Addr.mk.injEq, and_true] at ef
      obtain ⟨rfl, rfl⟩ := ef
      simp only [ov, List.getElem_cons_zero, List.getElem_cons_succ, Nat.zero_mul, Nat.add_zero, Nat.one_mul] at y0 y1 y2 y3 y4 y5 hx hy
      have hT0 : Hid (TyAt w d' X0 a0 c0) := hx
      have hT1 : Hid (TyAt w d' X1 a1 c1) := hy
      have HX0 : Hid (Gp X0) := GX0
      have HX1 : Hid (Gp X1) := GX1
      rw [sz_ov] at hsz
      have hZ0 : sz X0 ≤ 900 := by omega
      have hZ1 : sz X1 ≤ 900 := by omega
      have hb0 := gv_bound b _ X0 (Nat.le_refl _) HX0.out
      have hb1 := gv_bound b _ X1 (Nat.le_refl _) HX1.out
      obtain ⟨v0, hv0⟩ : ∃ v, gv b X0 = v := ⟨_, rfl⟩
      obtain ⟨v1, hv1⟩ : ∃ v, gv b X1 = v := ⟨_, rfl⟩
      rw [hv0] at hb0
      rw [hv1] at hb1
      have HV0 : Hid (gv b X0 = v0) := hv0
      have HV1 : Hid (gv b X1 = v1) := hv1
      have HRV : Hid (gv b (ov X0 X1) = v0 - v1) := by show gv b (ov X0 X1) = v0 - v1; rw [gv_ov, hv0, hv1]
      have hbb : -900 ≤ v0 ∧ v0 ≤ 900 ∧ -900 ≤ v1 ∧ v1 ≤ 900 := by omega
      have hwr : IntKind.i64.wrap (v0 - v1) = v0 - v1 := wrap_id (by omega) (by omega)
      have ih : Hid (∀ (t : Ty) (a : Option Addr) (c : Nat) (w : World), Gp t → TyAt w d' t a c → sz t ≤ 900 → Calls Try.prog 61 #[vty t a c, .int .i64 b] w fun e w' => e = .returned (.int .i64 (gv b t)) ∧ Below w.heap.size w w') := fun t a c w hg ht hs => IH.out d' (by omega) t a c b w ht hg hs
      clear hx hy hgg2 hv0 hv1 hb0 hb1 HT hsz GX0 GX1 IH
      obtain ⟨gvr, hgvr⟩ : ∃ u, gv b (ov X0 X1) = u := ⟨_, rfl⟩
      rw [hgvr] at HRV ⊢
      clear hgvr
      unfold vty ov
      dsimp only
      rw [show ([X0, X1] : List Ty).length = 2 from rfl]
      go_enter Try.func61, Try.ntmps61
      go_upto_region 1 with fail
      have hVb : Below w.heap.size w (w.alloc (.cells #[.int .i64 2, .int .i64 0, .slice (some ⟨gg, go_, none⟩) 2 c] 24)) := (Below.refl _ w).alloc (Nat.le_refl _) _
      have x1 := heap_alloc_new w (.cells #[.int .i64 2, .int .i64 0, .slice (some ⟨gg, go_, none⟩) 2 c] 24)
      generalize hV : w.alloc (.cells #[.int .i64 2, .int .i64 0, .slice (some ⟨gg, go_, none⟩) 2 c] 24) = V at *
      clear hV
      have i0 := cell_of_row _ _ 0 _ _ _ x1
      go_upto_region 7 with fail
      clear i0
      have HCE : Hid _ := fun (W : World) (hSw : Below w.heap.size w W ∧ W.heap[w.heap.size]? = some (.cells #[.int .i64 2, .int .i64 0, .slice (some ⟨gg, go_, none⟩) 2 c] 24 (0, 0))) => (And.intro (cell_of_row _ _ 2 _ _ _ hSw.2) (And.intro ((hSw.1.cell (p := ⟨gg, _, none⟩) hgg).trans y0) (And.intro ((hSw.1.cell (p := ⟨gg, _, none⟩) hgg).trans y1) (And.intro ((hSw.1.cell (p := ⟨gg, _, none⟩) hgg).trans y2) (And.intro ((hSw.1.cell (p := ⟨gg, _, none⟩) hgg).trans y3) (And.intro ((hSw.1.cell (p := ⟨gg, _, none⟩) hgg).trans y4) ((hSw.1.cell (p := ⟨gg, _, none⟩) hgg).trans y5)))))))
      refine wp_region_held_drew (S := fun W => Below w.heap.size w W ∧ W.heap[w.heap.size]? = some (.cells #[.int .i64 2, .int .i64 0, .slice (some ⟨gg, go_, none⟩) 2 c] 24 (0, 0))) (by kernel_rfl) (by exact ⟨below_drewN hVb 1, x1⟩) (fun hHeld => ?_)
      have hS0 := hHeld
      generalize hV : V.drew = V0 at *
      clear hV
      refine wpAnyH_take (i := 0) (oi := { dst := some 15, op := Op.fieldAddr 24 (Operand.tmp 2) 2, type := 0, pos := "speech.go:241", after := #[], guard := none }) (v := ?_) rfl (by kernel_rfl) (by kernel_rfl) (by kernel_rfl) (fun _ _ _ h => h) (Or.inl ⟨by rfl, ?_⟩) (by assumption) ?_
      case refine_2 => intro w hSw; (try dsimp only at hSw); obtain ⟨p2, q0, q1, q2, q3, q4, q5⟩ := HCE.out _ hSw; go_simp; (try with_reducible rfl)
      simp only [Act.put, List.setIfInBounds_toArray, List.set_cons_zero, List.set_cons_succ]
      refine wpAnyH_take (i := 1) (oi := { dst := some 16, op := Op.load 22 (Operand.tmp 15), type := 22, pos := "speech.go:241", after := #[{ on := 0, ground := Ground.data }], guard := none }) (v := ?_) rfl (by kernel_rfl) (by kernel_rfl) (by kernel_rfl) (fun _ _ _ h => h) (Or.inl ⟨by rfl, ?_⟩) (by assumption) ?_
      case refine_2 => intro w hSw; (try dsimp only at hSw); obtain ⟨p2, q0, q1, q2, q3, q4, q5⟩ := HCE.out _ hSw; go_simp; (try with_reducible rfl)
      simp only [Act.put, List.setIfInBounds_toArray, List.set_cons_zero, List.set_cons_succ]
      refine wpAnyH_take (i := 2) (oi := { dst := some 17, op := Op.indexAddr 22 (Operand.tmp 16) (Operand.const (Value.int IntKind.i64 0)), type := 0, pos := "speech.go:241", after := #[{ on := 1, ground := Ground.data }], guard := none }) (v := ?_) rfl (by kernel_rfl) (by kernel_rfl) (by kernel_rfl) (fun _ _ _ h => h) (Or.inl ⟨by rfl, ?_⟩) (by assumption) ?_
      case refine_2 => intro w hSw; (try dsimp only at hSw); obtain ⟨p2, q0, q1, q2, q3, q4, q5⟩ := HCE.out _ hSw; go_simp; (try with_reducible rfl)
      simp only [Act.put, List.setIfInBounds_toArray, List.set_cons_zero, List.set_cons_succ]
      refine wpAnyH_take (i := 3) (oi := { dst := some 18, op := Op.load 24 (Operand.tmp 17), type := 24, pos := "speech.go:241", after := #[{ on := 2, ground := Ground.data }], guard := none }) (v := ?_) rfl (by kernel_rfl) (by kernel_rfl) (by kernel_rfl) (fun _ _ _ h => h) (Or.inl ⟨by rfl, ?_⟩) (by assumption) ?_
      case refine_2 => intro w hSw; (try dsimp only at hSw); obtain ⟨p2, q0, q1, q2, q3, q4, q5⟩ := HCE.out _ hSw; go_simp; (try with_reducible rfl)
      simp only [Act.put, List.setIfInBounds_toArray, List.set_cons_zero, List.set_cons_succ]
      refine wpAnyH_take (i := 4) (oi := { dst := some 19, op := Op.move (Operand.tmp 1), type := 3, pos := "speech.go:241", after := #[], guard := none }) (v := ?_) rfl (by kernel_rfl) (by kernel_rfl) (by kernel_rfl) (fun _ _ _ h => h) (Or.inl ⟨by rfl, ?_⟩) (by assumption) ?_
      case refine_2 => intro w hSw; (try dsimp only at hSw); obtain ⟨p2, q0, q1, q2, q3, q4, q5⟩ := HCE.out _ hSw; go_simp; (try with_reducible rfl)
      simp only [Act.put, List.setIfInBounds_toArray, List.set_cons_zero, List.set_cons_succ]
      refine wpAnyH_take (i := 6) (oi := { dst := some 21, op := Op.fieldAddr 24 (Operand.tmp 2) 2, type := 0, pos := "speech.go:241", after := #[], guard := none }) (v := ?_) rfl (by kernel_rfl) (by kernel_rfl) (by kernel_rfl) (fun _ _ _ h => h) (Or.inl ⟨by rfl, ?_⟩) (by assumption) ?_
      case refine_2 => intro w hSw; (try dsimp only at hSw); obtain ⟨p2, q0, q1, q2, q3, q4, q5⟩ := HCE.out _ hSw; go_simp; (try with_reducible rfl)
      simp only [Act.put, List.setIfInBounds_toArray, List.set_cons_zero, List.set_cons_succ]
      refine wpAnyH_take (i := 7) (oi := { dst := some 22, op := Op.load 22 (Operand.tmp 21), type := 22, pos := "speech.go:241", after := #[{ on := 6, ground := Ground.data }], guard := none }) (v := ?_) rfl (by kernel_rfl) (by kernel_rfl) (by kernel_rfl) (fun _ _ _ h => h) (Or.inl ⟨by rfl, ?_⟩) (by assumption) ?_
      case refine_2 => intro w hSw; (try dsimp only at hSw); obtain ⟨p2, q0, q1, q2, q3, q4, q5⟩ := HCE.out _ hSw; go_simp; (try with_reducible rfl)
      simp only [Act.put, List.setIfInBounds_toArray, List.set_cons_zero, List.set_cons_succ]
      refine wpAnyH_take (i := 8) (oi := { dst := some 23, op := Op.indexAddr 22 (Operand.tmp 22) (Operand.const (Value.int IntKind.i64 1)), type := 0, pos := "speech.go:241", after := #[{ on := 7, ground := Ground.data }], guard := none }) (v := ?_) rfl (by kernel_rfl) (by kernel_rfl) (by kernel_rfl) (fun _ _ _ h => h) (Or.inl ⟨by rfl, ?_⟩) (by assumption) ?_
      case refine_2 => intro w hSw; (try dsimp only at hSw); obtain ⟨p2, q0, q1, q2, q3, q4, q5⟩ := HCE.out _ hSw; go_simp; (try with_reducible rfl)
      simp only [Act.put, List.setIfInBounds_toArray, List.set_cons_zero, List.set_cons_succ]
      refine wpAnyH_take (i := 9) (oi := { dst := some 24, op := Op.load 24 (Operand.tmp 23), type := 24, pos := "speech.go:241", after := #[{ on := 8, ground := Ground.data }], guard := none }) (v := ?_) rfl (by kernel_rfl) (by kernel_rfl) (by kernel_rfl) (fun _ _ _ h => h) (Or.inl ⟨by rfl, ?_⟩) (by assumption) ?_
      case refine_2 => intro w hSw; (try dsimp only at hSw); obtain ⟨p2, q0, q1, q2, q3, q4, q5⟩ := HCE.out _ hSw; go_simp; (try with_reducible rfl)
      simp only [Act.put, List.setIfInBounds_toArray, List.set_cons_zero, List.set_cons_succ]
      refine wpAnyH_take (i := 10) (oi := { dst := some 25, op := Op.move (Operand.tmp 1), type := 3, pos := "speech.go:241", after := #[], guard := none }) (v := ?_) rfl (by kernel_rfl) (by kernel_rfl) (by kernel_rfl) (fun _ _ _ h => h) (Or.inl ⟨by rfl, ?_⟩) (by assumption) ?_
      case refine_2 => intro w hSw; (try dsimp only at hSw); obtain ⟨p2, q0, q1, q2, q3, q4, q5⟩ := HCE.out _ hSw; go_simp; (try with_reducible rfl)
      simp only [Act.put, List.setIfInBounds_toArray, List.set_cons_zero, List.set_cons_succ]
      refine wpAnyH_ready (rs := [5]) (by kernel_rfl) (by simp) ?_
      refine (AllReadyH.cons (o := { dst := some 20, op := Op.call { callee := Callee.value (Operand.func 61), args := #[Operand.tmp 18, Operand.tmp 19], argTypes := #[24, 3] }, type := 3, pos := "speech.go:241", after := #[{ on := 3, ground := Ground.data }, { on := 4, ground := Ground.data }], guard := none }) rfl (fun K hK => ?_) AllReadyH.nil)
      have KQ := ih.out X0 a0 c0 V0 HX0.out (hT0.out.below hS0.1) hZ0
      unfold vty at KQ
      rw [HV0.out] at KQ
      go_simp
      (with_reducible refine KQ.mono ?_)
      clear KQ
      rintro e1 V1 ⟨rfl, hb1⟩
      dsimp only
      have hS1 := And.intro (hS0.1.trans (hb1.mono hS0.1.size)) ((hb1.block _ (lt_of_get hS0.2)).trans hS0.2)
      refine hK.out _ _ ?_ (fun hHeld => ?_)
      · exact hS1
      clear hK K
      try simp only [Act.put, List.setIfInBounds_toArray, List.set_cons_zero, List.set_cons_succ]
      refine wpAnyH_ready (rs := [11]) (by kernel_rfl) (by simp) ?_
      refine (AllReadyH.cons (o := { dst := some 26, op := Op.call { callee := Callee.value (Operand.func 61), args := #[Operand.tmp 24, Operand.tmp 25], argTypes := #[24, 3] }, type := 3, pos := "speech.go:241", after := #[{ on := 9, ground := Ground.data }, { on := 10, ground := Ground.data }, { on := 5, ground := Ground.chain }], guard := none }) rfl (fun K hK => ?_) AllReadyH.nil)
      have KQ := ih.out X1 a1 c1 V1 HX1.out (hT1.out.below hS1.1) hZ1
      unfold vty at KQ
      rw [HV1.out] at KQ
      go_simp
      (with_reducible refine KQ.mono ?_)
      clear KQ
      rintro e2 V2 ⟨rfl, hb2⟩
      dsimp only
      have hS2 := And.intro (hS1.1.trans (hb2.mono hS1.1.size)) ((hb2.block _ (lt_of_get hS1.2)).trans hS1.2)
      refine hK.out _ _ ?_ (fun hHeld => ?_)
      · exact hS2
      clear hK K
      try simp only [Act.put, List.setIfInBounds_toArray, List.set_cons_zero, List.set_cons_succ]
      refine wpAnyH_take (i := 12) (oi := { dst := some 27, op := Op.binOp BinOp.sub 3 (Operand.tmp 20) (Operand.tmp 26) 3, type := 3, pos := "speech.go:241", after := #[{ on := 5, ground := Ground.data }, { on := 11, ground := Ground.data }], guard := none }) (v := ?_) rfl (by kernel_rfl) (by kernel_rfl) (by kernel_rfl) (fun _ _ _ h => h) (Or.inl ⟨by rfl, ?_⟩) (by assumption) ?_
      case refine_2 => intro w hSw; (try dsimp only at hSw); obtain ⟨p2, q0, q1, q2, q3, q4, q5⟩ := HCE.out _ hSw; go_simp; (try with_reducible rfl)
      simp only [Act.put, List.setIfInBounds_toArray, List.set_cons_zero, List.set_cons_succ]
      refine wpAnyH_take (i := 13) (oi := { dst := some 4, op := Op.assign (Operand.tmp 27), type := 3, pos := "speech.go:241", after := #[{ on := 12, ground := Ground.data }, { on := 11, ground := Ground.chain }, { on := 0, ground := Ground.phase }, { on := 1, ground := Ground.phase }, { on := 2, ground := Ground.phase }, { on := 3, ground := Ground.phase }, { on := 4, ground := Ground.phase }, { on := 5, ground := Ground.phase }, { on := 6, ground := Ground.phase }, { on := 7, ground := Ground.phase }, { on := 8, ground := Ground.phase }, { on := 9, ground := Ground.phase }, { on := 10, ground := Ground.phase }, { on := 11, ground := Ground.phase }, { on := 12, ground := Ground.phase }], guard := none }) (v := ?_) rfl (by kernel_rfl) (by kernel_rfl) (by kernel_rfl) (fun _ _ _ h => h) (Or.inl ⟨by rfl, ?_⟩) (by assumption) ?_
      case refine_2 => intro w hSw; (try dsimp only at hSw); obtain ⟨p2, q0, q1, q2, q3, q4, q5⟩ := HCE.out _ hSw; go_simp; (try with_reducible rfl)
      simp only [Act.put, List.setIfInBounds_toArray, List.set_cons_zero, List.set_cons_succ]
      refine wpAnyH_done (by kernel_rfl) ?_ _
      go_wp2_with fail
      go_ret
      exact ⟨by rw [HRV.out]; rfl, hS2.1⟩
    · obtain ⟨d', rfl⟩ := HT.out.pos
      obtain ⟨gg, go_, a0, c0, rfl, hgg, y0, y1, y2, hx⟩ := HT.out.kid (j := 0) (by simp [un])
      obtain ⟨gg2, go2, a1, c1, ef, hgg2, y3, y4, y5, hy⟩ := HT.out.kid (j := 1) (by simp [un])
      simp only [Option.some.injEq, Addr.mk.injEq, and_true] at ef
      obtain ⟨rfl, rfl⟩ := ef
      simp only [un, List.getElem_cons_zero, List.getElem_cons_succ, Nat.zero_mul, Nat.add_zero, Nat.one_mul] at y0 y1 y2 y3 y4 y5 hx hy
      have hT0 : Hid (TyAt w d' X0 a0 c0) := hx
      have hT1 : Hid (TyAt w d' X1 a1 c1) := hy
      have HX0 : Hid (Gp X0) := GX0
      have HX1 : Hid (Gp X1) := GX1
      rw [sz_un] at hsz
      have hZ0 : sz X0 ≤ 900 := by omega
      have hZ1 : sz X1 ≤ 900 := by omega
      have hb0 := gv_bound b _ X0 (Nat.le_refl _) HX0.out
      have hb1 := gv_bound b _ X1 (Nat.le_refl _) HX1.out
      obtain ⟨v0, hv0⟩ : ∃ v, gv b X0 = v := ⟨_, rfl⟩
      obtain ⟨v1, hv1⟩ : ∃ v, gv b X1 = v := ⟨_, rfl⟩
      rw [hv0] at hb0
      rw [hv1] at hb1
      have HV0 : Hid (gv b X0 = v0) := hv0
      have HV1 : Hid (gv b X1 = v1) := hv1
      have HRV : Hid (gv b (un X0 X1) = v1 - v0) := by show gv b (un X0 X1) = v1 - v0; rw [gv_un, hv0, hv1]
      have hbb : -900 ≤ v0 ∧ v0 ≤ 900 ∧ -900 ≤ v1 ∧ v1 ≤ 900 := by omega
      have hwr : IntKind.i64.wrap (v1 - v0) = v1 - v0 := wrap_id (by omega) (by omega)
      have ih : Hid (∀ (t : Ty) (a : Option Addr) (c : Nat) (w : World), Gp t → TyAt w d' t a c → sz t ≤ 900 → Calls Try.prog 61 #[vty t a c, .int .i64 b] w fun e w' => e = .returned (.int .i64 (gv b t)) ∧ Below w.heap.size w w') := fun t a c w hg ht hs => IH.out d' (by omega) t a c b w ht hg hs
      clear hx hy hgg2 hv0 hv1 hb0 hb1 HT hsz GX0 GX1 IH
      obtain ⟨gvr, hgvr⟩ : ∃ u, gv b (un X0 X1) = u := ⟨_, rfl⟩
      rw [hgvr] at HRV ⊢
      clear hgvr
      unfold vty un
      dsimp only
      rw [show ([X0, X1] : List Ty).length = 2 from rfl]
      go_enter Try.func61, Try.ntmps61
      go_upto_region 1 with fail
      have hVb : Below w.heap.size w (w.alloc (.cells #[.int .i64 3, .int .i64 0, .slice (some ⟨gg, go_, none⟩) 2 c] 24)) := (Below.refl _ w).alloc (Nat.le_refl _) _
      have x1 := heap_alloc_new w (.cells #[.int .i64 3, .int .i64 0, .slice (some ⟨gg, go_, none⟩) 2 c] 24)
      generalize hV : w.alloc (.cells #[.int .i64 3, .int .i64 0, .slice (some ⟨gg, go_, none⟩) 2 c] 24) = V at *
      clear hV
      have i0 := cell_of_row _ _ 0 _ _ _ x1
      go_upto_region 8 with fail
      clear i0
      have HCE : Hid _ := fun (W : World) (hSw : Below w.heap.size w W ∧ W.heap[w.heap.size]? = some (.cells #[.int .i64 3, .int .i64 0, .slice (some ⟨gg, go_, none⟩) 2 c] 24 (0, 0))) => (And.intro (cell_of_row _ _ 2 _ _ _ hSw.2) (And.intro ((hSw.1.cell (p := ⟨gg, _, none⟩) hgg).trans y0) (And.intro ((hSw.1.cell (p := ⟨gg, _, none⟩) hgg).trans y1) (And.intro ((hSw.1.cell (p := ⟨gg, _, none⟩) hgg).trans y2) (And.intro ((hSw.1.cell (p := ⟨gg, _, none⟩) hgg).trans y3) (And.intro ((hSw.1.cell (p := ⟨gg, _, none⟩) hgg).trans y4) ((hSw.1.cell (p := ⟨gg, _, none⟩) hgg).trans y5)))))))
      refine wp_region_held_drew (S := fun W => Below w.heap.size w W ∧ W.heap[w.heap.size]? = some (.cells #[.int .i64 3, .int .i64 0, .slice (some ⟨gg, go_, none⟩) 2 c] 24 (0, 0))) (by kernel_rfl) (by exact ⟨below_drewN hVb 1, x1⟩) (fun hHeld => ?_)
      have hS0 := hHeld
      generalize hV : V.drew = V0 at *
      clear hV
      refine wpAnyH_take (i := 0) (oi := { dst := some 28, op := Op.fieldAddr 24 (Operand.tmp 2) 2, type := 0, pos := "speech.go:243", after := #[], guard := none }) (v := ?_) rfl (by kernel_rfl) (by kernel_rfl) (by kernel_rfl) (fun _ _ _ h => h) (Or.inl ⟨by rfl, ?_⟩) (by assumption) ?_
      case refine_2 => intro w hSw; (try dsimp only at hSw); obtain ⟨p2, q0, q1, q2, q3, q4, q5⟩ := HCE.out _ hSw; go_simp; (try with_reducible rfl)
      simp only [Act.put, List.setIfInBounds_toArray, List.set_cons_zero, List.set_cons_succ]
      refine wpAnyH_take (i := 1) (oi := { dst := some 29, op := Op.load 22 (Operand.tmp 28), type := 22, pos := "speech.go:243", after := #[{ on := 0, ground := Ground.data }], guard := none }) (v := ?_) rfl (by kernel_rfl) (by kernel_rfl) (by kernel_rfl) (fun _ _ _ h => h) (Or.inl ⟨by rfl, ?_⟩) (by assumption) ?_
      case refine_2 => intro w hSw; (try dsimp only at hSw); obtain ⟨p2, q0, q1, q2, q3, q4, q5⟩ := HCE.out _ hSw; go_simp; (try with_reducible rfl)
      simp only [Act.put, List.setIfInBounds_toArray, List.set_cons_zero, List.set_cons_succ]
      refine wpAnyH_take (i := 2) (oi := { dst := some 30, op := Op.indexAddr 22 (Operand.tmp 29) (Operand.const (Value.int IntKind.i64 1)), type := 0, pos := "speech.go:243", after := #[{ on := 1, ground := Ground.data }], guard := none }) (v := ?_) rfl (by kernel_rfl) (by kernel_rfl) (by kernel_rfl) (fun _ _ _ h => h) (Or.inl ⟨by rfl, ?_⟩) (by assumption) ?_
      case refine_2 => intro w hSw; (try dsimp only at hSw); obtain ⟨p2, q0, q1, q2, q3, q4, q5⟩ := HCE.out _ hSw; go_simp; (try with_reducible rfl)
      simp only [Act.put, List.setIfInBounds_toArray, List.set_cons_zero, List.set_cons_succ]
      refine wpAnyH_take (i := 3) (oi := { dst := some 31, op := Op.load 24 (Operand.tmp 30), type := 24, pos := "speech.go:243", after := #[{ on := 2, ground := Ground.data }], guard := none }) (v := ?_) rfl (by kernel_rfl) (by kernel_rfl) (by kernel_rfl) (fun _ _ _ h => h) (Or.inl ⟨by rfl, ?_⟩) (by assumption) ?_
      case refine_2 => intro w hSw; (try dsimp only at hSw); obtain ⟨p2, q0, q1, q2, q3, q4, q5⟩ := HCE.out _ hSw; go_simp; (try with_reducible rfl)
      simp only [Act.put, List.setIfInBounds_toArray, List.set_cons_zero, List.set_cons_succ]
      refine wpAnyH_take (i := 4) (oi := { dst := some 32, op := Op.move (Operand.tmp 1), type := 3, pos := "speech.go:243", after := #[], guard := none }) (v := ?_) rfl (by kernel_rfl) (by kernel_rfl) (by kernel_rfl) (fun _ _ _ h => h) (Or.inl ⟨by rfl, ?_⟩) (by assumption) ?_
      case refine_2 => intro w hSw; (try dsimp only at hSw); obtain ⟨p2, q0, q1, q2, q3, q4, q5⟩ := HCE.out _ hSw; go_simp; (try with_reducible rfl)
      simp only [Act.put, List.setIfInBounds_toArray, List.set_cons_zero, List.set_cons_succ]
      refine wpAnyH_take (i := 6) (oi := { dst := some 34, op := Op.fieldAddr 24 (Operand.tmp 2) 2, type := 0, pos := "speech.go:243", after := #[], guard := none }) (v := ?_) rfl (by kernel_rfl) (by kernel_rfl) (by kernel_rfl) (fun _ _ _ h => h) (Or.inl ⟨by rfl, ?_⟩) (by assumption) ?_
      case refine_2 => intro w hSw; (try dsimp only at hSw); obtain ⟨p2, q0, q1, q2, q3, q4, q5⟩ := HCE.out _ hSw; go_simp; (try with_reducible rfl)
      simp only [Act.put, List.setIfInBounds_toArray, List.set_cons_zero, List.set_cons_succ]
      refine wpAnyH_take (i := 7) (oi := { dst := some 35, op := Op.load 22 (Operand.tmp 34), type := 22, pos := "speech.go:243", after := #[{ on := 6, ground := Ground.data }], guard := none }) (v := ?_) rfl (by kernel_rfl) (by kernel_rfl) (by kernel_rfl) (fun _ _ _ h => h) (Or.inl ⟨by rfl, ?_⟩) (by assumption) ?_
      case refine_2 => intro w hSw; (try dsimp only at hSw); obtain ⟨p2, q0, q1, q2, q3, q4, q5⟩ := HCE.out _ hSw; go_simp; (try with_reducible rfl)
      simp only [Act.put, List.setIfInBounds_toArray, List.set_cons_zero, List.set_cons_succ]
      refine wpAnyH_take (i := 8) (oi := { dst := some 36, op := Op.indexAddr 22 (Operand.tmp 35) (Operand.const (Value.int IntKind.i64 0)), type := 0, pos := "speech.go:243", after := #[{ on := 7, ground := Ground.data }], guard := none }) (v := ?_) rfl (by kernel_rfl) (by kernel_rfl) (by kernel_rfl) (fun _ _ _ h => h) (Or.inl ⟨by rfl, ?_⟩) (by assumption) ?_
      case refine_2 => intro w hSw; (try dsimp only at hSw); obtain ⟨p2, q0, q1, q2, q3, q4, q5⟩ := HCE.out _ hSw; go_simp; (try with_reducible rfl)
      simp only [Act.put, List.setIfInBounds_toArray, List.set_cons_zero, List.set_cons_succ]
      refine wpAnyH_take (i := 9) (oi := { dst := some 37, op := Op.load 24 (Operand.tmp 36), type := 24, pos := "speech.go:243", after := #[{ on := 8, ground := Ground.data }], guard := none }) (v := ?_) rfl (by kernel_rfl) (by kernel_rfl) (by kernel_rfl) (fun _ _ _ h => h) (Or.inl ⟨by rfl, ?_⟩) (by assumption) ?_
      case refine_2 => intro w hSw; (try dsimp only at hSw); obtain ⟨p2, q0, q1, q2, q3, q4, q5⟩ := HCE.out _ hSw; go_simp; (try with_reducible rfl)
      simp only [Act.put, List.setIfInBounds_toArray, List.set_cons_zero, List.set_cons_succ]
      refine wpAnyH_take (i := 10) (oi := { dst := some 38, op := Op.move (Operand.tmp 1), type := 3, pos := "speech.go:243", after := #[], guard := none }) (v := ?_) rfl (by kernel_rfl) (by kernel_rfl) (by kernel_rfl) (fun _ _ _ h => h) (Or.inl ⟨by rfl, ?_⟩) (by assumption) ?_
      case refine_2 => intro w hSw; (try dsimp only at hSw); obtain ⟨p2, q0, q1, q2, q3, q4, q5⟩ := HCE.out _ hSw; go_simp; (try with_reducible rfl)
      simp only [Act.put, List.setIfInBounds_toArray, List.set_cons_zero, List.set_cons_succ]
      refine wpAnyH_ready (rs := [5]) (by kernel_rfl) (by simp) ?_
      refine (AllReadyH.cons (o := { dst := some 33, op := Op.call { callee := Callee.value (Operand.func 61), args := #[Operand.tmp 31, Operand.tmp 32], argTypes := #[24, 3] }, type := 3, pos := "speech.go:243", after := #[{ on := 3, ground := Ground.data }, { on := 4, ground := Ground.data }], guard := none }) rfl (fun K hK => ?_) AllReadyH.nil)
      have KQ := ih.out X1 a1 c1 V0 HX1.out (hT1.out.below hS0.1) hZ1
      unfold vty at KQ
      rw [HV1.out] at KQ
      go_simp
      (with_reducible refine KQ.mono ?_)
      clear KQ
      rintro e1 V1 ⟨rfl, hb1⟩
      dsimp only
      have hS1 := And.intro (hS0.1.trans (hb1.mono hS0.1.size)) ((hb1.block _ (lt_of_get hS0.2)).trans hS0.2)
      refine hK.out _ _ ?_ (fun hHeld => ?_)
      · exact hS1
      clear hK K
      try simp only [Act.put, List.setIfInBounds_toArray, List.set_cons_zero, List.set_cons_succ]
      refine wpAnyH_ready (rs := [11]) (by kernel_rfl) (by simp) ?_
      refine (AllReadyH.cons (o := { dst := some 39, op := Op.call { callee := Callee.value (Operand.func 61), args := #[Operand.tmp 37, Operand.tmp 38], argTypes := #[24, 3] }, type := 3, pos := "speech.go:243", after := #[{ on := 9, ground := Ground.data }, { on := 10, ground := Ground.data }, { on := 5, ground := Ground.chain }], guard := none }) rfl (fun K hK => ?_) AllReadyH.nil)
      have KQ := ih.out X0 a0 c0 V1 HX0.out (hT0.out.below hS1.1) hZ0
      unfold vty at KQ
      rw [HV0.out] at KQ
      go_simp
      (with_reducible refine KQ.mono ?_)
      clear KQ
      rintro e2 V2 ⟨rfl, hb2⟩
      dsimp only
      have hS2 := And.intro (hS1.1.trans (hb2.mono hS1.1.size)) ((hb2.block _ (lt_of_get hS1.2)).trans hS1.2)
      refine hK.out _ _ ?_ (fun hHeld => ?_)
      · exact hS2
      clear hK K
      try simp only [Act.put, List.setIfInBounds_toArray, List.set_cons_zero, List.set_cons_succ]
      refine wpAnyH_take (i := 12) (oi := { dst := some 40, op := Op.binOp BinOp.sub 3 (Operand.tmp 33) (Operand.tmp 39) 3, type := 3, pos := "speech.go:243", after := #[{ on := 5, ground := Ground.data }, { on := 11, ground := Ground.data }], guard := none }) (v := ?_) rfl (by kernel_rfl) (by kernel_rfl) (by kernel_rfl) (fun _ _ _ h => h) (Or.inl ⟨by rfl, ?_⟩) (by assumption) ?_
      case refine_2 => intro w hSw; (try dsimp only at hSw); obtain ⟨p2, q0, q1, q2, q3, q4, q5⟩ := HCE.out _ hSw; go_simp; (try with_reducible rfl)
      simp only [Act.put, List.setIfInBounds_toArray, List.set_cons_zero, List.set_cons_succ]
      refine wpAnyH_take (i := 13) (oi := { dst := some 4, op := Op.assign (Operand.tmp 40), type := 3, pos := "speech.go:243", after := #[{ on := 12, ground := Ground.data }, { on := 11, ground := Ground.chain }, { on := 0, ground := Ground.phase }, { on := 1, ground := Ground.phase }, { on := 2, ground := Ground.phase }, { on := 3, ground := Ground.phase }, { on := 4, ground := Ground.phase }, { on := 5, ground := Ground.phase }, { on := 6, ground := Ground.phase }, { on := 7, ground := Ground.phase }, { on := 8, ground := Ground.phase }, { on := 9, ground := Ground.phase }, { on := 10, ground := Ground.phase }, { on := 11, ground := Ground.phase }, { on := 12, ground := Ground.phase }], guard := none }) (v := ?_) rfl (by kernel_rfl) (by kernel_rfl) (by kernel_rfl) (fun _ _ _ h => h) (Or.inl ⟨by rfl, ?_⟩) (by assumption) ?_
      case refine_2 => intro w hSw; (try dsimp only at hSw); obtain ⟨p2, q0, q1, q2, q3, q4, q5⟩ := HCE.out _ hSw; go_simp; (try with_reducible rfl)
      simp only [Act.put, List.setIfInBounds_toArray, List.set_cons_zero, List.set_cons_succ]
      refine wpAnyH_done (by kernel_rfl) ?_ _
      go_wp2_with fail
      go_ret
      exact ⟨by rw [HRV.out]; rfl, hS2.1⟩
theorem sm_bound (b : Int) {l : List Ty} (h : ∀ t ∈ l, Gp t) (hs : szs l ≤ 900) (k : Nat) : -900 ≤ sm b (l.take k) ∧ sm b (l.take k) ≤ 900 := by
  have : ∀ m : List Ty, (∀ t ∈ m, Gp t) → -(szs m : Int) ≤ sm b m ∧ sm b m ≤ (szs m : Int) := by
    intro m
    induction m with
    | nil => intro _; simp [sm, szs]
    | cons x m ih =>
      intro hm
      have h1 := gv_bound b _ x (Nat.le_refl _) (hm x (by simp))
      have h2 := ih (fun t ht => hm t (by simp [ht]))
      rw [sm_cons, szs_cons]
      omega
  have h1 := this (l.take k) (fun t ht => h t (List.mem_of_mem_take ht))
  have h2 := szs_cut l k
  omega
theorem smv_take (b : Int) (l : List Ty) {k : Nat} (h : k < l.length) : sm b (l.take (k + 1)) = sm b (l.take k) + gv b l[k] := by
  rw [← List.take_append_getElem h, sm_app, sm_cons, sm_nil]
  omega
set_option maxRecDepth 100000 in
set_option maxHeartbeats 2000000 in
theorem level_doc {d dg : Nat} (l : List Ty) (a : Option Addr) (c : Nat) (g : Ty) (ag : Option Addr) (cg : Nat) (w : World) (r : Bool) (hl : TyAt w (d + 1) ⟨0, 0, l⟩ a c) (hg : TyAt w dg g ag cg) (gl : ∀ t ∈ l, Gp t) (gg : Gp g) (hsz : szs l + sz g ≤ 900) (hr : r = true ↔ ∀ b : Nat, b < 10 → sm b l = gv b g) :
    Calls Try.prog 30 #[.slice a l.length c, vty g ag cg] w fun e w' => e = .returned (.bool r) ∧ Below w.heap.size w w' := by
  have hll := szs_len l
  have HL : Hid (TyAt w (d + 1) ⟨0, 0, l⟩ a c) := hl
  have HG : Hid (TyAt w dg g ag cg) := hg
  have HGL : Hid (∀ t ∈ l, Gp t) := gl
  have HGG : Hid (Gp g) := gg
  have HSZ : Hid (szs l + sz g ≤ 900) := hsz
  have HR : Hid (r = true ↔ ∀ b : Nat, b < 10 → sm b l = gv b g) := hr
  have hlen : l.length ≤ 900 := by omega
  clear hl hg gl gg hsz hr hll
  unfold vty
  go_enter Try.func30, Try.ntmps30
  go_upto_region 1 with fail
  have hVb : Below w.heap.size w (w.alloc (.cells #[.int .i64 g.kind, .int .i64 g.n, .slice ag g.kids.length cg] 24)) := (Below.refl _ w).alloc (Nat.le_refl _) _
  have x1 := heap_alloc_new w (.cells #[.int .i64 g.kind, .int .i64 g.n, .slice ag g.kids.length cg] 24)
  generalize hV : w.alloc (.cells #[.int .i64 g.kind, .int .i64 g.n, .slice ag g.kids.length cg] 24) = V at *
  clear hV
  go_wp2
  go_loopw [5, 6, 7] (fun bv _ _ wr => ∃ b : Nat, bv = .int .i64 (b : Int) ∧ b ≤ 10 ∧ Below w.heap.size w wr ∧ wr.heap[w.heap.size]? = some (.cells #[.int .i64 g.kind, .int .i64 g.n, .slice ag g.kids.length cg] 24 (0, 0)) ∧ ∀ b' : Nat, b' < b → sm b' l = gv b' g) (fun bv _ _ _ => 10 - (intOf bv).toNat)
  case atStart => exact ⟨0, rfl, by omega, hVb, x1, fun _ h => by omega⟩
  case round =>
    clear x1 hVb
    obtain ⟨b, rfl, hb, hB, z1, hz⟩ := hrel
    have HZ : Hid (∀ b' : Nat, b' < b → sm b' l = gv b' g) := hz
    clear hz
    by_cases hb10 : b < 10
    · have hb10' : (b : Int) < 10 := by omega
      obtain ⟨wo, rfl⟩ : ∃ wo, wo = wr := ⟨_, rfl⟩
      go_wp2
      go_loopw [6, 7] (fun nv iv wi => ∃ k : Nat, iv = .int .i64 (k : Int) ∧ k ≤ l.length ∧ Below wo.heap.size wo wi ∧ nv = .int .i64 (sm b (l.take k))) (fun _ iv _ => l.length - (intOf iv).toNat)
      case atStart => exact ⟨0, rfl, by omega, Below.refl _ _, by simp [sm]⟩
      case round =>
        obtain ⟨k, rfl, hkl', hBi, rfl⟩ := hrel
        have hBw := hB.trans (hBi.mono hB.size)
        have z2 := (hBi.block _ (lt_of_get z1)).trans z1
        have hsb := sm_bound b HGL.out (by have := HSZ.out; omega) k
        obtain ⟨sv, hsv⟩ : ∃ s, sm b (l.take k) = s := ⟨_, rfl⟩
        rw [hsv] at hsb ⊢
        have HSV : Hid (sm b (l.take k) = sv) := hsv
        clear hsv
        by_cases hkl : k < l.length
        · have hkl2 : (k : Int) < (l.length : Int) := by omega
          obtain ⟨ga, off, a', c', rfl, hga, y0, y1, y2, hT⟩ := HL.out.kid (j := k) hkl
          dsimp only at y0 y1 y2 hT
          have y0 := (hBw.cell (p := ⟨ga, _, none⟩) hga).trans y0
          have y1 := (hBw.cell (p := ⟨ga, _, none⟩) hga).trans y1
          have y2 := (hBw.cell (p := ⟨ga, _, none⟩) hga).trans y2
          have hGk := HGL.out l[k] (List.getElem_mem hkl)
          have hzk : sz l[k] ≤ 900 := by have := szs_split hkl; have := HSZ.out; omega
          have K61 := gives_doc d l[k] a' c' b wr (hT.below hBw) hGk hzk
          unfold vty at K61
          have hvb := gv_bound b _ l[k] (Nat.le_refl _) hGk
          obtain ⟨v, hv⟩ : ∃ v, gv b l[k] = v := ⟨_, rfl⟩
          rw [hv] at K61 hvb
          have HN : Hid (sm b (l.take (k + 1)) = sv + v) := by show sm b (l.take (k + 1)) = sv + v; rw [smv_take b l hkl, HSV.out, hv]
          have hvb2 : -900 ≤ v ∧ v ≤ 900 := by omega
          clear hT hGk hv hvb hzk
          go_wp2_with (go_at_call 61; (with_reducible refine K61.mono ?_); rintro e5 w5 ⟨rfl, hb5⟩; clear K61)
          go_roundw
          case rel => exact ⟨k + 1, by go_num, by omega, hBi.trans (hb5.mono hBi.size), by rw [HN.out]⟩
          case measure => simp [intOf]; omega
        · have hkl2 : ¬ (k : Int) < (l.length : Int) := by omega
          have HS2 : Hid (sm b l = sv) := by have := HSV.out; rw [List.take_of_length_le (by omega)] at this; exact this
          have K61 := gives_doc dg g ag cg b wr (HG.out.below hBw) HGG.out (by have := HSZ.out; omega)
          unfold vty at K61
          obtain ⟨v, hv⟩ : ∃ v, gv b g = v := ⟨_, rfl⟩
          rw [hv] at K61
          have HV : Hid (gv b g = v) := hv
          clear hv HSV
          have i0 := cell_of_row _ _ 0 _ _ _ z2
          have i1 := cell_of_row _ _ 1 _ _ _ z2
          have i2 := cell_of_row _ _ 2 _ _ _ z2
          by_cases hsv : sv = v
          · have hsvb : (sv != v) = false := by simp [hsv]
            have HN : Hid (∀ b' : Nat, b' < b + 1 → sm b' l = gv b' g) := fun b' h => by
              by_cases e : b' = b
              · rw [e, HS2.out, HV.out, hsv]
              · exact HZ.out b' (by omega)
            subst hsv
            go_wp2_with (go_at_call 61; (with_reducible refine K61.mono ?_); rintro e5 w5 ⟨rfl, hb5⟩; clear K61)
            go_roundw
            case rel => exact ⟨b + 1, by go_num, by omega, hBw.trans (hb5.mono hBw.size), (hb5.block _ (lt_of_get z2)).trans z2, HN.out⟩
            case measure => simp [intOf]; omega
          · have hsvb : (sv != v) = true := bne_iff_ne.2 hsv
            have hrf : r = false := by
              cases hrr : r
              · rfl
              · exact absurd (HS2.out.symm.trans (((HR.out.1 hrr) b hb10).trans HV.out)) hsv
            subst hrf
            go_wp2_with (go_at_call 61; (with_reducible refine K61.mono ?_); rintro e5 w5 ⟨rfl, hb5⟩; clear K61)
            go_ret
            exact ⟨rfl, hBw.trans (hb5.mono hBw.size)⟩
    · have hb10' : ¬ (b : Int) < 10 := by omega
      have hrt : r = true := HR.out.2 (fun b' h => HZ.out b' (by omega))
      subst hrt
      go_wp2
      go_ret
      exact ⟨rfl, hB⟩
end Go.Proofs.Ytbmgkgoghgdbhaa.Te
