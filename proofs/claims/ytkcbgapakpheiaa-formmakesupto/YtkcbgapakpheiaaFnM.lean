/- The document's Form, of a stem and a cell of a right lexicon. No conditions beyond how the lexicon lies. -/
import Derived.Test.YtkcbgapakpheiaaFgM
import Derived.Test.YtkcbgapakpheiaaCs
import Derived.Test.YtkcbgapakpheiaaAl2M
namespace Go.Proofs.Ytkcbgapakpheiaa.Fm
open Go.RowKit Go.Shelf Sd Md Sc Ap Aq Ls Lx Ly Lz Fo Mk Tk Rd Fp Fg Ch

theorem own0 (W : World) : (W.alloc (.cells #[] 3)).ownsRow W.heap.size 3 1 (.slice (some ⟨W.heap.size, 0, none⟩) 0 0) 0 [] := World.ownsRow_lit (size := 1) W #[] 0 (Nat.le_refl _) (Nat.zero_le _) rfl
theorem runC_at (l : List Ch) (t : List Int) (k : Nat) (hk : k < l.length) : runC (l.take (k + 1)) t = change l[k] (runC (l.take k) t) := by
  unfold runC
  rw [List.take_add_one, List.getElem?_eq_getElem hk, List.foldl_append]
  rfl

set_option maxHeartbeats 4000000 in
set_option maxRecDepth 100000 in
theorem form_any (y : VX) (i j : Nat) (w : World) (h : IsX w y) (hck : checkX y.lex = 0) (hi : i < y.sts.length) (hj : j < y.ces.length) :
    Calls Try.prog 8 #[y.val, .int .i64 i, .int .i64 j] w fun e w' => ∃ v, e = .returned v ∧ IsI w' v (formX (chs y.xs) (y.sts[i]).2 (y.ces[j]).2) ∧ Below w.heap.size w w' := by
  have hb1 : ∀ (W : World) (o : Obj), Below W.heap.size W (W.alloc o) := fun W o => (Below.refl _ _).alloc (Nat.le_refl _) _
  rw [form_run hck _ _ (List.getElem_mem hi) (List.getElem_mem hj)]
  obtain ⟨hf, hl3, _, _⟩ := right_of hck
  have hall : ∀ c, c ∈ chs y.xs → check c = 0 := fun c hc => (firstX_all hf c hc).1
  obtain ⟨l1, l2⟩ := lens_of hck
  have L1 := l1 _ (List.getElem_mem hi)
  have L2 := l2 _ (List.getElem_mem hj)
  obtain ⟨k, vs, vc, vh, sts, ces, xs⟩ := y
  have hS := h.s
  have hCe := h.c
  have hL := h.h
  dsimp only at hS hCe hL hi hj L1 L2 hall hl3 ⊢
  obtain ⟨aS, cs, hv, _, _⟩ := IsR.len hS
  subst hv
  obtain ⟨aC, cc, hv, _, _⟩ := IsR.len hCe
  subst hv
  obtain ⟨aH, cH, hv, _, hmH⟩ := hL.len
  subst hv
  simp only [VX.val]
  clear h hck hf l1 l2
  obtain ⟨bS, oS, rfl⟩ := row_some hS (by omega)
  obtain ⟨bC, oC, rfl⟩ := row_some hCe (by omega)
  have RS := fun W (hW : Below w.heap.size w W) => row_cells (f := stc) (k := 2) (fun _ => rfl) (IsR.below stQ_up hS hW) i hi
  have RC := fun W (hW : Below w.heap.size w W) => row_cells (f := cec) (k := 3) (fun _ => rfl) (IsR.below ceQ_up hCe hW) j hj
  obtain ⟨a, ha⟩ : ∃ a, sts[i] = a := ⟨_, rfl⟩
  obtain ⟨b, hbb⟩ : ∃ b, ces[j] = b := ⟨_, rfl⟩
  rw [ha] at RS L1 ⊢
  rw [hbb] at RC L2 ⊢
  obtain ⟨vf, st⟩ := a
  obtain ⟨⟨vb, ve⟩, ce⟩ := b
  dsimp only at L1 L2 ⊢
  have r1 : ∀ W, Below w.heap.size w W → W.cell? ⟨bS, oS + i * 2, none⟩ = some vf ∧ IsI W vf st.form := fun W hW => ⟨(RS W hW).2.1 0 _ (by omega) rfl, (RS W hW).2.2⟩
  have r2 : ∀ W, Below w.heap.size w W → W.cell? ⟨bC, oC + j * 3, none⟩ = some (.int .i64 ce.cls) ∧ W.cell? ⟨bC, oC + j * 3 + 1, none⟩ = some vb ∧ W.cell? ⟨bC, oC + j * 3 + 2, none⟩ = some ve ∧ IsI W vb ce.bef ∧ IsI W ve ce.beh := fun W hW => ⟨(RC W hW).2.1 0 _ (by omega) rfl, (RC W hW).2.1 1 _ (by omega) rfl, (RC W hW).2.1 2 _ (by omega) rfl, (RC W hW).2.2.1, (RC W hW).2.2.2⟩
  have hij : (i : Int) < (sts.length : Int) := by omega
  have hjj : (j : Int) < (ces.length : Int) := by omega
  clear RS RC ha hbb
  obtain ⟨af, cf, hv, _, _⟩ := (r1 w (Below.refl _ _)).2.len
  subst hv
  obtain ⟨ab, cb, hv, _, _⟩ := (r2 w (Below.refl _ _)).2.2.2.1.len
  subst hv
  obtain ⟨ae, ce', hv, _, _⟩ := (r2 w (Below.refl _ _)).2.2.2.2.len
  subst hv
  have bx0 := Bx4.new w k (.slice (some ⟨bS, oS, none⟩) sts.length cs) (.slice (some ⟨bC, oC, none⟩) ces.length cc) (.slice aH xs.length cH)
  obtain ⟨z0, z1, z2, _, _⟩ := r2 _ (hb1 w (.cells #[.int .i64 k, .slice (some ⟨bS, oS, none⟩) sts.length cs, .slice (some ⟨bC, oC, none⟩) ces.length cc, .slice aH xs.length cH] 26))
  obtain ⟨i0, hi0, hz0, hz1, hz2⟩ := info_parts info3
  have hlen : (ce.bef ++ st.form ++ ce.beh).length ≤ 15 := by simp only [List.length_append]; omega
  obtain ⟨text, htext⟩ : ∃ t, ce.bef ++ st.form ++ ce.beh = t := ⟨_, rfl⟩
  rw [htext] at hlen ⊢
  have HT : Hid (ce.bef ++ st.form ++ ce.beh = text) := htext
  have HA : Hid ((∀ c, c ∈ chs xs → check c = 0) ∧ xs.length ≤ 3 ∧ text.length ≤ 15) := ⟨hall, hl3, hlen⟩
  have HL : Hid (IsL w (.slice aH xs.length cH) xs) := hL
  clear htext hlen hall hl3 hL
  go_enter Try.func8, Try.ntmps8
  go_wp2
  obtain ⟨W, hW⟩ : ∃ W, (w.alloc (.cells #[.int .i64 k, .slice (some ⟨bS, oS, none⟩) sts.length cs, .slice (some ⟨bC, oC, none⟩) ces.length cc, .slice aH xs.length cH] 26)).alloc (.cells #[.int .i64 ce.cls, .slice ab ce.bef.length cb, .slice ae ce.beh.length ce'] 53) = W := ⟨_, rfl⟩
  have B0 : Below w.heap.size w W := by rw [← hW]; exact (hb1 _ _).trans ((hb1 _ _).mono (hb1 _ _).size)
  have x0 : Bx4 w.heap.size k (.slice (some ⟨bS, oS, none⟩) sts.length cs) (.slice (some ⟨bC, oC, none⟩) ces.length cc) (.slice aH xs.length cH) W := by rw [← hW]; exact bx0.below (hb1 _ _)
  have e1 : W.cell? ⟨w.heap.size + 1, 1, none⟩ = some (.slice ab ce.bef.length cb) := by
    rw [← hW]
    exact newcs _ _ 53 _ 1 (by rw [World.size_alloc])
  have e2 : W.cell? ⟨w.heap.size + 1, 2, none⟩ = some (.slice ae ce.beh.length ce') := by
    rw [← hW]
    exact newcs _ _ 53 _ 2 (by rw [World.size_alloc])
  rw [hW]
  clear hW z0 z1 z2 bx0
  have BD : Below w.heap.size w W.drew := B0.drew
  have BE : Below w.heap.size w (W.drew.alloc (.cells #[] 3)) := BD.alloc BD.size _
  have y1 := x0.g1
  have y2 := (r1 W B0).1
  have KP : ∀ w2 : World, Below W.drew.heap.size W.drew w2 → w2.cell? ⟨w.heap.size, 1, none⟩ = some (.slice (some ⟨bS, oS, none⟩) sts.length cs) ∧ w2.cell? ⟨bS, oS + i * 2, none⟩ = some (.slice af st.form.length cf) ∧ w2.cell? ⟨w.heap.size + 1, 1, none⟩ = some (.slice ab ce.bef.length cb) ∧ w2.cell? ⟨w.heap.size + 1, 2, none⟩ = some (.slice ae ce.beh.length ce') := by
    intro w2 hb2
    exact ⟨(hb2.cell (World.block_lt_of_cell? _ _ y1)).trans y1, (hb2.cell (World.block_lt_of_cell? _ _ y2)).trans y2, (hb2.cell (World.block_lt_of_cell? _ _ e1)).trans e1, (hb2.cell (World.block_lt_of_cell? _ _ e2)).trans e2⟩
  have own1 := own0 W.drew
  have K1 := KP _ (hb1 W.drew (.cells #[] 3))
  have rb := (r2 _ BE).2.2.2.1
  go_region_held3 (fun w2 => w2.cell? ⟨w.heap.size, 1, none⟩ = some (.slice (some ⟨bS, oS, none⟩) sts.length cs) ∧ w2.cell? ⟨bS, oS + i * 2, none⟩ = some (.slice af st.form.length cf) ∧ w2.cell? ⟨w.heap.size + 1, 1, none⟩ = some (.slice ab ce.bef.length cb) ∧ w2.cell? ⟨w.heap.size + 1, 2, none⟩ = some (.slice ae ce.beh.length ce')) (first | exact KP _ (Below.refl _ _) | exact K1 | assumption | go_keep)
    (first
      | (refine step_app _ (by rfl) (.tmp 15) (.tmp 17) 27 (by rfl) W.drew.heap.size 3 i0 (.int .i64 0) 1 8 Try.underlying27 hi0 hz0 hz1 hz2 rfl (by decide) _ _ _ (by rfl) own1 _ _ _ (by rfl) rb (ints_one _) (by unfold maxLen; omega) (by omega) (by simp) ?_; intro v2 W2 hown2 hgrow2; have hB2 := (hb1 W.drew (.cells #[] 3)).trans (below_of_grown hgrow2 own1 (by simp)); have K2 := KP _ hB2; have rf := (r1 _ (BD.trans (hB2.mono BD.size))).2)
      | (refine step_app _ (by rfl) (.tmp 18) (.tmp 24) 27 (by rfl) W.drew.heap.size 3 i0 (.int .i64 0) 1 8 Try.underlying27 hi0 hz0 hz1 hz2 rfl (by decide) _ _ _ (by rfl) hown2 _ _ _ (by rfl) rf (ints_one _) (by unfold maxLen; omega) (by omega) hB2.size ?_; intro v3 W3 hown3 hgrow3; have hB3 := hB2.trans (below_of_grown hgrow3 hown2 hB2.size); have K3 := KP _ hB3; have re := (r2 _ (BD.trans (hB3.mono BD.size))).2.2.2.2)
      | (refine step_app _ (by rfl) (.tmp 25) (.tmp 27) 27 (by rfl) W.drew.heap.size 3 i0 (.int .i64 0) 1 8 Try.underlying27 hi0 hz0 hz1 hz2 rfl (by decide) _ _ _ (by rfl) hown3 _ _ _ (by rfl) re (ints_one _) (by unfold maxLen; omega) (by omega) hB3.size ?_; intro v4 W4 hown4 hgrow4; have hB4 := hB3.trans (below_of_grown hgrow4 hown3 hB3.size); have K4 := KP _ hB4))
  have BT := BD.trans (hB4.mono BD.size)
  have x4 := (x0.below (Below.refl _ _).drew).below hB4
  have hI4 : IsI W4 v4 text := by
    rw [← HT.out]
    refine isI_of_own (base := W.drew.heap.size) (e := 3) ?_ (by simp only [List.length_append]; omega)
    have e5 : (ce.bef ++ st.form ++ ce.beh).length = 0 + ce.bef.length + st.form.length + ce.beh.length := by simp only [List.length_append]; omega
    rw [e5]
    have e6 : ints (ce.bef ++ st.form ++ ce.beh) = [] ++ ints ce.bef ++ ints st.form ++ ints ce.beh := by simp [ints]
    rw [e6]
    exact hown4
  have g3 := x4.g3
  clear HT hown4 hown3 hown2 own1 hgrow2 hgrow3 hgrow4 rb rf re K1 K2 K3 K4 KP hB2 hB3 hB4 x0 e1 e2 y1 y2 BE BD B0 r1 r2 hi0 hz0 hz1 hz2 hS hCe L1 L2
  go_wp2
  go_loopw [8, 9] (fun v i wr => ∃ n : Nat, i = .int .i64 n ∧ n ≤ xs.length ∧ IsI wr v (runC ((chs xs).take n) text) ∧ Below W4.heap.size W4 wr) (fun _ i _ => xs.length - (intOf i).toNat)
  case atStart => exact ⟨0, rfl, Nat.zero_le _, hI4, Below.refl _ _⟩
  case round =>
    obtain ⟨n, rfl, hn, hI, hbT⟩ := hrel
    have xr := x4.below hbT
    have q3 := xr.g3
    have BR := BT.trans (hbT.mono BT.size)
    by_cases hlt : n < xs.length
    · obtain ⟨b, off, rfl⟩ : ∃ b o, aH = some ⟨b, o, none⟩ := by
        rcases HL.out.shape with ⟨_, _, _, e⟩ | ⟨b', o', c', hv, _⟩
        · rw [e] at hlt
          simp at hlt
        · simp only [Value.slice.injEq] at hv
          exact ⟨b', o', hv.1⟩
      obtain ⟨_, q0, q1, q2, q3', q4, hC, _⟩ := change_cells (HL.out.below (Nat.le_refl _) BR) n hlt
      have hck : check (xs[n]).c = 0 := HA.out.1 _ (by rw [← chs_at xs n hlt]; exact List.getElem_mem _)
      have hru := runC_at (chs xs) text n (by rw [chs_length]; exact hlt)
      rw [chs_at xs n hlt] at hru
      have h60 : (runC ((chs xs).take n) text).length ≤ 60 := by
        have h1 := runC_len ((chs xs).take n) text (fun c hc => HA.out.1 c (List.mem_of_mem_take hc))
        rw [List.length_take, chs_length, Nat.min_eq_left (by omega)] at h1
        have h2 : 2 ^ n ≤ 4 := by
          have e4 : (4 : Nat) = 2 ^ 2 := rfl
          rw [e4]
          exact Nat.pow_le_pow_right (by omega) (by have := HA.out.2.1; omega)
        exact Nat.le_trans h1 (Nat.mul_le_mul HA.out.2.2 h2)
      have c20 := Cs.change_any (xs[n]) _ _ wr hC (good_of hck) hI h60
      rw [← hru] at c20
      obtain ⟨x, hx⟩ : ∃ x, xs[n] = x := ⟨_, rfl⟩
      rw [hx] at q0 q1 q2 q3' q4 c20
      obtain ⟨res, hres⟩ : ∃ z, runC ((chs xs).take (n + 1)) text = z := ⟨_, rfl⟩
      rw [hres] at c20
      have HR : Hid (runC ((chs xs).take (n + 1)) text = res) := hres
      obtain ⟨at', ct, hv, _, _⟩ := hI.len
      subst hv
      clear hres hru hck hC hx h60 hI hI4
      obtain ⟨⟨kk, frm, tt, left, right⟩, vf', vt', vl', vr', ls, rs⟩ := x
      dsimp only at q0 q1 q2 q3' q4 c20
      simp only [VC.val] at c20
      go_wp2_with (go_at_call 20; refine c20.mono ?_; rintro e w2 ⟨v2, rfl, hI2, _, hb2⟩)
      go_roundw
      case rel => exact ⟨n + 1, by go_num, by omega, by rw [HR.out]; exact hI2, hbT.trans (hb2.mono hbT.size)⟩
      case measure => simp [intOf]; omega
    · have e : n = xs.length := by omega
      subst e
      rw [List.take_of_length_le (by rw [chs_length]; omega)] at hI
      go_wp2
      go_ret
      exact ⟨_, rfl, hI, BR⟩
end Go.Proofs.Ytkcbgapakpheiaa.Fm
/- The document's Form, of a stem and a cell of a right lexicon: what it hands back is new. No conditions beyond how the lexicon lies. -/
namespace Go.Proofs.Ytkcbgapakpheiaa.Fn
open Go.RowKit Go.Shelf Sd Md Sc Ap Aq Ls Lx Ly Lz Fo Mk Tk Rd Fp Fg Fm Ch Al2

set_option maxHeartbeats 4000000 in
set_option maxRecDepth 100000 in
theorem form_new (y : VX) (i j : Nat) (w : World) (h : IsX w y) (hck : checkX y.lex = 0) (hi : i < y.sts.length) (hj : j < y.ces.length) :
    Calls Try.prog 8 #[y.val, .int .i64 i, .int .i64 j] w fun e w' => ∃ v, e = .returned v ∧ IsI w' v (formX (chs y.xs) (y.sts[i]).2 (y.ces[j]).2) ∧ Fresh w.heap.size v ∧ Below w.heap.size w w' := by
  have hb1 : ∀ (W : World) (o : Obj), Below W.heap.size W (W.alloc o) := fun W o => (Below.refl _ _).alloc (Nat.le_refl _) _
  rw [form_run hck _ _ (List.getElem_mem hi) (List.getElem_mem hj)]
  obtain ⟨hf, hl3, _, _⟩ := right_of hck
  have hall : ∀ c, c ∈ chs y.xs → check c = 0 := fun c hc => (firstX_all hf c hc).1
  obtain ⟨l1, l2⟩ := lens_of hck
  have L1 := l1 _ (List.getElem_mem hi)
  have L2 := l2 _ (List.getElem_mem hj)
  obtain ⟨k, vs, vc, vh, sts, ces, xs⟩ := y
  have hS := h.s
  have hCe := h.c
  have hL := h.h
  dsimp only at hS hCe hL hi hj L1 L2 hall hl3 ⊢
  obtain ⟨aS, cs, hv, _, _⟩ := IsR.len hS
  subst hv
  obtain ⟨aC, cc, hv, _, _⟩ := IsR.len hCe
  subst hv
  obtain ⟨aH, cH, hv, _, hmH⟩ := hL.len
  subst hv
  simp only [VX.val]
  clear h hck hf l1 l2
  obtain ⟨bS, oS, rfl⟩ := row_some hS (by omega)
  obtain ⟨bC, oC, rfl⟩ := row_some hCe (by omega)
  have RS := fun W (hW : Below w.heap.size w W) => row_cells (f := stc) (k := 2) (fun _ => rfl) (IsR.below stQ_up hS hW) i hi
  have RC := fun W (hW : Below w.heap.size w W) => row_cells (f := cec) (k := 3) (fun _ => rfl) (IsR.below ceQ_up hCe hW) j hj
  obtain ⟨a, ha⟩ : ∃ a, sts[i] = a := ⟨_, rfl⟩
  obtain ⟨b, hbb⟩ : ∃ b, ces[j] = b := ⟨_, rfl⟩
  rw [ha] at RS L1 ⊢
  rw [hbb] at RC L2 ⊢
  obtain ⟨vf, st⟩ := a
  obtain ⟨⟨vb, ve⟩, ce⟩ := b
  dsimp only at L1 L2 ⊢
  have r1 : ∀ W, Below w.heap.size w W → W.cell? ⟨bS, oS + i * 2, none⟩ = some vf ∧ IsI W vf st.form := fun W hW => ⟨(RS W hW).2.1 0 _ (by omega) rfl, (RS W hW).2.2⟩
  have r2 : ∀ W, Below w.heap.size w W → W.cell? ⟨bC, oC + j * 3, none⟩ = some (.int .i64 ce.cls) ∧ W.cell? ⟨bC, oC + j * 3 + 1, none⟩ = some vb ∧ W.cell? ⟨bC, oC + j * 3 + 2, none⟩ = some ve ∧ IsI W vb ce.bef ∧ IsI W ve ce.beh := fun W hW => ⟨(RC W hW).2.1 0 _ (by omega) rfl, (RC W hW).2.1 1 _ (by omega) rfl, (RC W hW).2.1 2 _ (by omega) rfl, (RC W hW).2.2.1, (RC W hW).2.2.2⟩
  have hij : (i : Int) < (sts.length : Int) := by omega
  have hjj : (j : Int) < (ces.length : Int) := by omega
  clear RS RC ha hbb
  obtain ⟨af, cf, hv, _, _⟩ := (r1 w (Below.refl _ _)).2.len
  subst hv
  obtain ⟨ab, cb, hv, _, _⟩ := (r2 w (Below.refl _ _)).2.2.2.1.len
  subst hv
  obtain ⟨ae, ce', hv, _, _⟩ := (r2 w (Below.refl _ _)).2.2.2.2.len
  subst hv
  have bx0 := Bx4.new w k (.slice (some ⟨bS, oS, none⟩) sts.length cs) (.slice (some ⟨bC, oC, none⟩) ces.length cc) (.slice aH xs.length cH)
  obtain ⟨z0, z1, z2, _, _⟩ := r2 _ (hb1 w (.cells #[.int .i64 k, .slice (some ⟨bS, oS, none⟩) sts.length cs, .slice (some ⟨bC, oC, none⟩) ces.length cc, .slice aH xs.length cH] 26))
  obtain ⟨i0, hi0, hz0, hz1, hz2⟩ := info_parts info3
  have hlen : (ce.bef ++ st.form ++ ce.beh).length ≤ 15 := by simp only [List.length_append]; omega
  obtain ⟨text, htext⟩ : ∃ t, ce.bef ++ st.form ++ ce.beh = t := ⟨_, rfl⟩
  rw [htext] at hlen ⊢
  have HT : Hid (ce.bef ++ st.form ++ ce.beh = text) := htext
  have HA : Hid ((∀ c, c ∈ chs xs → check c = 0) ∧ xs.length ≤ 3 ∧ text.length ≤ 15) := ⟨hall, hl3, hlen⟩
  have HL : Hid (IsL w (.slice aH xs.length cH) xs) := hL
  clear htext hlen hall hl3 hL
  go_enter Try.func8, Try.ntmps8
  go_wp2
  obtain ⟨W, hW⟩ : ∃ W, (w.alloc (.cells #[.int .i64 k, .slice (some ⟨bS, oS, none⟩) sts.length cs, .slice (some ⟨bC, oC, none⟩) ces.length cc, .slice aH xs.length cH] 26)).alloc (.cells #[.int .i64 ce.cls, .slice ab ce.bef.length cb, .slice ae ce.beh.length ce'] 53) = W := ⟨_, rfl⟩
  have B0 : Below w.heap.size w W := by rw [← hW]; exact (hb1 _ _).trans ((hb1 _ _).mono (hb1 _ _).size)
  have x0 : Bx4 w.heap.size k (.slice (some ⟨bS, oS, none⟩) sts.length cs) (.slice (some ⟨bC, oC, none⟩) ces.length cc) (.slice aH xs.length cH) W := by rw [← hW]; exact bx0.below (hb1 _ _)
  have e1 : W.cell? ⟨w.heap.size + 1, 1, none⟩ = some (.slice ab ce.bef.length cb) := by
    rw [← hW]
    exact newcs _ _ 53 _ 1 (by rw [World.size_alloc])
  have e2 : W.cell? ⟨w.heap.size + 1, 2, none⟩ = some (.slice ae ce.beh.length ce') := by
    rw [← hW]
    exact newcs _ _ 53 _ 2 (by rw [World.size_alloc])
  rw [hW]
  clear hW z0 z1 z2 bx0
  have BD : Below w.heap.size w W.drew := B0.drew
  have BE : Below w.heap.size w (W.drew.alloc (.cells #[] 3)) := BD.alloc BD.size _
  have y1 := x0.g1
  have y2 := (r1 W B0).1
  have KP : ∀ w2 : World, Below W.drew.heap.size W.drew w2 → w2.cell? ⟨w.heap.size, 1, none⟩ = some (.slice (some ⟨bS, oS, none⟩) sts.length cs) ∧ w2.cell? ⟨bS, oS + i * 2, none⟩ = some (.slice af st.form.length cf) ∧ w2.cell? ⟨w.heap.size + 1, 1, none⟩ = some (.slice ab ce.bef.length cb) ∧ w2.cell? ⟨w.heap.size + 1, 2, none⟩ = some (.slice ae ce.beh.length ce') := by
    intro w2 hb2
    exact ⟨(hb2.cell (World.block_lt_of_cell? _ _ y1)).trans y1, (hb2.cell (World.block_lt_of_cell? _ _ y2)).trans y2, (hb2.cell (World.block_lt_of_cell? _ _ e1)).trans e1, (hb2.cell (World.block_lt_of_cell? _ _ e2)).trans e2⟩
  have own1 := own0 W.drew
  have K1 := KP _ (hb1 W.drew (.cells #[] 3))
  have rb := (r2 _ BE).2.2.2.1
  go_region_held3 (fun w2 => w2.cell? ⟨w.heap.size, 1, none⟩ = some (.slice (some ⟨bS, oS, none⟩) sts.length cs) ∧ w2.cell? ⟨bS, oS + i * 2, none⟩ = some (.slice af st.form.length cf) ∧ w2.cell? ⟨w.heap.size + 1, 1, none⟩ = some (.slice ab ce.bef.length cb) ∧ w2.cell? ⟨w.heap.size + 1, 2, none⟩ = some (.slice ae ce.beh.length ce')) (first | exact KP _ (Below.refl _ _) | exact K1 | assumption | go_keep)
    (first
      | (refine step_app _ (by rfl) (.tmp 15) (.tmp 17) 27 (by rfl) W.drew.heap.size 3 i0 (.int .i64 0) 1 8 Try.underlying27 hi0 hz0 hz1 hz2 rfl (by decide) _ _ _ (by rfl) own1 _ _ _ (by rfl) rb (ints_one _) (by unfold maxLen; omega) (by omega) (by simp) ?_; intro v2 W2 hown2 hgrow2; have hB2 := (hb1 W.drew (.cells #[] 3)).trans (below_of_grown hgrow2 own1 (by simp)); have K2 := KP _ hB2; have rf := (r1 _ (BD.trans (hB2.mono BD.size))).2)
      | (refine step_app _ (by rfl) (.tmp 18) (.tmp 24) 27 (by rfl) W.drew.heap.size 3 i0 (.int .i64 0) 1 8 Try.underlying27 hi0 hz0 hz1 hz2 rfl (by decide) _ _ _ (by rfl) hown2 _ _ _ (by rfl) rf (ints_one _) (by unfold maxLen; omega) (by omega) hB2.size ?_; intro v3 W3 hown3 hgrow3; have hB3 := hB2.trans (below_of_grown hgrow3 hown2 hB2.size); have K3 := KP _ hB3; have re := (r2 _ (BD.trans (hB3.mono BD.size))).2.2.2.2)
      | (refine step_app _ (by rfl) (.tmp 25) (.tmp 27) 27 (by rfl) W.drew.heap.size 3 i0 (.int .i64 0) 1 8 Try.underlying27 hi0 hz0 hz1 hz2 rfl (by decide) _ _ _ (by rfl) hown3 _ _ _ (by rfl) re (ints_one _) (by unfold maxLen; omega) (by omega) hB3.size ?_; intro v4 W4 hown4 hgrow4; have hB4 := hB3.trans (below_of_grown hgrow4 hown3 hB3.size); have K4 := KP _ hB4))
  have BT := BD.trans (hB4.mono BD.size)
  have x4 := (x0.below (Below.refl _ _).drew).below hB4
  have hI4 : IsI W4 v4 text := by
    rw [← HT.out]
    refine isI_of_own (base := W.drew.heap.size) (e := 3) ?_ (by simp only [List.length_append]; omega)
    have e5 : (ce.bef ++ st.form ++ ce.beh).length = 0 + ce.bef.length + st.form.length + ce.beh.length := by simp only [List.length_append]; omega
    rw [e5]
    have e6 : ints (ce.bef ++ st.form ++ ce.beh) = [] ++ ints ce.bef ++ ints st.form ++ ints ce.beh := by simp [ints]
    rw [e6]
    exact hown4
  have g3 := x4.g3
  have hF4 : Fresh w.heap.size v4 := fresh_own hown4 BD.size
  clear HT hown4 hown3 hown2 own1 hgrow2 hgrow3 hgrow4 rb rf re K1 K2 K3 K4 KP hB2 hB3 hB4 x0 e1 e2 y1 y2 BE BD B0 r1 r2 hi0 hz0 hz1 hz2 hS hCe L1 L2
  go_wp2
  go_loopw [8, 9] (fun v i wr => ∃ n : Nat, i = .int .i64 n ∧ n ≤ xs.length ∧ IsI wr v (runC ((chs xs).take n) text) ∧ Fresh w.heap.size v ∧ Below W4.heap.size W4 wr) (fun _ i _ => xs.length - (intOf i).toNat)
  case atStart => exact ⟨0, rfl, Nat.zero_le _, hI4, hF4, Below.refl _ _⟩
  case round =>
    obtain ⟨n, rfl, hn, hI, hF, hbT⟩ := hrel
    have xr := x4.below hbT
    have q3 := xr.g3
    have BR := BT.trans (hbT.mono BT.size)
    by_cases hlt : n < xs.length
    · obtain ⟨b, off, rfl⟩ : ∃ b o, aH = some ⟨b, o, none⟩ := by
        rcases HL.out.shape with ⟨_, _, _, e⟩ | ⟨b', o', c', hv, _⟩
        · rw [e] at hlt
          simp at hlt
        · simp only [Value.slice.injEq] at hv
          exact ⟨b', o', hv.1⟩
      obtain ⟨_, q0, q1, q2, q3', q4, hC, _⟩ := change_cells (HL.out.below (Nat.le_refl _) BR) n hlt
      have hck : check (xs[n]).c = 0 := HA.out.1 _ (by rw [← chs_at xs n hlt]; exact List.getElem_mem _)
      have hru := runC_at (chs xs) text n (by rw [chs_length]; exact hlt)
      rw [chs_at xs n hlt] at hru
      have h60 : (runC ((chs xs).take n) text).length ≤ 60 := by
        have h1 := runC_len ((chs xs).take n) text (fun c hc => HA.out.1 c (List.mem_of_mem_take hc))
        rw [List.length_take, chs_length, Nat.min_eq_left (by omega)] at h1
        have h2 : 2 ^ n ≤ 4 := by
          have e4 : (4 : Nat) = 2 ^ 2 := rfl
          rw [e4]
          exact Nat.pow_le_pow_right (by omega) (by have := HA.out.2.1; omega)
        exact Nat.le_trans h1 (Nat.mul_le_mul HA.out.2.2 h2)
      have c20 := Cs.change_any (xs[n]) _ _ wr hC (good_of hck) hI h60
      rw [← hru] at c20
      obtain ⟨x, hx⟩ : ∃ x, xs[n] = x := ⟨_, rfl⟩
      rw [hx] at q0 q1 q2 q3' q4 c20
      obtain ⟨res, hres⟩ : ∃ z, runC ((chs xs).take (n + 1)) text = z := ⟨_, rfl⟩
      rw [hres] at c20
      have HR : Hid (runC ((chs xs).take (n + 1)) text = res) := hres
      obtain ⟨at', ct, hv, _, _⟩ := hI.len
      subst hv
      clear hres hru hck hC hx h60 hI hI4
      obtain ⟨⟨kk, frm, tt, left, right⟩, vf', vt', vl', vr', ls, rs⟩ := x
      dsimp only at q0 q1 q2 q3' q4 c20
      simp only [VC.val] at c20
      go_wp2_with (go_at_call 20; refine c20.mono ?_; rintro e w2 ⟨v2, rfl, hI2, ho2, hb2⟩)
      go_roundw
      case rel => exact ⟨n + 1, by go_num, by omega, by rw [HR.out]; exact hI2, fresh_own ho2 BR.size, hbT.trans (hb2.mono hbT.size)⟩
      case measure => simp [intOf]; omega
    · have e : n = xs.length := by omega
      subst e
      rw [List.take_of_length_le (by rw [chs_length]; omega)] at hI
      go_wp2
      go_ret
      exact ⟨_, rfl, hI, hF, BR⟩
end Go.Proofs.Ytkcbgapakpheiaa.Fn
