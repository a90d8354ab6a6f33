/- before. Conditions: the parts are right, few. -/
import Derived.Test.YtbmgkgoghgdbhaaSi
namespace Go.Proofs.Ytbmgkgoghgdbhaa.Te
open Go.RowKit

theorem befQ_from {P : Nat → Prop} {d : Nat} {o : Option (List (List Ty × Ty))} {w w1 w' : World} {e : Ending} (hb : Below w.heap.size w w1) (h : BefQ P d o w1 e w') : BefQ P d o w e w' := by
  obtain ⟨v, r, h1, h2, h3, h4⟩ := h
  exact ⟨v, r, h1, hb.trans (h2.mono hb.size), h3, h4⟩
theorem befQ_nil {P : Nat → Prop} {d : Nat} {w w' : World} (h : Below w.heap.size w w') (o : Option (List (List Ty × Ty))) (r : Bool) (h0 : r = true → o = some []) (h1 : r = false → o = none) : BefQ P d o w (.returned (.tuple #[.slice none 0 0, .bool r])) w' := by
  refine ⟨_, _, rfl, h, fun e => ?_, fun ss e => ?_⟩
  · cases r
    · rfl
    · rw [h0 rfl] at e; cases e
  · cases r
    · rw [h1 rfl] at e; cases e
    · rw [h0 rfl] at e
      cases e
      exact ⟨rfl, none, rfl, .inl rfl⟩
theorem befQ_one {P : Nat → Prop} {d : Nat} {w w5 : World} {o : Option (List (List Ty × Ty))} (h : Below w.heap.size w w5) {l1 : List Ty} {g1 : Ty} {a1 x1 : Option Addr} {c1 y1 : Nat} (ho : o = some [(l1, g1)]) (hl1 : LsAt P w5 d l1 a1 c1) (hg1 : TyP P w5 d g1 x1 y1) {n1 : Nat} (hn1 : n1 = l1.length) :
    BefQ P d o w (.returned (.tuple #[.slice (some ⟨w5.heap.size, 0, none⟩) 1 1, .bool true])) (w5.alloc (.cells #[.slice a1 n1 c1, .int .i64 g1.kind, .int .i64 g1.n, .slice x1 g1.kids.length y1] 79)) := by
  subst hn1 ho
  have hb : Below w5.heap.size w5 (w5.alloc (.cells #[.slice a1 l1.length c1, .int .i64 g1.kind, .int .i64 g1.n, .slice x1 g1.kids.length y1] 79)) := (Below.refl _ _).alloc (Nat.le_refl _) _
  have hh := heap_alloc_new w5 (.cells #[.slice a1 l1.length c1, .int .i64 g1.kind, .int .i64 g1.n, .slice x1 g1.kids.length y1] 79)
  refine ⟨_, _, rfl, h.trans (hb.mono h.size), (fun e => by cases e), fun ss e => ⟨rfl, ?_⟩⟩
  cases e
  refine ⟨_, rfl, .inr ⟨w5.heap.size, rfl, lt_of_get hh, fun j hj => ?_⟩⟩
  have hj2 : j = 0 := by simp at hj; omega
  subst hj2
  exact ⟨a1, c1, x1, y1, ⟨cell_of_row _ _ 0 _ _ _ hh, cell_of_row _ _ 1 _ _ _ hh, cell_of_row _ _ 2 _ _ _ hh, cell_of_row _ _ 3 _ _ _ hh⟩, hl1.below hb, hg1.below hb⟩
theorem bef_two {p : Pf} (h : p.step = 4 ∨ p.step = 5 ∨ p.step = 6) : bef p = bef2 p := by unfold bef; rw [if_pos h]
theorem bef_off {p : Pf} (h : ¬ (p.step = 4 ∨ p.step = 5 ∨ p.step = 6)) (h' : p.ix ≠ 0 ∨ p.n ≠ 0 ∨ p.left = []) : bef p = none := by unfold bef; rw [if_neg h, if_pos h']
theorem bef_same {left : List Ty} {goal : Ty} {kids : List Pf} (h0 : left ≠ []) : (left = [goal] → bef ⟨1, left, goal, 0, 0, kids⟩ = some []) ∧ (left ≠ [goal] → bef ⟨1, left, goal, 0, 0, kids⟩ = none) := by
  unfold bef
  rw [if_neg (by simp), if_neg (by simpa using h0), if_pos rfl]
  exact ⟨fun h => if_pos h, fun h => if_neg h⟩
theorem bef_ov {left : List Ty} {x y : Ty} {kids : List Pf} (h0 : left ≠ []) : bef ⟨2, left, ov x y, 0, 0, kids⟩ = some [(left ++ [y] ++ [], x)] := by
  unfold bef
  rw [if_neg (by simp), if_neg (by simpa using h0), if_neg (by simp), if_pos ⟨rfl, rfl⟩]
  rfl
theorem bef_un {left : List Ty} {x y : Ty} {kids : List Pf} (h0 : left ≠ []) : bef ⟨3, left, un y x, 0, 0, kids⟩ = some [([] ++ [y] ++ left, x)] := by
  unfold bef
  rw [if_neg (by simp), if_neg (by simpa using h0), if_neg (by simp), if_neg (by simp), if_pos ⟨rfl, rfl⟩]
  rfl
theorem bef_not {p : Pf} (h : ¬ (p.step = 4 ∨ p.step = 5 ∨ p.step = 6)) (h1 : p.step ≠ 1) (h2 : ¬ (p.step = 2 ∧ p.goal.kind = 2)) (h3 : ¬ (p.step = 3 ∧ p.goal.kind = 3)) : bef p = none := by
  unfold bef
  rw [if_neg h]
  by_cases h' : p.ix ≠ 0 ∨ p.n ≠ 0 ∨ p.left = []
  · rw [if_pos h']
  · rw [if_neg h', if_neg h1, if_neg h2, if_neg h3]
set_option maxRecDepth 100000 in
set_option maxHeartbeats 1000000 in
theorem bef_any {P : Nat → Prop} {d e0 : Nat} (p : Pf) (x : Pl) (w : World) (h : PfAt P w d (e0 + 1) p x) (gl : ∀ t ∈ p.left, Gp t) (gg : Gp p.goal) (hle : p.left.length < 900) (hPP : ∀ g, w.heap.size ≤ g → P g) :
    Calls Try.prog 66 #[vpf p x] w fun e w' => BefQ P d (bef p) w e w' := by
  have hP := h
  obtain ⟨⟨s1, s2⟩, ⟨i1, i2⟩, ⟨n1, n2⟩, hL, hG, hk, hkk⟩ := h
  clear hkk
  obtain ⟨step, left, goal, ix, n, kids⟩ := p
  obtain ⟨la, lc, ga, gc, ka, kc⟩ := x
  dsimp only at s1 s2 i1 i2 n1 n2 hL hG hk gl gg hle
  have HL : Hid (LsAt P w d left la lc) := hL
  have HG : Hid (TyP P w d goal ga gc) := hG
  have HP : Hid (PfAt P w d (e0 + 1) ⟨step, left, goal, ix, n, kids⟩ ⟨la, lc, ga, gc, ka, kc⟩) := hP
  have GL : Hid (∀ t ∈ left, Gp t) := gl
  have GG : Hid (Gp goal) := gg
  have HPP : Hid (∀ g, w.heap.size ≤ g → P g) := hPP
  clear hL hG hP gl gg hPP
  have hlen : (0 : Int) ≤ left.length ∧ (left.length : Int) < 900 := by omega
  obtain ⟨hal, hbx⟩ : Below w.heap.size w (w.alloc (.cells #[.int .i64 step, .slice la left.length lc, .int .i64 goal.kind, .int .i64 goal.n, .slice ga goal.kids.length gc, .int .i64 ix, .int .i64 n, .slice ka kids.length kc] 37)) ∧ (w.alloc (.cells #[.int .i64 step, .slice la left.length lc, .int .i64 goal.kind, .int .i64 goal.n, .slice ga goal.kids.length gc, .int .i64 ix, .int .i64 n, .slice ka kids.length kc] 37)).heap[w.heap.size]? = some (.cells #[.int .i64 step, .slice la left.length lc, .int .i64 goal.kind, .int .i64 goal.n, .slice ga goal.kids.length gc, .int .i64 ix, .int .i64 n, .slice ka kids.length kc] 37 (0, 0)) := ⟨(Below.refl w.heap.size w).alloc (Nat.le_refl _) _, heap_alloc_new _ _⟩
  obtain ⟨o, ho⟩ : ∃ o, bef ⟨step, left, goal, ix, n, kids⟩ = o := ⟨_, rfl⟩
  rw [ho]
  have HO : Hid (bef ⟨step, left, goal, ix, n, kids⟩ = o) := ho
  clear ho
  unfold vpf
  dsimp only
  go_enter Try.func66, Try.ntmps66
  go_upto_region 1 with fail
  generalize hV : w.alloc (.cells #[.int .i64 step, .slice la left.length lc, .int .i64 goal.kind, .int .i64 goal.n, .slice ga goal.kids.length gc, .int .i64 ix, .int .i64 n, .slice ka kids.length kc] 37) = V at *
  clear hV
  have b0 := cell_of_row _ _ 0 _ _ _ hbx
  have b1 := cell_of_row _ _ 1 _ _ _ hbx
  have b2 := cell_of_row _ _ 2 _ _ _ hbx
  have b3 := cell_of_row _ _ 3 _ _ _ hbx
  have b4 := cell_of_row _ _ 4 _ _ _ hbx
  have b5 := cell_of_row _ _ 5 _ _ _ hbx
  have b6 := cell_of_row _ _ 6 _ _ _ hbx
  have b7 := cell_of_row _ _ 7 _ _ _ hbx
  have HX : Hid (V.heap[w.heap.size]? = some (.cells #[.int .i64 step, .slice la left.length lc, .int .i64 goal.kind, .int .i64 goal.n, .slice ga goal.kids.length gc, .int .i64 ix, .int .i64 n, .slice ka kids.length kc] 37 (0, 0))) := hbx
  clear hbx
  by_cases h456 : step = 4 ∨ step = 5 ∨ step = 6
  · have HO2 : Hid (bef2 ⟨step, left, goal, ix, n, kids⟩ = o) := (bef_two h456).symm.trans HO.out
    have K81 := two_any (P := P) (d := d) (e0 := e0) ⟨step, left, goal, ix, n, kids⟩ ⟨la, lc, ga, gc, ka, kc⟩ V (HP.out.below hal) h456 GL.out (by dsimp only; omega) (fun q hq => HPP.out q (Nat.le_trans hal.size hq))
    unfold vpf at K81
    dsimp only at K81
    rcases h456 with rfl | rfl | rfl
    · go_wp2_with (go_at_call 81; (with_reducible refine K81.mono ?_); rintro e3 w3 ⟨v, r, rfl, hb3, hn3, hs3⟩; clear K81)
      go_ret2
      rw [HO2.out] at hn3 hs3
      exact befQ_from hal ⟨v, r, rfl, hb3, hn3, hs3⟩
    · go_wp2_with (go_at_call 81; (with_reducible refine K81.mono ?_); rintro e3 w3 ⟨v, r, rfl, hb3, hn3, hs3⟩; clear K81)
      go_ret2
      rw [HO2.out] at hn3 hs3
      exact befQ_from hal ⟨v, r, rfl, hb3, hn3, hs3⟩
    · go_wp2_with (go_at_call 81; (with_reducible refine K81.mono ?_); rintro e3 w3 ⟨v, r, rfl, hb3, hn3, hs3⟩; clear K81)
      go_ret2
      rw [HO2.out] at hn3 hs3
      exact befQ_from hal ⟨v, r, rfl, hb3, hn3, hs3⟩
  have HN : Hid (¬ (step = 4 ∨ step = 5 ∨ step = 6)) := h456
  have h4 : ¬ step = 4 := fun h => h456 (.inl h)
  have h5 : ¬ step = 5 := fun h => h456 (.inr (.inl h))
  have h6 : ¬ step = 6 := fun h => h456 (.inr (.inr h))
  clear h456
  by_cases hi : ¬ ix = 0
  · obtain rfl : o = none := HO.out.symm.trans (bef_off HN.out (.inl hi))
    go_wp2
    go_ret2
    exact befQ_none hal
  obtain rfl : ix = 0 := by omega
  clear hi i1 i2
  by_cases hn : ¬ n = 0
  · obtain rfl : o = none := HO.out.symm.trans (bef_off HN.out (.inr (.inl hn)))
    go_wp2
    go_ret2
    exact befQ_none hal
  obtain rfl : n = 0 := by omega
  clear hn n1 n2
  by_cases hl : left.length = 0
  · obtain rfl : o = none := HO.out.symm.trans (bef_off HN.out (.inr (.inr (List.length_eq_zero_iff.1 hl))))
    have hl' : (left.length : Int) = 0 := by omega
    go_wp2
    go_ret2
    exact befQ_none hal
  have hl1 : ¬ (left.length : Int) = 0 := by omega
  have HNE : Hid (left ≠ []) := fun h => hl (by rw [h]; rfl)
  obtain ⟨g, off, rfl, hg⟩ := HL.out.addr (by omega)
  by_cases hs1 : step = 1
  · subst hs1
    clear s1 s2 h4 h5 h6
    have HB := bef_same (goal := goal) (kids := kids) HNE.out
    by_cases hone : left.length = 1
    · obtain ⟨t, ht⟩ : ∃ t, left = [t] := List.length_eq_one_iff.1 hone
      obtain ⟨a', c', _, y0, y1, y2, hT⟩ := HL.out.at (j := 0) (by omega)
      simp only [ht, List.getElem_cons_zero, Nat.zero_mul, Nat.add_zero] at y0 y1 y2 hT
      obtain ⟨r, hr⟩ := fix_same t goal
      have HBN : Hid ((r = true → o = some []) ∧ (r = false → o = none)) := ⟨fun h => HO.out.symm.trans (HB.1 (by rw [ht, hr.1 h])), fun h => HO.out.symm.trans (HB.2 (fun e => by
        rw [ht] at e
        have : t = goal := by simpa using e
        rw [hr.2 this] at h
        cases h))⟩
      have HR : Hid (r = true ↔ t = goal) := hr
      have HT : Hid (TyP P w d t a' c') := hT
      rw [hone] at b1
      clear hr hT HB ht
      go_upto_region 9 with fail
      have q0 := fun p : After V => ((hal.trans (p.h.mono hal.size)).cell (p := ⟨g, _, none⟩) hg).trans y0
      have q1 := fun p : After V => ((hal.trans (p.h.mono hal.size)).cell (p := ⟨g, _, none⟩) hg).trans y1
      have q2 := fun p : After V => ((hal.trans (p.h.mono hal.size)).cell (p := ⟨g, _, none⟩) hg).trans y2
      have hlt := lt_of_get HX.out
      have r1 : ∀ p : After V, p.W.cell? ⟨w.heap.size, 1, none⟩ = some (.slice (some ⟨g, off, none⟩) 1 lc) := fun p => (p.h.cell (p := ⟨w.heap.size, 1, none⟩) hlt).trans b1
      have r2 : ∀ p : After V, p.W.cell? ⟨w.heap.size, 2, none⟩ = some (.int .i64 goal.kind) := fun p => (p.h.cell (p := ⟨w.heap.size, 2, none⟩) hlt).trans b2
      have r3 : ∀ p : After V, p.W.cell? ⟨w.heap.size, 3, none⟩ = some (.int .i64 goal.n) := fun p => (p.h.cell (p := ⟨w.heap.size, 3, none⟩) hlt).trans b3
      have r4 : ∀ p : After V, p.W.cell? ⟨w.heap.size, 4, none⟩ = some (.slice ga goal.kids.length gc) := fun p => (p.h.cell (p := ⟨w.heap.size, 4, none⟩) hlt).trans b4
      have K68 := fun p : After V => same_any d t a' c' d goal ga gc p.W r HR.out (HT.out.below (hal.trans (p.h.mono hal.size))).at (HG.out.below (hal.trans (p.h.mono hal.size))).at
      unfold vty at K68
      clear b0 b1 b2 b3 b4 b5 b6 b7 y0 y1 y2
      haveI : Inhabited (After V) := ⟨⟨_, Below.refl _ _⟩⟩
      refine wp_region_after (by kernel_rfl) (by kernel_rfl) ?_
      repeat (go_big_quiet_step (first | (go_at_call 68; (with_reducible refine after_of (K68 _)))))
      refine wpQuiet_nil ?_
      intro W' hw'
      obtain ⟨⟨w1, hb1⟩, rfl⟩ := hw'
      clear q0 q1 q2 r1 r2 r3 r4 K68
      go_wp2_with fail
      go_ret2
      exact befQ_nil (hal.trans (hb1.mono hal.size)) _ r HBN.out.1 HBN.out.2
    · obtain rfl : o = none := HO.out.symm.trans (HB.2 (fun e => hone (by rw [e]; rfl)))
      have hone' : ¬ (left.length : Int) = 1 := by omega
      clear HB
      go_upto_region 9 with fail
      go_quiet (fail)
      go_wp2_with fail
      go_ret2
      exact befQ_none (below_drewN hal _)
  by_cases hs2 : step = 2 ∧ goal.kind = 2
  · obtain ⟨rfl, hk2⟩ := hs2
    clear s1 s2 h4 h5 h6 hs1
    obtain ⟨x, y, rfl⟩ : ∃ x y, goal = ov x y := by
      rcases gp_cases GG.out with ⟨_, h, _⟩ | ⟨x, y, h, _⟩ | ⟨_, _, h, _⟩
      · rw [h] at hk2; simp [bs] at hk2
      · exact ⟨x, y, h⟩
      · rw [h] at hk2; simp [un] at hk2
    have HBE : Hid (o = some [(left ++ [y] ++ [], x)]) := HO.out.symm.trans (bef_ov HNE.out)
    obtain ⟨d', rfl⟩ := HG.out.pos
    have K82 := sides_ovP x y ga gc w V hal HG.out
    unfold vty ov at K82
    dsimp only [ov] at K82 b2 b3 b4
    rw [show ([x, y] : List Ty).length = 2 from rfl] at K82 b4
    clear hk2
    go_wp2_with (go_at_call 82; (with_reducible refine K82.mono ?_); rintro e3 w3 ⟨ax, cx, ay, cy, rfl, tx, ty, hb3⟩; clear K82)
    obtain ⟨z2, z3, hs2, hb2⟩ := two_boxes w3 (.cells #[.int .i64 x.kind, .int .i64 x.n, .slice ax x.kids.length cx] 24) (.cells #[.int .i64 y.kind, .int .i64 y.n, .slice ay y.kids.length cy] 24)
    generalize hV : (w3.alloc (.cells #[.int .i64 x.kind, .int .i64 x.n, .slice ax x.kids.length cx] 24)).alloc (.cells #[.int .i64 y.kind, .int .i64 y.n, .slice ay y.kids.length cy] 24) = V2 at *
    clear hV
    have hb4 := hb3.trans (hb2.mono hb3.size)
    have hV2 := hal.trans (hb4.mono hal.size)
    have hltV : w.heap.size < V.heap.size := lt_of_get HX.out
    have hlt2 : w.heap.size < V2.heap.size := Nat.lt_of_lt_of_le hltV hb4.size
    have z1 : V2.cell? ⟨w.heap.size, 1, none⟩ = some (.slice (some ⟨g, off, none⟩) left.length lc) := (hb4.cell (p := ⟨w.heap.size, 1, none⟩) hltV).trans b1
    have HI : Hid (TyP P w (d' + 1) x ax cx) := tx.upto (by omega)
    have HW : Hid (TyP P w (d' + 1) y ay cy) := ty.upto (by omega)
    have K83 := around_any (P := P) (d := d' + 1) left [] y (some ⟨g, off, none⟩) lc none 0 ay cy V2.drew (HL.out.below hV2.drew).1 (HW.out.below hV2.drew) (tys_nil _ _ _ _) (by simp; omega) (fun q hq => HPP.out q (Nat.le_trans hV2.size hq))
    unfold vty at K83
    rw [show ([] : List Ty).length = 0 from rfl] at K83
    refine wp_region_held_drew (S := fun W => W.cell? ⟨w.heap.size, 1, none⟩ = some (.slice (some ⟨g, off, none⟩) left.length lc) ∧ W.heap[w3.heap.size]? = some (.cells #[.int .i64 x.kind, .int .i64 x.n, .slice ax x.kids.length cx] 24 (0, 0)) ∧ W.heap[w3.heap.size + 1]? = some (.cells #[.int .i64 y.kind, .int .i64 y.n, .slice ay y.kids.length cy] 24 (0, 0))) (by kernel_rfl) (by exact ⟨z1, z2, z3⟩) (fun hHeld => ?_)
    refine wpAnyH_take (i := 0) (oi := { dst := some 65, op := Op.fieldAddr 37 (Operand.tmp 1) 1, type := 0, pos := "steps.go:37", after := #[], guard := none }) (v := ?_) rfl (by kernel_rfl) (by kernel_rfl) (by kernel_rfl) (fun _ _ _ h => h) (Or.inl ⟨by rfl, ?_⟩) (by assumption) ?_
    case refine_2 => intro w hSw; (try dsimp only at hSw); obtain ⟨hA, hB, hC⟩ := hSw; have q0 := cell_of_row _ _ 0 _ _ _ hB; have q1 := cell_of_row _ _ 1 _ _ _ hB; have q2 := cell_of_row _ _ 2 _ _ _ hB; have r0 := cell_of_row _ _ 0 _ _ _ hC; have r1 := cell_of_row _ _ 1 _ _ _ hC; have r2 := cell_of_row _ _ 2 _ _ _ hC; go_simp; (try with_reducible rfl)
    simp only [Act.put, List.setIfInBounds_toArray, List.set_cons_zero, List.set_cons_succ]
    refine wpAnyH_take (i := 1) (oi := { dst := some 66, op := Op.load 22 (Operand.tmp 65), type := 22, pos := "steps.go:37", after := #[{ on := 0, ground := Ground.data }], guard := none }) (v := ?_) rfl (by kernel_rfl) (by kernel_rfl) (by kernel_rfl) (fun _ _ _ h => h) (Or.inl ⟨by rfl, ?_⟩) (by assumption) ?_
    case refine_2 => intro w hSw; (try dsimp only at hSw); obtain ⟨hA, hB, hC⟩ := hSw; have q0 := cell_of_row _ _ 0 _ _ _ hB; have q1 := cell_of_row _ _ 1 _ _ _ hB; have q2 := cell_of_row _ _ 2 _ _ _ hB; have r0 := cell_of_row _ _ 0 _ _ _ hC; have r1 := cell_of_row _ _ 1 _ _ _ hC; have r2 := cell_of_row _ _ 2 _ _ _ hC; go_simp; (try with_reducible rfl)
    simp only [Act.put, List.setIfInBounds_toArray, List.set_cons_zero, List.set_cons_succ]
    refine wpAnyH_take (i := 2) (oi := { dst := some 67, op := Op.load 24 (Operand.tmp 5), type := 24, pos := "steps.go:37", after := #[], guard := none }) (v := ?_) rfl (by kernel_rfl) (by kernel_rfl) (by kernel_rfl) (fun _ _ _ h => h) (Or.inl ⟨by rfl, ?_⟩) (by assumption) ?_
    case refine_2 => intro w hSw; (try dsimp only at hSw); obtain ⟨hA, hB, hC⟩ := hSw; have q0 := cell_of_row _ _ 0 _ _ _ hB; have q1 := cell_of_row _ _ 1 _ _ _ hB; have q2 := cell_of_row _ _ 2 _ _ _ hB; have r0 := cell_of_row _ _ 0 _ _ _ hC; have r1 := cell_of_row _ _ 1 _ _ _ hC; have r2 := cell_of_row _ _ 2 _ _ _ hC; go_simp; (try with_reducible rfl)
    simp only [Act.put, List.setIfInBounds_toArray, List.set_cons_zero, List.set_cons_succ]
    refine wpAnyH_take (i := 4) (oi := { dst := some 69, op := Op.load 24 (Operand.tmp 4), type := 24, pos := "steps.go:37", after := #[], guard := none }) (v := ?_) rfl (by kernel_rfl) (by kernel_rfl) (by kernel_rfl) (fun _ _ _ h => h) (Or.inl ⟨by rfl, ?_⟩) (by assumption) ?_
    case refine_2 => intro w hSw; (try dsimp only at hSw); obtain ⟨hA, hB, hC⟩ := hSw; have q0 := cell_of_row _ _ 0 _ _ _ hB; have q1 := cell_of_row _ _ 1 _ _ _ hB; have q2 := cell_of_row _ _ 2 _ _ _ hB; have r0 := cell_of_row _ _ 0 _ _ _ hC; have r1 := cell_of_row _ _ 1 _ _ _ hC; have r2 := cell_of_row _ _ 2 _ _ _ hC; go_simp; (try with_reducible rfl)
    simp only [Act.put, List.setIfInBounds_toArray, List.set_cons_zero, List.set_cons_succ]
    refine wpAnyH_ready (rs := [3]) (by kernel_rfl) (by simp) ?_
    refine (AllReadyH.cons (o := { dst := some 68, op := Op.call { callee := Callee.value (Operand.func 83), args := #[Operand.tmp 66, Operand.tmp 67, Operand.const (Value.slice none 0 0)], argTypes := #[22, 24, 22] }, type := 22, pos := "steps.go:37", after := #[{ on := 1, ground := Ground.data }, { on := 2, ground := Ground.data }], guard := none }) rfl (fun K hK => ?_) AllReadyH.nil)
    go_simp
    (with_reducible refine K83.mono ?_)
    rintro e5 w5 ⟨a5, c5, rfl, hT5, hb5⟩
    clear K83
    dsimp only
    have hb6 : Below V2.heap.size V2 w5 := (Below.refl _ V2).drew.trans hb5
    have hcc : w5.cell? ⟨w.heap.size, 1, none⟩ = some (.slice (some ⟨g, off, none⟩) left.length lc) ∧ w5.heap[w3.heap.size]? = some (.cells #[.int .i64 x.kind, .int .i64 x.n, .slice ax x.kids.length cx] 24 (0, 0)) ∧ w5.heap[w3.heap.size + 1]? = some (.cells #[.int .i64 y.kind, .int .i64 y.n, .slice ay y.kids.length cy] 24 (0, 0)) := ⟨(hb6.cell (p := ⟨w.heap.size, 1, none⟩) hlt2).trans z1, (hb6.block _ (lt_of_get z2)).trans z2, (hb6.block _ (lt_of_get z3)).trans z3⟩
    have hw5 := hV2.trans (hb6.mono hV2.size)
    have hlt5 : w.heap.size < w5.heap.size := Nat.lt_of_lt_of_le hlt2 hb6.size
    refine hK.out _ _ ?_ (fun hHeld => ?_)
    · exact hcc
    clear hK K
    try simp only [Act.put, List.setIfInBounds_toArray, List.set_cons_zero, List.set_cons_succ]
    refine wpAnyH_take (i := 5) (oi := { dst := some 70, op := Op.build 79 #[(0, Operand.tmp 68), (1, Operand.tmp 69)], type := 79, pos := "steps.go:37", after := #[{ on := 3, ground := Ground.data }, { on := 4, ground := Ground.data }], guard := none }) (v := ?_) rfl (by kernel_rfl) (by kernel_rfl) (by kernel_rfl) (fun _ _ _ h => h) (Or.inl ⟨by rfl, ?_⟩) (by assumption) ?_
    case refine_2 => intro w hSw; (try dsimp only at hSw); obtain ⟨hA, hB, hC⟩ := hSw; have q0 := cell_of_row _ _ 0 _ _ _ hB; have q1 := cell_of_row _ _ 1 _ _ _ hB; have q2 := cell_of_row _ _ 2 _ _ _ hB; have r0 := cell_of_row _ _ 0 _ _ _ hC; have r1 := cell_of_row _ _ 1 _ _ _ hC; have r2 := cell_of_row _ _ 2 _ _ _ hC; go_simp; (try with_reducible rfl)
    simp only [Act.put, List.setIfInBounds_toArray, List.set_cons_zero, List.set_cons_succ]
    refine wpAnyH_ready (rs := [6]) (by kernel_rfl) (by simp) ?_
    refine (AllReadyH.cons (o := { dst := some 71, op := Op.buildSlice 88 1 #[(0, Operand.tmp 70)], type := 88, pos := "steps.go:37", after := #[{ on := 5, ground := Ground.data }], guard := none }) rfl (fun K hK => ?_) AllReadyH.nil)
    go_simp
    refine hK.out _ _ ?_ (fun hHeld => ?_)
    · exact ⟨(((Below.refl _ w5).alloc (Nat.le_refl _) _).cell (p := ⟨w.heap.size, 1, none⟩) hlt5).trans hcc.1, (((Below.refl _ w5).alloc (Nat.le_refl _) _).block _ (lt_of_get hcc.2.1)).trans hcc.2.1, (((Below.refl _ w5).alloc (Nat.le_refl _) _).block _ (lt_of_get hcc.2.2)).trans hcc.2.2⟩
    clear hK K
    try simp only [Act.put, List.setIfInBounds_toArray, List.set_cons_zero, List.set_cons_succ]
    refine wpAnyH_take (i := 7) (oi := { dst := some 2, op := Op.assign (Operand.tmp 71), type := 88, pos := "steps.go:37", after := #[{ on := 6, ground := Ground.data }, { on := 3, ground := Ground.chain }, { on := 0, ground := Ground.phase }, { on := 1, ground := Ground.phase }, { on := 2, ground := Ground.phase }, { on := 3, ground := Ground.phase }, { on := 4, ground := Ground.phase }, { on := 5, ground := Ground.phase }, { on := 6, ground := Ground.phase }], guard := none }) (v := ?_) rfl (by kernel_rfl) (by kernel_rfl) (by kernel_rfl) (fun _ _ _ h => h) (Or.inl ⟨by rfl, ?_⟩) (by assumption) ?_
    case refine_2 => intro w hSw; (try dsimp only at hSw); obtain ⟨hA, hB, hC⟩ := hSw; have q0 := cell_of_row _ _ 0 _ _ _ hB; have q1 := cell_of_row _ _ 1 _ _ _ hB; have q2 := cell_of_row _ _ 2 _ _ _ hB; have r0 := cell_of_row _ _ 0 _ _ _ hC; have r1 := cell_of_row _ _ 1 _ _ _ hC; have r2 := cell_of_row _ _ 2 _ _ _ hC; go_simp; (try with_reducible rfl)
    simp only [Act.put, List.setIfInBounds_toArray, List.set_cons_zero, List.set_cons_succ]
    refine wpAnyH_take (i := 8) (oi := { dst := some 3, op := Op.assign (Operand.const (Value.bool true)), type := 4, pos := "steps.go:37", after := #[{ on := 7, ground := Ground.chain }, { on := 0, ground := Ground.phase }, { on := 1, ground := Ground.phase }, { on := 2, ground := Ground.phase }, { on := 3, ground := Ground.phase }, { on := 4, ground := Ground.phase }, { on := 5, ground := Ground.phase }, { on := 6, ground := Ground.phase }, { on := 7, ground := Ground.phase }], guard := none }) (v := ?_) rfl (by kernel_rfl) (by kernel_rfl) (by kernel_rfl) (fun _ _ _ h => h) (Or.inl ⟨by rfl, ?_⟩) (by assumption) ?_
    case refine_2 => intro w hSw; (try dsimp only at hSw); obtain ⟨hA, hB, hC⟩ := hSw; have q0 := cell_of_row _ _ 0 _ _ _ hB; have q1 := cell_of_row _ _ 1 _ _ _ hB; have q2 := cell_of_row _ _ 2 _ _ _ hB; have r0 := cell_of_row _ _ 0 _ _ _ hC; have r1 := cell_of_row _ _ 1 _ _ _ hC; have r2 := cell_of_row _ _ 2 _ _ _ hC; go_simp; (try with_reducible rfl)
    simp only [Act.put, List.setIfInBounds_toArray, List.set_cons_zero, List.set_cons_succ]
    refine wpAnyH_done (by kernel_rfl) ?_ _
    go_wp2_with fail
    go_ret2
    exact befQ_one hw5 HBE.out hT5 (HI.out.below hw5) (by simp only [List.length_append, List.length_cons, List.length_nil]; (try omega))
  by_cases hs3 : step = 3 ∧ goal.kind = 3
  · obtain ⟨rfl, hk2⟩ := hs3
    clear s1 s2 h4 h5 h6 hs1 hs2
    obtain ⟨y, x, rfl⟩ : ∃ y x, goal = un y x := by
      rcases gp_cases GG.out with ⟨_, h, _⟩ | ⟨_, _, h, _⟩ | ⟨y, x, h, _⟩
      · rw [h] at hk2; simp [bs] at hk2
      · rw [h] at hk2; simp [ov] at hk2
      · exact ⟨y, x, h⟩
    have HBE : Hid (o = some [([] ++ [y] ++ left, x)]) := HO.out.symm.trans (bef_un HNE.out)
    obtain ⟨d', rfl⟩ := HG.out.pos
    have K82 := sides_unP x y ga gc w V hal HG.out
    unfold vty un at K82
    dsimp only [un] at K82 b2 b3 b4
    rw [show ([y, x] : List Ty).length = 2 from rfl] at K82 b4
    clear hk2
    go_wp2_with (go_at_call 82; (with_reducible refine K82.mono ?_); rintro e3 w3 ⟨ax, cx, ay, cy, rfl, tx, ty, hb3⟩; clear K82)
    obtain ⟨z2, z3, hs2, hb2⟩ := two_boxes w3 (.cells #[.int .i64 x.kind, .int .i64 x.n, .slice ax x.kids.length cx] 24) (.cells #[.int .i64 y.kind, .int .i64 y.n, .slice ay y.kids.length cy] 24)
    generalize hV : (w3.alloc (.cells #[.int .i64 x.kind, .int .i64 x.n, .slice ax x.kids.length cx] 24)).alloc (.cells #[.int .i64 y.kind, .int .i64 y.n, .slice ay y.kids.length cy] 24) = V2 at *
    clear hV
    have hb4 := hb3.trans (hb2.mono hb3.size)
    have hV2 := hal.trans (hb4.mono hal.size)
    have hltV : w.heap.size < V.heap.size := lt_of_get HX.out
    have hlt2 : w.heap.size < V2.heap.size := Nat.lt_of_lt_of_le hltV hb4.size
    have z1 : V2.cell? ⟨w.heap.size, 1, none⟩ = some (.slice (some ⟨g, off, none⟩) left.length lc) := (hb4.cell (p := ⟨w.heap.size, 1, none⟩) hltV).trans b1
    have HI : Hid (TyP P w (d' + 1) x ax cx) := tx.upto (by omega)
    have HW : Hid (TyP P w (d' + 1) y ay cy) := ty.upto (by omega)
    have K83 := around_any (P := P) (d := d' + 1) [] left y none 0 (some ⟨g, off, none⟩) lc ay cy V2.drew (tys_nil _ _ _ _) (HW.out.below hV2.drew) (HL.out.below hV2.drew).1 (by simp; omega) (fun q hq => HPP.out q (Nat.le_trans hV2.size hq))
    unfold vty at K83
    rw [show ([] : List Ty).length = 0 from rfl] at K83
    refine wp_region_held_drew (S := fun W => W.cell? ⟨w.heap.size, 1, none⟩ = some (.slice (some ⟨g, off, none⟩) left.length lc) ∧ W.heap[w3.heap.size]? = some (.cells #[.int .i64 x.kind, .int .i64 x.n, .slice ax x.kids.length cx] 24 (0, 0)) ∧ W.heap[w3.heap.size + 1]? = some (.cells #[.int .i64 y.kind, .int .i64 y.n, .slice ay y.kids.length cy] 24 (0, 0))) (by kernel_rfl) (by exact ⟨z1, z2, z3⟩) (fun hHeld => ?_)
    refine wpAnyH_take (i := 0) (oi := { dst := some 88, op := Op.load 24 (Operand.tmp 7), type := 24, pos := "steps.go:40", after := #[], guard := none }) (v := ?_) rfl (by kernel_rfl) (by kernel_rfl) (by kernel_rfl) (fun _ _ _ h => h) (Or.inl ⟨by rfl, ?_⟩) (by assumption) ?_
    case refine_2 => intro w hSw; (try dsimp only at hSw); obtain ⟨hA, hB, hC⟩ := hSw; have q0 := cell_of_row _ _ 0 _ _ _ hB; have q1 := cell_of_row _ _ 1 _ _ _ hB; have q2 := cell_of_row _ _ 2 _ _ _ hB; have r0 := cell_of_row _ _ 0 _ _ _ hC; have r1 := cell_of_row _ _ 1 _ _ _ hC; have r2 := cell_of_row _ _ 2 _ _ _ hC; go_simp; (try with_reducible rfl)
    simp only [Act.put, List.setIfInBounds_toArray, List.set_cons_zero, List.set_cons_succ]
    refine wpAnyH_take (i := 1) (oi := { dst := some 89, op := Op.fieldAddr 37 (Operand.tmp 1) 1, type := 0, pos := "steps.go:40", after := #[], guard := none }) (v := ?_) rfl (by kernel_rfl) (by kernel_rfl) (by kernel_rfl) (fun _ _ _ h => h) (Or.inl ⟨by rfl, ?_⟩) (by assumption) ?_
    case refine_2 => intro w hSw; (try dsimp only at hSw); obtain ⟨hA, hB, hC⟩ := hSw; have q0 := cell_of_row _ _ 0 _ _ _ hB; have q1 := cell_of_row _ _ 1 _ _ _ hB; have q2 := cell_of_row _ _ 2 _ _ _ hB; have r0 := cell_of_row _ _ 0 _ _ _ hC; have r1 := cell_of_row _ _ 1 _ _ _ hC; have r2 := cell_of_row _ _ 2 _ _ _ hC; go_simp; (try with_reducible rfl)
    simp only [Act.put, List.setIfInBounds_toArray, List.set_cons_zero, List.set_cons_succ]
    refine wpAnyH_take (i := 2) (oi := { dst := some 90, op := Op.load 22 (Operand.tmp 89), type := 22, pos := "steps.go:40", after := #[{ on := 1, ground := Ground.data }], guard := none }) (v := ?_) rfl (by kernel_rfl) (by kernel_rfl) (by kernel_rfl) (fun _ _ _ h => h) (Or.inl ⟨by rfl, ?_⟩) (by assumption) ?_
    case refine_2 => intro w hSw; (try dsimp only at hSw); obtain ⟨hA, hB, hC⟩ := hSw; have q0 := cell_of_row _ _ 0 _ _ _ hB; have q1 := cell_of_row _ _ 1 _ _ _ hB; have q2 := cell_of_row _ _ 2 _ _ _ hB; have r0 := cell_of_row _ _ 0 _ _ _ hC; have r1 := cell_of_row _ _ 1 _ _ _ hC; have r2 := cell_of_row _ _ 2 _ _ _ hC; go_simp; (try with_reducible rfl)
    simp only [Act.put, List.setIfInBounds_toArray, List.set_cons_zero, List.set_cons_succ]
    refine wpAnyH_take (i := 4) (oi := { dst := some 92, op := Op.load 24 (Operand.tmp 6), type := 24, pos := "steps.go:40", after := #[], guard := none }) (v := ?_) rfl (by kernel_rfl) (by kernel_rfl) (by kernel_rfl) (fun _ _ _ h => h) (Or.inl ⟨by rfl, ?_⟩) (by assumption) ?_
    case refine_2 => intro w hSw; (try dsimp only at hSw); obtain ⟨hA, hB, hC⟩ := hSw; have q0 := cell_of_row _ _ 0 _ _ _ hB; have q1 := cell_of_row _ _ 1 _ _ _ hB; have q2 := cell_of_row _ _ 2 _ _ _ hB; have r0 := cell_of_row _ _ 0 _ _ _ hC; have r1 := cell_of_row _ _ 1 _ _ _ hC; have r2 := cell_of_row _ _ 2 _ _ _ hC; go_simp; (try with_reducible rfl)
    simp only [Act.put, List.setIfInBounds_toArray, List.set_cons_zero, List.set_cons_succ]
    refine wpAnyH_ready (rs := [3]) (by kernel_rfl) (by simp) ?_
    refine (AllReadyH.cons (o := { dst := some 91, op := Op.call { callee := Callee.value (Operand.func 83), args := #[Operand.const (Value.slice none 0 0), Operand.tmp 88, Operand.tmp 90], argTypes := #[22, 24, 22] }, type := 22, pos := "steps.go:40", after := #[{ on := 0, ground := Ground.data }, { on := 2, ground := Ground.data }], guard := none }) rfl (fun K hK => ?_) AllReadyH.nil)
    go_simp
    (with_reducible refine K83.mono ?_)
    rintro e5 w5 ⟨a5, c5, rfl, hT5, hb5⟩
    clear K83
    dsimp only
    have hb6 : Below V2.heap.size V2 w5 := (Below.refl _ V2).drew.trans hb5
    have hcc : w5.cell? ⟨w.heap.size, 1, none⟩ = some (.slice (some ⟨g, off, none⟩) left.length lc) ∧ w5.heap[w3.heap.size]? = some (.cells #[.int .i64 x.kind, .int .i64 x.n, .slice ax x.kids.length cx] 24 (0, 0)) ∧ w5.heap[w3.heap.size + 1]? = some (.cells #[.int .i64 y.kind, .int .i64 y.n, .slice ay y.kids.length cy] 24 (0, 0)) := ⟨(hb6.cell (p := ⟨w.heap.size, 1, none⟩) hlt2).trans z1, (hb6.block _ (lt_of_get z2)).trans z2, (hb6.block _ (lt_of_get z3)).trans z3⟩
    have hw5 := hV2.trans (hb6.mono hV2.size)
    have hlt5 : w.heap.size < w5.heap.size := Nat.lt_of_lt_of_le hlt2 hb6.size
    refine hK.out _ _ ?_ (fun hHeld => ?_)
    · exact hcc
    clear hK K
    try simp only [Act.put, List.setIfInBounds_toArray, List.set_cons_zero, List.set_cons_succ]
    refine wpAnyH_take (i := 5) (oi := { dst := some 93, op := Op.build 79 #[(0, Operand.tmp 91), (1, Operand.tmp 92)], type := 79, pos := "steps.go:40", after := #[{ on := 3, ground := Ground.data }, { on := 4, ground := Ground.data }], guard := none }) (v := ?_) rfl (by kernel_rfl) (by kernel_rfl) (by kernel_rfl) (fun _ _ _ h => h) (Or.inl ⟨by rfl, ?_⟩) (by assumption) ?_
    case refine_2 => intro w hSw; (try dsimp only at hSw); obtain ⟨hA, hB, hC⟩ := hSw; have q0 := cell_of_row _ _ 0 _ _ _ hB; have q1 := cell_of_row _ _ 1 _ _ _ hB; have q2 := cell_of_row _ _ 2 _ _ _ hB; have r0 := cell_of_row _ _ 0 _ _ _ hC; have r1 := cell_of_row _ _ 1 _ _ _ hC; have r2 := cell_of_row _ _ 2 _ _ _ hC; go_simp; (try with_reducible rfl)
    simp only [Act.put, List.setIfInBounds_toArray, List.set_cons_zero, List.set_cons_succ]
    refine wpAnyH_ready (rs := [6]) (by kernel_rfl) (by simp) ?_
    refine (AllReadyH.cons (o := { dst := some 94, op := Op.buildSlice 88 1 #[(0, Operand.tmp 93)], type := 88, pos := "steps.go:40", after := #[{ on := 5, ground := Ground.data }], guard := none }) rfl (fun K hK => ?_) AllReadyH.nil)
    go_simp
    refine hK.out _ _ ?_ (fun hHeld => ?_)
    · exact ⟨(((Below.refl _ w5).alloc (Nat.le_refl _) _).cell (p := ⟨w.heap.size, 1, none⟩) hlt5).trans hcc.1, (((Below.refl _ w5).alloc (Nat.le_refl _) _).block _ (lt_of_get hcc.2.1)).trans hcc.2.1, (((Below.refl _ w5).alloc (Nat.le_refl _) _).block _ (lt_of_get hcc.2.2)).trans hcc.2.2⟩
    clear hK K
    try simp only [Act.put, List.setIfInBounds_toArray, List.set_cons_zero, List.set_cons_succ]
    refine wpAnyH_take (i := 7) (oi := { dst := some 2, op := Op.assign (Operand.tmp 94), type := 88, pos := "steps.go:40", after := #[{ on := 6, ground := Ground.data }, { on := 3, ground := Ground.chain }, { on := 0, ground := Ground.phase }, { on := 1, ground := Ground.phase }, { on := 2, ground := Ground.phase }, { on := 3, ground := Ground.phase }, { on := 4, ground := Ground.phase }, { on := 5, ground := Ground.phase }, { on := 6, ground := Ground.phase }], guard := none }) (v := ?_) rfl (by kernel_rfl) (by kernel_rfl) (by kernel_rfl) (fun _ _ _ h => h) (Or.inl ⟨by rfl, ?_⟩) (by assumption) ?_
    case refine_2 => intro w hSw; (try dsimp only at hSw); obtain ⟨hA, hB, hC⟩ := hSw; have q0 := cell_of_row _ _ 0 _ _ _ hB; have q1 := cell_of_row _ _ 1 _ _ _ hB; have q2 := cell_of_row _ _ 2 _ _ _ hB; have r0 := cell_of_row _ _ 0 _ _ _ hC; have r1 := cell_of_row _ _ 1 _ _ _ hC; have r2 := cell_of_row _ _ 2 _ _ _ hC; go_simp; (try with_reducible rfl)
    simp only [Act.put, List.setIfInBounds_toArray, List.set_cons_zero, List.set_cons_succ]
    refine wpAnyH_take (i := 8) (oi := { dst := some 3, op := Op.assign (Operand.const (Value.bool true)), type := 4, pos := "steps.go:40", after := #[{ on := 7, ground := Ground.chain }, { on := 0, ground := Ground.phase }, { on := 1, ground := Ground.phase }, { on := 2, ground := Ground.phase }, { on := 3, ground := Ground.phase }, { on := 4, ground := Ground.phase }, { on := 5, ground := Ground.phase }, { on := 6, ground := Ground.phase }, { on := 7, ground := Ground.phase }], guard := none }) (v := ?_) rfl (by kernel_rfl) (by kernel_rfl) (by kernel_rfl) (fun _ _ _ h => h) (Or.inl ⟨by rfl, ?_⟩) (by assumption) ?_
    case refine_2 => intro w hSw; (try dsimp only at hSw); obtain ⟨hA, hB, hC⟩ := hSw; have q0 := cell_of_row _ _ 0 _ _ _ hB; have q1 := cell_of_row _ _ 1 _ _ _ hB; have q2 := cell_of_row _ _ 2 _ _ _ hB; have r0 := cell_of_row _ _ 0 _ _ _ hC; have r1 := cell_of_row _ _ 1 _ _ _ hC; have r2 := cell_of_row _ _ 2 _ _ _ hC; go_simp; (try with_reducible rfl)
    simp only [Act.put, List.setIfInBounds_toArray, List.set_cons_zero, List.set_cons_succ]
    refine wpAnyH_done (by kernel_rfl) ?_ _
    go_wp2_with fail
    go_ret2
    exact befQ_one hw5 HBE.out hT5 (HI.out.below hw5) (by simp only [List.length_append, List.length_cons, List.length_nil]; (try omega))
  obtain rfl : o = none := HO.out.symm.trans (bef_not HN.out hs1 hs2 hs3)
  by_cases hs2' : step = 2
  · subst hs2'
    have hk2 : ¬ goal.kind = 2 := fun h => hs2 ⟨rfl, h⟩
    clear hs2 hs3 s1 s2 h4 h5 h6 hs1
    go_wp2
    go_ret2
    exact befQ_none hal
  by_cases hs3' : step = 3
  · subst hs3'
    have hk3 : ¬ goal.kind = 3 := fun h => hs3 ⟨rfl, h⟩
    clear hs2 hs3 s1 s2 h4 h5 h6 hs1 hs2'
    go_wp2
    go_ret2
    exact befQ_none hal
  clear hs2 hs3
  go_wp2
  go_ret2
  exact befQ_none hal
end Go.Proofs.Ytbmgkgoghgdbhaa.Te
