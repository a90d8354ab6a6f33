/- The document's RightProof, step 3. Conditions: the parts are right, no left is too long. -/
import Derived.Test.YtbmgkgoghgdbhaaRx
import Derived.Deep.CutRange
namespace Go.Proofs.Ytbmgkgoghgdbhaa.Te
open Go.RowKit

set_option maxRecDepth 100000 in
set_option maxHeartbeats 8000000 in
theorem rp_3 {e : Nat} (ih : ∀ {P : Nat → Prop} {d : Nat} (p : Pf) (x : Pl) (w : World) (r : Bool), PfAt P w d e p x → Gpf p → Lpf p → (r = true ↔ Rt p) → Calls Try.prog 19 #[vpf p x] w fun e w' => e = .returned (.bool r) ∧ Below w.heap.size w w') {P : Nat → Prop} {d : Nat} (p : Pf) (x : Pl) (w : World) (r : Bool) (h : PfAt P w d (e + 1) p x) (hg : Gpf p) (hlp : Lpf p) (hr : r = true ↔ Rt p) (hst : p.left.length ≠ 0 ∧ p.step = 3) : Calls Try.prog 19 #[vpf p x] w fun e w' => e = .returned (.bool r) ∧ Below w.heap.size w w' := by
  have hgh := hg.here
  have hgk := fun x (hx : x ∈ p.kids) => hg.kid hx
  have hlk := fun x (hx : x ∈ p.kids) => hlp.kid hx
  have hle := hlp.here
  obtain ⟨_, ⟨ib1, ib2⟩, ⟨nb1, nb2⟩, hL, hG, hk, hK⟩ := h
  obtain ⟨step, left, goal, ix, n, kids⟩ := p
  obtain ⟨la, lc, ga, gc, ka, kc⟩ := x
  dsimp only at hgh hgk hlk hle ib1 ib2 nb1 nb2 hL hG hk hK hst
  obtain ⟨hl0, rfl⟩ := hst
  have HL : Hid (LsAt P w d left la lc) := hL
  have HLT : Hid (TyAt w (d + 1) ⟨0, 0, left⟩ la lc) := hL.1.at
  have HG : Hid (TyAt w d goal ga gc) := hG.at
  have HK : Hid (KidsAt P w d e kids ka) := hK
  have HR : Hid (r = true ↔ Rt ⟨3, left, goal, ix, n, kids⟩) := hr
  have HGL : Hid (∀ t ∈ left, Gp t) := hgh.1
  have HGG : Hid (Gp goal) := hgh.2
  have HKK : Hid (∀ x ∈ kids, Gpf x ∧ Lpf x) := fun x hx => ⟨hgk x hx, hlk x hx⟩
  have IH : Hid (∀ {P : Nat → Prop} {d : Nat} (p : Pf) (x : Pl) (w : World) (r : Bool), PfAt P w d e p x → Gpf p → Lpf p → (r = true ↔ Rt p) → Calls Try.prog 19 #[vpf p x] w fun e w' => e = .returned (.bool r) ∧ Below w.heap.size w w') := ih
  clear hL hG hK hr hgh hgk hlk ih hg hlp
  unfold vpf
  dsimp only
  go_enter Try.func19, Try.ntmps19
  go_upto_region 1 with fail
  have hVb : Below w.heap.size w (w.alloc (.cells #[.int .i64 3, .slice la left.length lc, .int .i64 goal.kind, .int .i64 goal.n, .slice ga goal.kids.length gc, .int .i64 ix, .int .i64 n, .slice ka kids.length kc] 37)) := (Below.refl _ w).alloc (Nat.le_refl _) _
  have x1 := heap_alloc_new w (.cells #[.int .i64 3, .slice la left.length lc, .int .i64 goal.kind, .int .i64 goal.n, .slice ga goal.kids.length gc, .int .i64 ix, .int .i64 n, .slice ka kids.length kc] 37)
  generalize hV : w.alloc (.cells #[.int .i64 3, .slice la left.length lc, .int .i64 goal.kind, .int .i64 goal.n, .slice ga goal.kids.length gc, .int .i64 ix, .int .i64 n, .slice ka kids.length kc] 37) = V at *
  clear hV
  go_wp2
  go_loopw [3] (fun iv wr => ∃ k : Nat, iv = .int .i64 (k : Int) ∧ k ≤ kids.length ∧ Below w.heap.size w wr ∧ wr.heap[w.heap.size]? = some (.cells #[.int .i64 3, .slice la left.length lc, .int .i64 goal.kind, .int .i64 goal.n, .slice ga goal.kids.length gc, .int .i64 ix, .int .i64 n, .slice ka kids.length kc] 37 (0, 0)) ∧ (∀ j (h : j < kids.length), j < k → Rt kids[j])) (fun iv _ => kids.length - (intOf iv).toNat)
  case atStart => exact ⟨0, rfl, by omega, hVb, x1, fun _ _ h => by omega⟩
  case round =>
    clear x1 hVb
    obtain ⟨k, rfl, hkl', hB, z1, hz⟩ := hrel
    have HZ : Hid (∀ j (h : j < kids.length), j < k → Rt kids[j]) := hz
    clear hz
    have i7 := cell_of_row _ _ 7 _ _ _ z1
    by_cases hkl : k < kids.length
    · have hkl2 : (k : Int) < (kids.length : Int) := by omega
      obtain ⟨kg, ko, rfl, hkg, _, hkk⟩ : ∃ g off, ka = some ⟨g, off, none⟩ ∧ g < wr.heap.size ∧ P g ∧ ∀ j (h : j < kids.length), ∃ y, C8 wr g (off + j * 8) kids[j] y ∧ PfAt P wr d e kids[j] y := by
        rcases HK.out.below hB with h | h
        · omega
        · exact h
      obtain ⟨y, hc8, hpk⟩ := hkk k hkl
      obtain ⟨c0, c1, c2, c3, c4, c5, c6, c7⟩ := hc8
      obtain ⟨rk, hrk⟩ := fix_bool (Rt kids[k])
      have hkm := HKK.out _ (List.getElem_mem hkl)
      have K19 := IH.out kids[k] y wr rk hpk hkm.1 hkm.2 hrk
      unfold vpf at K19
      have HRK : Hid (rk = true ↔ Rt kids[k]) := hrk
      clear hrk hkm hpk hkk
      cases rk with
      | true =>
        go_wp2_with (go_at_call 19; (with_reducible refine K19.mono ?_); rintro e5 w5 ⟨rfl, hb5⟩; clear K19)
        go_roundw
        case rel =>
          refine ⟨k + 1, by go_num, by omega, hB.trans (hb5.mono hB.size), (hb5.block _ (lt_of_get z1)).trans z1, fun j h1 h2 => ?_⟩
          by_cases hjk : j < k
          · exact HZ.out j h1 hjk
          · obtain rfl : j = k := by omega
            exact HRK.out.1 (by trivial)
        case measure => simp [intOf]; omega
      | false =>
        have hrf : r = false := bool_false HR.out (fun h => by
          rw [Rt] at h
          obtain ⟨ss, _, hl, hq⟩ := h
          have := (hq k hkl (by rw [← hl]; exact hkl)).2.2
          have := HRK.out.2 this
          cases this)
        subst hrf
        go_wp2_with (go_at_call 19; (with_reducible refine K19.mono ?_); rintro e5 w5 ⟨rfl, hb5⟩; clear K19)
        go_ret
        exact ⟨rfl, hB.trans (hb5.mono hB.size)⟩
    · have hkl2 : ¬ (k : Int) < (kids.length : Int) := by omega
      have HALL : Hid (∀ x ∈ kids, Rt x) := fun x hx => by
        obtain ⟨j, hj, rfl⟩ := List.getElem_of_mem hx
        exact HZ.out j hj (by omega)
      clear HZ IH HKK
      have i0 := cell_of_row _ _ 0 _ _ _ z1
      have i1 := cell_of_row _ _ 1 _ _ _ z1
      have i2 := cell_of_row _ _ 2 _ _ _ z1
      have i3 := cell_of_row _ _ 3 _ _ _ z1
      have i4 := cell_of_row _ _ 4 _ _ _ z1
      have i5 := cell_of_row _ _ 5 _ _ _ z1
      have i6 := cell_of_row _ _ 6 _ _ _ z1
      go_upto_region 6 with fail
      clear hkl2 hkl hkl'
      have hl0' : ¬ (left.length : Int) = 0 := by omega
      have HLN : Hid (left ≠ []) := fun e => hl0 (by rw [e]; rfl)
      have hlen : (0 : Int) ≤ left.length ∧ (left.length : Int) < 900 := by omega
      obtain ⟨lg, lo, rfl, hlg⟩ := HL.out.addr (by omega)
      by_cases hx0 : ix = 0
      rotate_left
      · have hrf : r = false := bool_false HR.out (rt_at (by show (3 : Int) ≤ 3; decide) (.inl hx0))
        subst hrf
        go_wp2
        go_ret
        exact ⟨rfl, hB⟩
      by_cases hn0 : n = 0
      rotate_left
      · have hrf : r = false := bool_false HR.out (rt_at (by show (3 : Int) ≤ 3; decide) (.inr hn0))
        subst hrf
        go_wp2
        go_ret
        exact ⟨rfl, hB⟩
      subst hx0 hn0
      clear ib1 ib2 nb1 nb2
      by_cases hk1 : kids.length = 1
      rotate_left
      · have hrf : r = false := bool_false HR.out (rt_goal (.inr rfl) (.inl hk1))
        have hk1' : ¬ (kids.length : Int) = 1 := by omega
        subst hrf
        go_wp2
        go_ret
        exact ⟨rfl, hB⟩
      obtain ⟨a, ea⟩ := one_of hk1
      subst ea
      clear hk1
      by_cases hgk : goal.kind = 3
      rotate_left
      · have hrf : r = false := bool_false HR.out (rt_goal (.inr rfl) (.inr hgk))
        subst hrf
        go_wp2
        go_ret
        exact ⟨rfl, hB⟩
      obtain ⟨X0, X1, hgo⟩ : ∃ x y, goal = un x y := by
        rcases gp_cases HGG.out with ⟨_, h, _⟩ | ⟨x, y, h, _⟩ | ⟨x, y, h, _⟩
        · rw [h] at hgk; simp [bs] at hgk
        · first | exact ⟨x, y, h⟩ | (rw [h] at hgk; simp [ov] at hgk)
        · first | exact ⟨x, y, h⟩ | (rw [h] at hgk; simp [un] at hgk)
      have HGO : Hid (goal = un X0 X1) := hgo
      have hG2 : TyAt w d (un X0 X1) ga gc := hgo ▸ HG.out
      have hgl0 : 0 < goal.kids.length := by rw [hgo]; simp [un]
      have hgl1 : 1 < goal.kids.length := by rw [hgo]; simp [un]
      have hgl0' : (0 : Int) < (goal.kids.length : Int) := by omega
      have hgl1' : (1 : Int) < (goal.kids.length : Int) := by omega
      have HGK : Hid (goal.kind = 3) := hgk
      clear hgk hgo
      obtain ⟨kg, ko, rfl, hkg, _, hkk⟩ : ∃ g off, ka = some ⟨g, off, none⟩ ∧ g < w.heap.size ∧ P g ∧ ∀ j (h : j < [a].length), ∃ y, C8 w g (off + j * 8) [a][j] y ∧ PfAt P w d e [a][j] y := by
        rcases HK.out with h | h
        · simp at h
        · exact h
      obtain ⟨ya, hc8, hpa⟩ := hkk 0 (by simp)
      simp only [List.getElem_cons_zero, Nat.zero_mul, Nat.add_zero] at hc8 hpa
      have HPA : Hid (PfAt P w d e a ya) := hpa
      obtain ⟨c0, c1, c2, c3, c4, c5, c6, c7⟩ := hc8
      have hra := HALL.out a (by simp)
      obtain ⟨fl, hfl⟩ : ∃ fl, [X0] ++ left = fl := ⟨_, rfl⟩
      have HJN : Hid ([X0] ++ left = fl) := hfl
      clear hfl
      have HRR : Hid (r = true ↔ a.left = fl ∧ a.goal = X1) := by
        refine HR.out.trans ?_
        rw [HGO.out, ← HJN.out]
        have := rt_one (p := ⟨3, left, un X0 X1, 0, 0, [a]⟩) rfl hra (bef_un HLN.out)
        simpa using this
      clear hkk hpa hra
      obtain ⟨d', rfl⟩ := hG2.pos
      obtain ⟨gg, go_, ax, cx, rfl, hgg, y0, y1, y2, hx⟩ := hG2.kid (j := 0) (by simp [un])
      obtain ⟨gg2, go2, ay, cy, e2, hgg2, y3, y4, y5, hy⟩ := hG2.kid (j := 1) (by simp [un])
      simp only [Option.some.injEq, Addr.mk.injEq, and_true] at e2
      obtain ⟨rfl, rfl⟩ := e2
      simp only [un, List.getElem_cons_zero, List.getElem_cons_succ, Nat.zero_mul, Nat.add_zero, Nat.one_mul] at y0 y1 y2 y3 y4 y5 hx hy
      have HX0 : Hid (TyAt w d' X0 ax cx) := hx
      have HX1 : Hid (TyAt w d' X1 ay cy) := hy
      clear hx hy hgg2 hG2 i0 i1 i2 i3 i4 i5 i6 i7
      have i0 := cell_of_row _ _ 0 _ _ _ z1
      have i2 := cell_of_row _ _ 2 _ _ _ z1
      have i3 := cell_of_row _ _ 3 _ _ _ z1
      have i5 := cell_of_row _ _ 5 _ _ _ z1
      have i6 := cell_of_row _ _ 6 _ _ _ z1
      have i7 := cell_of_row _ _ 7 _ _ _ z1
      have i1 := cell_of_row _ _ 1 _ _ _ z1
      have hgk := HGK.out
      rw [hgk] at i2
      go_upto_region 16 with fail
      clear hgk
      clear i0 i1 i2 i3 i5 i6 i7
      go_cut [5, 6] from 13 to 95 (fun s5 s6 wx => ∃ A B, s5 = .pointer (some ⟨A, 0, none⟩) ∧ s6 = .pointer (some ⟨B, 0, none⟩) ∧ S3 w (.cells #[.int .i64 3, .slice (some ⟨lg, lo, none⟩) left.length lc, .int .i64 goal.kind, .int .i64 goal.n, .slice (some ⟨gg, go_, none⟩) goal.kids.length gc, .int .i64 0, .int .i64 0, .slice (some ⟨kg, ko, none⟩) [a].length kc] 37 (0, 0)) A B X0 ax cx X1 ay cy wx)
      case first =>
        have HCE : Hid _ := fun (W : World) (hSw : Below w.heap.size w W ∧ W.heap[w.heap.size]? = some (.cells #[.int .i64 3, .slice (some ⟨lg, lo, none⟩) left.length lc, .int .i64 goal.kind, .int .i64 goal.n, .slice (some ⟨gg, go_, none⟩) goal.kids.length gc, .int .i64 0, .int .i64 0, .slice (some ⟨kg, ko, none⟩) [a].length kc] 37 (0, 0))) => (And.intro (cell_of_row _ _ 4 _ _ _ hSw.2) (And.intro ((hSw.1.cell (p := ⟨gg, _, none⟩) hgg).trans y0) (And.intro ((hSw.1.cell (p := ⟨gg, _, none⟩) hgg).trans y1) (And.intro ((hSw.1.cell (p := ⟨gg, _, none⟩) hgg).trans y2) (And.intro ((hSw.1.cell (p := ⟨gg, _, none⟩) hgg).trans y3) (And.intro ((hSw.1.cell (p := ⟨gg, _, none⟩) hgg).trans y4) ((hSw.1.cell (p := ⟨gg, _, none⟩) hgg).trans y5)))))))
        refine wp_region_held_drew (S := fun W => Below w.heap.size w W ∧ W.heap[w.heap.size]? = some (.cells #[.int .i64 3, .slice (some ⟨lg, lo, none⟩) left.length lc, .int .i64 goal.kind, .int .i64 goal.n, .slice (some ⟨gg, go_, none⟩) goal.kids.length gc, .int .i64 0, .int .i64 0, .slice (some ⟨kg, ko, none⟩) [a].length kc] 37 (0, 0))) (by kernel_rfl) (by exact ⟨below_drewN hB 1, z1⟩) (fun hHeld => ?_)
        have hS0 := hHeld
        generalize hV : wr.drew = V0 at *
        clear hV
        refine tk (v := ?_) 0 o19_16_0 (by rfl) ?_ ?_
        case refine_2 => unfold o19_16_0; intro w hSw; obtain ⟨p4, q0, q1, q2, q3, q4, q5⟩ := HCE.out _ hSw; go_simp; (try with_reducible rfl)
        simp only [o19_16_0, Act.put, List.setIfInBounds_toArray, List.set_cons_zero, List.set_cons_succ]
        refine tk (v := ?_) 1 o19_16_1 (by rfl) ?_ ?_
        case refine_2 => unfold o19_16_1; intro w hSw; obtain ⟨p4, q0, q1, q2, q3, q4, q5⟩ := HCE.out _ hSw; go_simp; (try with_reducible rfl)
        simp only [o19_16_1, Act.put, List.setIfInBounds_toArray, List.set_cons_zero, List.set_cons_succ]
        refine tk (v := ?_) 2 o19_16_2 (by rfl) ?_ ?_
        case refine_2 => unfold o19_16_2; intro w hSw; obtain ⟨p4, q0, q1, q2, q3, q4, q5⟩ := HCE.out _ hSw; go_simp; (try with_reducible rfl)
        simp only [o19_16_2, Act.put, List.setIfInBounds_toArray, List.set_cons_zero, List.set_cons_succ]
        refine tk (v := ?_) 3 o19_16_3 (by rfl) ?_ ?_
        case refine_2 => unfold o19_16_3; intro w hSw; obtain ⟨p4, q0, q1, q2, q3, q4, q5⟩ := HCE.out _ hSw; go_simp; (try with_reducible rfl)
        simp only [o19_16_3, Act.put, List.setIfInBounds_toArray, List.set_cons_zero, List.set_cons_succ]
        refine tk (v := ?_) 4 o19_16_4 (by rfl) ?_ ?_
        case refine_2 => unfold o19_16_4; intro w hSw; obtain ⟨p4, q0, q1, q2, q3, q4, q5⟩ := HCE.out _ hSw; go_simp; (try with_reducible rfl)
        simp only [o19_16_4, Act.put, List.setIfInBounds_toArray, List.set_cons_zero, List.set_cons_succ]
        refine tk (v := ?_) 5 o19_16_5 (by rfl) ?_ ?_
        case refine_2 => unfold o19_16_5; intro w hSw; obtain ⟨p4, q0, q1, q2, q3, q4, q5⟩ := HCE.out _ hSw; go_simp; (try with_reducible rfl)
        simp only [o19_16_5, Act.put, List.setIfInBounds_toArray, List.set_cons_zero, List.set_cons_succ]
        refine tk (v := ?_) 6 o19_16_6 (by rfl) ?_ ?_
        case refine_2 => unfold o19_16_6; intro w hSw; obtain ⟨p4, q0, q1, q2, q3, q4, q5⟩ := HCE.out _ hSw; go_simp; (try with_reducible rfl)
        simp only [o19_16_6, Act.put, List.setIfInBounds_toArray, List.set_cons_zero, List.set_cons_succ]
        refine tk (v := ?_) 7 o19_16_7 (by rfl) ?_ ?_
        case refine_2 => unfold o19_16_7; intro w hSw; obtain ⟨p4, q0, q1, q2, q3, q4, q5⟩ := HCE.out _ hSw; go_simp; (try with_reducible rfl)
        simp only [o19_16_7, Act.put, List.setIfInBounds_toArray, List.set_cons_zero, List.set_cons_succ]
        refine tk (v := ?_) 8 o19_16_8 (by rfl) ?_ ?_
        case refine_2 => unfold o19_16_8; intro w hSw; obtain ⟨p4, q0, q1, q2, q3, q4, q5⟩ := HCE.out _ hSw; go_simp; (try with_reducible rfl)
        simp only [o19_16_8, Act.put, List.setIfInBounds_toArray, List.set_cons_zero, List.set_cons_succ]
        refine tk (v := ?_) 9 o19_16_9 (by rfl) ?_ ?_
        case refine_2 => unfold o19_16_9; intro w hSw; obtain ⟨p4, q0, q1, q2, q3, q4, q5⟩ := HCE.out _ hSw; go_simp; (try with_reducible rfl)
        simp only [o19_16_9, Act.put, List.setIfInBounds_toArray, List.set_cons_zero, List.set_cons_succ]
        refine wpAnyH_ready (rs := [10, 11]) (by kernel_rfl) (by simp) ?_
        refine (AllReadyH.cons (o := o19_16_10) rfl (fun K hK => ?_) (AllReadyH.cons (o := o19_16_11) rfl (fun K hK => ?_) AllReadyH.nil))
        · skip
          unfold o19_16_10
          go_simp
          have hn10 := heap_alloc_new V0 (.cells #[.int .i64 0, .int .i64 0, .slice none 0 0] 24)
          have hbn10 : Below V0.heap.size V0 (V0.alloc (.cells #[.int .i64 0, .int .i64 0, .slice none 0 0] 24)) := (Below.refl _ V0).alloc (Nat.le_refl _) _
          have hS1 : Below w.heap.size w (V0.alloc (.cells #[.int .i64 0, .int .i64 0, .slice none 0 0] 24)) ∧ (V0.alloc (.cells #[.int .i64 0, .int .i64 0, .slice none 0 0] 24)).heap[w.heap.size]? = some (.cells #[.int .i64 3, .slice (some ⟨lg, lo, none⟩) left.length lc, .int .i64 goal.kind, .int .i64 goal.n, .slice (some ⟨gg, go_, none⟩) goal.kids.length gc, .int .i64 0, .int .i64 0, .slice (some ⟨kg, ko, none⟩) [a].length kc] 37 (0, 0)) := ⟨hS0.1.trans (hbn10.mono hS0.1.size), (hbn10.block _ (lt_of_get hS0.2)).trans hS0.2⟩
          have hlt0 := lt_of_get hS0.2
          refine hK.out _ _ ?_ (fun hHeld => ?_)
          · first | exact hS1 | exact hS2 | exact hS3 | exact hS4
          clear hK K
          try simp only [Act.put, List.setIfInBounds_toArray, List.set_cons_zero, List.set_cons_succ]
          generalize hV : V0.alloc (.cells #[.int .i64 0, .int .i64 0, .slice none 0 0] 24) = V1 at *
          clear hV
          refine wpAnyH_ready (rs := [11]) (by kernel_rfl) (by simp) ?_
          refine (AllReadyH.cons (o := o19_16_11) rfl (fun K hK => ?_) AllReadyH.nil)
          unfold o19_16_11
          go_simp
          have hn11 := heap_alloc_new V1 (.cells #[.int .i64 0, .int .i64 0, .slice none 0 0] 24)
          have hbn11 : Below V1.heap.size V1 (V1.alloc (.cells #[.int .i64 0, .int .i64 0, .slice none 0 0] 24)) := (Below.refl _ V1).alloc (Nat.le_refl _) _
          have hS2 : Below w.heap.size w (V1.alloc (.cells #[.int .i64 0, .int .i64 0, .slice none 0 0] 24)) ∧ (V1.alloc (.cells #[.int .i64 0, .int .i64 0, .slice none 0 0] 24)).heap[w.heap.size]? = some (.cells #[.int .i64 3, .slice (some ⟨lg, lo, none⟩) left.length lc, .int .i64 goal.kind, .int .i64 goal.n, .slice (some ⟨gg, go_, none⟩) goal.kids.length gc, .int .i64 0, .int .i64 0, .slice (some ⟨kg, ko, none⟩) [a].length kc] 37 (0, 0)) := ⟨hS1.1.trans (hbn11.mono hS1.1.size), (hbn11.block _ (lt_of_get hS1.2)).trans hS1.2⟩
          have hlt1 := lt_of_get hS1.2
          have hltb := lt_of_get hn10
          have hn10 := (hbn11.block _ (lt_of_get hn10)).trans hn10
          refine hK.out _ _ ?_ (fun hHeld => ?_)
          · first | exact hS1 | exact hS2 | exact hS3 | exact hS4
          clear hK K
          try simp only [Act.put, List.setIfInBounds_toArray, List.set_cons_zero, List.set_cons_succ]
          generalize hV : V1.alloc (.cells #[.int .i64 0, .int .i64 0, .slice none 0 0] 24) = V2 at *
          clear hV
          refine wpAnyH_ready (rs := [12]) (by kernel_rfl) (by simp) ?_
          refine (AllReadyH.cons (o := o19_16_12) rfl (fun K hK => ?_) AllReadyH.nil)
          unfold o19_16_12
          have m0 := cell_of_row _ _ 0 _ _ _ hn10
          have f0 := frozen_of_row _ _ 0 _ 24 hn10
          have m1 := cell_of_row _ _ 1 _ _ _ hn10
          have f1 := frozen_of_row _ _ 1 _ 24 hn10
          have m2 := cell_of_row _ _ 2 _ _ _ hn10
          have f2 := frozen_of_row _ _ 2 _ 24 hn10
          go_simp
          have k12 := ko3 V2 V0.heap.size (.int .i64 X0.kind) (.int .i64 X0.n) (.slice ax X0.kids.length cx)
          have hl12 := laid_box hn10 X0.kind X0.n ax X0.kids.length cx
          have hS3 := And.intro (((hS2.1.setCell (p := ⟨V0.heap.size, 0, none⟩) (by show w.heap.size ≤ V0.heap.size; omega) (.int .i64 X0.kind)).setCell (p := ⟨V0.heap.size, 1, none⟩) (by show w.heap.size ≤ V0.heap.size; omega) (.int .i64 X0.n)).setCell (p := ⟨V0.heap.size, 2, none⟩) (by show w.heap.size ≤ V0.heap.size; omega) (.slice ax X0.kids.length cx)) ((k12 w.heap.size (by omega)).trans hS2.2)
          have hn11 := (k12 V1.heap.size (by omega)).trans hn11
          refine hK.out _ _ ?_ (fun hHeld => ?_)
          · first | exact hS1 | exact hS2 | exact hS3 | exact hS4
          clear hK K
          try simp only [Act.put, List.setIfInBounds_toArray, List.set_cons_zero, List.set_cons_succ]
          clear m0 m1 m2 f0 f1 f2
          generalize hV : ((V2.setCell ⟨V0.heap.size, 0, none⟩ (.int .i64 X0.kind)).setCell ⟨V0.heap.size, 1, none⟩ (.int .i64 X0.n)).setCell ⟨V0.heap.size, 2, none⟩ (.slice ax X0.kids.length cx) = V3 at *
          clear hV
          refine wpAnyH_ready (rs := [13]) (by kernel_rfl) (by simp) ?_
          refine (AllReadyH.cons (o := o19_16_13) rfl (fun K hK => ?_) AllReadyH.nil)
          unfold o19_16_13
          have m0 := cell_of_row _ _ 0 _ _ _ hn11
          have f0 := frozen_of_row _ _ 0 _ 24 hn11
          have m1 := cell_of_row _ _ 1 _ _ _ hn11
          have f1 := frozen_of_row _ _ 1 _ 24 hn11
          have m2 := cell_of_row _ _ 2 _ _ _ hn11
          have f2 := frozen_of_row _ _ 2 _ 24 hn11
          go_simp
          have k13 := ko3 V3 V1.heap.size (.int .i64 X1.kind) (.int .i64 X1.n) (.slice ay X1.kids.length cy)
          have hl13 := laid_box hn11 X1.kind X1.n ay X1.kids.length cy
          have hS4 := And.intro (((hS3.1.setCell (p := ⟨V1.heap.size, 0, none⟩) (by show w.heap.size ≤ V1.heap.size; omega) (.int .i64 X1.kind)).setCell (p := ⟨V1.heap.size, 1, none⟩) (by show w.heap.size ≤ V1.heap.size; omega) (.int .i64 X1.n)).setCell (p := ⟨V1.heap.size, 2, none⟩) (by show w.heap.size ≤ V1.heap.size; omega) (.slice ay X1.kids.length cy)) ((k13 w.heap.size (by omega)).trans hS3.2)
          have hl12 := (k13 V0.heap.size (by omega)).trans hl12
          refine hK.out _ _ ?_ (fun hHeld => ?_)
          · first | exact hS1 | exact hS2 | exact hS3 | exact hS4
          clear hK K
          try simp only [Act.put, List.setIfInBounds_toArray, List.set_cons_zero, List.set_cons_succ]
          clear m0 m1 m2 f0 f1 f2
          generalize hV : ((V3.setCell ⟨V1.heap.size, 0, none⟩ (.int .i64 X1.kind)).setCell ⟨V1.heap.size, 1, none⟩ (.int .i64 X1.n)).setCell ⟨V1.heap.size, 2, none⟩ (.slice ay X1.kids.length cy) = V4 at *
          clear hV
          refine wpAnyH_done (by kernel_rfl) ?_ _
          go_wp2_with fail
          go_meet
          case rel => exact ⟨V0.heap.size, V1.heap.size, rfl, rfl, ⟨hS4.1, hS4.2, by omega, by omega, by omega, hl12, hl13⟩⟩
        · skip
          unfold o19_16_11
          go_simp
          have hn11 := heap_alloc_new V0 (.cells #[.int .i64 0, .int .i64 0, .slice none 0 0] 24)
          have hbn11 : Below V0.heap.size V0 (V0.alloc (.cells #[.int .i64 0, .int .i64 0, .slice none 0 0] 24)) := (Below.refl _ V0).alloc (Nat.le_refl _) _
          have hS1 : Below w.heap.size w (V0.alloc (.cells #[.int .i64 0, .int .i64 0, .slice none 0 0] 24)) ∧ (V0.alloc (.cells #[.int .i64 0, .int .i64 0, .slice none 0 0] 24)).heap[w.heap.size]? = some (.cells #[.int .i64 3, .slice (some ⟨lg, lo, none⟩) left.length lc, .int .i64 goal.kind, .int .i64 goal.n, .slice (some ⟨gg, go_, none⟩) goal.kids.length gc, .int .i64 0, .int .i64 0, .slice (some ⟨kg, ko, none⟩) [a].length kc] 37 (0, 0)) := ⟨hS0.1.trans (hbn11.mono hS0.1.size), (hbn11.block _ (lt_of_get hS0.2)).trans hS0.2⟩
          have hlt0 := lt_of_get hS0.2
          refine hK.out _ _ ?_ (fun hHeld => ?_)
          · first | exact hS1 | exact hS2 | exact hS3 | exact hS4
          clear hK K
          try simp only [Act.put, List.setIfInBounds_toArray, List.set_cons_zero, List.set_cons_succ]
          generalize hV : V0.alloc (.cells #[.int .i64 0, .int .i64 0, .slice none 0 0] 24) = V1 at *
          clear hV
          refine wpAnyH_ready (rs := [10]) (by kernel_rfl) (by simp) ?_
          refine (AllReadyH.cons (o := o19_16_10) rfl (fun K hK => ?_) AllReadyH.nil)
          unfold o19_16_10
          go_simp
          have hn10 := heap_alloc_new V1 (.cells #[.int .i64 0, .int .i64 0, .slice none 0 0] 24)
          have hbn10 : Below V1.heap.size V1 (V1.alloc (.cells #[.int .i64 0, .int .i64 0, .slice none 0 0] 24)) := (Below.refl _ V1).alloc (Nat.le_refl _) _
          have hS2 : Below w.heap.size w (V1.alloc (.cells #[.int .i64 0, .int .i64 0, .slice none 0 0] 24)) ∧ (V1.alloc (.cells #[.int .i64 0, .int .i64 0, .slice none 0 0] 24)).heap[w.heap.size]? = some (.cells #[.int .i64 3, .slice (some ⟨lg, lo, none⟩) left.length lc, .int .i64 goal.kind, .int .i64 goal.n, .slice (some ⟨gg, go_, none⟩) goal.kids.length gc, .int .i64 0, .int .i64 0, .slice (some ⟨kg, ko, none⟩) [a].length kc] 37 (0, 0)) := ⟨hS1.1.trans (hbn10.mono hS1.1.size), (hbn10.block _ (lt_of_get hS1.2)).trans hS1.2⟩
          have hlt1 := lt_of_get hS1.2
          have hltb := lt_of_get hn11
          have hn11 := (hbn10.block _ (lt_of_get hn11)).trans hn11
          refine hK.out _ _ ?_ (fun hHeld => ?_)
          · first | exact hS1 | exact hS2 | exact hS3 | exact hS4
          clear hK K
          try simp only [Act.put, List.setIfInBounds_toArray, List.set_cons_zero, List.set_cons_succ]
          generalize hV : V1.alloc (.cells #[.int .i64 0, .int .i64 0, .slice none 0 0] 24) = V2 at *
          clear hV
          refine wpAnyH_ready (rs := [12]) (by kernel_rfl) (by simp) ?_
          refine (AllReadyH.cons (o := o19_16_12) rfl (fun K hK => ?_) AllReadyH.nil)
          unfold o19_16_12
          have m0 := cell_of_row _ _ 0 _ _ _ hn10
          have f0 := frozen_of_row _ _ 0 _ 24 hn10
          have m1 := cell_of_row _ _ 1 _ _ _ hn10
          have f1 := frozen_of_row _ _ 1 _ 24 hn10
          have m2 := cell_of_row _ _ 2 _ _ _ hn10
          have f2 := frozen_of_row _ _ 2 _ 24 hn10
          go_simp
          have k12 := ko3 V2 V1.heap.size (.int .i64 X0.kind) (.int .i64 X0.n) (.slice ax X0.kids.length cx)
          have hl12 := laid_box hn10 X0.kind X0.n ax X0.kids.length cx
          have hS3 := And.intro (((hS2.1.setCell (p := ⟨V1.heap.size, 0, none⟩) (by show w.heap.size ≤ V1.heap.size; omega) (.int .i64 X0.kind)).setCell (p := ⟨V1.heap.size, 1, none⟩) (by show w.heap.size ≤ V1.heap.size; omega) (.int .i64 X0.n)).setCell (p := ⟨V1.heap.size, 2, none⟩) (by show w.heap.size ≤ V1.heap.size; omega) (.slice ax X0.kids.length cx)) ((k12 w.heap.size (by omega)).trans hS2.2)
          have hn11 := (k12 V0.heap.size (by omega)).trans hn11
          refine hK.out _ _ ?_ (fun hHeld => ?_)
          · first | exact hS1 | exact hS2 | exact hS3 | exact hS4
          clear hK K
          try simp only [Act.put, List.setIfInBounds_toArray, List.set_cons_zero, List.set_cons_succ]
          clear m0 m1 m2 f0 f1 f2
          generalize hV : ((V2.setCell ⟨V1.heap.size, 0, none⟩ (.int .i64 X0.kind)).setCell ⟨V1.heap.size, 1, none⟩ (.int .i64 X0.n)).setCell ⟨V1.heap.size, 2, none⟩ (.slice ax X0.kids.length cx) = V3 at *
          clear hV
          refine wpAnyH_ready (rs := [13]) (by kernel_rfl) (by simp) ?_
          refine (AllReadyH.cons (o := o19_16_13) rfl (fun K hK => ?_) AllReadyH.nil)
          unfold o19_16_13
          have m0 := cell_of_row _ _ 0 _ _ _ hn11
          have f0 := frozen_of_row _ _ 0 _ 24 hn11
          have m1 := cell_of_row _ _ 1 _ _ _ hn11
          have f1 := frozen_of_row _ _ 1 _ 24 hn11
          have m2 := cell_of_row _ _ 2 _ _ _ hn11
          have f2 := frozen_of_row _ _ 2 _ 24 hn11
          go_simp
          have k13 := ko3 V3 V0.heap.size (.int .i64 X1.kind) (.int .i64 X1.n) (.slice ay X1.kids.length cy)
          have hl13 := laid_box hn11 X1.kind X1.n ay X1.kids.length cy
          have hS4 := And.intro (((hS3.1.setCell (p := ⟨V0.heap.size, 0, none⟩) (by show w.heap.size ≤ V0.heap.size; omega) (.int .i64 X1.kind)).setCell (p := ⟨V0.heap.size, 1, none⟩) (by show w.heap.size ≤ V0.heap.size; omega) (.int .i64 X1.n)).setCell (p := ⟨V0.heap.size, 2, none⟩) (by show w.heap.size ≤ V0.heap.size; omega) (.slice ay X1.kids.length cy)) ((k13 w.heap.size (by omega)).trans hS3.2)
          have hl12 := (k13 V1.heap.size (by omega)).trans hl12
          refine hK.out _ _ ?_ (fun hHeld => ?_)
          · first | exact hS1 | exact hS2 | exact hS3 | exact hS4
          clear hK K
          try simp only [Act.put, List.setIfInBounds_toArray, List.set_cons_zero, List.set_cons_succ]
          clear m0 m1 m2 f0 f1 f2
          generalize hV : ((V3.setCell ⟨V0.heap.size, 0, none⟩ (.int .i64 X1.kind)).setCell ⟨V0.heap.size, 1, none⟩ (.int .i64 X1.n)).setCell ⟨V0.heap.size, 2, none⟩ (.slice ay X1.kids.length cy) = V4 at *
          clear hV
          refine wpAnyH_done (by kernel_rfl) ?_ _
          go_wp2_with fail
          go_meet
          case rel => exact ⟨V1.heap.size, V0.heap.size, rfl, rfl, ⟨hS4.1, hS4.2, by omega, by omega, by omega, hl12, hl13⟩⟩
      case rest =>
        obtain ⟨A, B, rfl, rfl, hS⟩ := hcut
        have i0 := cell_of_row _ _ 0 _ _ _ hS.box
        go_upto_region 19 with fail
        clear i0
        have HCE : Hid _ := fun (W : World) (hSw : S3 w (.cells #[.int .i64 3, .slice (some ⟨lg, lo, none⟩) left.length lc, .int .i64 goal.kind, .int .i64 goal.n, .slice (some ⟨gg, go_, none⟩) goal.kids.length gc, .int .i64 0, .int .i64 0, .slice (some ⟨kg, ko, none⟩) [a].length kc] 37 (0, 0)) A B X0 ax cx X1 ay cy W) => (And.intro (cell_of_row _ _ 1 _ _ _ hSw.box) (And.intro (cell_of_row _ _ 7 _ _ _ hSw.box) (And.intro (cell_of_row _ _ 0 _ _ _ hSw.ra) (And.intro (cell_of_row _ _ 1 _ _ _ hSw.ra) (And.intro (cell_of_row _ _ 2 _ _ _ hSw.ra) (And.intro (cell_of_row _ _ 0 _ _ _ hSw.rb) (And.intro (cell_of_row _ _ 1 _ _ _ hSw.rb) (And.intro (cell_of_row _ _ 2 _ _ _ hSw.rb) (And.intro ((hSw.bel.cell (p := ⟨kg, _, none⟩) hkg).trans c0) (And.intro ((hSw.bel.cell (p := ⟨kg, _, none⟩) hkg).trans c1) (And.intro ((hSw.bel.cell (p := ⟨kg, _, none⟩) hkg).trans c2) (And.intro ((hSw.bel.cell (p := ⟨kg, _, none⟩) hkg).trans c3) (And.intro ((hSw.bel.cell (p := ⟨kg, _, none⟩) hkg).trans c4) (And.intro ((hSw.bel.cell (p := ⟨kg, _, none⟩) hkg).trans c5) (And.intro ((hSw.bel.cell (p := ⟨kg, _, none⟩) hkg).trans c6) ((hSw.bel.cell (p := ⟨kg, _, none⟩) hkg).trans c7))))))))))))))))
        refine wp_region_held_drew (S := fun W => S3 w (.cells #[.int .i64 3, .slice (some ⟨lg, lo, none⟩) left.length lc, .int .i64 goal.kind, .int .i64 goal.n, .slice (some ⟨gg, go_, none⟩) goal.kids.length gc, .int .i64 0, .int .i64 0, .slice (some ⟨kg, ko, none⟩) [a].length kc] 37 (0, 0)) A B X0 ax cx X1 ay cy W) (by kernel_rfl) (by exact hS.below (below_drewN (Below.refl _ _) 1)) (fun hHeld => ?_)
        have hS0 := hHeld
        generalize hV : wc.drew = V0 at *
        clear hV
        refine tk (v := ?_) 0 o19_19_0 (by rfl) ?_ ?_
        case refine_2 => unfold o19_19_0; intro w hSw; obtain ⟨p1, p7, u0_, u1_, u2_, v0_, v1_, v2_, s0, s1, s2, s3, s4, s5, s6, s7⟩ := HCE.out _ hSw; go_simp; (try with_reducible rfl)
        simp only [o19_19_0, Act.put, List.setIfInBounds_toArray, List.set_cons_zero, List.set_cons_succ]
        refine tk (v := ?_) 1 o19_19_1 (by rfl) ?_ ?_
        case refine_2 => unfold o19_19_1; intro w hSw; obtain ⟨p1, p7, u0_, u1_, u2_, v0_, v1_, v2_, s0, s1, s2, s3, s4, s5, s6, s7⟩ := HCE.out _ hSw; go_simp; (try with_reducible rfl)
        simp only [o19_19_1, Act.put, List.setIfInBounds_toArray, List.set_cons_zero, List.set_cons_succ]
        refine tk (v := ?_) 2 o19_19_2 (by rfl) ?_ ?_
        case refine_2 => unfold o19_19_2; intro w hSw; obtain ⟨p1, p7, u0_, u1_, u2_, v0_, v1_, v2_, s0, s1, s2, s3, s4, s5, s6, s7⟩ := HCE.out _ hSw; go_simp; (try with_reducible rfl)
        simp only [o19_19_2, Act.put, List.setIfInBounds_toArray, List.set_cons_zero, List.set_cons_succ]
        refine tk (v := ?_) 3 o19_19_3 (by rfl) ?_ ?_
        case refine_2 => unfold o19_19_3; intro w hSw; obtain ⟨p1, p7, u0_, u1_, u2_, v0_, v1_, v2_, s0, s1, s2, s3, s4, s5, s6, s7⟩ := HCE.out _ hSw; go_simp; (try with_reducible rfl)
        simp only [o19_19_3, Act.put, List.setIfInBounds_toArray, List.set_cons_zero, List.set_cons_succ]
        refine tk (v := ?_) 4 o19_19_4 (by rfl) ?_ ?_
        case refine_2 => unfold o19_19_4; intro w hSw; obtain ⟨p1, p7, u0_, u1_, u2_, v0_, v1_, v2_, s0, s1, s2, s3, s4, s5, s6, s7⟩ := HCE.out _ hSw; go_simp; (try with_reducible rfl)
        simp only [o19_19_4, Act.put, List.setIfInBounds_toArray, List.set_cons_zero, List.set_cons_succ]
        refine tk (v := ?_) 6 o19_19_6 (by rfl) ?_ ?_
        case refine_2 => unfold o19_19_6; intro w hSw; obtain ⟨p1, p7, u0_, u1_, u2_, v0_, v1_, v2_, s0, s1, s2, s3, s4, s5, s6, s7⟩ := HCE.out _ hSw; go_simp; (try with_reducible rfl)
        simp only [o19_19_6, Act.put, List.setIfInBounds_toArray, List.set_cons_zero, List.set_cons_succ]
        refine tk (v := ?_) 7 o19_19_7 (by rfl) ?_ ?_
        case refine_2 => unfold o19_19_7; intro w hSw; obtain ⟨p1, p7, u0_, u1_, u2_, v0_, v1_, v2_, s0, s1, s2, s3, s4, s5, s6, s7⟩ := HCE.out _ hSw; go_simp; (try with_reducible rfl)
        simp only [o19_19_7, Act.put, List.setIfInBounds_toArray, List.set_cons_zero, List.set_cons_succ]
        refine tk (v := ?_) 10 o19_19_10 (by rfl) ?_ ?_
        case refine_2 => unfold o19_19_10; intro w hSw; obtain ⟨p1, p7, u0_, u1_, u2_, v0_, v1_, v2_, s0, s1, s2, s3, s4, s5, s6, s7⟩ := HCE.out _ hSw; go_simp; (try with_reducible rfl)
        simp only [o19_19_10, Act.put, List.setIfInBounds_toArray, List.set_cons_zero, List.set_cons_succ]
        refine wpAnyH_ready (rs := [5]) (by kernel_rfl) (by simp) ?_
        refine (AllReadyH.cons (o := o19_19_5) rfl (fun K hK => ?_) AllReadyH.nil)
        unfold o19_19_5
        go_simp
        have hn1 := heap_alloc_new V0 (.cells #[.int .i64 X0.kind, .int .i64 X0.n, .slice ax X0.kids.length cx] 24)
        have hb1 : Below V0.heap.size V0 (V0.alloc (.cells #[.int .i64 X0.kind, .int .i64 X0.n, .slice ax X0.kids.length cx] 24)) := (Below.refl _ V0).alloc (Nat.le_refl _) _
        have hS1 := hS0.below hb1
        refine hK.out _ _ ?_ (fun hHeld => ?_)
        · exact hS1
        clear hK K
        try simp only [Act.put, List.setIfInBounds_toArray, List.set_cons_zero, List.set_cons_succ]
        generalize hV : V0.alloc (.cells #[.int .i64 X0.kind, .int .i64 X0.n, .slice ax X0.kids.length cx] 24) = V1 at *
        clear hV
        refine wpAnyH_ready (rs := [8]) (by kernel_rfl) (by simp) ?_
        refine (AllReadyH.cons (o := o19_19_8) rfl (fun K hK => ?_) AllReadyH.nil)
        unfold o19_19_8
        go_simp
        have hn2 := heap_alloc_new V1 (.cells #[.slice (some ⟨V0.heap.size, 0, none⟩) 1 1, .slice (some ⟨lg, lo, none⟩) left.length lc] 22)
        have hb2 : Below V1.heap.size V1 (V1.alloc (.cells #[.slice (some ⟨V0.heap.size, 0, none⟩) 1 1, .slice (some ⟨lg, lo, none⟩) left.length lc] 22)) := (Below.refl _ V1).alloc (Nat.le_refl _) _
        have hS2 := hS1.below hb2
        have hn1 := (hb2.block _ (lt_of_get hn1)).trans hn1
        refine hK.out _ _ ?_ (fun hHeld => ?_)
        · exact hS2
        clear hK K
        try simp only [Act.put, List.setIfInBounds_toArray, List.set_cons_zero, List.set_cons_succ]
        generalize hV : V1.alloc (.cells #[.slice (some ⟨V0.heap.size, 0, none⟩) 1 1, .slice (some ⟨lg, lo, none⟩) left.length lc] 22) = V2 at *
        clear hV
        refine wpAnyH_ready (rs := [9]) (by kernel_rfl) (by simp) ?_
        refine (AllReadyH.cons (o := o19_19_9) rfl (fun K hK => ?_) AllReadyH.nil)
        unfold o19_19_9
        go_simp
        (with_reducible refine (join2 V1.heap.size [X0] left fl HJN.out V2 hn2 (ty_one (HX0.out.below hS2.bel) hn1 1) (HLT.out.below hS2.bel) (by simp; omega)).mono ?_)
        rintro e3 V3 ⟨aj, cj, rfl, hT3, _, hb3⟩
        dsimp only
        have hS3 := hS2.below hb3
        refine hK.out _ _ ?_ (fun hHeld => ?_)
        · exact hS3
        clear hK K
        try simp only [Act.put, List.setIfInBounds_toArray, List.set_cons_zero, List.set_cons_succ]
        refine wpAnyH_ready (rs := [11]) (by kernel_rfl) (by simp) ?_
        refine (AllReadyH.cons (o := o19_19_11) rfl (fun K hK => ?_) AllReadyH.nil)
        unfold o19_19_11
        go_simp
        have KQ := says_any a ya fl aj cj X1 ay cy V3 r (HPA.out.below hS3.bel) hT3 (HX1.out.below hS3.bel) HRR.out
        unfold vpf vty at KQ
        (with_reducible refine KQ.mono ?_)
        clear KQ
        rintro e4 V4 ⟨rfl, hb4⟩
        dsimp only
        have hS4 := hS3.below hb4
        refine hK.out _ _ ?_ (fun hHeld => ?_)
        · exact hS4
        clear hK K
        try simp only [Act.put, List.setIfInBounds_toArray, List.set_cons_zero, List.set_cons_succ]
        refine tk (v := ?_) 12 o19_19_12 (by rfl) ?_ ?_
        case refine_2 => unfold o19_19_12; intro w hSw; obtain ⟨p1, p7, u0_, u1_, u2_, v0_, v1_, v2_, s0, s1, s2, s3, s4, s5, s6, s7⟩ := HCE.out _ hSw; go_simp; (try with_reducible rfl)
        simp only [o19_19_12, Act.put, List.setIfInBounds_toArray, List.set_cons_zero, List.set_cons_succ]
        refine wpAnyH_done (by kernel_rfl) ?_ _
        go_wp2_with fail
        go_ret
        exact ⟨rfl, hS4.bel⟩
end Go.Proofs.Ytbmgkgoghgdbhaa.Te
