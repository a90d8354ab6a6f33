/- The document's RightProof, step 5. Conditions: the parts are right, no left is too long. -/
import Derived.Test.YtbmgkgoghgdbhaaRx
import Derived.Deep.CutRange
namespace Go.Proofs.Ytbmgkgoghgdbhaa.Te
open Go.RowKit

set_option maxRecDepth 100000 in
set_option maxHeartbeats 8000000 in
theorem rp_5 {e : Nat} (ih : ∀ {P : Nat → Prop} {d : Nat} (p : Pf) (x : Pl) (w : World) (r : Bool), PfAt P w d e p x → Gpf p → Lpf p → (r = true ↔ Rt p) → Calls Try.prog 19 #[vpf p x] w fun e w' => e = .returned (.bool r) ∧ Below w.heap.size w w') {P : Nat → Prop} {d : Nat} (p : Pf) (x : Pl) (w : World) (r : Bool) (h : PfAt P w d (e + 1) p x) (hg : Gpf p) (hlp : Lpf p) (hr : r = true ↔ Rt p) (hst : p.left.length ≠ 0 ∧ p.step = 5) : Calls Try.prog 19 #[vpf p x] w fun e w' => e = .returned (.bool r) ∧ Below w.heap.size w w' := by
  have hgh := hg.here
  have hgk := fun x (hx : x ∈ p.kids) => hg.kid hx
  have hlk := fun x (hx : x ∈ p.kids) => hlp.kid hx
  have hle := hlp.here
  obtain ⟨_, ⟨ib1, ib2⟩, ⟨nb1, nb2⟩, hL, hG, hk, hK⟩ := h
  obtain ⟨step, left, goal, ix, n, kids⟩ := p
  obtain ⟨la, lc, ga, gc, ka, kc⟩ := x
  dsimp only at hgh hgk hlk hle ib1 ib2 nb1 nb2 hL hG hk hK hst
  obtain ⟨hl0, rfl⟩ := hst
  have HL : Hid (LsAt P w d left la lc) := hL
  have HLT : Hid (TyAt w (d + 1) ⟨0, 0, left⟩ la lc) := hL.1.at
  have HG : Hid (TyAt w d goal ga gc) := hG.at
  have HK : Hid (KidsAt P w d e kids ka) := hK
  have HR : Hid (r = true ↔ Rt ⟨5, left, goal, ix, n, kids⟩) := hr
  have HGL : Hid (∀ t ∈ left, Gp t) := hgh.1
  have HGG : Hid (Gp goal) := hgh.2
  have HKK : Hid (∀ x ∈ kids, Gpf x ∧ Lpf x) := fun x hx => ⟨hgk x hx, hlk x hx⟩
  have IH : Hid (∀ {P : Nat → Prop} {d : Nat} (p : Pf) (x : Pl) (w : World) (r : Bool), PfAt P w d e p x → Gpf p → Lpf p → (r = true ↔ Rt p) → Calls Try.prog 19 #[vpf p x] w fun e w' => e = .returned (.bool r) ∧ Below w.heap.size w w') := ih
  clear hL hG hK hr hgh hgk hlk ih hg hlp
  unfold vpf
  dsimp only
  go_enter Try.func19, Try.ntmps19
  go_upto_region 1 with fail
  have hVb : Below w.heap.size w (w.alloc (.cells #[.int .i64 5, .slice la left.length lc, .int .i64 goal.kind, .int .i64 goal.n, .slice ga goal.kids.length gc, .int .i64 ix, .int .i64 n, .slice ka kids.length kc] 37)) := (Below.refl _ w).alloc (Nat.le_refl _) _
  have x1 := heap_alloc_new w (.cells #[.int .i64 5, .slice la left.length lc, .int .i64 goal.kind, .int .i64 goal.n, .slice ga goal.kids.length gc, .int .i64 ix, .int .i64 n, .slice ka kids.length kc] 37)
  generalize hV : w.alloc (.cells #[.int .i64 5, .slice la left.length lc, .int .i64 goal.kind, .int .i64 goal.n, .slice ga goal.kids.length gc, .int .i64 ix, .int .i64 n, .slice ka kids.length kc] 37) = V at *
  clear hV
  go_wp2
  go_loopw [3] (fun iv wr => ∃ k : Nat, iv = .int .i64 (k : Int) ∧ k ≤ kids.length ∧ Below w.heap.size w wr ∧ wr.heap[w.heap.size]? = some (.cells #[.int .i64 5, .slice la left.length lc, .int .i64 goal.kind, .int .i64 goal.n, .slice ga goal.kids.length gc, .int .i64 ix, .int .i64 n, .slice ka kids.length kc] 37 (0, 0)) ∧ (∀ j (h : j < kids.length), j < k → Rt kids[j])) (fun iv _ => kids.length - (intOf iv).toNat)
  case atStart => exact ⟨0, rfl, by omega, hVb, x1, fun _ _ h => by omega⟩
  case round =>
    clear x1 hVb
    obtain ⟨k, rfl, hkl', hB, z1, hz⟩ := hrel
    have HZ : Hid (∀ j (h : j < kids.length), j < k → Rt kids[j]) := hz
    clear hz
    have i7 := cell_of_row _ _ 7 _ _ _ z1
    by_cases hkl : k < kids.length
    · have hkl2 : (k : Int) < (kids.length : Int) := by omega
      obtain ⟨kg, ko, rfl, hkg, _, hkk⟩ : ∃ g off, ka = some ⟨g, off, none⟩ ∧ g < wr.heap.size ∧ P g ∧ ∀ j (h : j < kids.length), ∃ y, C8 wr g (off + j * 8) kids[j] y ∧ PfAt P wr d e kids[j] y := by
        rcases HK.out.below hB with h | h
        · omega
        · exact h
      obtain ⟨y, hc8, hpk⟩ := hkk k hkl
      obtain ⟨c0, c1, c2, c3, c4, c5, c6, c7⟩ := hc8
      obtain ⟨rk, hrk⟩ := fix_bool (Rt kids[k])
      have hkm := HKK.out _ (List.getElem_mem hkl)
      have K19 := IH.out kids[k] y wr rk hpk hkm.1 hkm.2 hrk
      unfold vpf at K19
      have HRK : Hid (rk = true ↔ Rt kids[k]) := hrk
      clear hrk hkm hpk hkk
      cases rk with
      | true =>
        go_wp2_with (go_at_call 19; (with_reducible refine K19.mono ?_); rintro e5 w5 ⟨rfl, hb5⟩; clear K19)
        go_roundw
        case rel =>
          refine ⟨k + 1, by go_num, by omega, hB.trans (hb5.mono hB.size), (hb5.block _ (lt_of_get z1)).trans z1, fun j h1 h2 => ?_⟩
          by_cases hjk : j < k
          · exact HZ.out j h1 hjk
          · obtain rfl : j = k := by omega
            exact HRK.out.1 (by trivial)
        case measure => simp [intOf]; omega
      | false =>
        have hrf : r = false := bool_false HR.out (fun h => by
          rw [Rt] at h
          obtain ⟨ss, _, hl, hq⟩ := h
          have := (hq k hkl (by rw [← hl]; exact hkl)).2.2
          have := HRK.out.2 this
          cases this)
        subst hrf
        go_wp2_with (go_at_call 19; (with_reducible refine K19.mono ?_); rintro e5 w5 ⟨rfl, hb5⟩; clear K19)
        go_ret
        exact ⟨rfl, hB.trans (hb5.mono hB.size)⟩
    · have hkl2 : ¬ (k : Int) < (kids.length : Int) := by omega
      have HALL : Hid (∀ x ∈ kids, Rt x) := fun x hx => by
        obtain ⟨j, hj, rfl⟩ := List.getElem_of_mem hx
        exact HZ.out j hj (by omega)
      clear HZ IH HKK
      have i0 := cell_of_row _ _ 0 _ _ _ z1
      have i1 := cell_of_row _ _ 1 _ _ _ z1
      have i2 := cell_of_row _ _ 2 _ _ _ z1
      have i3 := cell_of_row _ _ 3 _ _ _ z1
      have i4 := cell_of_row _ _ 4 _ _ _ z1
      have i5 := cell_of_row _ _ 5 _ _ _ z1
      have i6 := cell_of_row _ _ 6 _ _ _ z1
      go_upto_region 6 with fail
      clear hkl2 hkl hkl'
      have hl0' : ¬ (left.length : Int) = 0 := by omega
      have HLN : Hid (left ≠ []) := fun e => hl0 (by rw [e]; rfl)
      have hlen : (0 : Int) ≤ left.length ∧ (left.length : Int) < 900 := by omega
      obtain ⟨lg, lo, rfl, hlg⟩ := HL.out.addr (by omega)
      have hst : (5 : Int) = 4 ∨ (5 : Int) = 5 ∨ (5 : Int) = 6 := by omega
      by_cases hk2 : kids.length = 2
      rotate_left
      · have hrf : r = false := bool_false HR.out (rt_two0 hst (.inl hk2))
        have hk2' : ¬ (kids.length : Int) = 2 := by omega
        clear hst
        subst hrf
        go_wp2
        go_ret
        exact ⟨rfl, hB⟩
      by_cases hx0 : ix < 0
      · have hrf : r = false := bool_false HR.out (rt_two0 hst (.inr (.inl hx0)))
        have hk2' : (kids.length : Int) = 2 := by omega
        clear hst
        subst hrf
        go_wp2
        go_ret
        exact ⟨rfl, hB⟩
      by_cases hn1 : n < 1
      · have hrf : r = false := bool_false HR.out (rt_two0 hst (.inr (.inr (.inl hn1))))
        have hk2' : (kids.length : Int) = 2 := by omega
        clear hst
        subst hrf
        go_wp2
        go_ret
        exact ⟨rfl, hB⟩
      by_cases hx1 : (left.length : Int) < ix
      · have hrf : r = false := bool_false HR.out (rt_two0 hst (.inr (.inr (.inr (.inl hx1)))))
        have hk2' : (kids.length : Int) = 2 := by omega
        clear hst
        subst hrf
        go_wp2
        go_ret
        exact ⟨rfl, hB⟩
      by_cases hn2 : (left.length : Int) - ix < n
      · have hrf : r = false := bool_false HR.out (rt_two0 hst (.inr (.inr (.inr (.inr hn2)))))
        have hk2' : (kids.length : Int) = 2 := by omega
        clear hst
        subst hrf
        go_wp2
        go_ret
        exact ⟨rfl, hB⟩
      clear ib1 ib2 nb1 nb2 hst
      obtain ⟨i, rfl⟩ : ∃ i : Nat, ix = (i : Int) := ⟨ix.toNat, by omega⟩
      obtain ⟨m, rfl⟩ : ∃ m : Nat, n = (m : Int) := ⟨n.toNat, by omega⟩
      have hi1 : 1 ≤ m := by omega
      have hi2 : i + m ≤ left.length := by omega
      obtain ⟨a, b, ea⟩ := two_of hk2
      subst ea
      clear hk2
      obtain ⟨kg, ko, rfl, hkg, _, hkk⟩ : ∃ g off, ka = some ⟨g, off, none⟩ ∧ g < w.heap.size ∧ P g ∧ ∀ j (h : j < [a, b].length), ∃ y, C8 w g (off + j * 8) [a, b][j] y ∧ PfAt P w d e [a, b][j] y := by
        rcases HK.out with h | h
        · simp at h
        · exact h
      obtain ⟨ya, hc8, hpa⟩ := hkk 0 (by simp)
      obtain ⟨yb, hd8, hpb⟩ := hkk 1 (by simp)
      simp only [List.getElem_cons_zero, List.getElem_cons_succ, Nat.zero_mul, Nat.one_mul, Nat.add_zero] at hc8 hpa hd8 hpb
      have HPA : Hid (PfAt P w d e a ya) := hpa
      have HPB : Hid (PfAt P w d e b yb) := hpb
      obtain ⟨e', rfl⟩ := hpa.pos
      have HAG : Hid (TyAt w d a.goal ya.ga ya.gc) := hpa.2.2.2.2.1.at
      obtain ⟨c0, c1, c2, c3, c4, c5, c6, c7⟩ := hc8
      obtain ⟨d0, d1, d2, d3, d4, d5, d6, d7⟩ := hd8
      have HRA : Hid (Rt a) := HALL.out a (by simp)
      have HRB : Hid (Rt b) := HALL.out b (by simp)
      have hcap := HL.out.2
      have hcap2 : i + m ≤ lc := by omega
      clear hkk hpa hpb
      go_upto_region 22 with fail
      go_quiet (fail)
      have hBL := HL.out.tail (i + m) hi2
      have hBl : left.length - (i + m) = (left.drop (i + m)).length := by simp
      rw [hBl, show i + m - i = m by omega]
      generalize (if lc = i + m then (some ⟨lg, lo, none⟩ : Option Addr) else some ⟨lg, lo + (i + m) * 3, none⟩) = bA at *
      generalize hHD : left.drop (i + m) = H at *
      generalize lc - (i + m) = bC at *
      have HHL : Hid (LsAt P w d H bA bC) := hBL
      have HHT : Hid (TyAt w (d + 1) ⟨0, 0, H⟩ bA bC) := hBL.1.at
      have HHD : Hid (left.drop (i + m) = H) := hHD
      obtain ⟨D, hDD⟩ : ∃ D, (left.drop i).take m = D := ⟨_, rfl⟩
      have HDD : Hid ((left.drop i).take m = D) := hDD
      have HD : Hid (TyAt w (d + 1) ⟨0, 0, D⟩ (some ⟨lg, lo + i * 3, none⟩) (lc - i)) := hDD ▸ ((HL.out.drop i).take m).1.at
      have HDL : Hid (D.length = m) := by show D.length = m; rw [← hDD, List.length_take, List.length_drop]; omega
      clear hBl hBL hHD hDD i0 i1 i2 i3 i4 i5 i6 i7
      go_upto_region 23 with fail
      have hB := below_drewN hB nq
      have z1 : (wr.drewN nq).heap[w.heap.size]? = _ := z1
      generalize hV : wr.drewN nq = wq at *
      clear hV
      go_cut [10, 11] from 13 to 184 (fun s5 s6 wx => ∃ A B, s5 = .pointer (some ⟨A, 0, none⟩) ∧ s6 = .pointer (some ⟨B, 0, none⟩) ∧ S3 w (.cells #[.int .i64 5, .slice (some ⟨lg, lo, none⟩) left.length lc, .int .i64 goal.kind, .int .i64 goal.n, .slice ga goal.kids.length gc, .int .i64 i, .int .i64 m, .slice (some ⟨kg, ko, none⟩) [a, b].length kc] 37 (0, 0)) A B a.goal ya.ga ya.gc a.goal ya.ga ya.gc wx)
      case first =>
        have HCE : Hid _ := fun (W : World) (hSw : Below w.heap.size w W ∧ W.heap[w.heap.size]? = some (.cells #[.int .i64 5, .slice (some ⟨lg, lo, none⟩) left.length lc, .int .i64 goal.kind, .int .i64 goal.n, .slice ga goal.kids.length gc, .int .i64 i, .int .i64 m, .slice (some ⟨kg, ko, none⟩) [a, b].length kc] 37 (0, 0))) => (And.intro (cell_of_row _ _ 7 _ _ _ hSw.2) (And.intro ((hSw.1.cell (p := ⟨kg, _, none⟩) hkg).trans c0) (And.intro ((hSw.1.cell (p := ⟨kg, _, none⟩) hkg).trans c1) (And.intro ((hSw.1.cell (p := ⟨kg, _, none⟩) hkg).trans c2) (And.intro ((hSw.1.cell (p := ⟨kg, _, none⟩) hkg).trans c3) (And.intro ((hSw.1.cell (p := ⟨kg, _, none⟩) hkg).trans c4) (And.intro ((hSw.1.cell (p := ⟨kg, _, none⟩) hkg).trans c5) (And.intro ((hSw.1.cell (p := ⟨kg, _, none⟩) hkg).trans c6) ((hSw.1.cell (p := ⟨kg, _, none⟩) hkg).trans c7)))))))))
        refine wp_region_held_drew (S := fun W => Below w.heap.size w W ∧ W.heap[w.heap.size]? = some (.cells #[.int .i64 5, .slice (some ⟨lg, lo, none⟩) left.length lc, .int .i64 goal.kind, .int .i64 goal.n, .slice ga goal.kids.length gc, .int .i64 i, .int .i64 m, .slice (some ⟨kg, ko, none⟩) [a, b].length kc] 37 (0, 0))) (by kernel_rfl) (by exact ⟨below_drewN hB 1, z1⟩) (fun hHeld => ?_)
        have hS0 := hHeld
        generalize hV : wq.drew = V0 at *
        clear hV
        refine tk (v := ?_) 0 o19_23_0 (by rfl) ?_ ?_
        case refine_2 => unfold o19_23_0; intro w hSw; obtain ⟨p7, q0, q1, q2, q3, q4, q5, q6, q7⟩ := HCE.out _ hSw; go_simp; (try with_reducible rfl)
        simp only [o19_23_0, Act.put, List.setIfInBounds_toArray, List.set_cons_zero, List.set_cons_succ]
        refine tk (v := ?_) 1 o19_23_1 (by rfl) ?_ ?_
        case refine_2 => unfold o19_23_1; intro w hSw; obtain ⟨p7, q0, q1, q2, q3, q4, q5, q6, q7⟩ := HCE.out _ hSw; go_simp; (try with_reducible rfl)
        simp only [o19_23_1, Act.put, List.setIfInBounds_toArray, List.set_cons_zero, List.set_cons_succ]
        refine tk (v := ?_) 2 o19_23_2 (by rfl) ?_ ?_
        case refine_2 => unfold o19_23_2; intro w hSw; obtain ⟨p7, q0, q1, q2, q3, q4, q5, q6, q7⟩ := HCE.out _ hSw; go_simp; (try with_reducible rfl)
        simp only [o19_23_2, Act.put, List.setIfInBounds_toArray, List.set_cons_zero, List.set_cons_succ]
        refine tk (v := ?_) 3 o19_23_3 (by rfl) ?_ ?_
        case refine_2 => unfold o19_23_3; intro w hSw; obtain ⟨p7, q0, q1, q2, q3, q4, q5, q6, q7⟩ := HCE.out _ hSw; go_simp; (try with_reducible rfl)
        simp only [o19_23_3, Act.put, List.setIfInBounds_toArray, List.set_cons_zero, List.set_cons_succ]
        refine tk (v := ?_) 4 o19_23_4 (by rfl) ?_ ?_
        case refine_2 => unfold o19_23_4; intro w hSw; obtain ⟨p7, q0, q1, q2, q3, q4, q5, q6, q7⟩ := HCE.out _ hSw; go_simp; (try with_reducible rfl)
        simp only [o19_23_4, Act.put, List.setIfInBounds_toArray, List.set_cons_zero, List.set_cons_succ]
        refine tk (v := ?_) 5 o19_23_5 (by rfl) ?_ ?_
        case refine_2 => unfold o19_23_5; intro w hSw; obtain ⟨p7, q0, q1, q2, q3, q4, q5, q6, q7⟩ := HCE.out _ hSw; go_simp; (try with_reducible rfl)
        simp only [o19_23_5, Act.put, List.setIfInBounds_toArray, List.set_cons_zero, List.set_cons_succ]
        refine tk (v := ?_) 6 o19_23_6 (by rfl) ?_ ?_
        case refine_2 => unfold o19_23_6; intro w hSw; obtain ⟨p7, q0, q1, q2, q3, q4, q5, q6, q7⟩ := HCE.out _ hSw; go_simp; (try with_reducible rfl)
        simp only [o19_23_6, Act.put, List.setIfInBounds_toArray, List.set_cons_zero, List.set_cons_succ]
        refine tk (v := ?_) 7 o19_23_7 (by rfl) ?_ ?_
        case refine_2 => unfold o19_23_7; intro w hSw; obtain ⟨p7, q0, q1, q2, q3, q4, q5, q6, q7⟩ := HCE.out _ hSw; go_simp; (try with_reducible rfl)
        simp only [o19_23_7, Act.put, List.setIfInBounds_toArray, List.set_cons_zero, List.set_cons_succ]
        refine tk (v := ?_) 8 o19_23_8 (by rfl) ?_ ?_
        case refine_2 => unfold o19_23_8; intro w hSw; obtain ⟨p7, q0, q1, q2, q3, q4, q5, q6, q7⟩ := HCE.out _ hSw; go_simp; (try with_reducible rfl)
        simp only [o19_23_8, Act.put, List.setIfInBounds_toArray, List.set_cons_zero, List.set_cons_succ]
        refine tk (v := ?_) 9 o19_23_9 (by rfl) ?_ ?_
        case refine_2 => unfold o19_23_9; intro w hSw; obtain ⟨p7, q0, q1, q2, q3, q4, q5, q6, q7⟩ := HCE.out _ hSw; go_simp; (try with_reducible rfl)
        simp only [o19_23_9, Act.put, List.setIfInBounds_toArray, List.set_cons_zero, List.set_cons_succ]
        refine wpAnyH_ready (rs := [10, 11]) (by kernel_rfl) (by simp) ?_
        refine (AllReadyH.cons (o := o19_23_10) rfl (fun K hK => ?_) (AllReadyH.cons (o := o19_23_11) rfl (fun K hK => ?_) AllReadyH.nil))
        · skip
          unfold o19_23_10
          go_simp
          have hn10 := heap_alloc_new V0 (.cells #[.int .i64 0, .int .i64 0, .slice none 0 0] 24)
          have hbn10 : Below V0.heap.size V0 (V0.alloc (.cells #[.int .i64 0, .int .i64 0, .slice none 0 0] 24)) := (Below.refl _ V0).alloc (Nat.le_refl _) _
          have hS1 : Below w.heap.size w (V0.alloc (.cells #[.int .i64 0, .int .i64 0, .slice none 0 0] 24)) ∧ (V0.alloc (.cells #[.int .i64 0, .int .i64 0, .slice none 0 0] 24)).heap[w.heap.size]? = some (.cells #[.int .i64 5, .slice (some ⟨lg, lo, none⟩) left.length lc, .int .i64 goal.kind, .int .i64 goal.n, .slice ga goal.kids.length gc, .int .i64 i, .int .i64 m, .slice (some ⟨kg, ko, none⟩) [a, b].length kc] 37 (0, 0)) := ⟨hS0.1.trans (hbn10.mono hS0.1.size), (hbn10.block _ (lt_of_get hS0.2)).trans hS0.2⟩
          have hlt0 := lt_of_get hS0.2
          refine hK.out _ _ ?_ (fun hHeld => ?_)
          · first | exact hS1 | exact hS2 | exact hS3 | exact hS4
          clear hK K
          try simp only [Act.put, List.setIfInBounds_toArray, List.set_cons_zero, List.set_cons_succ]
          generalize hV : V0.alloc (.cells #[.int .i64 0, .int .i64 0, .slice none 0 0] 24) = V1 at *
          clear hV
          refine wpAnyH_ready (rs := [11]) (by kernel_rfl) (by simp) ?_
          refine (AllReadyH.cons (o := o19_23_11) rfl (fun K hK => ?_) AllReadyH.nil)
          unfold o19_23_11
          go_simp
          have hn11 := heap_alloc_new V1 (.cells #[.int .i64 0, .int .i64 0, .slice none 0 0] 24)
          have hbn11 : Below V1.heap.size V1 (V1.alloc (.cells #[.int .i64 0, .int .i64 0, .slice none 0 0] 24)) := (Below.refl _ V1).alloc (Nat.le_refl _) _
          have hS2 : Below w.heap.size w (V1.alloc (.cells #[.int .i64 0, .int .i64 0, .slice none 0 0] 24)) ∧ (V1.alloc (.cells #[.int .i64 0, .int .i64 0, .slice none 0 0] 24)).heap[w.heap.size]? = some (.cells #[.int .i64 5, .slice (some ⟨lg, lo, none⟩) left.length lc, .int .i64 goal.kind, .int .i64 goal.n, .slice ga goal.kids.length gc, .int .i64 i, .int .i64 m, .slice (some ⟨kg, ko, none⟩) [a, b].length kc] 37 (0, 0)) := ⟨hS1.1.trans (hbn11.mono hS1.1.size), (hbn11.block _ (lt_of_get hS1.2)).trans hS1.2⟩
          have hlt1 := lt_of_get hS1.2
          have hltb := lt_of_get hn10
          have hn10 := (hbn11.block _ (lt_of_get hn10)).trans hn10
          refine hK.out _ _ ?_ (fun hHeld => ?_)
          · first | exact hS1 | exact hS2 | exact hS3 | exact hS4
          clear hK K
          try simp only [Act.put, List.setIfInBounds_toArray, List.set_cons_zero, List.set_cons_succ]
          generalize hV : V1.alloc (.cells #[.int .i64 0, .int .i64 0, .slice none 0 0] 24) = V2 at *
          clear hV
          refine wpAnyH_ready (rs := [12]) (by kernel_rfl) (by simp) ?_
          refine (AllReadyH.cons (o := o19_23_12) rfl (fun K hK => ?_) AllReadyH.nil)
          unfold o19_23_12
          have m0 := cell_of_row _ _ 0 _ _ _ hn10
          have f0 := frozen_of_row _ _ 0 _ 24 hn10
          have m1 := cell_of_row _ _ 1 _ _ _ hn10
          have f1 := frozen_of_row _ _ 1 _ 24 hn10
          have m2 := cell_of_row _ _ 2 _ _ _ hn10
          have f2 := frozen_of_row _ _ 2 _ 24 hn10
          go_simp
          have k12 := ko3 V2 V0.heap.size (.int .i64 a.goal.kind) (.int .i64 a.goal.n) (.slice ya.ga a.goal.kids.length ya.gc)
          have hl12 := laid_box hn10 a.goal.kind a.goal.n ya.ga a.goal.kids.length ya.gc
          have hS3 := And.intro (((hS2.1.setCell (p := ⟨V0.heap.size, 0, none⟩) (by show w.heap.size ≤ V0.heap.size; omega) (.int .i64 a.goal.kind)).setCell (p := ⟨V0.heap.size, 1, none⟩) (by show w.heap.size ≤ V0.heap.size; omega) (.int .i64 a.goal.n)).setCell (p := ⟨V0.heap.size, 2, none⟩) (by show w.heap.size ≤ V0.heap.size; omega) (.slice ya.ga a.goal.kids.length ya.gc)) ((k12 w.heap.size (by omega)).trans hS2.2)
          have hn11 := (k12 V1.heap.size (by omega)).trans hn11
          refine hK.out _ _ ?_ (fun hHeld => ?_)
          · first | exact hS1 | exact hS2 | exact hS3 | exact hS4
          clear hK K
          try simp only [Act.put, List.setIfInBounds_toArray, List.set_cons_zero, List.set_cons_succ]
          clear m0 m1 m2 f0 f1 f2
          generalize hV : ((V2.setCell ⟨V0.heap.size, 0, none⟩ (.int .i64 a.goal.kind)).setCell ⟨V0.heap.size, 1, none⟩ (.int .i64 a.goal.n)).setCell ⟨V0.heap.size, 2, none⟩ (.slice ya.ga a.goal.kids.length ya.gc) = V3 at *
          clear hV
          refine wpAnyH_ready (rs := [13]) (by kernel_rfl) (by simp) ?_
          refine (AllReadyH.cons (o := o19_23_13) rfl (fun K hK => ?_) AllReadyH.nil)
          unfold o19_23_13
          have m0 := cell_of_row _ _ 0 _ _ _ hn11
          have f0 := frozen_of_row _ _ 0 _ 24 hn11
          have m1 := cell_of_row _ _ 1 _ _ _ hn11
          have f1 := frozen_of_row _ _ 1 _ 24 hn11
          have m2 := cell_of_row _ _ 2 _ _ _ hn11
          have f2 := frozen_of_row _ _ 2 _ 24 hn11
          go_simp
          have k13 := ko3 V3 V1.heap.size (.int .i64 a.goal.kind) (.int .i64 a.goal.n) (.slice ya.ga a.goal.kids.length ya.gc)
          have hl13 := laid_box hn11 a.goal.kind a.goal.n ya.ga a.goal.kids.length ya.gc
          have hS4 := And.intro (((hS3.1.setCell (p := ⟨V1.heap.size, 0, none⟩) (by show w.heap.size ≤ V1.heap.size; omega) (.int .i64 a.goal.kind)).setCell (p := ⟨V1.heap.size, 1, none⟩) (by show w.heap.size ≤ V1.heap.size; omega) (.int .i64 a.goal.n)).setCell (p := ⟨V1.heap.size, 2, none⟩) (by show w.heap.size ≤ V1.heap.size; omega) (.slice ya.ga a.goal.kids.length ya.gc)) ((k13 w.heap.size (by omega)).trans hS3.2)
          have hl12 := (k13 V0.heap.size (by omega)).trans hl12
          refine hK.out _ _ ?_ (fun hHeld => ?_)
          · first | exact hS1 | exact hS2 | exact hS3 | exact hS4
          clear hK K
          try simp only [Act.put, List.setIfInBounds_toArray, List.set_cons_zero, List.set_cons_succ]
          clear m0 m1 m2 f0 f1 f2
          generalize hV : ((V3.setCell ⟨V1.heap.size, 0, none⟩ (.int .i64 a.goal.kind)).setCell ⟨V1.heap.size, 1, none⟩ (.int .i64 a.goal.n)).setCell ⟨V1.heap.size, 2, none⟩ (.slice ya.ga a.goal.kids.length ya.gc) = V4 at *
          clear hV
          refine wpAnyH_done (by kernel_rfl) ?_ _
          go_wp2_with fail
          go_meet
          case rel => exact ⟨V0.heap.size, V1.heap.size, rfl, rfl, ⟨hS4.1, hS4.2, by omega, by omega, by omega, hl12, hl13⟩⟩
        · skip
          unfold o19_23_11
          go_simp
          have hn11 := heap_alloc_new V0 (.cells #[.int .i64 0, .int .i64 0, .slice none 0 0] 24)
          have hbn11 : Below V0.heap.size V0 (V0.alloc (.cells #[.int .i64 0, .int .i64 0, .slice none 0 0] 24)) := (Below.refl _ V0).alloc (Nat.le_refl _) _
          have hS1 : Below w.heap.size w (V0.alloc (.cells #[.int .i64 0, .int .i64 0, .slice none 0 0] 24)) ∧ (V0.alloc (.cells #[.int .i64 0, .int .i64 0, .slice none 0 0] 24)).heap[w.heap.size]? = some (.cells #[.int .i64 5, .slice (some ⟨lg, lo, none⟩) left.length lc, .int .i64 goal.kind, .int .i64 goal.n, .slice ga goal.kids.length gc, .int .i64 i, .int .i64 m, .slice (some ⟨kg, ko, none⟩) [a, b].length kc] 37 (0, 0)) := ⟨hS0.1.trans (hbn11.mono hS0.1.size), (hbn11.block _ (lt_of_get hS0.2)).trans hS0.2⟩
          have hlt0 := lt_of_get hS0.2
          refine hK.out _ _ ?_ (fun hHeld => ?_)
          · first | exact hS1 | exact hS2 | exact hS3 | exact hS4
          clear hK K
          try simp only [Act.put, List.setIfInBounds_toArray, List.set_cons_zero, List.set_cons_succ]
          generalize hV : V0.alloc (.cells #[.int .i64 0, .int .i64 0, .slice none 0 0] 24) = V1 at *
          clear hV
          refine wpAnyH_ready (rs := [10]) (by kernel_rfl) (by simp) ?_
          refine (AllReadyH.cons (o := o19_23_10) rfl (fun K hK => ?_) AllReadyH.nil)
          unfold o19_23_10
          go_simp
          have hn10 := heap_alloc_new V1 (.cells #[.int .i64 0, .int .i64 0, .slice none 0 0] 24)
          have hbn10 : Below V1.heap.size V1 (V1.alloc (.cells #[.int .i64 0, .int .i64 0, .slice none 0 0] 24)) := (Below.refl _ V1).alloc (Nat.le_refl _) _
          have hS2 : Below w.heap.size w (V1.alloc (.cells #[.int .i64 0, .int .i64 0, .slice none 0 0] 24)) ∧ (V1.alloc (.cells #[.int .i64 0, .int .i64 0, .slice none 0 0] 24)).heap[w.heap.size]? = some (.cells #[.int .i64 5, .slice (some ⟨lg, lo, none⟩) left.length lc, .int .i64 goal.kind, .int .i64 goal.n, .slice ga goal.kids.length gc, .int .i64 i, .int .i64 m, .slice (some ⟨kg, ko, none⟩) [a, b].length kc] 37 (0, 0)) := ⟨hS1.1.trans (hbn10.mono hS1.1.size), (hbn10.block _ (lt_of_get hS1.2)).trans hS1.2⟩
          have hlt1 := lt_of_get hS1.2
          have hltb := lt_of_get hn11
          have hn11 := (hbn10.block _ (lt_of_get hn11)).trans hn11
          refine hK.out _ _ ?_ (fun hHeld => ?_)
          · first | exact hS1 | exact hS2 | exact hS3 | exact hS4
          clear hK K
          try simp only [Act.put, List.setIfInBounds_toArray, List.set_cons_zero, List.set_cons_succ]
          generalize hV : V1.alloc (.cells #[.int .i64 0, .int .i64 0, .slice none 0 0] 24) = V2 at *
          clear hV
          refine wpAnyH_ready (rs := [12]) (by kernel_rfl) (by simp) ?_
          refine (AllReadyH.cons (o := o19_23_12) rfl (fun K hK => ?_) AllReadyH.nil)
          unfold o19_23_12
          have m0 := cell_of_row _ _ 0 _ _ _ hn10
          have f0 := frozen_of_row _ _ 0 _ 24 hn10
          have m1 := cell_of_row _ _ 1 _ _ _ hn10
          have f1 := frozen_of_row _ _ 1 _ 24 hn10
          have m2 := cell_of_row _ _ 2 _ _ _ hn10
          have f2 := frozen_of_row _ _ 2 _ 24 hn10
          go_simp
          have k12 := ko3 V2 V1.heap.size (.int .i64 a.goal.kind) (.int .i64 a.goal.n) (.slice ya.ga a.goal.kids.length ya.gc)
          have hl12 := laid_box hn10 a.goal.kind a.goal.n ya.ga a.goal.kids.length ya.gc
          have hS3 := And.intro (((hS2.1.setCell (p := ⟨V1.heap.size, 0, none⟩) (by show w.heap.size ≤ V1.heap.size; omega) (.int .i64 a.goal.kind)).setCell (p := ⟨V1.heap.size, 1, none⟩) (by show w.heap.size ≤ V1.heap.size; omega) (.int .i64 a.goal.n)).setCell (p := ⟨V1.heap.size, 2, none⟩) (by show w.heap.size ≤ V1.heap.size; omega) (.slice ya.ga a.goal.kids.length ya.gc)) ((k12 w.heap.size (by omega)).trans hS2.2)
          have hn11 := (k12 V0.heap.size (by omega)).trans hn11
          refine hK.out _ _ ?_ (fun hHeld => ?_)
          · first | exact hS1 | exact hS2 | exact hS3 | exact hS4
          clear hK K
          try simp only [Act.put, List.setIfInBounds_toArray, List.set_cons_zero, List.set_cons_succ]
          clear m0 m1 m2 f0 f1 f2
          generalize hV : ((V2.setCell ⟨V1.heap.size, 0, none⟩ (.int .i64 a.goal.kind)).setCell ⟨V1.heap.size, 1, none⟩ (.int .i64 a.goal.n)).setCell ⟨V1.heap.size, 2, none⟩ (.slice ya.ga a.goal.kids.length ya.gc) = V3 at *
          clear hV
          refine wpAnyH_ready (rs := [13]) (by kernel_rfl) (by simp) ?_
          refine (AllReadyH.cons (o := o19_23_13) rfl (fun K hK => ?_) AllReadyH.nil)
          unfold o19_23_13
          have m0 := cell_of_row _ _ 0 _ _ _ hn11
          have f0 := frozen_of_row _ _ 0 _ 24 hn11
          have m1 := cell_of_row _ _ 1 _ _ _ hn11
          have f1 := frozen_of_row _ _ 1 _ 24 hn11
          have m2 := cell_of_row _ _ 2 _ _ _ hn11
          have f2 := frozen_of_row _ _ 2 _ 24 hn11
          go_simp
          have k13 := ko3 V3 V0.heap.size (.int .i64 a.goal.kind) (.int .i64 a.goal.n) (.slice ya.ga a.goal.kids.length ya.gc)
          have hl13 := laid_box hn11 a.goal.kind a.goal.n ya.ga a.goal.kids.length ya.gc
          have hS4 := And.intro (((hS3.1.setCell (p := ⟨V0.heap.size, 0, none⟩) (by show w.heap.size ≤ V0.heap.size; omega) (.int .i64 a.goal.kind)).setCell (p := ⟨V0.heap.size, 1, none⟩) (by show w.heap.size ≤ V0.heap.size; omega) (.int .i64 a.goal.n)).setCell (p := ⟨V0.heap.size, 2, none⟩) (by show w.heap.size ≤ V0.heap.size; omega) (.slice ya.ga a.goal.kids.length ya.gc)) ((k13 w.heap.size (by omega)).trans hS3.2)
          have hl12 := (k13 V1.heap.size (by omega)).trans hl12
          refine hK.out _ _ ?_ (fun hHeld => ?_)
          · first | exact hS1 | exact hS2 | exact hS3 | exact hS4
          clear hK K
          try simp only [Act.put, List.setIfInBounds_toArray, List.set_cons_zero, List.set_cons_succ]
          clear m0 m1 m2 f0 f1 f2
          generalize hV : ((V3.setCell ⟨V0.heap.size, 0, none⟩ (.int .i64 a.goal.kind)).setCell ⟨V0.heap.size, 1, none⟩ (.int .i64 a.goal.n)).setCell ⟨V0.heap.size, 2, none⟩ (.slice ya.ga a.goal.kids.length ya.gc) = V4 at *
          clear hV
          refine wpAnyH_done (by kernel_rfl) ?_ _
          go_wp2_with fail
          go_meet
          case rel => exact ⟨V1.heap.size, V0.heap.size, rfl, rfl, ⟨hS4.1, hS4.2, by omega, by omega, by omega, hl12, hl13⟩⟩
      case rest =>
        obtain ⟨A, B, rfl, rfl, hS⟩ := hcut
        clear z1 hB
        have i0 := cell_of_row _ _ 0 _ _ _ hS.box
        cases H with
        | nil =>
          have hrf : r = false := bool_false HR.out (rt_bef2 (.inr (.inl rfl)) (bef2_50 hi1 hi2 HHD.out))
          subst hrf
          go_wp2
          go_ret
          exact ⟨rfl, hS.bel⟩
        | cons f H =>
          have HLL := HHL.out
          obtain ⟨bg, bo, rfl, hbg⟩ := HLL.addr (by simp)
          obtain ⟨af, fc, _, e0, e1, e2, hT⟩ := HLL.at (j := 0) (by simp)
          simp only [List.getElem_cons_zero, Nat.zero_mul, Nat.add_zero] at e0 e1 e2 hT
          have hbc := HLL.2
          rw [List.length_cons] at hbc
          have hTL := HLL.tail 1 (by simp)
          rw [show (f :: H).drop 1 = H from rfl] at hTL
          have HTL : Hid (LsAt P w d H (if bC = 1 then some ⟨bg, bo, none⟩ else some ⟨bg, bo + 1 * 3, none⟩) (bC - 1)) := hTL
          have hGp := HGL.out f (List.mem_of_mem_drop (by rw [HHD.out]; simp))
          have hHl0 : ¬ ((f :: H).length : Int) = 0 := by simp; omega
          have hH1 : (1 : Int) ≤ (H.length : Int) + 1 := by omega
          clear HLL hTL HHT
          have e0w := (hS.bel.cell (p := ⟨bg, _, none⟩) hbg).trans e0
          by_cases hk2 : f.kind = 3
          rotate_left
          · have hrf : r = false := bool_false HR.out (rt_bef2 (.inr (.inl rfl)) (bef2_5n hi1 hi2 HHD.out hk2))
            have hk2b : (f.kind != 3) = true := bne_iff_ne.2 hk2
            clear hT hGp
            subst hrf
            go_wp2
            go_ret
            exact ⟨rfl, hS.bel⟩
          obtain ⟨y, x, hxy⟩ : ∃ y x, f = un y x := by
            rcases gp_cases hGp with ⟨_, h, _⟩ | ⟨_, _, h, _⟩ | ⟨y, x, h, _⟩
            · rw [h] at hk2; simp [bs] at hk2
            · rw [h] at hk2; simp [ov] at hk2
            · exact ⟨y, x, h⟩
          have hfl0 : 0 < f.kids.length := by rw [hxy]; simp [un]
          have hfl1 : 1 < f.kids.length := by rw [hxy]; simp [un]
          have hfl0' : (0 : Int) < (f.kids.length : Int) := by omega
          have hfl1' : (1 : Int) < (f.kids.length : Int) := by omega
          have HBE0 : Hid (bef ⟨5, left, goal, i, m, [a, b]⟩ = some [((left.drop i).take m, y), (left.take i ++ [x] ++ H, goal)]) := by
            show bef _ = _
            rw [bef_two (.inr (.inl rfl)), bef2_5 hi1 hi2 HHD.out hk2, hxy, isT_un, waT_un]
          have hT := hT.at
          rw [hxy] at hT
          obtain ⟨d', rfl⟩ := hT.pos
          obtain ⟨fg, fo, ay, cy, rfl, hfg, y0, y1, y2, hy⟩ := hT.kid (j := 0) (by simp [un])
          obtain ⟨fg2, fo2, ax, cx, ef, hfg2, y3, y4, y5, hx⟩ := hT.kid (j := 1) (by simp [un])
          simp only [Option.some.injEq, Addr.mk.injEq, and_true] at ef
          obtain ⟨rfl, rfl⟩ := ef
          simp only [un, List.getElem_cons_zero, List.getElem_cons_succ, Nat.zero_mul, Nat.add_zero, Nat.one_mul] at y0 y1 y2 y3 y4 y5 hx hy
          have HX : Hid (TyAt w d' x ax cx) := hx
          have HY : Hid (TyAt w d' y ay cy) := hy
          have HGT0 : Hid (TyAt w (d' + 1 + 1) ⟨0, 0, left.take i⟩ (some ⟨lg, lo, none⟩) lc) := (HL.out.take i).1.at
          have HGN0 : Hid ((left.take i).length = i) := by show (left.take i).length = i; rw [List.length_take]; omega
          have HLE0 : Hid ((left.take i).length + 1 + H.length ≤ 1000) := by
            have := congrArg List.length HHD.out
            rw [List.length_drop, List.length_cons] at this
            show (left.take i).length + 1 + H.length ≤ 1000
            rw [List.length_take]; omega
          obtain ⟨G, hG_⟩ : ∃ G, left.take i = G := ⟨_, rfl⟩
          have HGT : Hid (TyAt w (d' + 1 + 1) ⟨0, 0, G⟩ (some ⟨lg, lo, none⟩) lc) := hG_ ▸ HGT0.out
          have HGN : Hid (G.length = i) := hG_ ▸ HGN0.out
          have HLE : Hid (G.length + 1 + H.length ≤ 1000) := by have := HLE0.out; rw [hG_] at this; exact this
          have HBE : Hid (bef ⟨5, left, goal, i, m, [a, b]⟩ = some [(D, y), (G ++ [x] ++ H, goal)]) := by have := HBE0.out; rw [hG_, HDD.out] at this; exact this
          clear hG_ HGT0 HGN0 HLE0 HBE0 hx hy hfg2 hT hGp hxy HHD HHL
          go_upto_region 32 with fail
          clear i0 e0w hk2
          have hSD := hS.below (below_drewN (Below.refl _ _) 1)
          rcases Nat.lt_or_ge 1 bC with hb1 | hb1
          · have hne : ¬ bC = 1 := by omega
            have HHT : Hid (TyAt w (d' + 1 + 1) ⟨0, 0, H⟩ (some ⟨bg, bo + 3, none⟩) (bC - 1)) := by have := HTL.out.1.at; rw [if_neg hne, Nat.one_mul] at this; exact this
            clear HTL
            refine wp_region_held_drew (S := fun W => (∃ u au cu v av cv, S3 w (.cells #[.int .i64 5, .slice (some ⟨lg, lo, none⟩) left.length lc, .int .i64 goal.kind, .int .i64 goal.n, .slice ga goal.kids.length gc, .int .i64 i, .int .i64 m, .slice (some ⟨kg, ko, none⟩) [a, b].length kc] 37 (0, 0)) A B u au cu v av cv W)) (by kernel_rfl) (by exact ⟨_, _, _, _, _, _, hSD⟩) (fun hHeld => ?_)
            have hS0 : S3 w (.cells #[.int .i64 5, .slice (some ⟨lg, lo, none⟩) left.length lc, .int .i64 goal.kind, .int .i64 goal.n, .slice ga goal.kids.length gc, .int .i64 i, .int .i64 m, .slice (some ⟨kg, ko, none⟩) [a, b].length kc] 37 (0, 0)) A B a.goal ya.ga ya.gc a.goal ya.ga ya.gc wc.drew := hSD
            have hltA := hS0.ha
            have hltB := hS0.hb
            generalize hV : wc.drew = V0 at *
            clear hV
            refine tk (v := ?_) 0 o19_32_0 (by rfl) ?_ ?_
            case refine_2 => unfold o19_32_0; intro w hSw; (try dsimp only at hSw); obtain ⟨_, _, _, _, _, _, hS_⟩ := hSw; have g0 := (hS_.bel.cell (p := ⟨bg, _, none⟩) hbg).trans e0; have g1 := (hS_.bel.cell (p := ⟨bg, _, none⟩) hbg).trans e1; have g2 := (hS_.bel.cell (p := ⟨bg, _, none⟩) hbg).trans e2; have q0 := (hS_.bel.cell (p := ⟨fg, _, none⟩) hfg).trans y0; have q1 := (hS_.bel.cell (p := ⟨fg, _, none⟩) hfg).trans y1; have q2 := (hS_.bel.cell (p := ⟨fg, _, none⟩) hfg).trans y2; have q3 := (hS_.bel.cell (p := ⟨fg, _, none⟩) hfg).trans y3; have q4 := (hS_.bel.cell (p := ⟨fg, _, none⟩) hfg).trans y4; have q5 := (hS_.bel.cell (p := ⟨fg, _, none⟩) hfg).trans y5; go_simp; (try with_reducible rfl)
            simp only [o19_32_0, Act.put, List.setIfInBounds_toArray, List.set_cons_zero, List.set_cons_succ]
            refine tk (v := ?_) 1 o19_32_1 (by rfl) ?_ ?_
            case refine_2 => unfold o19_32_1; intro w hSw; (try dsimp only at hSw); obtain ⟨_, _, _, _, _, _, hS_⟩ := hSw; have g0 := (hS_.bel.cell (p := ⟨bg, _, none⟩) hbg).trans e0; have g1 := (hS_.bel.cell (p := ⟨bg, _, none⟩) hbg).trans e1; have g2 := (hS_.bel.cell (p := ⟨bg, _, none⟩) hbg).trans e2; have q0 := (hS_.bel.cell (p := ⟨fg, _, none⟩) hfg).trans y0; have q1 := (hS_.bel.cell (p := ⟨fg, _, none⟩) hfg).trans y1; have q2 := (hS_.bel.cell (p := ⟨fg, _, none⟩) hfg).trans y2; have q3 := (hS_.bel.cell (p := ⟨fg, _, none⟩) hfg).trans y3; have q4 := (hS_.bel.cell (p := ⟨fg, _, none⟩) hfg).trans y4; have q5 := (hS_.bel.cell (p := ⟨fg, _, none⟩) hfg).trans y5; go_simp; (try with_reducible rfl)
            simp only [o19_32_1, Act.put, List.setIfInBounds_toArray, List.set_cons_zero, List.set_cons_succ]
            refine tk (v := ?_) 2 o19_32_2 (by rfl) ?_ ?_
            case refine_2 => unfold o19_32_2; intro w hSw; (try dsimp only at hSw); obtain ⟨_, _, _, _, _, _, hS_⟩ := hSw; have g0 := (hS_.bel.cell (p := ⟨bg, _, none⟩) hbg).trans e0; have g1 := (hS_.bel.cell (p := ⟨bg, _, none⟩) hbg).trans e1; have g2 := (hS_.bel.cell (p := ⟨bg, _, none⟩) hbg).trans e2; have q0 := (hS_.bel.cell (p := ⟨fg, _, none⟩) hfg).trans y0; have q1 := (hS_.bel.cell (p := ⟨fg, _, none⟩) hfg).trans y1; have q2 := (hS_.bel.cell (p := ⟨fg, _, none⟩) hfg).trans y2; have q3 := (hS_.bel.cell (p := ⟨fg, _, none⟩) hfg).trans y3; have q4 := (hS_.bel.cell (p := ⟨fg, _, none⟩) hfg).trans y4; have q5 := (hS_.bel.cell (p := ⟨fg, _, none⟩) hfg).trans y5; go_simp; (try with_reducible rfl)
            simp only [o19_32_2, Act.put, List.setIfInBounds_toArray, List.set_cons_zero, List.set_cons_succ]
            refine tk (v := ?_) 3 o19_32_3 (by rfl) ?_ ?_
            case refine_2 => unfold o19_32_3; intro w hSw; (try dsimp only at hSw); obtain ⟨_, _, _, _, _, _, hS_⟩ := hSw; have g0 := (hS_.bel.cell (p := ⟨bg, _, none⟩) hbg).trans e0; have g1 := (hS_.bel.cell (p := ⟨bg, _, none⟩) hbg).trans e1; have g2 := (hS_.bel.cell (p := ⟨bg, _, none⟩) hbg).trans e2; have q0 := (hS_.bel.cell (p := ⟨fg, _, none⟩) hfg).trans y0; have q1 := (hS_.bel.cell (p := ⟨fg, _, none⟩) hfg).trans y1; have q2 := (hS_.bel.cell (p := ⟨fg, _, none⟩) hfg).trans y2; have q3 := (hS_.bel.cell (p := ⟨fg, _, none⟩) hfg).trans y3; have q4 := (hS_.bel.cell (p := ⟨fg, _, none⟩) hfg).trans y4; have q5 := (hS_.bel.cell (p := ⟨fg, _, none⟩) hfg).trans y5; go_simp; (try with_reducible rfl)
            simp only [o19_32_3, Act.put, List.setIfInBounds_toArray, List.set_cons_zero, List.set_cons_succ]
            refine tk (v := ?_) 4 o19_32_4 (by rfl) ?_ ?_
            case refine_2 => unfold o19_32_4; intro w hSw; (try dsimp only at hSw); obtain ⟨_, _, _, _, _, _, hS_⟩ := hSw; have g0 := (hS_.bel.cell (p := ⟨bg, _, none⟩) hbg).trans e0; have g1 := (hS_.bel.cell (p := ⟨bg, _, none⟩) hbg).trans e1; have g2 := (hS_.bel.cell (p := ⟨bg, _, none⟩) hbg).trans e2; have q0 := (hS_.bel.cell (p := ⟨fg, _, none⟩) hfg).trans y0; have q1 := (hS_.bel.cell (p := ⟨fg, _, none⟩) hfg).trans y1; have q2 := (hS_.bel.cell (p := ⟨fg, _, none⟩) hfg).trans y2; have q3 := (hS_.bel.cell (p := ⟨fg, _, none⟩) hfg).trans y3; have q4 := (hS_.bel.cell (p := ⟨fg, _, none⟩) hfg).trans y4; have q5 := (hS_.bel.cell (p := ⟨fg, _, none⟩) hfg).trans y5; go_simp; (try with_reducible rfl)
            simp only [o19_32_4, Act.put, List.setIfInBounds_toArray, List.set_cons_zero, List.set_cons_succ]
            refine tk (v := ?_) 5 o19_32_5 (by rfl) ?_ ?_
            case refine_2 => unfold o19_32_5; intro w hSw; (try dsimp only at hSw); obtain ⟨_, _, _, _, _, _, hS_⟩ := hSw; have g0 := (hS_.bel.cell (p := ⟨bg, _, none⟩) hbg).trans e0; have g1 := (hS_.bel.cell (p := ⟨bg, _, none⟩) hbg).trans e1; have g2 := (hS_.bel.cell (p := ⟨bg, _, none⟩) hbg).trans e2; have q0 := (hS_.bel.cell (p := ⟨fg, _, none⟩) hfg).trans y0; have q1 := (hS_.bel.cell (p := ⟨fg, _, none⟩) hfg).trans y1; have q2 := (hS_.bel.cell (p := ⟨fg, _, none⟩) hfg).trans y2; have q3 := (hS_.bel.cell (p := ⟨fg, _, none⟩) hfg).trans y3; have q4 := (hS_.bel.cell (p := ⟨fg, _, none⟩) hfg).trans y4; have q5 := (hS_.bel.cell (p := ⟨fg, _, none⟩) hfg).trans y5; go_simp; (try with_reducible rfl)
            simp only [o19_32_5, Act.put, List.setIfInBounds_toArray, List.set_cons_zero, List.set_cons_succ]
            refine tk (v := ?_) 6 o19_32_6 (by rfl) ?_ ?_
            case refine_2 => unfold o19_32_6; intro w hSw; (try dsimp only at hSw); obtain ⟨_, _, _, _, _, _, hS_⟩ := hSw; have g0 := (hS_.bel.cell (p := ⟨bg, _, none⟩) hbg).trans e0; have g1 := (hS_.bel.cell (p := ⟨bg, _, none⟩) hbg).trans e1; have g2 := (hS_.bel.cell (p := ⟨bg, _, none⟩) hbg).trans e2; have q0 := (hS_.bel.cell (p := ⟨fg, _, none⟩) hfg).trans y0; have q1 := (hS_.bel.cell (p := ⟨fg, _, none⟩) hfg).trans y1; have q2 := (hS_.bel.cell (p := ⟨fg, _, none⟩) hfg).trans y2; have q3 := (hS_.bel.cell (p := ⟨fg, _, none⟩) hfg).trans y3; have q4 := (hS_.bel.cell (p := ⟨fg, _, none⟩) hfg).trans y4; have q5 := (hS_.bel.cell (p := ⟨fg, _, none⟩) hfg).trans y5; go_simp; (try with_reducible rfl)
            simp only [o19_32_6, Act.put, List.setIfInBounds_toArray, List.set_cons_zero, List.set_cons_succ]
            refine tk (v := ?_) 7 o19_32_7 (by rfl) ?_ ?_
            case refine_2 => unfold o19_32_7; intro w hSw; (try dsimp only at hSw); obtain ⟨_, _, _, _, _, _, hS_⟩ := hSw; have g0 := (hS_.bel.cell (p := ⟨bg, _, none⟩) hbg).trans e0; have g1 := (hS_.bel.cell (p := ⟨bg, _, none⟩) hbg).trans e1; have g2 := (hS_.bel.cell (p := ⟨bg, _, none⟩) hbg).trans e2; have q0 := (hS_.bel.cell (p := ⟨fg, _, none⟩) hfg).trans y0; have q1 := (hS_.bel.cell (p := ⟨fg, _, none⟩) hfg).trans y1; have q2 := (hS_.bel.cell (p := ⟨fg, _, none⟩) hfg).trans y2; have q3 := (hS_.bel.cell (p := ⟨fg, _, none⟩) hfg).trans y3; have q4 := (hS_.bel.cell (p := ⟨fg, _, none⟩) hfg).trans y4; have q5 := (hS_.bel.cell (p := ⟨fg, _, none⟩) hfg).trans y5; go_simp; (try with_reducible rfl)
            simp only [o19_32_7, Act.put, List.setIfInBounds_toArray, List.set_cons_zero, List.set_cons_succ]
            refine tk (v := ?_) 8 o19_32_8 (by rfl) ?_ ?_
            case refine_2 => unfold o19_32_8; intro w hSw; (try dsimp only at hSw); obtain ⟨_, _, _, _, _, _, hS_⟩ := hSw; have g0 := (hS_.bel.cell (p := ⟨bg, _, none⟩) hbg).trans e0; have g1 := (hS_.bel.cell (p := ⟨bg, _, none⟩) hbg).trans e1; have g2 := (hS_.bel.cell (p := ⟨bg, _, none⟩) hbg).trans e2; have q0 := (hS_.bel.cell (p := ⟨fg, _, none⟩) hfg).trans y0; have q1 := (hS_.bel.cell (p := ⟨fg, _, none⟩) hfg).trans y1; have q2 := (hS_.bel.cell (p := ⟨fg, _, none⟩) hfg).trans y2; have q3 := (hS_.bel.cell (p := ⟨fg, _, none⟩) hfg).trans y3; have q4 := (hS_.bel.cell (p := ⟨fg, _, none⟩) hfg).trans y4; have q5 := (hS_.bel.cell (p := ⟨fg, _, none⟩) hfg).trans y5; go_simp; (try with_reducible rfl)
            simp only [o19_32_8, Act.put, List.setIfInBounds_toArray, List.set_cons_zero, List.set_cons_succ]
            refine tk (v := ?_) 9 o19_32_9 (by rfl) ?_ ?_
            case refine_2 => unfold o19_32_9; intro w hSw; (try dsimp only at hSw); obtain ⟨_, _, _, _, _, _, hS_⟩ := hSw; have g0 := (hS_.bel.cell (p := ⟨bg, _, none⟩) hbg).trans e0; have g1 := (hS_.bel.cell (p := ⟨bg, _, none⟩) hbg).trans e1; have g2 := (hS_.bel.cell (p := ⟨bg, _, none⟩) hbg).trans e2; have q0 := (hS_.bel.cell (p := ⟨fg, _, none⟩) hfg).trans y0; have q1 := (hS_.bel.cell (p := ⟨fg, _, none⟩) hfg).trans y1; have q2 := (hS_.bel.cell (p := ⟨fg, _, none⟩) hfg).trans y2; have q3 := (hS_.bel.cell (p := ⟨fg, _, none⟩) hfg).trans y3; have q4 := (hS_.bel.cell (p := ⟨fg, _, none⟩) hfg).trans y4; have q5 := (hS_.bel.cell (p := ⟨fg, _, none⟩) hfg).trans y5; go_simp; (try with_reducible rfl)
            simp only [o19_32_9, Act.put, List.setIfInBounds_toArray, List.set_cons_zero, List.set_cons_succ]
            refine tk (v := ?_) 10 o19_32_10 (by rfl) ?_ ?_
            case refine_2 => unfold o19_32_10; intro w hSw; (try dsimp only at hSw); obtain ⟨_, _, _, _, _, _, hS_⟩ := hSw; have g0 := (hS_.bel.cell (p := ⟨bg, _, none⟩) hbg).trans e0; have g1 := (hS_.bel.cell (p := ⟨bg, _, none⟩) hbg).trans e1; have g2 := (hS_.bel.cell (p := ⟨bg, _, none⟩) hbg).trans e2; have q0 := (hS_.bel.cell (p := ⟨fg, _, none⟩) hfg).trans y0; have q1 := (hS_.bel.cell (p := ⟨fg, _, none⟩) hfg).trans y1; have q2 := (hS_.bel.cell (p := ⟨fg, _, none⟩) hfg).trans y2; have q3 := (hS_.bel.cell (p := ⟨fg, _, none⟩) hfg).trans y3; have q4 := (hS_.bel.cell (p := ⟨fg, _, none⟩) hfg).trans y4; have q5 := (hS_.bel.cell (p := ⟨fg, _, none⟩) hfg).trans y5; go_simp; (try with_reducible rfl)
            simp only [o19_32_10, Act.put, List.setIfInBounds_toArray, List.set_cons_zero, List.set_cons_succ]
            refine tk (v := ?_) 11 o19_32_11 (by rfl) ?_ ?_
            case refine_2 => unfold o19_32_11; intro w hSw; (try dsimp only at hSw); obtain ⟨_, _, _, _, _, _, hS_⟩ := hSw; have g0 := (hS_.bel.cell (p := ⟨bg, _, none⟩) hbg).trans e0; have g1 := (hS_.bel.cell (p := ⟨bg, _, none⟩) hbg).trans e1; have g2 := (hS_.bel.cell (p := ⟨bg, _, none⟩) hbg).trans e2; have q0 := (hS_.bel.cell (p := ⟨fg, _, none⟩) hfg).trans y0; have q1 := (hS_.bel.cell (p := ⟨fg, _, none⟩) hfg).trans y1; have q2 := (hS_.bel.cell (p := ⟨fg, _, none⟩) hfg).trans y2; have q3 := (hS_.bel.cell (p := ⟨fg, _, none⟩) hfg).trans y3; have q4 := (hS_.bel.cell (p := ⟨fg, _, none⟩) hfg).trans y4; have q5 := (hS_.bel.cell (p := ⟨fg, _, none⟩) hfg).trans y5; go_simp; (try with_reducible rfl)
            simp only [o19_32_11, Act.put, List.setIfInBounds_toArray, List.set_cons_zero, List.set_cons_succ]
            refine tk (v := ?_) 12 o19_32_12 (by rfl) ?_ ?_
            case refine_2 => unfold o19_32_12; intro w hSw; (try dsimp only at hSw); obtain ⟨_, _, _, _, _, _, hS_⟩ := hSw; have g0 := (hS_.bel.cell (p := ⟨bg, _, none⟩) hbg).trans e0; have g1 := (hS_.bel.cell (p := ⟨bg, _, none⟩) hbg).trans e1; have g2 := (hS_.bel.cell (p := ⟨bg, _, none⟩) hbg).trans e2; have q0 := (hS_.bel.cell (p := ⟨fg, _, none⟩) hfg).trans y0; have q1 := (hS_.bel.cell (p := ⟨fg, _, none⟩) hfg).trans y1; have q2 := (hS_.bel.cell (p := ⟨fg, _, none⟩) hfg).trans y2; have q3 := (hS_.bel.cell (p := ⟨fg, _, none⟩) hfg).trans y3; have q4 := (hS_.bel.cell (p := ⟨fg, _, none⟩) hfg).trans y4; have q5 := (hS_.bel.cell (p := ⟨fg, _, none⟩) hfg).trans y5; go_simp; (try with_reducible rfl)
            simp only [o19_32_12, Act.put, List.setIfInBounds_toArray, List.set_cons_zero, List.set_cons_succ]
            refine tk (v := ?_) 13 o19_32_13 (by rfl) ?_ ?_
            case refine_2 => unfold o19_32_13; intro w hSw; (try dsimp only at hSw); obtain ⟨_, _, _, _, _, _, hS_⟩ := hSw; have g0 := (hS_.bel.cell (p := ⟨bg, _, none⟩) hbg).trans e0; have g1 := (hS_.bel.cell (p := ⟨bg, _, none⟩) hbg).trans e1; have g2 := (hS_.bel.cell (p := ⟨bg, _, none⟩) hbg).trans e2; have q0 := (hS_.bel.cell (p := ⟨fg, _, none⟩) hfg).trans y0; have q1 := (hS_.bel.cell (p := ⟨fg, _, none⟩) hfg).trans y1; have q2 := (hS_.bel.cell (p := ⟨fg, _, none⟩) hfg).trans y2; have q3 := (hS_.bel.cell (p := ⟨fg, _, none⟩) hfg).trans y3; have q4 := (hS_.bel.cell (p := ⟨fg, _, none⟩) hfg).trans y4; have q5 := (hS_.bel.cell (p := ⟨fg, _, none⟩) hfg).trans y5; go_simp; (try with_reducible rfl)
            simp only [o19_32_13, Act.put, List.setIfInBounds_toArray, List.set_cons_zero, List.set_cons_succ]
            refine wpAnyH_ready (rs := [14]) (by kernel_rfl) (by simp) ?_
            refine (AllReadyH.cons (o := o19_32_14) rfl (fun K hK => ?_) AllReadyH.nil)
            unfold o19_32_14
            have m0 := cell_of_row _ _ 0 _ _ _ hS0.ra
            have f0 := frozen_of_row _ _ 0 _ 24 hS0.ra
            have m1 := cell_of_row _ _ 1 _ _ _ hS0.ra
            have f1 := frozen_of_row _ _ 1 _ 24 hS0.ra
            have m2 := cell_of_row _ _ 2 _ _ _ hS0.ra
            have f2 := frozen_of_row _ _ 2 _ 24 hS0.ra
            go_simp
            have hS1 := hS0.setA x ax cx
            refine hK.out _ _ ?_ (fun hHeld => ?_)
            · exact ⟨_, _, _, _, _, _, hS1⟩
            clear hK K
            try simp only [Act.put, List.setIfInBounds_toArray, List.set_cons_zero, List.set_cons_succ]
            clear m0 m1 m2 f0 f1 f2
            generalize hV : ((V0.setCell ⟨A, 0, none⟩ (.int .i64 x.kind)).setCell ⟨A, 1, none⟩ (.int .i64 x.n)).setCell ⟨A, 2, none⟩ (.slice ax x.kids.length cx) = V1 at *
            clear hV
            refine wpAnyH_ready (rs := [15]) (by kernel_rfl) (by simp) ?_
            refine (AllReadyH.cons (o := o19_32_15) rfl (fun K hK => ?_) AllReadyH.nil)
            unfold o19_32_15
            have m0 := cell_of_row _ _ 0 _ _ _ hS1.rb
            have f0 := frozen_of_row _ _ 0 _ 24 hS1.rb
            have m1 := cell_of_row _ _ 1 _ _ _ hS1.rb
            have f1 := frozen_of_row _ _ 1 _ 24 hS1.rb
            have m2 := cell_of_row _ _ 2 _ _ _ hS1.rb
            have f2 := frozen_of_row _ _ 2 _ 24 hS1.rb
            go_simp
            have hS2 := hS1.setB y ay cy
            refine hK.out _ _ ?_ (fun hHeld => ?_)
            · exact ⟨_, _, _, _, _, _, hS2⟩
            clear hK K
            try simp only [Act.put, List.setIfInBounds_toArray, List.set_cons_zero, List.set_cons_succ]
            clear m0 m1 m2 f0 f1 f2
            generalize hV : ((V1.setCell ⟨B, 0, none⟩ (.int .i64 y.kind)).setCell ⟨B, 1, none⟩ (.int .i64 y.n)).setCell ⟨B, 2, none⟩ (.slice ay y.kids.length cy) = V2 at *
            clear hV
            refine tk (v := ?_) 16 o19_32_16 (by rfl) ?_ ?_
            case refine_2 => unfold o19_32_16; intro w hSw; (try dsimp only at hSw); obtain ⟨_, _, _, _, _, _, hS_⟩ := hSw; have g0 := (hS_.bel.cell (p := ⟨bg, _, none⟩) hbg).trans e0; have g1 := (hS_.bel.cell (p := ⟨bg, _, none⟩) hbg).trans e1; have g2 := (hS_.bel.cell (p := ⟨bg, _, none⟩) hbg).trans e2; have q0 := (hS_.bel.cell (p := ⟨fg, _, none⟩) hfg).trans y0; have q1 := (hS_.bel.cell (p := ⟨fg, _, none⟩) hfg).trans y1; have q2 := (hS_.bel.cell (p := ⟨fg, _, none⟩) hfg).trans y2; have q3 := (hS_.bel.cell (p := ⟨fg, _, none⟩) hfg).trans y3; have q4 := (hS_.bel.cell (p := ⟨fg, _, none⟩) hfg).trans y4; have q5 := (hS_.bel.cell (p := ⟨fg, _, none⟩) hfg).trans y5; go_simp; (try with_reducible rfl)
            simp only [o19_32_16, Act.put, List.setIfInBounds_toArray, List.set_cons_zero, List.set_cons_succ]
            refine wpAnyH_done (by kernel_rfl) ?_ _
            go_upto_region 33 with fail
            have hS := hS2
            have HXT : Hid (TyAt w d' x ax cx) := HX.out
            have HYT : Hid (TyAt w d' y ay cy) := HY.out
            obtain ⟨r1, h1⟩ := fix_bool (a.left = D ∧ a.goal = y)
            obtain ⟨fl, hfl⟩ : ∃ fl, G ++ [x] ++ H = fl := ⟨_, rfl⟩
            have HJN : Hid (G ++ [x] ++ H = fl) := hfl
            obtain ⟨r2, h2⟩ := fix_bool (b.left = fl ∧ b.goal = goal)
            have hrr : r = (r1 && r2) := by
              have h3 := HR.out.trans (rt_two rfl HRA.out HRB.out HBE.out)
              rw [hfl, ← h1, ← h2] at h3
              revert h3
              cases r <;> cases r1 <;> cases r2 <;> simp
            have H1 : Hid (r1 = true ↔ a.left = D ∧ a.goal = y) := h1
            have H2 : Hid (r2 = true ↔ b.left = fl ∧ b.goal = goal) := h2
            clear h1 h2 hfl
            subst hrr
            cases r1 with
            | false =>
              have HCE : Hid _ := fun (W : World) (hSw : S3 w (.cells #[.int .i64 5, .slice (some ⟨lg, lo, none⟩) left.length lc, .int .i64 goal.kind, .int .i64 goal.n, .slice ga goal.kids.length gc, .int .i64 i, .int .i64 m, .slice (some ⟨kg, ko, none⟩) [a, b].length kc] 37 (0, 0)) A B x ax cx y ay cy W) => (And.intro (cell_of_row _ _ 2 _ _ _ hSw.box) (And.intro (cell_of_row _ _ 3 _ _ _ hSw.box) (And.intro (cell_of_row _ _ 4 _ _ _ hSw.box) (And.intro (cell_of_row _ _ 7 _ _ _ hSw.box) (And.intro (cell_of_row _ _ 0 _ _ _ hSw.ra) (And.intro (cell_of_row _ _ 1 _ _ _ hSw.ra) (And.intro (cell_of_row _ _ 2 _ _ _ hSw.ra) (And.intro (cell_of_row _ _ 0 _ _ _ hSw.rb) (And.intro (cell_of_row _ _ 1 _ _ _ hSw.rb) (And.intro (cell_of_row _ _ 2 _ _ _ hSw.rb) (And.intro ((hSw.bel.cell (p := ⟨kg, _, none⟩) hkg).trans c0) (And.intro ((hSw.bel.cell (p := ⟨kg, _, none⟩) hkg).trans c1) (And.intro ((hSw.bel.cell (p := ⟨kg, _, none⟩) hkg).trans c2) (And.intro ((hSw.bel.cell (p := ⟨kg, _, none⟩) hkg).trans c3) (And.intro ((hSw.bel.cell (p := ⟨kg, _, none⟩) hkg).trans c4) (And.intro ((hSw.bel.cell (p := ⟨kg, _, none⟩) hkg).trans c5) (And.intro ((hSw.bel.cell (p := ⟨kg, _, none⟩) hkg).trans c6) (And.intro ((hSw.bel.cell (p := ⟨kg, _, none⟩) hkg).trans c7) (And.intro ((hSw.bel.cell (p := ⟨kg, _, none⟩) hkg).trans d0) (And.intro ((hSw.bel.cell (p := ⟨kg, _, none⟩) hkg).trans d1) (And.intro ((hSw.bel.cell (p := ⟨kg, _, none⟩) hkg).trans d2) (And.intro ((hSw.bel.cell (p := ⟨kg, _, none⟩) hkg).trans d3) (And.intro ((hSw.bel.cell (p := ⟨kg, _, none⟩) hkg).trans d4) (And.intro ((hSw.bel.cell (p := ⟨kg, _, none⟩) hkg).trans d5) (And.intro ((hSw.bel.cell (p := ⟨kg, _, none⟩) hkg).trans d6) ((hSw.bel.cell (p := ⟨kg, _, none⟩) hkg).trans d7))))))))))))))))))))))))))
              refine wp_region_held_drew (S := fun W => S3 w (.cells #[.int .i64 5, .slice (some ⟨lg, lo, none⟩) left.length lc, .int .i64 goal.kind, .int .i64 goal.n, .slice ga goal.kids.length gc, .int .i64 i, .int .i64 m, .slice (some ⟨kg, ko, none⟩) [a, b].length kc] 37 (0, 0)) A B x ax cx y ay cy W) (by kernel_rfl) (by exact hS.below (below_drewN (Below.refl _ _) 1)) (fun hHeld => ?_)
              have hS0 := hHeld
              generalize hV : V2.drew = V0 at *
              clear hV
              refine tk (v := ?_) 0 o19_33_0 (by rfl) ?_ ?_
              case refine_2 => unfold o19_33_0; intro w hSw; obtain ⟨p2, p3, p4, p7, u0_, u1_, u2_, v0_, v1_, v2_, s0, s1, s2, s3, s4, s5, s6, s7, t0, t1, t2, t3, t4, t5, t6, t7⟩ := HCE.out _ hSw; go_simp; (try with_reducible rfl)
              simp only [o19_33_0, Act.put, List.setIfInBounds_toArray, List.set_cons_zero, List.set_cons_succ]
              refine tk (v := ?_) 1 o19_33_1 (by rfl) ?_ ?_
              case refine_2 => unfold o19_33_1; intro w hSw; obtain ⟨p2, p3, p4, p7, u0_, u1_, u2_, v0_, v1_, v2_, s0, s1, s2, s3, s4, s5, s6, s7, t0, t1, t2, t3, t4, t5, t6, t7⟩ := HCE.out _ hSw; go_simp; (try with_reducible rfl)
              simp only [o19_33_1, Act.put, List.setIfInBounds_toArray, List.set_cons_zero, List.set_cons_succ]
              refine tk (v := ?_) 2 o19_33_2 (by rfl) ?_ ?_
              case refine_2 => unfold o19_33_2; intro w hSw; obtain ⟨p2, p3, p4, p7, u0_, u1_, u2_, v0_, v1_, v2_, s0, s1, s2, s3, s4, s5, s6, s7, t0, t1, t2, t3, t4, t5, t6, t7⟩ := HCE.out _ hSw; go_simp; (try with_reducible rfl)
              simp only [o19_33_2, Act.put, List.setIfInBounds_toArray, List.set_cons_zero, List.set_cons_succ]
              refine tk (v := ?_) 3 o19_33_3 (by rfl) ?_ ?_
              case refine_2 => unfold o19_33_3; intro w hSw; obtain ⟨p2, p3, p4, p7, u0_, u1_, u2_, v0_, v1_, v2_, s0, s1, s2, s3, s4, s5, s6, s7, t0, t1, t2, t3, t4, t5, t6, t7⟩ := HCE.out _ hSw; go_simp; (try with_reducible rfl)
              simp only [o19_33_3, Act.put, List.setIfInBounds_toArray, List.set_cons_zero, List.set_cons_succ]
              refine tk (v := ?_) 4 o19_33_4 (by rfl) ?_ ?_
              case refine_2 => unfold o19_33_4; intro w hSw; obtain ⟨p2, p3, p4, p7, u0_, u1_, u2_, v0_, v1_, v2_, s0, s1, s2, s3, s4, s5, s6, s7, t0, t1, t2, t3, t4, t5, t6, t7⟩ := HCE.out _ hSw; go_simp; (try with_reducible rfl)
              simp only [o19_33_4, Act.put, List.setIfInBounds_toArray, List.set_cons_zero, List.set_cons_succ]
              refine tk (v := ?_) 5 o19_33_5 (by rfl) ?_ ?_
              case refine_2 => unfold o19_33_5; intro w hSw; obtain ⟨p2, p3, p4, p7, u0_, u1_, u2_, v0_, v1_, v2_, s0, s1, s2, s3, s4, s5, s6, s7, t0, t1, t2, t3, t4, t5, t6, t7⟩ := HCE.out _ hSw; go_simp; (try with_reducible rfl)
              simp only [o19_33_5, Act.put, List.setIfInBounds_toArray, List.set_cons_zero, List.set_cons_succ]
              refine wpAnyH_ready (rs := [6]) (by kernel_rfl) (by simp) ?_
              refine (AllReadyH.cons (o := o19_33_6) rfl (fun K hK => ?_) AllReadyH.nil)
              unfold o19_33_6
              go_simp
              have KQ := says_any a ya D _ _ y ay cy V0 false (HPA.out.below hS0.bel) (HD.out.below hS0.bel) (HYT.out.below hS0.bel) H1.out
              rw [HDL.out] at KQ
              unfold vpf vty at KQ
              (with_reducible refine KQ.mono ?_)
              clear KQ
              rintro e1 V1 ⟨rfl, hb1⟩
              dsimp only
              have hS1 := hS0.below hb1
              refine hK.out _ _ ?_ (fun hHeld => ?_)
              · exact hS1
              clear hK K
              try simp only [Act.put, List.setIfInBounds_toArray, List.set_cons_zero, List.set_cons_succ]
              refine tk (v := ?_) 7 o19_33_7 (by rfl) ?_ ?_
              case refine_2 => unfold o19_33_7; intro w hSw; obtain ⟨p2, p3, p4, p7, u0_, u1_, u2_, v0_, v1_, v2_, s0, s1, s2, s3, s4, s5, s6, s7, t0, t1, t2, t3, t4, t5, t6, t7⟩ := HCE.out _ hSw; go_simp; (try with_reducible rfl)
              simp only [o19_33_7, Act.put, List.setIfInBounds_toArray, List.set_cons_zero, List.set_cons_succ]
              refine tks 8 o19_33_8 (by rfl) ?_
              simp only [o19_33_8, Act.put, List.setIfInBounds_toArray, List.set_cons_zero, List.set_cons_succ]
              refine tks 9 o19_33_9 (by rfl) ?_
              simp only [o19_33_9, Act.put, List.setIfInBounds_toArray, List.set_cons_zero, List.set_cons_succ]
              refine tks 10 o19_33_10 (by rfl) ?_
              simp only [o19_33_10, Act.put, List.setIfInBounds_toArray, List.set_cons_zero, List.set_cons_succ]
              refine tks 11 o19_33_11 (by rfl) ?_
              simp only [o19_33_11, Act.put, List.setIfInBounds_toArray, List.set_cons_zero, List.set_cons_succ]
              refine tks 12 o19_33_12 (by rfl) ?_
              simp only [o19_33_12, Act.put, List.setIfInBounds_toArray, List.set_cons_zero, List.set_cons_succ]
              refine tks 13 o19_33_13 (by rfl) ?_
              simp only [o19_33_13, Act.put, List.setIfInBounds_toArray, List.set_cons_zero, List.set_cons_succ]
              refine tks 14 o19_33_14 (by rfl) ?_
              simp only [o19_33_14, Act.put, List.setIfInBounds_toArray, List.set_cons_zero, List.set_cons_succ]
              refine tks 15 o19_33_15 (by rfl) ?_
              simp only [o19_33_15, Act.put, List.setIfInBounds_toArray, List.set_cons_zero, List.set_cons_succ]
              refine tks 16 o19_33_16 (by rfl) ?_
              simp only [o19_33_16, Act.put, List.setIfInBounds_toArray, List.set_cons_zero, List.set_cons_succ]
              refine tks 17 o19_33_17 (by rfl) ?_
              simp only [o19_33_17, Act.put, List.setIfInBounds_toArray, List.set_cons_zero, List.set_cons_succ]
              refine tks 18 o19_33_18 (by rfl) ?_
              simp only [o19_33_18, Act.put, List.setIfInBounds_toArray, List.set_cons_zero, List.set_cons_succ]
              refine tks 19 o19_33_19 (by rfl) ?_
              simp only [o19_33_19, Act.put, List.setIfInBounds_toArray, List.set_cons_zero, List.set_cons_succ]
              refine tks 20 o19_33_20 (by rfl) ?_
              simp only [o19_33_20, Act.put, List.setIfInBounds_toArray, List.set_cons_zero, List.set_cons_succ]
              refine tk (v := ?_) 21 o19_33_21 (by rfl) ?_ ?_
              case refine_2 => unfold o19_33_21; intro w hSw; obtain ⟨p2, p3, p4, p7, u0_, u1_, u2_, v0_, v1_, v2_, s0, s1, s2, s3, s4, s5, s6, s7, t0, t1, t2, t3, t4, t5, t6, t7⟩ := HCE.out _ hSw; go_simp; (try with_reducible rfl)
              simp only [o19_33_21, Act.put, List.setIfInBounds_toArray, List.set_cons_zero, List.set_cons_succ]
              refine tk (v := ?_) 22 o19_33_22 (by rfl) ?_ ?_
              case refine_2 => unfold o19_33_22; intro w hSw; obtain ⟨p2, p3, p4, p7, u0_, u1_, u2_, v0_, v1_, v2_, s0, s1, s2, s3, s4, s5, s6, s7, t0, t1, t2, t3, t4, t5, t6, t7⟩ := HCE.out _ hSw; go_simp; (try with_reducible rfl)
              simp only [o19_33_22, Act.put, List.setIfInBounds_toArray, List.set_cons_zero, List.set_cons_succ]
              refine wpAnyH_done (by kernel_rfl) ?_ _
              go_wp2_with fail
              go_ret
              exact ⟨rfl, hS1.bel⟩
            | true =>
              have HCE : Hid _ := fun (W : World) (hSw : S3 w (.cells #[.int .i64 5, .slice (some ⟨lg, lo, none⟩) left.length lc, .int .i64 goal.kind, .int .i64 goal.n, .slice ga goal.kids.length gc, .int .i64 i, .int .i64 m, .slice (some ⟨kg, ko, none⟩) [a, b].length kc] 37 (0, 0)) A B x ax cx y ay cy W) => (And.intro (cell_of_row _ _ 2 _ _ _ hSw.box) (And.intro (cell_of_row _ _ 3 _ _ _ hSw.box) (And.intro (cell_of_row _ _ 4 _ _ _ hSw.box) (And.intro (cell_of_row _ _ 7 _ _ _ hSw.box) (And.intro (cell_of_row _ _ 0 _ _ _ hSw.ra) (And.intro (cell_of_row _ _ 1 _ _ _ hSw.ra) (And.intro (cell_of_row _ _ 2 _ _ _ hSw.ra) (And.intro (cell_of_row _ _ 0 _ _ _ hSw.rb) (And.intro (cell_of_row _ _ 1 _ _ _ hSw.rb) (And.intro (cell_of_row _ _ 2 _ _ _ hSw.rb) (And.intro ((hSw.bel.cell (p := ⟨kg, _, none⟩) hkg).trans c0) (And.intro ((hSw.bel.cell (p := ⟨kg, _, none⟩) hkg).trans c1) (And.intro ((hSw.bel.cell (p := ⟨kg, _, none⟩) hkg).trans c2) (And.intro ((hSw.bel.cell (p := ⟨kg, _, none⟩) hkg).trans c3) (And.intro ((hSw.bel.cell (p := ⟨kg, _, none⟩) hkg).trans c4) (And.intro ((hSw.bel.cell (p := ⟨kg, _, none⟩) hkg).trans c5) (And.intro ((hSw.bel.cell (p := ⟨kg, _, none⟩) hkg).trans c6) (And.intro ((hSw.bel.cell (p := ⟨kg, _, none⟩) hkg).trans c7) (And.intro ((hSw.bel.cell (p := ⟨kg, _, none⟩) hkg).trans d0) (And.intro ((hSw.bel.cell (p := ⟨kg, _, none⟩) hkg).trans d1) (And.intro ((hSw.bel.cell (p := ⟨kg, _, none⟩) hkg).trans d2) (And.intro ((hSw.bel.cell (p := ⟨kg, _, none⟩) hkg).trans d3) (And.intro ((hSw.bel.cell (p := ⟨kg, _, none⟩) hkg).trans d4) (And.intro ((hSw.bel.cell (p := ⟨kg, _, none⟩) hkg).trans d5) (And.intro ((hSw.bel.cell (p := ⟨kg, _, none⟩) hkg).trans d6) ((hSw.bel.cell (p := ⟨kg, _, none⟩) hkg).trans d7))))))))))))))))))))))))))
              refine wp_region_held_drew (S := fun W => S3 w (.cells #[.int .i64 5, .slice (some ⟨lg, lo, none⟩) left.length lc, .int .i64 goal.kind, .int .i64 goal.n, .slice ga goal.kids.length gc, .int .i64 i, .int .i64 m, .slice (some ⟨kg, ko, none⟩) [a, b].length kc] 37 (0, 0)) A B x ax cx y ay cy W) (by kernel_rfl) (by exact hS.below (below_drewN (Below.refl _ _) 1)) (fun hHeld => ?_)
              have hS0 := hHeld
              generalize hV : V2.drew = V0 at *
              clear hV
              refine tk (v := ?_) 0 o19_33_0 (by rfl) ?_ ?_
              case refine_2 => unfold o19_33_0; intro w hSw; obtain ⟨p2, p3, p4, p7, u0_, u1_, u2_, v0_, v1_, v2_, s0, s1, s2, s3, s4, s5, s6, s7, t0, t1, t2, t3, t4, t5, t6, t7⟩ := HCE.out _ hSw; go_simp; (try with_reducible rfl)
              simp only [o19_33_0, Act.put, List.setIfInBounds_toArray, List.set_cons_zero, List.set_cons_succ]
              refine tk (v := ?_) 1 o19_33_1 (by rfl) ?_ ?_
              case refine_2 => unfold o19_33_1; intro w hSw; obtain ⟨p2, p3, p4, p7, u0_, u1_, u2_, v0_, v1_, v2_, s0, s1, s2, s3, s4, s5, s6, s7, t0, t1, t2, t3, t4, t5, t6, t7⟩ := HCE.out _ hSw; go_simp; (try with_reducible rfl)
              simp only [o19_33_1, Act.put, List.setIfInBounds_toArray, List.set_cons_zero, List.set_cons_succ]
              refine tk (v := ?_) 2 o19_33_2 (by rfl) ?_ ?_
              case refine_2 => unfold o19_33_2; intro w hSw; obtain ⟨p2, p3, p4, p7, u0_, u1_, u2_, v0_, v1_, v2_, s0, s1, s2, s3, s4, s5, s6, s7, t0, t1, t2, t3, t4, t5, t6, t7⟩ := HCE.out _ hSw; go_simp; (try with_reducible rfl)
              simp only [o19_33_2, Act.put, List.setIfInBounds_toArray, List.set_cons_zero, List.set_cons_succ]
              refine tk (v := ?_) 3 o19_33_3 (by rfl) ?_ ?_
              case refine_2 => unfold o19_33_3; intro w hSw; obtain ⟨p2, p3, p4, p7, u0_, u1_, u2_, v0_, v1_, v2_, s0, s1, s2, s3, s4, s5, s6, s7, t0, t1, t2, t3, t4, t5, t6, t7⟩ := HCE.out _ hSw; go_simp; (try with_reducible rfl)
              simp only [o19_33_3, Act.put, List.setIfInBounds_toArray, List.set_cons_zero, List.set_cons_succ]
              refine tk (v := ?_) 4 o19_33_4 (by rfl) ?_ ?_
              case refine_2 => unfold o19_33_4; intro w hSw; obtain ⟨p2, p3, p4, p7, u0_, u1_, u2_, v0_, v1_, v2_, s0, s1, s2, s3, s4, s5, s6, s7, t0, t1, t2, t3, t4, t5, t6, t7⟩ := HCE.out _ hSw; go_simp; (try with_reducible rfl)
              simp only [o19_33_4, Act.put, List.setIfInBounds_toArray, List.set_cons_zero, List.set_cons_succ]
              refine tk (v := ?_) 5 o19_33_5 (by rfl) ?_ ?_
              case refine_2 => unfold o19_33_5; intro w hSw; obtain ⟨p2, p3, p4, p7, u0_, u1_, u2_, v0_, v1_, v2_, s0, s1, s2, s3, s4, s5, s6, s7, t0, t1, t2, t3, t4, t5, t6, t7⟩ := HCE.out _ hSw; go_simp; (try with_reducible rfl)
              simp only [o19_33_5, Act.put, List.setIfInBounds_toArray, List.set_cons_zero, List.set_cons_succ]
              refine wpAnyH_ready (rs := [6]) (by kernel_rfl) (by simp) ?_
              refine (AllReadyH.cons (o := o19_33_6) rfl (fun K hK => ?_) AllReadyH.nil)
              unfold o19_33_6
              go_simp
              have KQ := says_any a ya D _ _ y ay cy V0 true (HPA.out.below hS0.bel) (HD.out.below hS0.bel) (HYT.out.below hS0.bel) H1.out
              rw [HDL.out] at KQ
              unfold vpf vty at KQ
              (with_reducible refine KQ.mono ?_)
              clear KQ
              rintro e1 V1 ⟨rfl, hb1⟩
              dsimp only
              have hS1 := hS0.below hb1
              refine hK.out _ _ ?_ (fun hHeld => ?_)
              · exact hS1
              clear hK K
              try simp only [Act.put, List.setIfInBounds_toArray, List.set_cons_zero, List.set_cons_succ]
              refine tk (v := ?_) 7 o19_33_7 (by rfl) ?_ ?_
              case refine_2 => unfold o19_33_7; intro w hSw; obtain ⟨p2, p3, p4, p7, u0_, u1_, u2_, v0_, v1_, v2_, s0, s1, s2, s3, s4, s5, s6, s7, t0, t1, t2, t3, t4, t5, t6, t7⟩ := HCE.out _ hSw; go_simp; (try with_reducible rfl)
              simp only [o19_33_7, Act.put, List.setIfInBounds_toArray, List.set_cons_zero, List.set_cons_succ]
              refine tk (v := ?_) 8 o19_33_8 (by rfl) ?_ ?_
              case refine_2 => unfold o19_33_8; intro w hSw; obtain ⟨p2, p3, p4, p7, u0_, u1_, u2_, v0_, v1_, v2_, s0, s1, s2, s3, s4, s5, s6, s7, t0, t1, t2, t3, t4, t5, t6, t7⟩ := HCE.out _ hSw; go_simp; (try with_reducible rfl)
              simp only [o19_33_8, Act.put, List.setIfInBounds_toArray, List.set_cons_zero, List.set_cons_succ]
              refine tk (v := ?_) 9 o19_33_9 (by rfl) ?_ ?_
              case refine_2 => unfold o19_33_9; intro w hSw; obtain ⟨p2, p3, p4, p7, u0_, u1_, u2_, v0_, v1_, v2_, s0, s1, s2, s3, s4, s5, s6, s7, t0, t1, t2, t3, t4, t5, t6, t7⟩ := HCE.out _ hSw; go_simp; (try with_reducible rfl)
              simp only [o19_33_9, Act.put, List.setIfInBounds_toArray, List.set_cons_zero, List.set_cons_succ]
              refine tk (v := ?_) 10 o19_33_10 (by rfl) ?_ ?_
              case refine_2 => unfold o19_33_10; intro w hSw; obtain ⟨p2, p3, p4, p7, u0_, u1_, u2_, v0_, v1_, v2_, s0, s1, s2, s3, s4, s5, s6, s7, t0, t1, t2, t3, t4, t5, t6, t7⟩ := HCE.out _ hSw; go_simp; (try with_reducible rfl)
              simp only [o19_33_10, Act.put, List.setIfInBounds_toArray, List.set_cons_zero, List.set_cons_succ]
              refine tk (v := ?_) 11 o19_33_11 (by rfl) ?_ ?_
              case refine_2 => unfold o19_33_11; intro w hSw; obtain ⟨p2, p3, p4, p7, u0_, u1_, u2_, v0_, v1_, v2_, s0, s1, s2, s3, s4, s5, s6, s7, t0, t1, t2, t3, t4, t5, t6, t7⟩ := HCE.out _ hSw; go_simp; (try with_reducible rfl)
              simp only [o19_33_11, Act.put, List.setIfInBounds_toArray, List.set_cons_zero, List.set_cons_succ]
              refine tk (v := ?_) 12 o19_33_12 (by rfl) ?_ ?_
              case refine_2 => unfold o19_33_12; intro w hSw; obtain ⟨p2, p3, p4, p7, u0_, u1_, u2_, v0_, v1_, v2_, s0, s1, s2, s3, s4, s5, s6, s7, t0, t1, t2, t3, t4, t5, t6, t7⟩ := HCE.out _ hSw; go_simp; (try with_reducible rfl)
              simp only [o19_33_12, Act.put, List.setIfInBounds_toArray, List.set_cons_zero, List.set_cons_succ]
              refine tk (v := ?_) 13 o19_33_13 (by rfl) ?_ ?_
              case refine_2 => unfold o19_33_13; intro w hSw; obtain ⟨p2, p3, p4, p7, u0_, u1_, u2_, v0_, v1_, v2_, s0, s1, s2, s3, s4, s5, s6, s7, t0, t1, t2, t3, t4, t5, t6, t7⟩ := HCE.out _ hSw; go_simp; (try with_reducible rfl)
              simp only [o19_33_13, Act.put, List.setIfInBounds_toArray, List.set_cons_zero, List.set_cons_succ]
              refine tk (v := ?_) 15 o19_33_15 (by rfl) ?_ ?_
              case refine_2 => unfold o19_33_15; intro w hSw; obtain ⟨p2, p3, p4, p7, u0_, u1_, u2_, v0_, v1_, v2_, s0, s1, s2, s3, s4, s5, s6, s7, t0, t1, t2, t3, t4, t5, t6, t7⟩ := HCE.out _ hSw; go_simp; (try with_reducible rfl)
              simp only [o19_33_15, Act.put, List.setIfInBounds_toArray, List.set_cons_zero, List.set_cons_succ]
              refine tk (v := ?_) 18 o19_33_18 (by rfl) ?_ ?_
              case refine_2 => unfold o19_33_18; intro w hSw; obtain ⟨p2, p3, p4, p7, u0_, u1_, u2_, v0_, v1_, v2_, s0, s1, s2, s3, s4, s5, s6, s7, t0, t1, t2, t3, t4, t5, t6, t7⟩ := HCE.out _ hSw; go_simp; (try with_reducible rfl)
              simp only [o19_33_18, Act.put, List.setIfInBounds_toArray, List.set_cons_zero, List.set_cons_succ]
              refine tk (v := ?_) 19 o19_33_19 (by rfl) ?_ ?_
              case refine_2 => unfold o19_33_19; intro w hSw; obtain ⟨p2, p3, p4, p7, u0_, u1_, u2_, v0_, v1_, v2_, s0, s1, s2, s3, s4, s5, s6, s7, t0, t1, t2, t3, t4, t5, t6, t7⟩ := HCE.out _ hSw; go_simp; (try with_reducible rfl)
              simp only [o19_33_19, Act.put, List.setIfInBounds_toArray, List.set_cons_zero, List.set_cons_succ]
              refine wpAnyH_ready (rs := [14]) (by kernel_rfl) (by simp) ?_
              refine (AllReadyH.cons (o := o19_33_14) rfl (fun K hK => ?_) AllReadyH.nil)
              unfold o19_33_14
              go_simp
              have hn2 := heap_alloc_new V1 (.cells #[.int .i64 x.kind, .int .i64 x.n, .slice ax x.kids.length cx] 24)
              have hb2 : Below V1.heap.size V1 (V1.alloc (.cells #[.int .i64 x.kind, .int .i64 x.n, .slice ax x.kids.length cx] 24)) := (Below.refl _ V1).alloc (Nat.le_refl _) _
              have hS2 := hS1.below hb2
              refine hK.out _ _ ?_ (fun hHeld => ?_)
              · exact hS2
              clear hK K
              try simp only [Act.put, List.setIfInBounds_toArray, List.set_cons_zero, List.set_cons_succ]
              generalize hV : V1.alloc (.cells #[.int .i64 x.kind, .int .i64 x.n, .slice ax x.kids.length cx] 24) = V2 at *
              clear hV
              refine wpAnyH_ready (rs := [16]) (by kernel_rfl) (by simp) ?_
              refine (AllReadyH.cons (o := o19_33_16) rfl (fun K hK => ?_) AllReadyH.nil)
              unfold o19_33_16
              go_simp
              have hn3 : (V2.alloc (.cells #[.slice (some ⟨lg, lo, none⟩) i lc, .slice (some ⟨V1.heap.size, 0, none⟩) 1 1, .slice (some ⟨bg, bo + 3, none⟩) H.length (bC - 1)] 22)).heap[V2.heap.size]? = some (.cells #[.slice (some ⟨lg, lo, none⟩) G.length lc, .slice (some ⟨V1.heap.size, 0, none⟩) [x].length 1, .slice (some ⟨bg, bo + 3, none⟩) H.length (bC - 1)] 22 (0, 0)) := by rw [HGN.out]; exact heap_alloc_new V2 (.cells #[.slice (some ⟨lg, lo, none⟩) i lc, .slice (some ⟨V1.heap.size, 0, none⟩) 1 1, .slice (some ⟨bg, bo + 3, none⟩) H.length (bC - 1)] 22)
              have hb3 : Below V2.heap.size V2 (V2.alloc (.cells #[.slice (some ⟨lg, lo, none⟩) i lc, .slice (some ⟨V1.heap.size, 0, none⟩) 1 1, .slice (some ⟨bg, bo + 3, none⟩) H.length (bC - 1)] 22)) := (Below.refl _ V2).alloc (Nat.le_refl _) _
              have hS3 := hS2.below hb3
              have hn2 := (hb3.block _ (lt_of_get hn2)).trans hn2
              refine hK.out _ _ ?_ (fun hHeld => ?_)
              · exact hS3
              clear hK K
              try simp only [Act.put, List.setIfInBounds_toArray, List.set_cons_zero, List.set_cons_succ]
              generalize hV : V2.alloc (.cells #[.slice (some ⟨lg, lo, none⟩) i lc, .slice (some ⟨V1.heap.size, 0, none⟩) 1 1, .slice (some ⟨bg, bo + 3, none⟩) H.length (bC - 1)] 22) = V3 at *
              clear hV
              refine wpAnyH_ready (rs := [17]) (by kernel_rfl) (by simp) ?_
              refine (AllReadyH.cons (o := o19_33_17) rfl (fun K hK => ?_) AllReadyH.nil)
              unfold o19_33_17
              go_simp
              (with_reducible refine (join3 V2.heap.size G [x] H fl HJN.out V3 hn3 (HGT.out.below hS3.bel) (ty_one (HXT.out.below hS3.bel) hn2 1) (HHT.out.below hS3.bel) (by have := HLE.out; simp only [List.length_cons, List.length_nil]; omega)).mono ?_)
              rintro e4 V4 ⟨aj, cj, rfl, hT4, _, hb4⟩
              dsimp only
              have hS4 := hS3.below hb4
              refine hK.out _ _ ?_ (fun hHeld => ?_)
              · exact hS4
              clear hK K
              try simp only [Act.put, List.setIfInBounds_toArray, List.set_cons_zero, List.set_cons_succ]
              refine wpAnyH_ready (rs := [20]) (by kernel_rfl) (by simp) ?_
              refine (AllReadyH.cons (o := o19_33_20) rfl (fun K hK => ?_) AllReadyH.nil)
              unfold o19_33_20
              go_simp
              have KQ := says_any b yb fl aj cj goal ga gc V4 r2 (HPB.out.below hS4.bel) hT4 (HG.out.below hS4.bel) H2.out
              unfold vpf vty at KQ
              (with_reducible refine KQ.mono ?_)
              clear KQ
              rintro e5 V5 ⟨rfl, hb5⟩
              dsimp only
              have hS5 := hS4.below hb5
              refine hK.out _ _ ?_ (fun hHeld => ?_)
              · exact hS5
              clear hK K
              try simp only [Act.put, List.setIfInBounds_toArray, List.set_cons_zero, List.set_cons_succ]
              refine tk (v := ?_) 21 o19_33_21 (by rfl) ?_ ?_
              case refine_2 => unfold o19_33_21; intro w hSw; obtain ⟨p2, p3, p4, p7, u0_, u1_, u2_, v0_, v1_, v2_, s0, s1, s2, s3, s4, s5, s6, s7, t0, t1, t2, t3, t4, t5, t6, t7⟩ := HCE.out _ hSw; go_simp; (try with_reducible rfl)
              simp only [o19_33_21, Act.put, List.setIfInBounds_toArray, List.set_cons_zero, List.set_cons_succ]
              refine tk (v := ?_) 22 o19_33_22 (by rfl) ?_ ?_
              case refine_2 => unfold o19_33_22; intro w hSw; obtain ⟨p2, p3, p4, p7, u0_, u1_, u2_, v0_, v1_, v2_, s0, s1, s2, s3, s4, s5, s6, s7, t0, t1, t2, t3, t4, t5, t6, t7⟩ := HCE.out _ hSw; go_simp; (try with_reducible rfl)
              simp only [o19_33_22, Act.put, List.setIfInBounds_toArray, List.set_cons_zero, List.set_cons_succ]
              refine wpAnyH_done (by kernel_rfl) ?_ _
              go_wp2_with fail
              go_ret
              exact ⟨rfl, hS5.bel⟩
          · obtain rfl : bC = 1 := by omega
            have eH : H = [] := List.length_eq_zero_iff.1 (by omega)
            subst eH
            have HHT : Hid (TyAt w (d' + 1 + 1) ⟨0, 0, ([] : List Ty)⟩ (some ⟨bg, bo, none⟩) 0) := by have := HTL.out.1.at; rw [if_pos rfl] at this; exact this
            clear HTL
            refine wp_region_held_drew (S := fun W => (∃ u au cu v av cv, S3 w (.cells #[.int .i64 5, .slice (some ⟨lg, lo, none⟩) left.length lc, .int .i64 goal.kind, .int .i64 goal.n, .slice ga goal.kids.length gc, .int .i64 i, .int .i64 m, .slice (some ⟨kg, ko, none⟩) [a, b].length kc] 37 (0, 0)) A B u au cu v av cv W)) (by kernel_rfl) (by exact ⟨_, _, _, _, _, _, hSD⟩) (fun hHeld => ?_)
            have hS0 : S3 w (.cells #[.int .i64 5, .slice (some ⟨lg, lo, none⟩) left.length lc, .int .i64 goal.kind, .int .i64 goal.n, .slice ga goal.kids.length gc, .int .i64 i, .int .i64 m, .slice (some ⟨kg, ko, none⟩) [a, b].length kc] 37 (0, 0)) A B a.goal ya.ga ya.gc a.goal ya.ga ya.gc wc.drew := hSD
            have hltA := hS0.ha
            have hltB := hS0.hb
            generalize hV : wc.drew = V0 at *
            clear hV
            refine tk (v := ?_) 0 o19_32_0 (by rfl) ?_ ?_
            case refine_2 => unfold o19_32_0; intro w hSw; (try dsimp only at hSw); obtain ⟨_, _, _, _, _, _, hS_⟩ := hSw; have g0 := (hS_.bel.cell (p := ⟨bg, _, none⟩) hbg).trans e0; have g1 := (hS_.bel.cell (p := ⟨bg, _, none⟩) hbg).trans e1; have g2 := (hS_.bel.cell (p := ⟨bg, _, none⟩) hbg).trans e2; have q0 := (hS_.bel.cell (p := ⟨fg, _, none⟩) hfg).trans y0; have q1 := (hS_.bel.cell (p := ⟨fg, _, none⟩) hfg).trans y1; have q2 := (hS_.bel.cell (p := ⟨fg, _, none⟩) hfg).trans y2; have q3 := (hS_.bel.cell (p := ⟨fg, _, none⟩) hfg).trans y3; have q4 := (hS_.bel.cell (p := ⟨fg, _, none⟩) hfg).trans y4; have q5 := (hS_.bel.cell (p := ⟨fg, _, none⟩) hfg).trans y5; go_simp; (try with_reducible rfl)
            simp only [o19_32_0, Act.put, List.setIfInBounds_toArray, List.set_cons_zero, List.set_cons_succ]
            refine tk (v := ?_) 1 o19_32_1 (by rfl) ?_ ?_
            case refine_2 => unfold o19_32_1; intro w hSw; (try dsimp only at hSw); obtain ⟨_, _, _, _, _, _, hS_⟩ := hSw; have g0 := (hS_.bel.cell (p := ⟨bg, _, none⟩) hbg).trans e0; have g1 := (hS_.bel.cell (p := ⟨bg, _, none⟩) hbg).trans e1; have g2 := (hS_.bel.cell (p := ⟨bg, _, none⟩) hbg).trans e2; have q0 := (hS_.bel.cell (p := ⟨fg, _, none⟩) hfg).trans y0; have q1 := (hS_.bel.cell (p := ⟨fg, _, none⟩) hfg).trans y1; have q2 := (hS_.bel.cell (p := ⟨fg, _, none⟩) hfg).trans y2; have q3 := (hS_.bel.cell (p := ⟨fg, _, none⟩) hfg).trans y3; have q4 := (hS_.bel.cell (p := ⟨fg, _, none⟩) hfg).trans y4; have q5 := (hS_.bel.cell (p := ⟨fg, _, none⟩) hfg).trans y5; go_simp; (try with_reducible rfl)
            simp only [o19_32_1, Act.put, List.setIfInBounds_toArray, List.set_cons_zero, List.set_cons_succ]
            refine tk (v := ?_) 2 o19_32_2 (by rfl) ?_ ?_
            case refine_2 => unfold o19_32_2; intro w hSw; (try dsimp only at hSw); obtain ⟨_, _, _, _, _, _, hS_⟩ := hSw; have g0 := (hS_.bel.cell (p := ⟨bg, _, none⟩) hbg).trans e0; have g1 := (hS_.bel.cell (p := ⟨bg, _, none⟩) hbg).trans e1; have g2 := (hS_.bel.cell (p := ⟨bg, _, none⟩) hbg).trans e2; have q0 := (hS_.bel.cell (p := ⟨fg, _, none⟩) hfg).trans y0; have q1 := (hS_.bel.cell (p := ⟨fg, _, none⟩) hfg).trans y1; have q2 := (hS_.bel.cell (p := ⟨fg, _, none⟩) hfg).trans y2; have q3 := (hS_.bel.cell (p := ⟨fg, _, none⟩) hfg).trans y3; have q4 := (hS_.bel.cell (p := ⟨fg, _, none⟩) hfg).trans y4; have q5 := (hS_.bel.cell (p := ⟨fg, _, none⟩) hfg).trans y5; go_simp; (try with_reducible rfl)
            simp only [o19_32_2, Act.put, List.setIfInBounds_toArray, List.set_cons_zero, List.set_cons_succ]
            refine tk (v := ?_) 3 o19_32_3 (by rfl) ?_ ?_
            case refine_2 => unfold o19_32_3; intro w hSw; (try dsimp only at hSw); obtain ⟨_, _, _, _, _, _, hS_⟩ := hSw; have g0 := (hS_.bel.cell (p := ⟨bg, _, none⟩) hbg).trans e0; have g1 := (hS_.bel.cell (p := ⟨bg, _, none⟩) hbg).trans e1; have g2 := (hS_.bel.cell (p := ⟨bg, _, none⟩) hbg).trans e2; have q0 := (hS_.bel.cell (p := ⟨fg, _, none⟩) hfg).trans y0; have q1 := (hS_.bel.cell (p := ⟨fg, _, none⟩) hfg).trans y1; have q2 := (hS_.bel.cell (p := ⟨fg, _, none⟩) hfg).trans y2; have q3 := (hS_.bel.cell (p := ⟨fg, _, none⟩) hfg).trans y3; have q4 := (hS_.bel.cell (p := ⟨fg, _, none⟩) hfg).trans y4; have q5 := (hS_.bel.cell (p := ⟨fg, _, none⟩) hfg).trans y5; go_simp; (try with_reducible rfl)
            simp only [o19_32_3, Act.put, List.setIfInBounds_toArray, List.set_cons_zero, List.set_cons_succ]
            refine tk (v := ?_) 4 o19_32_4 (by rfl) ?_ ?_
            case refine_2 => unfold o19_32_4; intro w hSw; (try dsimp only at hSw); obtain ⟨_, _, _, _, _, _, hS_⟩ := hSw; have g0 := (hS_.bel.cell (p := ⟨bg, _, none⟩) hbg).trans e0; have g1 := (hS_.bel.cell (p := ⟨bg, _, none⟩) hbg).trans e1; have g2 := (hS_.bel.cell (p := ⟨bg, _, none⟩) hbg).trans e2; have q0 := (hS_.bel.cell (p := ⟨fg, _, none⟩) hfg).trans y0; have q1 := (hS_.bel.cell (p := ⟨fg, _, none⟩) hfg).trans y1; have q2 := (hS_.bel.cell (p := ⟨fg, _, none⟩) hfg).trans y2; have q3 := (hS_.bel.cell (p := ⟨fg, _, none⟩) hfg).trans y3; have q4 := (hS_.bel.cell (p := ⟨fg, _, none⟩) hfg).trans y4; have q5 := (hS_.bel.cell (p := ⟨fg, _, none⟩) hfg).trans y5; go_simp; (try with_reducible rfl)
            simp only [o19_32_4, Act.put, List.setIfInBounds_toArray, List.set_cons_zero, List.set_cons_succ]
            refine tk (v := ?_) 5 o19_32_5 (by rfl) ?_ ?_
            case refine_2 => unfold o19_32_5; intro w hSw; (try dsimp only at hSw); obtain ⟨_, _, _, _, _, _, hS_⟩ := hSw; have g0 := (hS_.bel.cell (p := ⟨bg, _, none⟩) hbg).trans e0; have g1 := (hS_.bel.cell (p := ⟨bg, _, none⟩) hbg).trans e1; have g2 := (hS_.bel.cell (p := ⟨bg, _, none⟩) hbg).trans e2; have q0 := (hS_.bel.cell (p := ⟨fg, _, none⟩) hfg).trans y0; have q1 := (hS_.bel.cell (p := ⟨fg, _, none⟩) hfg).trans y1; have q2 := (hS_.bel.cell (p := ⟨fg, _, none⟩) hfg).trans y2; have q3 := (hS_.bel.cell (p := ⟨fg, _, none⟩) hfg).trans y3; have q4 := (hS_.bel.cell (p := ⟨fg, _, none⟩) hfg).trans y4; have q5 := (hS_.bel.cell (p := ⟨fg, _, none⟩) hfg).trans y5; go_simp; (try with_reducible rfl)
            simp only [o19_32_5, Act.put, List.setIfInBounds_toArray, List.set_cons_zero, List.set_cons_succ]
            refine tk (v := ?_) 6 o19_32_6 (by rfl) ?_ ?_
            case refine_2 => unfold o19_32_6; intro w hSw; (try dsimp only at hSw); obtain ⟨_, _, _, _, _, _, hS_⟩ := hSw; have g0 := (hS_.bel.cell (p := ⟨bg, _, none⟩) hbg).trans e0; have g1 := (hS_.bel.cell (p := ⟨bg, _, none⟩) hbg).trans e1; have g2 := (hS_.bel.cell (p := ⟨bg, _, none⟩) hbg).trans e2; have q0 := (hS_.bel.cell (p := ⟨fg, _, none⟩) hfg).trans y0; have q1 := (hS_.bel.cell (p := ⟨fg, _, none⟩) hfg).trans y1; have q2 := (hS_.bel.cell (p := ⟨fg, _, none⟩) hfg).trans y2; have q3 := (hS_.bel.cell (p := ⟨fg, _, none⟩) hfg).trans y3; have q4 := (hS_.bel.cell (p := ⟨fg, _, none⟩) hfg).trans y4; have q5 := (hS_.bel.cell (p := ⟨fg, _, none⟩) hfg).trans y5; go_simp; (try with_reducible rfl)
            simp only [o19_32_6, Act.put, List.setIfInBounds_toArray, List.set_cons_zero, List.set_cons_succ]
            refine tk (v := ?_) 7 o19_32_7 (by rfl) ?_ ?_
            case refine_2 => unfold o19_32_7; intro w hSw; (try dsimp only at hSw); obtain ⟨_, _, _, _, _, _, hS_⟩ := hSw; have g0 := (hS_.bel.cell (p := ⟨bg, _, none⟩) hbg).trans e0; have g1 := (hS_.bel.cell (p := ⟨bg, _, none⟩) hbg).trans e1; have g2 := (hS_.bel.cell (p := ⟨bg, _, none⟩) hbg).trans e2; have q0 := (hS_.bel.cell (p := ⟨fg, _, none⟩) hfg).trans y0; have q1 := (hS_.bel.cell (p := ⟨fg, _, none⟩) hfg).trans y1; have q2 := (hS_.bel.cell (p := ⟨fg, _, none⟩) hfg).trans y2; have q3 := (hS_.bel.cell (p := ⟨fg, _, none⟩) hfg).trans y3; have q4 := (hS_.bel.cell (p := ⟨fg, _, none⟩) hfg).trans y4; have q5 := (hS_.bel.cell (p := ⟨fg, _, none⟩) hfg).trans y5; go_simp; (try with_reducible rfl)
            simp only [o19_32_7, Act.put, List.setIfInBounds_toArray, List.set_cons_zero, List.set_cons_succ]
            refine tk (v := ?_) 8 o19_32_8 (by rfl) ?_ ?_
            case refine_2 => unfold o19_32_8; intro w hSw; (try dsimp only at hSw); obtain ⟨_, _, _, _, _, _, hS_⟩ := hSw; have g0 := (hS_.bel.cell (p := ⟨bg, _, none⟩) hbg).trans e0; have g1 := (hS_.bel.cell (p := ⟨bg, _, none⟩) hbg).trans e1; have g2 := (hS_.bel.cell (p := ⟨bg, _, none⟩) hbg).trans e2; have q0 := (hS_.bel.cell (p := ⟨fg, _, none⟩) hfg).trans y0; have q1 := (hS_.bel.cell (p := ⟨fg, _, none⟩) hfg).trans y1; have q2 := (hS_.bel.cell (p := ⟨fg, _, none⟩) hfg).trans y2; have q3 := (hS_.bel.cell (p := ⟨fg, _, none⟩) hfg).trans y3; have q4 := (hS_.bel.cell (p := ⟨fg, _, none⟩) hfg).trans y4; have q5 := (hS_.bel.cell (p := ⟨fg, _, none⟩) hfg).trans y5; go_simp; (try with_reducible rfl)
            simp only [o19_32_8, Act.put, List.setIfInBounds_toArray, List.set_cons_zero, List.set_cons_succ]
            refine tk (v := ?_) 9 o19_32_9 (by rfl) ?_ ?_
            case refine_2 => unfold o19_32_9; intro w hSw; (try dsimp only at hSw); obtain ⟨_, _, _, _, _, _, hS_⟩ := hSw; have g0 := (hS_.bel.cell (p := ⟨bg, _, none⟩) hbg).trans e0; have g1 := (hS_.bel.cell (p := ⟨bg, _, none⟩) hbg).trans e1; have g2 := (hS_.bel.cell (p := ⟨bg, _, none⟩) hbg).trans e2; have q0 := (hS_.bel.cell (p := ⟨fg, _, none⟩) hfg).trans y0; have q1 := (hS_.bel.cell (p := ⟨fg, _, none⟩) hfg).trans y1; have q2 := (hS_.bel.cell (p := ⟨fg, _, none⟩) hfg).trans y2; have q3 := (hS_.bel.cell (p := ⟨fg, _, none⟩) hfg).trans y3; have q4 := (hS_.bel.cell (p := ⟨fg, _, none⟩) hfg).trans y4; have q5 := (hS_.bel.cell (p := ⟨fg, _, none⟩) hfg).trans y5; go_simp; (try with_reducible rfl)
            simp only [o19_32_9, Act.put, List.setIfInBounds_toArray, List.set_cons_zero, List.set_cons_succ]
            refine tk (v := ?_) 10 o19_32_10 (by rfl) ?_ ?_
            case refine_2 => unfold o19_32_10; intro w hSw; (try dsimp only at hSw); obtain ⟨_, _, _, _, _, _, hS_⟩ := hSw; have g0 := (hS_.bel.cell (p := ⟨bg, _, none⟩) hbg).trans e0; have g1 := (hS_.bel.cell (p := ⟨bg, _, none⟩) hbg).trans e1; have g2 := (hS_.bel.cell (p := ⟨bg, _, none⟩) hbg).trans e2; have q0 := (hS_.bel.cell (p := ⟨fg, _, none⟩) hfg).trans y0; have q1 := (hS_.bel.cell (p := ⟨fg, _, none⟩) hfg).trans y1; have q2 := (hS_.bel.cell (p := ⟨fg, _, none⟩) hfg).trans y2; have q3 := (hS_.bel.cell (p := ⟨fg, _, none⟩) hfg).trans y3; have q4 := (hS_.bel.cell (p := ⟨fg, _, none⟩) hfg).trans y4; have q5 := (hS_.bel.cell (p := ⟨fg, _, none⟩) hfg).trans y5; go_simp; (try with_reducible rfl)
            simp only [o19_32_10, Act.put, List.setIfInBounds_toArray, List.set_cons_zero, List.set_cons_succ]
            refine tk (v := ?_) 11 o19_32_11 (by rfl) ?_ ?_
            case refine_2 => unfold o19_32_11; intro w hSw; (try dsimp only at hSw); obtain ⟨_, _, _, _, _, _, hS_⟩ := hSw; have g0 := (hS_.bel.cell (p := ⟨bg, _, none⟩) hbg).trans e0; have g1 := (hS_.bel.cell (p := ⟨bg, _, none⟩) hbg).trans e1; have g2 := (hS_.bel.cell (p := ⟨bg, _, none⟩) hbg).trans e2; have q0 := (hS_.bel.cell (p := ⟨fg, _, none⟩) hfg).trans y0; have q1 := (hS_.bel.cell (p := ⟨fg, _, none⟩) hfg).trans y1; have q2 := (hS_.bel.cell (p := ⟨fg, _, none⟩) hfg).trans y2; have q3 := (hS_.bel.cell (p := ⟨fg, _, none⟩) hfg).trans y3; have q4 := (hS_.bel.cell (p := ⟨fg, _, none⟩) hfg).trans y4; have q5 := (hS_.bel.cell (p := ⟨fg, _, none⟩) hfg).trans y5; go_simp; (try with_reducible rfl)
            simp only [o19_32_11, Act.put, List.setIfInBounds_toArray, List.set_cons_zero, List.set_cons_succ]
            refine tk (v := ?_) 12 o19_32_12 (by rfl) ?_ ?_
            case refine_2 => unfold o19_32_12; intro w hSw; (try dsimp only at hSw); obtain ⟨_, _, _, _, _, _, hS_⟩ := hSw; have g0 := (hS_.bel.cell (p := ⟨bg, _, none⟩) hbg).trans e0; have g1 := (hS_.bel.cell (p := ⟨bg, _, none⟩) hbg).trans e1; have g2 := (hS_.bel.cell (p := ⟨bg, _, none⟩) hbg).trans e2; have q0 := (hS_.bel.cell (p := ⟨fg, _, none⟩) hfg).trans y0; have q1 := (hS_.bel.cell (p := ⟨fg, _, none⟩) hfg).trans y1; have q2 := (hS_.bel.cell (p := ⟨fg, _, none⟩) hfg).trans y2; have q3 := (hS_.bel.cell (p := ⟨fg, _, none⟩) hfg).trans y3; have q4 := (hS_.bel.cell (p := ⟨fg, _, none⟩) hfg).trans y4; have q5 := (hS_.bel.cell (p := ⟨fg, _, none⟩) hfg).trans y5; go_simp; (try with_reducible rfl)
            simp only [o19_32_12, Act.put, List.setIfInBounds_toArray, List.set_cons_zero, List.set_cons_succ]
            refine tk (v := ?_) 13 o19_32_13 (by rfl) ?_ ?_
            case refine_2 => unfold o19_32_13; intro w hSw; (try dsimp only at hSw); obtain ⟨_, _, _, _, _, _, hS_⟩ := hSw; have g0 := (hS_.bel.cell (p := ⟨bg, _, none⟩) hbg).trans e0; have g1 := (hS_.bel.cell (p := ⟨bg, _, none⟩) hbg).trans e1; have g2 := (hS_.bel.cell (p := ⟨bg, _, none⟩) hbg).trans e2; have q0 := (hS_.bel.cell (p := ⟨fg, _, none⟩) hfg).trans y0; have q1 := (hS_.bel.cell (p := ⟨fg, _, none⟩) hfg).trans y1; have q2 := (hS_.bel.cell (p := ⟨fg, _, none⟩) hfg).trans y2; have q3 := (hS_.bel.cell (p := ⟨fg, _, none⟩) hfg).trans y3; have q4 := (hS_.bel.cell (p := ⟨fg, _, none⟩) hfg).trans y4; have q5 := (hS_.bel.cell (p := ⟨fg, _, none⟩) hfg).trans y5; go_simp; (try with_reducible rfl)
            simp only [o19_32_13, Act.put, List.setIfInBounds_toArray, List.set_cons_zero, List.set_cons_succ]
            refine wpAnyH_ready (rs := [14]) (by kernel_rfl) (by simp) ?_
            refine (AllReadyH.cons (o := o19_32_14) rfl (fun K hK => ?_) AllReadyH.nil)
            unfold o19_32_14
            have m0 := cell_of_row _ _ 0 _ _ _ hS0.ra
            have f0 := frozen_of_row _ _ 0 _ 24 hS0.ra
            have m1 := cell_of_row _ _ 1 _ _ _ hS0.ra
            have f1 := frozen_of_row _ _ 1 _ 24 hS0.ra
            have m2 := cell_of_row _ _ 2 _ _ _ hS0.ra
            have f2 := frozen_of_row _ _ 2 _ 24 hS0.ra
            go_simp
            have hS1 := hS0.setA x ax cx
            refine hK.out _ _ ?_ (fun hHeld => ?_)
            · exact ⟨_, _, _, _, _, _, hS1⟩
            clear hK K
            try simp only [Act.put, List.setIfInBounds_toArray, List.set_cons_zero, List.set_cons_succ]
            clear m0 m1 m2 f0 f1 f2
            generalize hV : ((V0.setCell ⟨A, 0, none⟩ (.int .i64 x.kind)).setCell ⟨A, 1, none⟩ (.int .i64 x.n)).setCell ⟨A, 2, none⟩ (.slice ax x.kids.length cx) = V1 at *
            clear hV
            refine wpAnyH_ready (rs := [15]) (by kernel_rfl) (by simp) ?_
            refine (AllReadyH.cons (o := o19_32_15) rfl (fun K hK => ?_) AllReadyH.nil)
            unfold o19_32_15
            have m0 := cell_of_row _ _ 0 _ _ _ hS1.rb
            have f0 := frozen_of_row _ _ 0 _ 24 hS1.rb
            have m1 := cell_of_row _ _ 1 _ _ _ hS1.rb
            have f1 := frozen_of_row _ _ 1 _ 24 hS1.rb
            have m2 := cell_of_row _ _ 2 _ _ _ hS1.rb
            have f2 := frozen_of_row _ _ 2 _ 24 hS1.rb
            go_simp
            have hS2 := hS1.setB y ay cy
            refine hK.out _ _ ?_ (fun hHeld => ?_)
            · exact ⟨_, _, _, _, _, _, hS2⟩
            clear hK K
            try simp only [Act.put, List.setIfInBounds_toArray, List.set_cons_zero, List.set_cons_succ]
            clear m0 m1 m2 f0 f1 f2
            generalize hV : ((V1.setCell ⟨B, 0, none⟩ (.int .i64 y.kind)).setCell ⟨B, 1, none⟩ (.int .i64 y.n)).setCell ⟨B, 2, none⟩ (.slice ay y.kids.length cy) = V2 at *
            clear hV
            refine tk (v := ?_) 16 o19_32_16 (by rfl) ?_ ?_
            case refine_2 => unfold o19_32_16; intro w hSw; (try dsimp only at hSw); obtain ⟨_, _, _, _, _, _, hS_⟩ := hSw; have g0 := (hS_.bel.cell (p := ⟨bg, _, none⟩) hbg).trans e0; have g1 := (hS_.bel.cell (p := ⟨bg, _, none⟩) hbg).trans e1; have g2 := (hS_.bel.cell (p := ⟨bg, _, none⟩) hbg).trans e2; have q0 := (hS_.bel.cell (p := ⟨fg, _, none⟩) hfg).trans y0; have q1 := (hS_.bel.cell (p := ⟨fg, _, none⟩) hfg).trans y1; have q2 := (hS_.bel.cell (p := ⟨fg, _, none⟩) hfg).trans y2; have q3 := (hS_.bel.cell (p := ⟨fg, _, none⟩) hfg).trans y3; have q4 := (hS_.bel.cell (p := ⟨fg, _, none⟩) hfg).trans y4; have q5 := (hS_.bel.cell (p := ⟨fg, _, none⟩) hfg).trans y5; go_simp; (try with_reducible rfl)
            simp only [o19_32_16, Act.put, List.setIfInBounds_toArray, List.set_cons_zero, List.set_cons_succ]
            refine wpAnyH_done (by kernel_rfl) ?_ _
            go_upto_region 33 with fail
            have hS := hS2
            have HXT : Hid (TyAt w d' x ax cx) := HX.out
            have HYT : Hid (TyAt w d' y ay cy) := HY.out
            obtain ⟨r1, h1⟩ := fix_bool (a.left = D ∧ a.goal = y)
            obtain ⟨fl, hfl⟩ : ∃ fl, G ++ [x] ++ [] = fl := ⟨_, rfl⟩
            have HJN : Hid (G ++ [x] ++ [] = fl) := hfl
            obtain ⟨r2, h2⟩ := fix_bool (b.left = fl ∧ b.goal = goal)
            have hrr : r = (r1 && r2) := by
              have h3 := HR.out.trans (rt_two rfl HRA.out HRB.out HBE.out)
              rw [hfl, ← h1, ← h2] at h3
              revert h3
              cases r <;> cases r1 <;> cases r2 <;> simp
            have H1 : Hid (r1 = true ↔ a.left = D ∧ a.goal = y) := h1
            have H2 : Hid (r2 = true ↔ b.left = fl ∧ b.goal = goal) := h2
            clear h1 h2 hfl
            subst hrr
            cases r1 with
            | false =>
              have HCE : Hid _ := fun (W : World) (hSw : S3 w (.cells #[.int .i64 5, .slice (some ⟨lg, lo, none⟩) left.length lc, .int .i64 goal.kind, .int .i64 goal.n, .slice ga goal.kids.length gc, .int .i64 i, .int .i64 m, .slice (some ⟨kg, ko, none⟩) [a, b].length kc] 37 (0, 0)) A B x ax cx y ay cy W) => (And.intro (cell_of_row _ _ 2 _ _ _ hSw.box) (And.intro (cell_of_row _ _ 3 _ _ _ hSw.box) (And.intro (cell_of_row _ _ 4 _ _ _ hSw.box) (And.intro (cell_of_row _ _ 7 _ _ _ hSw.box) (And.intro (cell_of_row _ _ 0 _ _ _ hSw.ra) (And.intro (cell_of_row _ _ 1 _ _ _ hSw.ra) (And.intro (cell_of_row _ _ 2 _ _ _ hSw.ra) (And.intro (cell_of_row _ _ 0 _ _ _ hSw.rb) (And.intro (cell_of_row _ _ 1 _ _ _ hSw.rb) (And.intro (cell_of_row _ _ 2 _ _ _ hSw.rb) (And.intro ((hSw.bel.cell (p := ⟨kg, _, none⟩) hkg).trans c0) (And.intro ((hSw.bel.cell (p := ⟨kg, _, none⟩) hkg).trans c1) (And.intro ((hSw.bel.cell (p := ⟨kg, _, none⟩) hkg).trans c2) (And.intro ((hSw.bel.cell (p := ⟨kg, _, none⟩) hkg).trans c3) (And.intro ((hSw.bel.cell (p := ⟨kg, _, none⟩) hkg).trans c4) (And.intro ((hSw.bel.cell (p := ⟨kg, _, none⟩) hkg).trans c5) (And.intro ((hSw.bel.cell (p := ⟨kg, _, none⟩) hkg).trans c6) (And.intro ((hSw.bel.cell (p := ⟨kg, _, none⟩) hkg).trans c7) (And.intro ((hSw.bel.cell (p := ⟨kg, _, none⟩) hkg).trans d0) (And.intro ((hSw.bel.cell (p := ⟨kg, _, none⟩) hkg).trans d1) (And.intro ((hSw.bel.cell (p := ⟨kg, _, none⟩) hkg).trans d2) (And.intro ((hSw.bel.cell (p := ⟨kg, _, none⟩) hkg).trans d3) (And.intro ((hSw.bel.cell (p := ⟨kg, _, none⟩) hkg).trans d4) (And.intro ((hSw.bel.cell (p := ⟨kg, _, none⟩) hkg).trans d5) (And.intro ((hSw.bel.cell (p := ⟨kg, _, none⟩) hkg).trans d6) ((hSw.bel.cell (p := ⟨kg, _, none⟩) hkg).trans d7))))))))))))))))))))))))))
              refine wp_region_held_drew (S := fun W => S3 w (.cells #[.int .i64 5, .slice (some ⟨lg, lo, none⟩) left.length lc, .int .i64 goal.kind, .int .i64 goal.n, .slice ga goal.kids.length gc, .int .i64 i, .int .i64 m, .slice (some ⟨kg, ko, none⟩) [a, b].length kc] 37 (0, 0)) A B x ax cx y ay cy W) (by kernel_rfl) (by exact hS.below (below_drewN (Below.refl _ _) 1)) (fun hHeld => ?_)
              have hS0 := hHeld
              generalize hV : V2.drew = V0 at *
              clear hV
              refine tk (v := ?_) 0 o19_33_0 (by rfl) ?_ ?_
              case refine_2 => unfold o19_33_0; intro w hSw; obtain ⟨p2, p3, p4, p7, u0_, u1_, u2_, v0_, v1_, v2_, s0, s1, s2, s3, s4, s5, s6, s7, t0, t1, t2, t3, t4, t5, t6, t7⟩ := HCE.out _ hSw; go_simp; (try with_reducible rfl)
              simp only [o19_33_0, Act.put, List.setIfInBounds_toArray, List.set_cons_zero, List.set_cons_succ]
              refine tk (v := ?_) 1 o19_33_1 (by rfl) ?_ ?_
              case refine_2 => unfold o19_33_1; intro w hSw; obtain ⟨p2, p3, p4, p7, u0_, u1_, u2_, v0_, v1_, v2_, s0, s1, s2, s3, s4, s5, s6, s7, t0, t1, t2, t3, t4, t5, t6, t7⟩ := HCE.out _ hSw; go_simp; (try with_reducible rfl)
              simp only [o19_33_1, Act.put, List.setIfInBounds_toArray, List.set_cons_zero, List.set_cons_succ]
              refine tk (v := ?_) 2 o19_33_2 (by rfl) ?_ ?_
              case refine_2 => unfold o19_33_2; intro w hSw; obtain ⟨p2, p3, p4, p7, u0_, u1_, u2_, v0_, v1_, v2_, s0, s1, s2, s3, s4, s5, s6, s7, t0, t1, t2, t3, t4, t5, t6, t7⟩ := HCE.out _ hSw; go_simp; (try with_reducible rfl)
              simp only [o19_33_2, Act.put, List.setIfInBounds_toArray, List.set_cons_zero, List.set_cons_succ]
              refine tk (v := ?_) 3 o19_33_3 (by rfl) ?_ ?_
              case refine_2 => unfold o19_33_3; intro w hSw; obtain ⟨p2, p3, p4, p7, u0_, u1_, u2_, v0_, v1_, v2_, s0, s1, s2, s3, s4, s5, s6, s7, t0, t1, t2, t3, t4, t5, t6, t7⟩ := HCE.out _ hSw; go_simp; (try with_reducible rfl)
              simp only [o19_33_3, Act.put, List.setIfInBounds_toArray, List.set_cons_zero, List.set_cons_succ]
              refine tk (v := ?_) 4 o19_33_4 (by rfl) ?_ ?_
              case refine_2 => unfold o19_33_4; intro w hSw; obtain ⟨p2, p3, p4, p7, u0_, u1_, u2_, v0_, v1_, v2_, s0, s1, s2, s3, s4, s5, s6, s7, t0, t1, t2, t3, t4, t5, t6, t7⟩ := HCE.out _ hSw; go_simp; (try with_reducible rfl)
              simp only [o19_33_4, Act.put, List.setIfInBounds_toArray, List.set_cons_zero, List.set_cons_succ]
              refine tk (v := ?_) 5 o19_33_5 (by rfl) ?_ ?_
              case refine_2 => unfold o19_33_5; intro w hSw; obtain ⟨p2, p3, p4, p7, u0_, u1_, u2_, v0_, v1_, v2_, s0, s1, s2, s3, s4, s5, s6, s7, t0, t1, t2, t3, t4, t5, t6, t7⟩ := HCE.out _ hSw; go_simp; (try with_reducible rfl)
              simp only [o19_33_5, Act.put, List.setIfInBounds_toArray, List.set_cons_zero, List.set_cons_succ]
              refine wpAnyH_ready (rs := [6]) (by kernel_rfl) (by simp) ?_
              refine (AllReadyH.cons (o := o19_33_6) rfl (fun K hK => ?_) AllReadyH.nil)
              unfold o19_33_6
              go_simp
              have KQ := says_any a ya D _ _ y ay cy V0 false (HPA.out.below hS0.bel) (HD.out.below hS0.bel) (HYT.out.below hS0.bel) H1.out
              rw [HDL.out] at KQ
              unfold vpf vty at KQ
              (with_reducible refine KQ.mono ?_)
              clear KQ
              rintro e1 V1 ⟨rfl, hb1⟩
              dsimp only
              have hS1 := hS0.below hb1
              refine hK.out _ _ ?_ (fun hHeld => ?_)
              · exact hS1
              clear hK K
              try simp only [Act.put, List.setIfInBounds_toArray, List.set_cons_zero, List.set_cons_succ]
              refine tk (v := ?_) 7 o19_33_7 (by rfl) ?_ ?_
              case refine_2 => unfold o19_33_7; intro w hSw; obtain ⟨p2, p3, p4, p7, u0_, u1_, u2_, v0_, v1_, v2_, s0, s1, s2, s3, s4, s5, s6, s7, t0, t1, t2, t3, t4, t5, t6, t7⟩ := HCE.out _ hSw; go_simp; (try with_reducible rfl)
              simp only [o19_33_7, Act.put, List.setIfInBounds_toArray, List.set_cons_zero, List.set_cons_succ]
              refine tks 8 o19_33_8 (by rfl) ?_
              simp only [o19_33_8, Act.put, List.setIfInBounds_toArray, List.set_cons_zero, List.set_cons_succ]
              refine tks 9 o19_33_9 (by rfl) ?_
              simp only [o19_33_9, Act.put, List.setIfInBounds_toArray, List.set_cons_zero, List.set_cons_succ]
              refine tks 10 o19_33_10 (by rfl) ?_
              simp only [o19_33_10, Act.put, List.setIfInBounds_toArray, List.set_cons_zero, List.set_cons_succ]
              refine tks 11 o19_33_11 (by rfl) ?_
              simp only [o19_33_11, Act.put, List.setIfInBounds_toArray, List.set_cons_zero, List.set_cons_succ]
              refine tks 12 o19_33_12 (by rfl) ?_
              simp only [o19_33_12, Act.put, List.setIfInBounds_toArray, List.set_cons_zero, List.set_cons_succ]
              refine tks 13 o19_33_13 (by rfl) ?_
              simp only [o19_33_13, Act.put, List.setIfInBounds_toArray, List.set_cons_zero, List.set_cons_succ]
              refine tks 14 o19_33_14 (by rfl) ?_
              simp only [o19_33_14, Act.put, List.setIfInBounds_toArray, List.set_cons_zero, List.set_cons_succ]
              refine tks 15 o19_33_15 (by rfl) ?_
              simp only [o19_33_15, Act.put, List.setIfInBounds_toArray, List.set_cons_zero, List.set_cons_succ]
              refine tks 16 o19_33_16 (by rfl) ?_
              simp only [o19_33_16, Act.put, List.setIfInBounds_toArray, List.set_cons_zero, List.set_cons_succ]
              refine tks 17 o19_33_17 (by rfl) ?_
              simp only [o19_33_17, Act.put, List.setIfInBounds_toArray, List.set_cons_zero, List.set_cons_succ]
              refine tks 18 o19_33_18 (by rfl) ?_
              simp only [o19_33_18, Act.put, List.setIfInBounds_toArray, List.set_cons_zero, List.set_cons_succ]
              refine tks 19 o19_33_19 (by rfl) ?_
              simp only [o19_33_19, Act.put, List.setIfInBounds_toArray, List.set_cons_zero, List.set_cons_succ]
              refine tks 20 o19_33_20 (by rfl) ?_
              simp only [o19_33_20, Act.put, List.setIfInBounds_toArray, List.set_cons_zero, List.set_cons_succ]
              refine tk (v := ?_) 21 o19_33_21 (by rfl) ?_ ?_
              case refine_2 => unfold o19_33_21; intro w hSw; obtain ⟨p2, p3, p4, p7, u0_, u1_, u2_, v0_, v1_, v2_, s0, s1, s2, s3, s4, s5, s6, s7, t0, t1, t2, t3, t4, t5, t6, t7⟩ := HCE.out _ hSw; go_simp; (try with_reducible rfl)
              simp only [o19_33_21, Act.put, List.setIfInBounds_toArray, List.set_cons_zero, List.set_cons_succ]
              refine tk (v := ?_) 22 o19_33_22 (by rfl) ?_ ?_
              case refine_2 => unfold o19_33_22; intro w hSw; obtain ⟨p2, p3, p4, p7, u0_, u1_, u2_, v0_, v1_, v2_, s0, s1, s2, s3, s4, s5, s6, s7, t0, t1, t2, t3, t4, t5, t6, t7⟩ := HCE.out _ hSw; go_simp; (try with_reducible rfl)
              simp only [o19_33_22, Act.put, List.setIfInBounds_toArray, List.set_cons_zero, List.set_cons_succ]
              refine wpAnyH_done (by kernel_rfl) ?_ _
              go_wp2_with fail
              go_ret
              exact ⟨rfl, hS1.bel⟩
            | true =>
              have HCE : Hid _ := fun (W : World) (hSw : S3 w (.cells #[.int .i64 5, .slice (some ⟨lg, lo, none⟩) left.length lc, .int .i64 goal.kind, .int .i64 goal.n, .slice ga goal.kids.length gc, .int .i64 i, .int .i64 m, .slice (some ⟨kg, ko, none⟩) [a, b].length kc] 37 (0, 0)) A B x ax cx y ay cy W) => (And.intro (cell_of_row _ _ 2 _ _ _ hSw.box) (And.intro (cell_of_row _ _ 3 _ _ _ hSw.box) (And.intro (cell_of_row _ _ 4 _ _ _ hSw.box) (And.intro (cell_of_row _ _ 7 _ _ _ hSw.box) (And.intro (cell_of_row _ _ 0 _ _ _ hSw.ra) (And.intro (cell_of_row _ _ 1 _ _ _ hSw.ra) (And.intro (cell_of_row _ _ 2 _ _ _ hSw.ra) (And.intro (cell_of_row _ _ 0 _ _ _ hSw.rb) (And.intro (cell_of_row _ _ 1 _ _ _ hSw.rb) (And.intro (cell_of_row _ _ 2 _ _ _ hSw.rb) (And.intro ((hSw.bel.cell (p := ⟨kg, _, none⟩) hkg).trans c0) (And.intro ((hSw.bel.cell (p := ⟨kg, _, none⟩) hkg).trans c1) (And.intro ((hSw.bel.cell (p := ⟨kg, _, none⟩) hkg).trans c2) (And.intro ((hSw.bel.cell (p := ⟨kg, _, none⟩) hkg).trans c3) (And.intro ((hSw.bel.cell (p := ⟨kg, _, none⟩) hkg).trans c4) (And.intro ((hSw.bel.cell (p := ⟨kg, _, none⟩) hkg).trans c5) (And.intro ((hSw.bel.cell (p := ⟨kg, _, none⟩) hkg).trans c6) (And.intro ((hSw.bel.cell (p := ⟨kg, _, none⟩) hkg).trans c7) (And.intro ((hSw.bel.cell (p := ⟨kg, _, none⟩) hkg).trans d0) (And.intro ((hSw.bel.cell (p := ⟨kg, _, none⟩) hkg).trans d1) (And.intro ((hSw.bel.cell (p := ⟨kg, _, none⟩) hkg).trans d2) (And.intro ((hSw.bel.cell (p := ⟨kg, _, none⟩) hkg).trans d3) (And.intro ((hSw.bel.cell (p := ⟨kg, _, none⟩) hkg).trans d4) (And.intro ((hSw.bel.cell (p := ⟨kg, _, none⟩) hkg).trans d5) (And.intro ((hSw.bel.cell (p := ⟨kg, _, none⟩) hkg).trans d6) ((hSw.bel.cell (p := ⟨kg, _, none⟩) hkg).trans d7))))))))))))))))))))))))))
              refine wp_region_held_drew (S := fun W => S3 w (.cells #[.int .i64 5, .slice (some ⟨lg, lo, none⟩) left.length lc, .int .i64 goal.kind, .int .i64 goal.n, .slice ga goal.kids.length gc, .int .i64 i, .int .i64 m, .slice (some ⟨kg, ko, none⟩) [a, b].length kc] 37 (0, 0)) A B x ax cx y ay cy W) (by kernel_rfl) (by exact hS.below (below_drewN (Below.refl _ _) 1)) (fun hHeld => ?_)
              have hS0 := hHeld
              generalize hV : V2.drew = V0 at *
              clear hV
              refine tk (v := ?_) 0 o19_33_0 (by rfl) ?_ ?_
              case refine_2 => unfold o19_33_0; intro w hSw; obtain ⟨p2, p3, p4, p7, u0_, u1_, u2_, v0_, v1_, v2_, s0, s1, s2, s3, s4, s5, s6, s7, t0, t1, t2, t3, t4, t5, t6, t7⟩ := HCE.out _ hSw; go_simp; (try with_reducible rfl)
              simp only [o19_33_0, Act.put, List.setIfInBounds_toArray, List.set_cons_zero, List.set_cons_succ]
              refine tk (v := ?_) 1 o19_33_1 (by rfl) ?_ ?_
              case refine_2 => unfold o19_33_1; intro w hSw; obtain ⟨p2, p3, p4, p7, u0_, u1_, u2_, v0_, v1_, v2_, s0, s1, s2, s3, s4, s5, s6, s7, t0, t1, t2, t3, t4, t5, t6, t7⟩ := HCE.out _ hSw; go_simp; (try with_reducible rfl)
              simp only [o19_33_1, Act.put, List.setIfInBounds_toArray, List.set_cons_zero, List.set_cons_succ]
              refine tk (v := ?_) 2 o19_33_2 (by rfl) ?_ ?_
              case refine_2 => unfold o19_33_2; intro w hSw; obtain ⟨p2, p3, p4, p7, u0_, u1_, u2_, v0_, v1_, v2_, s0, s1, s2, s3, s4, s5, s6, s7, t0, t1, t2, t3, t4, t5, t6, t7⟩ := HCE.out _ hSw; go_simp; (try with_reducible rfl)
              simp only [o19_33_2, Act.put, List.setIfInBounds_toArray, List.set_cons_zero, List.set_cons_succ]
              refine tk (v := ?_) 3 o19_33_3 (by rfl) ?_ ?_
              case refine_2 => unfold o19_33_3; intro w hSw; obtain ⟨p2, p3, p4, p7, u0_, u1_, u2_, v0_, v1_, v2_, s0, s1, s2, s3, s4, s5, s6, s7, t0, t1, t2, t3, t4, t5, t6, t7⟩ := HCE.out _ hSw; go_simp; (try with_reducible rfl)
              simp only [o19_33_3, Act.put, List.setIfInBounds_toArray, List.set_cons_zero, List.set_cons_succ]
              refine tk (v := ?_) 4 o19_33_4 (by rfl) ?_ ?_
              case refine_2 => unfold o19_33_4; intro w hSw; obtain ⟨p2, p3, p4, p7, u0_, u1_, u2_, v0_, v1_, v2_, s0, s1, s2, s3, s4, s5, s6, s7, t0, t1, t2, t3, t4, t5, t6, t7⟩ := HCE.out _ hSw; go_simp; (try with_reducible rfl)
              simp only [o19_33_4, Act.put, List.setIfInBounds_toArray, List.set_cons_zero, List.set_cons_succ]
              refine tk (v := ?_) 5 o19_33_5 (by rfl) ?_ ?_
              case refine_2 => unfold o19_33_5; intro w hSw; obtain ⟨p2, p3, p4, p7, u0_, u1_, u2_, v0_, v1_, v2_, s0, s1, s2, s3, s4, s5, s6, s7, t0, t1, t2, t3, t4, t5, t6, t7⟩ := HCE.out _ hSw; go_simp; (try with_reducible rfl)
              simp only [o19_33_5, Act.put, List.setIfInBounds_toArray, List.set_cons_zero, List.set_cons_succ]
              refine wpAnyH_ready (rs := [6]) (by kernel_rfl) (by simp) ?_
              refine (AllReadyH.cons (o := o19_33_6) rfl (fun K hK => ?_) AllReadyH.nil)
              unfold o19_33_6
              go_simp
              have KQ := says_any a ya D _ _ y ay cy V0 true (HPA.out.below hS0.bel) (HD.out.below hS0.bel) (HYT.out.below hS0.bel) H1.out
              rw [HDL.out] at KQ
              unfold vpf vty at KQ
              (with_reducible refine KQ.mono ?_)
              clear KQ
              rintro e1 V1 ⟨rfl, hb1⟩
              dsimp only
              have hS1 := hS0.below hb1
              refine hK.out _ _ ?_ (fun hHeld => ?_)
              · exact hS1
              clear hK K
              try simp only [Act.put, List.setIfInBounds_toArray, List.set_cons_zero, List.set_cons_succ]
              refine tk (v := ?_) 7 o19_33_7 (by rfl) ?_ ?_
              case refine_2 => unfold o19_33_7; intro w hSw; obtain ⟨p2, p3, p4, p7, u0_, u1_, u2_, v0_, v1_, v2_, s0, s1, s2, s3, s4, s5, s6, s7, t0, t1, t2, t3, t4, t5, t6, t7⟩ := HCE.out _ hSw; go_simp; (try with_reducible rfl)
              simp only [o19_33_7, Act.put, List.setIfInBounds_toArray, List.set_cons_zero, List.set_cons_succ]
              refine tk (v := ?_) 8 o19_33_8 (by rfl) ?_ ?_
              case refine_2 => unfold o19_33_8; intro w hSw; obtain ⟨p2, p3, p4, p7, u0_, u1_, u2_, v0_, v1_, v2_, s0, s1, s2, s3, s4, s5, s6, s7, t0, t1, t2, t3, t4, t5, t6, t7⟩ := HCE.out _ hSw; go_simp; (try with_reducible rfl)
              simp only [o19_33_8, Act.put, List.setIfInBounds_toArray, List.set_cons_zero, List.set_cons_succ]
              refine tk (v := ?_) 9 o19_33_9 (by rfl) ?_ ?_
              case refine_2 => unfold o19_33_9; intro w hSw; obtain ⟨p2, p3, p4, p7, u0_, u1_, u2_, v0_, v1_, v2_, s0, s1, s2, s3, s4, s5, s6, s7, t0, t1, t2, t3, t4, t5, t6, t7⟩ := HCE.out _ hSw; go_simp; (try with_reducible rfl)
              simp only [o19_33_9, Act.put, List.setIfInBounds_toArray, List.set_cons_zero, List.set_cons_succ]
              refine tk (v := ?_) 10 o19_33_10 (by rfl) ?_ ?_
              case refine_2 => unfold o19_33_10; intro w hSw; obtain ⟨p2, p3, p4, p7, u0_, u1_, u2_, v0_, v1_, v2_, s0, s1, s2, s3, s4, s5, s6, s7, t0, t1, t2, t3, t4, t5, t6, t7⟩ := HCE.out _ hSw; go_simp; (try with_reducible rfl)
              simp only [o19_33_10, Act.put, List.setIfInBounds_toArray, List.set_cons_zero, List.set_cons_succ]
              refine tk (v := ?_) 11 o19_33_11 (by rfl) ?_ ?_
              case refine_2 => unfold o19_33_11; intro w hSw; obtain ⟨p2, p3, p4, p7, u0_, u1_, u2_, v0_, v1_, v2_, s0, s1, s2, s3, s4, s5, s6, s7, t0, t1, t2, t3, t4, t5, t6, t7⟩ := HCE.out _ hSw; go_simp; (try with_reducible rfl)
              simp only [o19_33_11, Act.put, List.setIfInBounds_toArray, List.set_cons_zero, List.set_cons_succ]
              refine tk (v := ?_) 12 o19_33_12 (by rfl) ?_ ?_
              case refine_2 => unfold o19_33_12; intro w hSw; obtain ⟨p2, p3, p4, p7, u0_, u1_, u2_, v0_, v1_, v2_, s0, s1, s2, s3, s4, s5, s6, s7, t0, t1, t2, t3, t4, t5, t6, t7⟩ := HCE.out _ hSw; go_simp; (try with_reducible rfl)
              simp only [o19_33_12, Act.put, List.setIfInBounds_toArray, List.set_cons_zero, List.set_cons_succ]
              refine tk (v := ?_) 13 o19_33_13 (by rfl) ?_ ?_
              case refine_2 => unfold o19_33_13; intro w hSw; obtain ⟨p2, p3, p4, p7, u0_, u1_, u2_, v0_, v1_, v2_, s0, s1, s2, s3, s4, s5, s6, s7, t0, t1, t2, t3, t4, t5, t6, t7⟩ := HCE.out _ hSw; go_simp; (try with_reducible rfl)
              simp only [o19_33_13, Act.put, List.setIfInBounds_toArray, List.set_cons_zero, List.set_cons_succ]
              refine tk (v := ?_) 15 o19_33_15 (by rfl) ?_ ?_
              case refine_2 => unfold o19_33_15; intro w hSw; obtain ⟨p2, p3, p4, p7, u0_, u1_, u2_, v0_, v1_, v2_, s0, s1, s2, s3, s4, s5, s6, s7, t0, t1, t2, t3, t4, t5, t6, t7⟩ := HCE.out _ hSw; go_simp; (try with_reducible rfl)
              simp only [o19_33_15, Act.put, List.setIfInBounds_toArray, List.set_cons_zero, List.set_cons_succ]
              refine tk (v := ?_) 18 o19_33_18 (by rfl) ?_ ?_
              case refine_2 => unfold o19_33_18; intro w hSw; obtain ⟨p2, p3, p4, p7, u0_, u1_, u2_, v0_, v1_, v2_, s0, s1, s2, s3, s4, s5, s6, s7, t0, t1, t2, t3, t4, t5, t6, t7⟩ := HCE.out _ hSw; go_simp; (try with_reducible rfl)
              simp only [o19_33_18, Act.put, List.setIfInBounds_toArray, List.set_cons_zero, List.set_cons_succ]
              refine tk (v := ?_) 19 o19_33_19 (by rfl) ?_ ?_
              case refine_2 => unfold o19_33_19; intro w hSw; obtain ⟨p2, p3, p4, p7, u0_, u1_, u2_, v0_, v1_, v2_, s0, s1, s2, s3, s4, s5, s6, s7, t0, t1, t2, t3, t4, t5, t6, t7⟩ := HCE.out _ hSw; go_simp; (try with_reducible rfl)
              simp only [o19_33_19, Act.put, List.setIfInBounds_toArray, List.set_cons_zero, List.set_cons_succ]
              refine wpAnyH_ready (rs := [14]) (by kernel_rfl) (by simp) ?_
              refine (AllReadyH.cons (o := o19_33_14) rfl (fun K hK => ?_) AllReadyH.nil)
              unfold o19_33_14
              go_simp
              have hn2 := heap_alloc_new V1 (.cells #[.int .i64 x.kind, .int .i64 x.n, .slice ax x.kids.length cx] 24)
              have hb2 : Below V1.heap.size V1 (V1.alloc (.cells #[.int .i64 x.kind, .int .i64 x.n, .slice ax x.kids.length cx] 24)) := (Below.refl _ V1).alloc (Nat.le_refl _) _
              have hS2 := hS1.below hb2
              refine hK.out _ _ ?_ (fun hHeld => ?_)
              · exact hS2
              clear hK K
              try simp only [Act.put, List.setIfInBounds_toArray, List.set_cons_zero, List.set_cons_succ]
              generalize hV : V1.alloc (.cells #[.int .i64 x.kind, .int .i64 x.n, .slice ax x.kids.length cx] 24) = V2 at *
              clear hV
              refine wpAnyH_ready (rs := [16]) (by kernel_rfl) (by simp) ?_
              refine (AllReadyH.cons (o := o19_33_16) rfl (fun K hK => ?_) AllReadyH.nil)
              unfold o19_33_16
              go_simp
              have hn3 : (V2.alloc (.cells #[.slice (some ⟨lg, lo, none⟩) i lc, .slice (some ⟨V1.heap.size, 0, none⟩) 1 1, .slice (some ⟨bg, bo, none⟩) ([] : List Ty).length 0] 22)).heap[V2.heap.size]? = some (.cells #[.slice (some ⟨lg, lo, none⟩) G.length lc, .slice (some ⟨V1.heap.size, 0, none⟩) [x].length 1, .slice (some ⟨bg, bo, none⟩) ([] : List Ty).length 0] 22 (0, 0)) := by rw [HGN.out]; exact heap_alloc_new V2 (.cells #[.slice (some ⟨lg, lo, none⟩) i lc, .slice (some ⟨V1.heap.size, 0, none⟩) 1 1, .slice (some ⟨bg, bo, none⟩) ([] : List Ty).length 0] 22)
              have hb3 : Below V2.heap.size V2 (V2.alloc (.cells #[.slice (some ⟨lg, lo, none⟩) i lc, .slice (some ⟨V1.heap.size, 0, none⟩) 1 1, .slice (some ⟨bg, bo, none⟩) ([] : List Ty).length 0] 22)) := (Below.refl _ V2).alloc (Nat.le_refl _) _
              have hS3 := hS2.below hb3
              have hn2 := (hb3.block _ (lt_of_get hn2)).trans hn2
              refine hK.out _ _ ?_ (fun hHeld => ?_)
              · exact hS3
              clear hK K
              try simp only [Act.put, List.setIfInBounds_toArray, List.set_cons_zero, List.set_cons_succ]
              generalize hV : V2.alloc (.cells #[.slice (some ⟨lg, lo, none⟩) i lc, .slice (some ⟨V1.heap.size, 0, none⟩) 1 1, .slice (some ⟨bg, bo, none⟩) ([] : List Ty).length 0] 22) = V3 at *
              clear hV
              refine wpAnyH_ready (rs := [17]) (by kernel_rfl) (by simp) ?_
              refine (AllReadyH.cons (o := o19_33_17) rfl (fun K hK => ?_) AllReadyH.nil)
              unfold o19_33_17
              go_simp
              (with_reducible refine (join3 V2.heap.size G [x] [] fl HJN.out V3 hn3 (HGT.out.below hS3.bel) (ty_one (HXT.out.below hS3.bel) hn2 1) (HHT.out.below hS3.bel) (by have := HLE.out; simp only [List.length_cons, List.length_nil]; omega)).mono ?_)
              rintro e4 V4 ⟨aj, cj, rfl, hT4, _, hb4⟩
              dsimp only
              have hS4 := hS3.below hb4
              refine hK.out _ _ ?_ (fun hHeld => ?_)
              · exact hS4
              clear hK K
              try simp only [Act.put, List.setIfInBounds_toArray, List.set_cons_zero, List.set_cons_succ]
              refine wpAnyH_ready (rs := [20]) (by kernel_rfl) (by simp) ?_
              refine (AllReadyH.cons (o := o19_33_20) rfl (fun K hK => ?_) AllReadyH.nil)
              unfold o19_33_20
              go_simp
              have KQ := says_any b yb fl aj cj goal ga gc V4 r2 (HPB.out.below hS4.bel) hT4 (HG.out.below hS4.bel) H2.out
              unfold vpf vty at KQ
              (with_reducible refine KQ.mono ?_)
              clear KQ
              rintro e5 V5 ⟨rfl, hb5⟩
              dsimp only
              have hS5 := hS4.below hb5
              refine hK.out _ _ ?_ (fun hHeld => ?_)
              · exact hS5
              clear hK K
              try simp only [Act.put, List.setIfInBounds_toArray, List.set_cons_zero, List.set_cons_succ]
              refine tk (v := ?_) 21 o19_33_21 (by rfl) ?_ ?_
              case refine_2 => unfold o19_33_21; intro w hSw; obtain ⟨p2, p3, p4, p7, u0_, u1_, u2_, v0_, v1_, v2_, s0, s1, s2, s3, s4, s5, s6, s7, t0, t1, t2, t3, t4, t5, t6, t7⟩ := HCE.out _ hSw; go_simp; (try with_reducible rfl)
              simp only [o19_33_21, Act.put, List.setIfInBounds_toArray, List.set_cons_zero, List.set_cons_succ]
              refine tk (v := ?_) 22 o19_33_22 (by rfl) ?_ ?_
              case refine_2 => unfold o19_33_22; intro w hSw; obtain ⟨p2, p3, p4, p7, u0_, u1_, u2_, v0_, v1_, v2_, s0, s1, s2, s3, s4, s5, s6, s7, t0, t1, t2, t3, t4, t5, t6, t7⟩ := HCE.out _ hSw; go_simp; (try with_reducible rfl)
              simp only [o19_33_22, Act.put, List.setIfInBounds_toArray, List.set_cons_zero, List.set_cons_succ]
              refine wpAnyH_done (by kernel_rfl) ?_ _
              go_wp2_with fail
              go_ret
              exact ⟨rfl, hS5.bel⟩
end Go.Proofs.Ytbmgkgoghgdbhaa.Te
