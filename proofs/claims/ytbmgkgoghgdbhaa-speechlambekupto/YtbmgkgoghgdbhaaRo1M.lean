/- The document's RightProof, where it is no step at all. Conditions: the parts are right, no left is too long. -/
import Derived.Test.YtbmgkgoghgdbhaaRx
import Derived.Deep.CutRange
namespace Go.Proofs.Ytbmgkgoghgdbhaa.Te
open Go.RowKit

set_option maxRecDepth 100000 in
set_option maxHeartbeats 8000000 in
theorem rp_B {e : Nat} (ih : ∀ {P : Nat → Prop} {d : Nat} (p : Pf) (x : Pl) (w : World) (r : Bool), PfAt P w d e p x → Gpf p → Lpf p → (r = true ↔ Rt p) → Calls Try.prog 19 #[vpf p x] w fun e w' => e = .returned (.bool r) ∧ Below w.heap.size w w') {P : Nat → Prop} {d : Nat} (p : Pf) (x : Pl) (w : World) (r : Bool) (h : PfAt P w d (e + 1) p x) (hg : Gpf p) (hlp : Lpf p) (hr : r = true ↔ Rt p) (hst : p.left.length = 0 ∨ p.step < 1 ∨ 6 < p.step) : Calls Try.prog 19 #[vpf p x] w fun e w' => e = .returned (.bool r) ∧ Below w.heap.size w w' := by
  have hgh := hg.here
  have hgk := fun x (hx : x ∈ p.kids) => hg.kid hx
  have hlk := fun x (hx : x ∈ p.kids) => hlp.kid hx
  have hle := hlp.here
  obtain ⟨_, ⟨ib1, ib2⟩, ⟨nb1, nb2⟩, hL, hG, hk, hK⟩ := h
  obtain ⟨step, left, goal, ix, n, kids⟩ := p
  obtain ⟨la, lc, ga, gc, ka, kc⟩ := x
  dsimp only at hgh hgk hlk hle ib1 ib2 nb1 nb2 hL hG hk hK hst
  skip
  have HL : Hid (LsAt P w d left la lc) := hL
  have HLT : Hid (TyAt w (d + 1) ⟨0, 0, left⟩ la lc) := hL.1.at
  have HG : Hid (TyAt w d goal ga gc) := hG.at
  have HK : Hid (KidsAt P w d e kids ka) := hK
  have HR : Hid (r = true ↔ Rt ⟨step, left, goal, ix, n, kids⟩) := hr
  have HGL : Hid (∀ t ∈ left, Gp t) := hgh.1
  have HGG : Hid (Gp goal) := hgh.2
  have HKK : Hid (∀ x ∈ kids, Gpf x ∧ Lpf x) := fun x hx => ⟨hgk x hx, hlk x hx⟩
  have IH : Hid (∀ {P : Nat → Prop} {d : Nat} (p : Pf) (x : Pl) (w : World) (r : Bool), PfAt P w d e p x → Gpf p → Lpf p → (r = true ↔ Rt p) → Calls Try.prog 19 #[vpf p x] w fun e w' => e = .returned (.bool r) ∧ Below w.heap.size w w') := ih
  clear hL hG hK hr hgh hgk hlk ih hg hlp
  unfold vpf
  dsimp only
  go_enter Try.func19, Try.ntmps19
  go_upto_region 1 with fail
  have hVb : Below w.heap.size w (w.alloc (.cells #[.int .i64 step, .slice la left.length lc, .int .i64 goal.kind, .int .i64 goal.n, .slice ga goal.kids.length gc, .int .i64 ix, .int .i64 n, .slice ka kids.length kc] 37)) := (Below.refl _ w).alloc (Nat.le_refl _) _
  have x1 := heap_alloc_new w (.cells #[.int .i64 step, .slice la left.length lc, .int .i64 goal.kind, .int .i64 goal.n, .slice ga goal.kids.length gc, .int .i64 ix, .int .i64 n, .slice ka kids.length kc] 37)
  generalize hV : w.alloc (.cells #[.int .i64 step, .slice la left.length lc, .int .i64 goal.kind, .int .i64 goal.n, .slice ga goal.kids.length gc, .int .i64 ix, .int .i64 n, .slice ka kids.length kc] 37) = V at *
  clear hV
  go_wp2
  go_loopw [3] (fun iv wr => ∃ k : Nat, iv = .int .i64 (k : Int) ∧ k ≤ kids.length ∧ Below w.heap.size w wr ∧ wr.heap[w.heap.size]? = some (.cells #[.int .i64 step, .slice la left.length lc, .int .i64 goal.kind, .int .i64 goal.n, .slice ga goal.kids.length gc, .int .i64 ix, .int .i64 n, .slice ka kids.length kc] 37 (0, 0)) ∧ (∀ j (h : j < kids.length), j < k → Rt kids[j])) (fun iv _ => kids.length - (intOf iv).toNat)
  case atStart => exact ⟨0, rfl, by omega, hVb, x1, fun _ _ h => by omega⟩
  case round =>
    clear x1 hVb
    obtain ⟨k, rfl, hkl', hB, z1, hz⟩ := hrel
    have HZ : Hid (∀ j (h : j < kids.length), j < k → Rt kids[j]) := hz
    clear hz
    have i7 := cell_of_row _ _ 7 _ _ _ z1
    by_cases hkl : k < kids.length
    · have hkl2 : (k : Int) < (kids.length : Int) := by omega
      obtain ⟨kg, ko, rfl, hkg, _, hkk⟩ : ∃ g off, ka = some ⟨g, off, none⟩ ∧ g < wr.heap.size ∧ P g ∧ ∀ j (h : j < kids.length), ∃ y, C8 wr g (off + j * 8) kids[j] y ∧ PfAt P wr d e kids[j] y := by
        rcases HK.out.below hB with h | h
        · omega
        · exact h
      obtain ⟨y, hc8, hpk⟩ := hkk k hkl
      obtain ⟨c0, c1, c2, c3, c4, c5, c6, c7⟩ := hc8
      obtain ⟨rk, hrk⟩ := fix_bool (Rt kids[k])
      have hkm := HKK.out _ (List.getElem_mem hkl)
      have K19 := IH.out kids[k] y wr rk hpk hkm.1 hkm.2 hrk
      unfold vpf at K19
      have HRK : Hid (rk = true ↔ Rt kids[k]) := hrk
      clear hrk hkm hpk hkk
      cases rk with
      | true =>
        go_wp2_with (go_at_call 19; (with_reducible refine K19.mono ?_); rintro e5 w5 ⟨rfl, hb5⟩; clear K19)
        go_roundw
        case rel =>
          refine ⟨k + 1, by go_num, by omega, hB.trans (hb5.mono hB.size), (hb5.block _ (lt_of_get z1)).trans z1, fun j h1 h2 => ?_⟩
          by_cases hjk : j < k
          · exact HZ.out j h1 hjk
          · obtain rfl : j = k := by omega
            exact HRK.out.1 (by trivial)
        case measure => simp [intOf]; omega
      | false =>
        have hrf : r = false := bool_false HR.out (fun h => by
          rw [Rt] at h
          obtain ⟨ss, _, hl, hq⟩ := h
          have := (hq k hkl (by rw [← hl]; exact hkl)).2.2
          have := HRK.out.2 this
          cases this)
        subst hrf
        go_wp2_with (go_at_call 19; (with_reducible refine K19.mono ?_); rintro e5 w5 ⟨rfl, hb5⟩; clear K19)
        go_ret
        exact ⟨rfl, hB.trans (hb5.mono hB.size)⟩
    · have hkl2 : ¬ (k : Int) < (kids.length : Int) := by omega
      have HALL : Hid (∀ x ∈ kids, Rt x) := fun x hx => by
        obtain ⟨j, hj, rfl⟩ := List.getElem_of_mem hx
        exact HZ.out j hj (by omega)
      clear HZ IH HKK
      have i0 := cell_of_row _ _ 0 _ _ _ z1
      have i1 := cell_of_row _ _ 1 _ _ _ z1
      have i2 := cell_of_row _ _ 2 _ _ _ z1
      have i3 := cell_of_row _ _ 3 _ _ _ z1
      have i4 := cell_of_row _ _ 4 _ _ _ z1
      have i5 := cell_of_row _ _ 5 _ _ _ z1
      have i6 := cell_of_row _ _ 6 _ _ _ z1
      go_upto_region 6 with fail
      clear hkl2 hkl hkl'
      by_cases hl0 : left.length = 0
      · have hrf : r = false := bool_false HR.out (rt_left0 hl0)
        have hl0' : (left.length : Int) = 0 := by omega
        subst hrf
        go_wp2
        go_ret
        exact ⟨rfl, hB⟩
      have hl0' : ¬ (left.length : Int) = 0 := by omega
      by_cases hs1 : step < 1
      · have hrf : r = false := bool_false HR.out (rt_step (.inl hs1))
        subst hrf
        go_wp2
        go_ret
        exact ⟨rfl, hB⟩
      have hs6 : 6 < step := by omega
      have hrf : r = false := bool_false HR.out (rt_step (.inr hs6))
      subst hrf
      go_wp2
      go_ret
      exact ⟨rfl, hB⟩
end Go.Proofs.Ytbmgkgoghgdbhaa.Te
/- The document's RightProof, step 1. Conditions: the parts are right, no left is too long. -/
namespace Go.Proofs.Ytbmgkgoghgdbhaa.Te
open Go.RowKit

set_option maxRecDepth 100000 in
set_option maxHeartbeats 8000000 in
theorem rp_1 {e : Nat} (ih : ∀ {P : Nat → Prop} {d : Nat} (p : Pf) (x : Pl) (w : World) (r : Bool), PfAt P w d e p x → Gpf p → Lpf p → (r = true ↔ Rt p) → Calls Try.prog 19 #[vpf p x] w fun e w' => e = .returned (.bool r) ∧ Below w.heap.size w w') {P : Nat → Prop} {d : Nat} (p : Pf) (x : Pl) (w : World) (r : Bool) (h : PfAt P w d (e + 1) p x) (hg : Gpf p) (hlp : Lpf p) (hr : r = true ↔ Rt p) (hst : p.left.length ≠ 0 ∧ p.step = 1) : Calls Try.prog 19 #[vpf p x] w fun e w' => e = .returned (.bool r) ∧ Below w.heap.size w w' := by
  have hgh := hg.here
  have hgk := fun x (hx : x ∈ p.kids) => hg.kid hx
  have hlk := fun x (hx : x ∈ p.kids) => hlp.kid hx
  have hle := hlp.here
  obtain ⟨_, ⟨ib1, ib2⟩, ⟨nb1, nb2⟩, hL, hG, hk, hK⟩ := h
  obtain ⟨step, left, goal, ix, n, kids⟩ := p
  obtain ⟨la, lc, ga, gc, ka, kc⟩ := x
  dsimp only at hgh hgk hlk hle ib1 ib2 nb1 nb2 hL hG hk hK hst
  obtain ⟨hl0, rfl⟩ := hst
  have HL : Hid (LsAt P w d left la lc) := hL
  have HLT : Hid (TyAt w (d + 1) ⟨0, 0, left⟩ la lc) := hL.1.at
  have HG : Hid (TyAt w d goal ga gc) := hG.at
  have HK : Hid (KidsAt P w d e kids ka) := hK
  have HR : Hid (r = true ↔ Rt ⟨1, left, goal, ix, n, kids⟩) := hr
  have HGL : Hid (∀ t ∈ left, Gp t) := hgh.1
  have HGG : Hid (Gp goal) := hgh.2
  have HKK : Hid (∀ x ∈ kids, Gpf x ∧ Lpf x) := fun x hx => ⟨hgk x hx, hlk x hx⟩
  have IH : Hid (∀ {P : Nat → Prop} {d : Nat} (p : Pf) (x : Pl) (w : World) (r : Bool), PfAt P w d e p x → Gpf p → Lpf p → (r = true ↔ Rt p) → Calls Try.prog 19 #[vpf p x] w fun e w' => e = .returned (.bool r) ∧ Below w.heap.size w w') := ih
  clear hL hG hK hr hgh hgk hlk ih hg hlp
  unfold vpf
  dsimp only
  go_enter Try.func19, Try.ntmps19
  go_upto_region 1 with fail
  have hVb : Below w.heap.size w (w.alloc (.cells #[.int .i64 1, .slice la left.length lc, .int .i64 goal.kind, .int .i64 goal.n, .slice ga goal.kids.length gc, .int .i64 ix, .int .i64 n, .slice ka kids.length kc] 37)) := (Below.refl _ w).alloc (Nat.le_refl _) _
  have x1 := heap_alloc_new w (.cells #[.int .i64 1, .slice la left.length lc, .int .i64 goal.kind, .int .i64 goal.n, .slice ga goal.kids.length gc, .int .i64 ix, .int .i64 n, .slice ka kids.length kc] 37)
  generalize hV : w.alloc (.cells #[.int .i64 1, .slice la left.length lc, .int .i64 goal.kind, .int .i64 goal.n, .slice ga goal.kids.length gc, .int .i64 ix, .int .i64 n, .slice ka kids.length kc] 37) = V at *
  clear hV
  go_wp2
  go_loopw [3] (fun iv wr => ∃ k : Nat, iv = .int .i64 (k : Int) ∧ k ≤ kids.length ∧ Below w.heap.size w wr ∧ wr.heap[w.heap.size]? = some (.cells #[.int .i64 1, .slice la left.length lc, .int .i64 goal.kind, .int .i64 goal.n, .slice ga goal.kids.length gc, .int .i64 ix, .int .i64 n, .slice ka kids.length kc] 37 (0, 0)) ∧ (∀ j (h : j < kids.length), j < k → Rt kids[j])) (fun iv _ => kids.length - (intOf iv).toNat)
  case atStart => exact ⟨0, rfl, by omega, hVb, x1, fun _ _ h => by omega⟩
  case round =>
    clear x1 hVb
    obtain ⟨k, rfl, hkl', hB, z1, hz⟩ := hrel
    have HZ : Hid (∀ j (h : j < kids.length), j < k → Rt kids[j]) := hz
    clear hz
    have i7 := cell_of_row _ _ 7 _ _ _ z1
    by_cases hkl : k < kids.length
    · have hkl2 : (k : Int) < (kids.length : Int) := by omega
      obtain ⟨kg, ko, rfl, hkg, _, hkk⟩ : ∃ g off, ka = some ⟨g, off, none⟩ ∧ g < wr.heap.size ∧ P g ∧ ∀ j (h : j < kids.length), ∃ y, C8 wr g (off + j * 8) kids[j] y ∧ PfAt P wr d e kids[j] y := by
        rcases HK.out.below hB with h | h
        · omega
        · exact h
      obtain ⟨y, hc8, hpk⟩ := hkk k hkl
      obtain ⟨c0, c1, c2, c3, c4, c5, c6, c7⟩ := hc8
      obtain ⟨rk, hrk⟩ := fix_bool (Rt kids[k])
      have hkm := HKK.out _ (List.getElem_mem hkl)
      have K19 := IH.out kids[k] y wr rk hpk hkm.1 hkm.2 hrk
      unfold vpf at K19
      have HRK : Hid (rk = true ↔ Rt kids[k]) := hrk
      clear hrk hkm hpk hkk
      cases rk with
      | true =>
        go_wp2_with (go_at_call 19; (with_reducible refine K19.mono ?_); rintro e5 w5 ⟨rfl, hb5⟩; clear K19)
        go_roundw
        case rel =>
          refine ⟨k + 1, by go_num, by omega, hB.trans (hb5.mono hB.size), (hb5.block _ (lt_of_get z1)).trans z1, fun j h1 h2 => ?_⟩
          by_cases hjk : j < k
          · exact HZ.out j h1 hjk
          · obtain rfl : j = k := by omega
            exact HRK.out.1 (by trivial)
        case measure => simp [intOf]; omega
      | false =>
        have hrf : r = false := bool_false HR.out (fun h => by
          rw [Rt] at h
          obtain ⟨ss, _, hl, hq⟩ := h
          have := (hq k hkl (by rw [← hl]; exact hkl)).2.2
          have := HRK.out.2 this
          cases this)
        subst hrf
        go_wp2_with (go_at_call 19; (with_reducible refine K19.mono ?_); rintro e5 w5 ⟨rfl, hb5⟩; clear K19)
        go_ret
        exact ⟨rfl, hB.trans (hb5.mono hB.size)⟩
    · have hkl2 : ¬ (k : Int) < (kids.length : Int) := by omega
      have HALL : Hid (∀ x ∈ kids, Rt x) := fun x hx => by
        obtain ⟨j, hj, rfl⟩ := List.getElem_of_mem hx
        exact HZ.out j hj (by omega)
      clear HZ IH HKK
      have i0 := cell_of_row _ _ 0 _ _ _ z1
      have i1 := cell_of_row _ _ 1 _ _ _ z1
      have i2 := cell_of_row _ _ 2 _ _ _ z1
      have i3 := cell_of_row _ _ 3 _ _ _ z1
      have i4 := cell_of_row _ _ 4 _ _ _ z1
      have i5 := cell_of_row _ _ 5 _ _ _ z1
      have i6 := cell_of_row _ _ 6 _ _ _ z1
      go_upto_region 6 with fail
      clear hkl2 hkl hkl'
      have hl0' : ¬ (left.length : Int) = 0 := by omega
      have HLN : Hid (left ≠ []) := fun e => hl0 (by rw [e]; rfl)
      have hlen : (0 : Int) ≤ left.length ∧ (left.length : Int) < 900 := by omega
      obtain ⟨lg, lo, rfl, hlg⟩ := HL.out.addr (by omega)
      by_cases hx0 : ix = 0
      rotate_left
      · have hrf : r = false := bool_false HR.out (rt_at (by show (1 : Int) ≤ 3; decide) (.inl hx0))
        subst hrf
        go_wp2
        go_ret
        exact ⟨rfl, hB⟩
      by_cases hn0 : n = 0
      rotate_left
      · have hrf : r = false := bool_false HR.out (rt_at (by show (1 : Int) ≤ 3; decide) (.inr hn0))
        subst hrf
        go_wp2
        go_ret
        exact ⟨rfl, hB⟩
      subst hx0 hn0
      clear ib1 ib2 nb1 nb2
      by_cases hk0 : kids.length = 0
      rotate_left
      · have hrf : r = false := bool_false HR.out (fun h => hk0 ((rt_same HLN.out).1 h).1)
        have hk0' : ¬ (kids.length : Int) = 0 := by omega
        have hk0b : ((kids.length : Int) == 0) = false := by simpa using hk0'
        subst hrf
        go_upto_region 13 with fail
        refine wp_region_held_drew (S := fun W => Below w.heap.size w W ∧ W.heap[w.heap.size]? = some (.cells #[.int .i64 1, .slice (some ⟨lg, lo, none⟩) left.length lc, .int .i64 goal.kind, .int .i64 goal.n, .slice ga goal.kids.length gc, .int .i64 0, .int .i64 0, .slice ka kids.length kc] 37 (0, 0))) (by kernel_rfl) (by exact ⟨below_drewN hB 1, z1⟩) (fun hHeld => ?_)
        have hS0 := hHeld
        generalize hV : wr.drew = V0 at *
        clear hV
        refine tk (v := ?_) 0 o19_13_0 (by rfl) ?_ ?_
        case refine_2 => unfold o19_13_0; intro w hSw; (try dsimp only at hSw); obtain ⟨hSb, hSx⟩ := hSw; have p7 := cell_of_row _ _ 7 _ _ _ hSx; go_simp; (try with_reducible rfl)
        simp only [o19_13_0, Act.put, List.setIfInBounds_toArray, List.set_cons_zero, List.set_cons_succ]
        refine tk (v := ?_) 1 o19_13_1 (by rfl) ?_ ?_
        case refine_2 => unfold o19_13_1; intro w hSw; (try dsimp only at hSw); obtain ⟨hSb, hSx⟩ := hSw; have p7 := cell_of_row _ _ 7 _ _ _ hSx; go_simp; (try with_reducible rfl)
        simp only [o19_13_1, Act.put, List.setIfInBounds_toArray, List.set_cons_zero, List.set_cons_succ]
        refine tk (v := ?_) 2 o19_13_2 (by rfl) ?_ ?_
        case refine_2 => unfold o19_13_2; intro w hSw; (try dsimp only at hSw); obtain ⟨hSb, hSx⟩ := hSw; have p7 := cell_of_row _ _ 7 _ _ _ hSx; go_simp; (try with_reducible rfl)
        simp only [o19_13_2, Act.put, List.setIfInBounds_toArray, List.set_cons_zero, List.set_cons_succ]
        refine tk (v := ?_) 3 o19_13_3 (by rfl) ?_ ?_
        case refine_2 => unfold o19_13_3; intro w hSw; (try dsimp only at hSw); obtain ⟨hSb, hSx⟩ := hSw; have p7 := cell_of_row _ _ 7 _ _ _ hSx; go_simp; (try with_reducible rfl)
        simp only [o19_13_3, Act.put, List.setIfInBounds_toArray, List.set_cons_zero, List.set_cons_succ]
        refine tk (v := ?_) 4 o19_13_4 (by rfl) ?_ ?_
        case refine_2 => unfold o19_13_4; intro w hSw; (try dsimp only at hSw); obtain ⟨hSb, hSx⟩ := hSw; have p7 := cell_of_row _ _ 7 _ _ _ hSx; go_simp; (try with_reducible rfl)
        simp only [o19_13_4, Act.put, List.setIfInBounds_toArray, List.set_cons_zero, List.set_cons_succ]
        refine tks 5 o19_13_5 (by rfl) ?_
        simp only [o19_13_5, Act.put, List.setIfInBounds_toArray, List.set_cons_zero, List.set_cons_succ]
        refine tks 6 o19_13_6 (by rfl) ?_
        simp only [o19_13_6, Act.put, List.setIfInBounds_toArray, List.set_cons_zero, List.set_cons_succ]
        refine tk (v := ?_) 7 o19_13_7 (by rfl) ?_ ?_
        case refine_2 => unfold o19_13_7; intro w hSw; (try dsimp only at hSw); obtain ⟨hSb, hSx⟩ := hSw; have p7 := cell_of_row _ _ 7 _ _ _ hSx; go_simp; (try with_reducible rfl)
        simp only [o19_13_7, Act.put, List.setIfInBounds_toArray, List.set_cons_zero, List.set_cons_succ]
        refine tk (v := ?_) 8 o19_13_8 (by rfl) ?_ ?_
        case refine_2 => unfold o19_13_8; intro w hSw; (try dsimp only at hSw); obtain ⟨hSb, hSx⟩ := hSw; have p7 := cell_of_row _ _ 7 _ _ _ hSx; go_simp; (try with_reducible rfl)
        simp only [o19_13_8, Act.put, List.setIfInBounds_toArray, List.set_cons_zero, List.set_cons_succ]
        refine tks 9 o19_13_9 (by rfl) ?_
        simp only [o19_13_9, Act.put, List.setIfInBounds_toArray, List.set_cons_zero, List.set_cons_succ]
        refine tks 10 o19_13_10 (by rfl) ?_
        simp only [o19_13_10, Act.put, List.setIfInBounds_toArray, List.set_cons_zero, List.set_cons_succ]
        refine tks 11 o19_13_11 (by rfl) ?_
        simp only [o19_13_11, Act.put, List.setIfInBounds_toArray, List.set_cons_zero, List.set_cons_succ]
        refine tks 12 o19_13_12 (by rfl) ?_
        simp only [o19_13_12, Act.put, List.setIfInBounds_toArray, List.set_cons_zero, List.set_cons_succ]
        refine tks 13 o19_13_13 (by rfl) ?_
        simp only [o19_13_13, Act.put, List.setIfInBounds_toArray, List.set_cons_zero, List.set_cons_succ]
        refine tks 14 o19_13_14 (by rfl) ?_
        simp only [o19_13_14, Act.put, List.setIfInBounds_toArray, List.set_cons_zero, List.set_cons_succ]
        refine tks 15 o19_13_15 (by rfl) ?_
        simp only [o19_13_15, Act.put, List.setIfInBounds_toArray, List.set_cons_zero, List.set_cons_succ]
        refine tk (v := ?_) 16 o19_13_16 (by rfl) ?_ ?_
        case refine_2 => unfold o19_13_16; intro w hSw; (try dsimp only at hSw); obtain ⟨hSb, hSx⟩ := hSw; have p7 := cell_of_row _ _ 7 _ _ _ hSx; go_simp; (try with_reducible rfl)
        simp only [o19_13_16, Act.put, List.setIfInBounds_toArray, List.set_cons_zero, List.set_cons_succ]
        refine tk (v := ?_) 17 o19_13_17 (by rfl) ?_ ?_
        case refine_2 => unfold o19_13_17; intro w hSw; (try dsimp only at hSw); obtain ⟨hSb, hSx⟩ := hSw; have p7 := cell_of_row _ _ 7 _ _ _ hSx; go_simp; (try with_reducible rfl)
        simp only [o19_13_17, Act.put, List.setIfInBounds_toArray, List.set_cons_zero, List.set_cons_succ]
        refine wpAnyH_done (by kernel_rfl) ?_ _
        go_wp2_with fail
        go_ret
        exact ⟨rfl, hS0.1⟩
      by_cases hl1 : left.length = 1
      rotate_left
      · have hrf : r = false := bool_false HR.out (fun h => hl1 (by rw [((rt_same HLN.out).1 h).2]; rfl))
        have hl1' : ¬ (left.length : Int) = 1 := by omega
        have hl1b : ((left.length : Int) == 1) = false := by simpa using hl1'
        have hk0' : (kids.length : Int) = 0 := by omega
        have hk0b : ((kids.length : Int) == 0) = true := by simpa using hk0'
        subst hrf
        go_upto_region 13 with fail
        refine wp_region_held_drew (S := fun W => Below w.heap.size w W ∧ W.heap[w.heap.size]? = some (.cells #[.int .i64 1, .slice (some ⟨lg, lo, none⟩) left.length lc, .int .i64 goal.kind, .int .i64 goal.n, .slice ga goal.kids.length gc, .int .i64 0, .int .i64 0, .slice ka kids.length kc] 37 (0, 0))) (by kernel_rfl) (by exact ⟨below_drewN hB 1, z1⟩) (fun hHeld => ?_)
        have hS0 := hHeld
        generalize hV : wr.drew = V0 at *
        clear hV
        refine tk (v := ?_) 0 o19_13_0 (by rfl) ?_ ?_
        case refine_2 => unfold o19_13_0; intro w hSw; (try dsimp only at hSw); obtain ⟨hSb, hSx⟩ := hSw; have p7 := cell_of_row _ _ 7 _ _ _ hSx; go_simp; (try with_reducible rfl)
        simp only [o19_13_0, Act.put, List.setIfInBounds_toArray, List.set_cons_zero, List.set_cons_succ]
        refine tk (v := ?_) 1 o19_13_1 (by rfl) ?_ ?_
        case refine_2 => unfold o19_13_1; intro w hSw; (try dsimp only at hSw); obtain ⟨hSb, hSx⟩ := hSw; have p7 := cell_of_row _ _ 7 _ _ _ hSx; go_simp; (try with_reducible rfl)
        simp only [o19_13_1, Act.put, List.setIfInBounds_toArray, List.set_cons_zero, List.set_cons_succ]
        refine tk (v := ?_) 2 o19_13_2 (by rfl) ?_ ?_
        case refine_2 => unfold o19_13_2; intro w hSw; (try dsimp only at hSw); obtain ⟨hSb, hSx⟩ := hSw; have p7 := cell_of_row _ _ 7 _ _ _ hSx; go_simp; (try with_reducible rfl)
        simp only [o19_13_2, Act.put, List.setIfInBounds_toArray, List.set_cons_zero, List.set_cons_succ]
        refine tk (v := ?_) 3 o19_13_3 (by rfl) ?_ ?_
        case refine_2 => unfold o19_13_3; intro w hSw; (try dsimp only at hSw); obtain ⟨hSb, hSx⟩ := hSw; have p7 := cell_of_row _ _ 7 _ _ _ hSx; go_simp; (try with_reducible rfl)
        simp only [o19_13_3, Act.put, List.setIfInBounds_toArray, List.set_cons_zero, List.set_cons_succ]
        refine tk (v := ?_) 4 o19_13_4 (by rfl) ?_ ?_
        case refine_2 => unfold o19_13_4; intro w hSw; (try dsimp only at hSw); obtain ⟨hSb, hSx⟩ := hSw; have p7 := cell_of_row _ _ 7 _ _ _ hSx; go_simp; (try with_reducible rfl)
        simp only [o19_13_4, Act.put, List.setIfInBounds_toArray, List.set_cons_zero, List.set_cons_succ]
        refine tk (v := ?_) 5 o19_13_5 (by rfl) ?_ ?_
        case refine_2 => unfold o19_13_5; intro w hSw; (try dsimp only at hSw); obtain ⟨hSb, hSx⟩ := hSw; have p7 := cell_of_row _ _ 7 _ _ _ hSx; go_simp; (try with_reducible rfl)
        simp only [o19_13_5, Act.put, List.setIfInBounds_toArray, List.set_cons_zero, List.set_cons_succ]
        refine tk (v := ?_) 6 o19_13_6 (by rfl) ?_ ?_
        case refine_2 => unfold o19_13_6; intro w hSw; (try dsimp only at hSw); obtain ⟨hSb, hSx⟩ := hSw; have p7 := cell_of_row _ _ 7 _ _ _ hSx; go_simp; (try with_reducible rfl)
        simp only [o19_13_6, Act.put, List.setIfInBounds_toArray, List.set_cons_zero, List.set_cons_succ]
        refine tk (v := ?_) 7 o19_13_7 (by rfl) ?_ ?_
        case refine_2 => unfold o19_13_7; intro w hSw; (try dsimp only at hSw); obtain ⟨hSb, hSx⟩ := hSw; have p7 := cell_of_row _ _ 7 _ _ _ hSx; go_simp; (try with_reducible rfl)
        simp only [o19_13_7, Act.put, List.setIfInBounds_toArray, List.set_cons_zero, List.set_cons_succ]
        refine tk (v := ?_) 8 o19_13_8 (by rfl) ?_ ?_
        case refine_2 => unfold o19_13_8; intro w hSw; (try dsimp only at hSw); obtain ⟨hSb, hSx⟩ := hSw; have p7 := cell_of_row _ _ 7 _ _ _ hSx; go_simp; (try with_reducible rfl)
        simp only [o19_13_8, Act.put, List.setIfInBounds_toArray, List.set_cons_zero, List.set_cons_succ]
        refine tks 9 o19_13_9 (by rfl) ?_
        simp only [o19_13_9, Act.put, List.setIfInBounds_toArray, List.set_cons_zero, List.set_cons_succ]
        refine tks 10 o19_13_10 (by rfl) ?_
        simp only [o19_13_10, Act.put, List.setIfInBounds_toArray, List.set_cons_zero, List.set_cons_succ]
        refine tks 11 o19_13_11 (by rfl) ?_
        simp only [o19_13_11, Act.put, List.setIfInBounds_toArray, List.set_cons_zero, List.set_cons_succ]
        refine tks 12 o19_13_12 (by rfl) ?_
        simp only [o19_13_12, Act.put, List.setIfInBounds_toArray, List.set_cons_zero, List.set_cons_succ]
        refine tks 13 o19_13_13 (by rfl) ?_
        simp only [o19_13_13, Act.put, List.setIfInBounds_toArray, List.set_cons_zero, List.set_cons_succ]
        refine tks 14 o19_13_14 (by rfl) ?_
        simp only [o19_13_14, Act.put, List.setIfInBounds_toArray, List.set_cons_zero, List.set_cons_succ]
        refine tks 15 o19_13_15 (by rfl) ?_
        simp only [o19_13_15, Act.put, List.setIfInBounds_toArray, List.set_cons_zero, List.set_cons_succ]
        refine tk (v := ?_) 16 o19_13_16 (by rfl) ?_ ?_
        case refine_2 => unfold o19_13_16; intro w hSw; (try dsimp only at hSw); obtain ⟨hSb, hSx⟩ := hSw; have p7 := cell_of_row _ _ 7 _ _ _ hSx; go_simp; (try with_reducible rfl)
        simp only [o19_13_16, Act.put, List.setIfInBounds_toArray, List.set_cons_zero, List.set_cons_succ]
        refine tk (v := ?_) 17 o19_13_17 (by rfl) ?_ ?_
        case refine_2 => unfold o19_13_17; intro w hSw; (try dsimp only at hSw); obtain ⟨hSb, hSx⟩ := hSw; have p7 := cell_of_row _ _ 7 _ _ _ hSx; go_simp; (try with_reducible rfl)
        simp only [o19_13_17, Act.put, List.setIfInBounds_toArray, List.set_cons_zero, List.set_cons_succ]
        refine wpAnyH_done (by kernel_rfl) ?_ _
        go_wp2_with fail
        go_ret
        exact ⟨rfl, hS0.1⟩
      have HK0 : Hid (kids.length = 0) := hk0
      obtain ⟨t, et⟩ := one_of hl1
      subst et
      have HRR : Hid (r = true ↔ t = goal) := by
        refine HR.out.trans ((rt_same HLN.out).trans ?_)
        simp [HK0.out]
      have ek : kids = [] := List.length_eq_zero_iff.1 hk0
      subst ek
      clear hk0 hl1
      obtain ⟨at_, ct, _, y0, y1, y2, hT⟩ := HL.out.at (j := 0) (by simp)
      simp only [List.getElem_cons_zero, Nat.zero_mul, Nat.add_zero] at y0 y1 y2 hT
      have HTT : Hid (TyAt w d t at_ ct) := hT.at
      clear hT
      go_upto_region 13 with fail
      clear i0 i1 i2 i3 i4 i5 i6 i7
      refine wp_region_held_drew (S := fun W => Below w.heap.size w W ∧ W.heap[w.heap.size]? = some (.cells #[.int .i64 1, .slice (some ⟨lg, lo, none⟩) [t].length lc, .int .i64 goal.kind, .int .i64 goal.n, .slice ga goal.kids.length gc, .int .i64 0, .int .i64 0, .slice ka ([] : List Pf).length kc] 37 (0, 0))) (by kernel_rfl) (by exact ⟨below_drewN hB 1, z1⟩) (fun hHeld => ?_)
      have hS0 := hHeld
      generalize hV : wr.drew = V0 at *
      clear hV
      refine tk (v := ?_) 0 o19_13_0 (by rfl) ?_ ?_
      case refine_2 => unfold o19_13_0; intro w hSw; (try dsimp only at hSw); obtain ⟨hSb, hSx⟩ := hSw; have p1 := cell_of_row _ _ 1 _ _ _ hSx; have p2 := cell_of_row _ _ 2 _ _ _ hSx; have p3 := cell_of_row _ _ 3 _ _ _ hSx; have p4 := cell_of_row _ _ 4 _ _ _ hSx; have p7 := cell_of_row _ _ 7 _ _ _ hSx; have q0 := (hSb.cell (p := ⟨lg, _, none⟩) hlg).trans y0; have q1 := (hSb.cell (p := ⟨lg, _, none⟩) hlg).trans y1; have q2 := (hSb.cell (p := ⟨lg, _, none⟩) hlg).trans y2; go_simp; (try with_reducible rfl)
      simp only [o19_13_0, Act.put, List.setIfInBounds_toArray, List.set_cons_zero, List.set_cons_succ]
      refine tk (v := ?_) 1 o19_13_1 (by rfl) ?_ ?_
      case refine_2 => unfold o19_13_1; intro w hSw; (try dsimp only at hSw); obtain ⟨hSb, hSx⟩ := hSw; have p1 := cell_of_row _ _ 1 _ _ _ hSx; have p2 := cell_of_row _ _ 2 _ _ _ hSx; have p3 := cell_of_row _ _ 3 _ _ _ hSx; have p4 := cell_of_row _ _ 4 _ _ _ hSx; have p7 := cell_of_row _ _ 7 _ _ _ hSx; have q0 := (hSb.cell (p := ⟨lg, _, none⟩) hlg).trans y0; have q1 := (hSb.cell (p := ⟨lg, _, none⟩) hlg).trans y1; have q2 := (hSb.cell (p := ⟨lg, _, none⟩) hlg).trans y2; go_simp; (try with_reducible rfl)
      simp only [o19_13_1, Act.put, List.setIfInBounds_toArray, List.set_cons_zero, List.set_cons_succ]
      refine tk (v := ?_) 2 o19_13_2 (by rfl) ?_ ?_
      case refine_2 => unfold o19_13_2; intro w hSw; (try dsimp only at hSw); obtain ⟨hSb, hSx⟩ := hSw; have p1 := cell_of_row _ _ 1 _ _ _ hSx; have p2 := cell_of_row _ _ 2 _ _ _ hSx; have p3 := cell_of_row _ _ 3 _ _ _ hSx; have p4 := cell_of_row _ _ 4 _ _ _ hSx; have p7 := cell_of_row _ _ 7 _ _ _ hSx; have q0 := (hSb.cell (p := ⟨lg, _, none⟩) hlg).trans y0; have q1 := (hSb.cell (p := ⟨lg, _, none⟩) hlg).trans y1; have q2 := (hSb.cell (p := ⟨lg, _, none⟩) hlg).trans y2; go_simp; (try with_reducible rfl)
      simp only [o19_13_2, Act.put, List.setIfInBounds_toArray, List.set_cons_zero, List.set_cons_succ]
      refine tk (v := ?_) 3 o19_13_3 (by rfl) ?_ ?_
      case refine_2 => unfold o19_13_3; intro w hSw; (try dsimp only at hSw); obtain ⟨hSb, hSx⟩ := hSw; have p1 := cell_of_row _ _ 1 _ _ _ hSx; have p2 := cell_of_row _ _ 2 _ _ _ hSx; have p3 := cell_of_row _ _ 3 _ _ _ hSx; have p4 := cell_of_row _ _ 4 _ _ _ hSx; have p7 := cell_of_row _ _ 7 _ _ _ hSx; have q0 := (hSb.cell (p := ⟨lg, _, none⟩) hlg).trans y0; have q1 := (hSb.cell (p := ⟨lg, _, none⟩) hlg).trans y1; have q2 := (hSb.cell (p := ⟨lg, _, none⟩) hlg).trans y2; go_simp; (try with_reducible rfl)
      simp only [o19_13_3, Act.put, List.setIfInBounds_toArray, List.set_cons_zero, List.set_cons_succ]
      refine tk (v := ?_) 4 o19_13_4 (by rfl) ?_ ?_
      case refine_2 => unfold o19_13_4; intro w hSw; (try dsimp only at hSw); obtain ⟨hSb, hSx⟩ := hSw; have p1 := cell_of_row _ _ 1 _ _ _ hSx; have p2 := cell_of_row _ _ 2 _ _ _ hSx; have p3 := cell_of_row _ _ 3 _ _ _ hSx; have p4 := cell_of_row _ _ 4 _ _ _ hSx; have p7 := cell_of_row _ _ 7 _ _ _ hSx; have q0 := (hSb.cell (p := ⟨lg, _, none⟩) hlg).trans y0; have q1 := (hSb.cell (p := ⟨lg, _, none⟩) hlg).trans y1; have q2 := (hSb.cell (p := ⟨lg, _, none⟩) hlg).trans y2; go_simp; (try with_reducible rfl)
      simp only [o19_13_4, Act.put, List.setIfInBounds_toArray, List.set_cons_zero, List.set_cons_succ]
      refine tk (v := ?_) 5 o19_13_5 (by rfl) ?_ ?_
      case refine_2 => unfold o19_13_5; intro w hSw; (try dsimp only at hSw); obtain ⟨hSb, hSx⟩ := hSw; have p1 := cell_of_row _ _ 1 _ _ _ hSx; have p2 := cell_of_row _ _ 2 _ _ _ hSx; have p3 := cell_of_row _ _ 3 _ _ _ hSx; have p4 := cell_of_row _ _ 4 _ _ _ hSx; have p7 := cell_of_row _ _ 7 _ _ _ hSx; have q0 := (hSb.cell (p := ⟨lg, _, none⟩) hlg).trans y0; have q1 := (hSb.cell (p := ⟨lg, _, none⟩) hlg).trans y1; have q2 := (hSb.cell (p := ⟨lg, _, none⟩) hlg).trans y2; go_simp; (try with_reducible rfl)
      simp only [o19_13_5, Act.put, List.setIfInBounds_toArray, List.set_cons_zero, List.set_cons_succ]
      refine tk (v := ?_) 6 o19_13_6 (by rfl) ?_ ?_
      case refine_2 => unfold o19_13_6; intro w hSw; (try dsimp only at hSw); obtain ⟨hSb, hSx⟩ := hSw; have p1 := cell_of_row _ _ 1 _ _ _ hSx; have p2 := cell_of_row _ _ 2 _ _ _ hSx; have p3 := cell_of_row _ _ 3 _ _ _ hSx; have p4 := cell_of_row _ _ 4 _ _ _ hSx; have p7 := cell_of_row _ _ 7 _ _ _ hSx; have q0 := (hSb.cell (p := ⟨lg, _, none⟩) hlg).trans y0; have q1 := (hSb.cell (p := ⟨lg, _, none⟩) hlg).trans y1; have q2 := (hSb.cell (p := ⟨lg, _, none⟩) hlg).trans y2; go_simp; (try with_reducible rfl)
      simp only [o19_13_6, Act.put, List.setIfInBounds_toArray, List.set_cons_zero, List.set_cons_succ]
      refine tk (v := ?_) 7 o19_13_7 (by rfl) ?_ ?_
      case refine_2 => unfold o19_13_7; intro w hSw; (try dsimp only at hSw); obtain ⟨hSb, hSx⟩ := hSw; have p1 := cell_of_row _ _ 1 _ _ _ hSx; have p2 := cell_of_row _ _ 2 _ _ _ hSx; have p3 := cell_of_row _ _ 3 _ _ _ hSx; have p4 := cell_of_row _ _ 4 _ _ _ hSx; have p7 := cell_of_row _ _ 7 _ _ _ hSx; have q0 := (hSb.cell (p := ⟨lg, _, none⟩) hlg).trans y0; have q1 := (hSb.cell (p := ⟨lg, _, none⟩) hlg).trans y1; have q2 := (hSb.cell (p := ⟨lg, _, none⟩) hlg).trans y2; go_simp; (try with_reducible rfl)
      simp only [o19_13_7, Act.put, List.setIfInBounds_toArray, List.set_cons_zero, List.set_cons_succ]
      refine tk (v := ?_) 8 o19_13_8 (by rfl) ?_ ?_
      case refine_2 => unfold o19_13_8; intro w hSw; (try dsimp only at hSw); obtain ⟨hSb, hSx⟩ := hSw; have p1 := cell_of_row _ _ 1 _ _ _ hSx; have p2 := cell_of_row _ _ 2 _ _ _ hSx; have p3 := cell_of_row _ _ 3 _ _ _ hSx; have p4 := cell_of_row _ _ 4 _ _ _ hSx; have p7 := cell_of_row _ _ 7 _ _ _ hSx; have q0 := (hSb.cell (p := ⟨lg, _, none⟩) hlg).trans y0; have q1 := (hSb.cell (p := ⟨lg, _, none⟩) hlg).trans y1; have q2 := (hSb.cell (p := ⟨lg, _, none⟩) hlg).trans y2; go_simp; (try with_reducible rfl)
      simp only [o19_13_8, Act.put, List.setIfInBounds_toArray, List.set_cons_zero, List.set_cons_succ]
      refine tk (v := ?_) 9 o19_13_9 (by rfl) ?_ ?_
      case refine_2 => unfold o19_13_9; intro w hSw; (try dsimp only at hSw); obtain ⟨hSb, hSx⟩ := hSw; have p1 := cell_of_row _ _ 1 _ _ _ hSx; have p2 := cell_of_row _ _ 2 _ _ _ hSx; have p3 := cell_of_row _ _ 3 _ _ _ hSx; have p4 := cell_of_row _ _ 4 _ _ _ hSx; have p7 := cell_of_row _ _ 7 _ _ _ hSx; have q0 := (hSb.cell (p := ⟨lg, _, none⟩) hlg).trans y0; have q1 := (hSb.cell (p := ⟨lg, _, none⟩) hlg).trans y1; have q2 := (hSb.cell (p := ⟨lg, _, none⟩) hlg).trans y2; go_simp; (try with_reducible rfl)
      simp only [o19_13_9, Act.put, List.setIfInBounds_toArray, List.set_cons_zero, List.set_cons_succ]
      refine tk (v := ?_) 10 o19_13_10 (by rfl) ?_ ?_
      case refine_2 => unfold o19_13_10; intro w hSw; (try dsimp only at hSw); obtain ⟨hSb, hSx⟩ := hSw; have p1 := cell_of_row _ _ 1 _ _ _ hSx; have p2 := cell_of_row _ _ 2 _ _ _ hSx; have p3 := cell_of_row _ _ 3 _ _ _ hSx; have p4 := cell_of_row _ _ 4 _ _ _ hSx; have p7 := cell_of_row _ _ 7 _ _ _ hSx; have q0 := (hSb.cell (p := ⟨lg, _, none⟩) hlg).trans y0; have q1 := (hSb.cell (p := ⟨lg, _, none⟩) hlg).trans y1; have q2 := (hSb.cell (p := ⟨lg, _, none⟩) hlg).trans y2; go_simp; (try with_reducible rfl)
      simp only [o19_13_10, Act.put, List.setIfInBounds_toArray, List.set_cons_zero, List.set_cons_succ]
      refine tk (v := ?_) 11 o19_13_11 (by rfl) ?_ ?_
      case refine_2 => unfold o19_13_11; intro w hSw; (try dsimp only at hSw); obtain ⟨hSb, hSx⟩ := hSw; have p1 := cell_of_row _ _ 1 _ _ _ hSx; have p2 := cell_of_row _ _ 2 _ _ _ hSx; have p3 := cell_of_row _ _ 3 _ _ _ hSx; have p4 := cell_of_row _ _ 4 _ _ _ hSx; have p7 := cell_of_row _ _ 7 _ _ _ hSx; have q0 := (hSb.cell (p := ⟨lg, _, none⟩) hlg).trans y0; have q1 := (hSb.cell (p := ⟨lg, _, none⟩) hlg).trans y1; have q2 := (hSb.cell (p := ⟨lg, _, none⟩) hlg).trans y2; go_simp; (try with_reducible rfl)
      simp only [o19_13_11, Act.put, List.setIfInBounds_toArray, List.set_cons_zero, List.set_cons_succ]
      refine tk (v := ?_) 12 o19_13_12 (by rfl) ?_ ?_
      case refine_2 => unfold o19_13_12; intro w hSw; (try dsimp only at hSw); obtain ⟨hSb, hSx⟩ := hSw; have p1 := cell_of_row _ _ 1 _ _ _ hSx; have p2 := cell_of_row _ _ 2 _ _ _ hSx; have p3 := cell_of_row _ _ 3 _ _ _ hSx; have p4 := cell_of_row _ _ 4 _ _ _ hSx; have p7 := cell_of_row _ _ 7 _ _ _ hSx; have q0 := (hSb.cell (p := ⟨lg, _, none⟩) hlg).trans y0; have q1 := (hSb.cell (p := ⟨lg, _, none⟩) hlg).trans y1; have q2 := (hSb.cell (p := ⟨lg, _, none⟩) hlg).trans y2; go_simp; (try with_reducible rfl)
      simp only [o19_13_12, Act.put, List.setIfInBounds_toArray, List.set_cons_zero, List.set_cons_succ]
      refine tk (v := ?_) 13 o19_13_13 (by rfl) ?_ ?_
      case refine_2 => unfold o19_13_13; intro w hSw; (try dsimp only at hSw); obtain ⟨hSb, hSx⟩ := hSw; have p1 := cell_of_row _ _ 1 _ _ _ hSx; have p2 := cell_of_row _ _ 2 _ _ _ hSx; have p3 := cell_of_row _ _ 3 _ _ _ hSx; have p4 := cell_of_row _ _ 4 _ _ _ hSx; have p7 := cell_of_row _ _ 7 _ _ _ hSx; have q0 := (hSb.cell (p := ⟨lg, _, none⟩) hlg).trans y0; have q1 := (hSb.cell (p := ⟨lg, _, none⟩) hlg).trans y1; have q2 := (hSb.cell (p := ⟨lg, _, none⟩) hlg).trans y2; go_simp; (try with_reducible rfl)
      simp only [o19_13_13, Act.put, List.setIfInBounds_toArray, List.set_cons_zero, List.set_cons_succ]
      refine tk (v := ?_) 14 o19_13_14 (by rfl) ?_ ?_
      case refine_2 => unfold o19_13_14; intro w hSw; (try dsimp only at hSw); obtain ⟨hSb, hSx⟩ := hSw; have p1 := cell_of_row _ _ 1 _ _ _ hSx; have p2 := cell_of_row _ _ 2 _ _ _ hSx; have p3 := cell_of_row _ _ 3 _ _ _ hSx; have p4 := cell_of_row _ _ 4 _ _ _ hSx; have p7 := cell_of_row _ _ 7 _ _ _ hSx; have q0 := (hSb.cell (p := ⟨lg, _, none⟩) hlg).trans y0; have q1 := (hSb.cell (p := ⟨lg, _, none⟩) hlg).trans y1; have q2 := (hSb.cell (p := ⟨lg, _, none⟩) hlg).trans y2; go_simp; (try with_reducible rfl)
      simp only [o19_13_14, Act.put, List.setIfInBounds_toArray, List.set_cons_zero, List.set_cons_succ]
      refine wpAnyH_ready (rs := [15]) (by kernel_rfl) (by simp) ?_
      refine (AllReadyH.cons (o := o19_13_15) rfl (fun K hK => ?_) AllReadyH.nil)
      unfold o19_13_15
      go_simp
      have KQ := same_doc d t at_ ct d goal ga gc V0 r HRR.out (HTT.out.below hS0.1) (HG.out.below hS0.1)
      unfold vty at KQ
      (with_reducible refine KQ.mono ?_)
      clear KQ
      rintro e1 V1 ⟨rfl, hb1⟩
      dsimp only
      have hS1 := And.intro (hS0.1.trans (hb1.mono hS0.1.size)) ((hb1.block _ (lt_of_get hS0.2)).trans hS0.2)
      refine hK.out _ _ ?_ (fun hHeld => ?_)
      · exact hS1
      clear hK K
      try simp only [Act.put, List.setIfInBounds_toArray, List.set_cons_zero, List.set_cons_succ]
      refine tk (v := ?_) 16 o19_13_16 (by rfl) ?_ ?_
      case refine_2 => unfold o19_13_16; intro w hSw; (try dsimp only at hSw); obtain ⟨hSb, hSx⟩ := hSw; have p1 := cell_of_row _ _ 1 _ _ _ hSx; have p2 := cell_of_row _ _ 2 _ _ _ hSx; have p3 := cell_of_row _ _ 3 _ _ _ hSx; have p4 := cell_of_row _ _ 4 _ _ _ hSx; have p7 := cell_of_row _ _ 7 _ _ _ hSx; have q0 := (hSb.cell (p := ⟨lg, _, none⟩) hlg).trans y0; have q1 := (hSb.cell (p := ⟨lg, _, none⟩) hlg).trans y1; have q2 := (hSb.cell (p := ⟨lg, _, none⟩) hlg).trans y2; go_simp; (try with_reducible rfl)
      simp only [o19_13_16, Act.put, List.setIfInBounds_toArray, List.set_cons_zero, List.set_cons_succ]
      refine tk (v := ?_) 17 o19_13_17 (by rfl) ?_ ?_
      case refine_2 => unfold o19_13_17; intro w hSw; (try dsimp only at hSw); obtain ⟨hSb, hSx⟩ := hSw; have p1 := cell_of_row _ _ 1 _ _ _ hSx; have p2 := cell_of_row _ _ 2 _ _ _ hSx; have p3 := cell_of_row _ _ 3 _ _ _ hSx; have p4 := cell_of_row _ _ 4 _ _ _ hSx; have p7 := cell_of_row _ _ 7 _ _ _ hSx; have q0 := (hSb.cell (p := ⟨lg, _, none⟩) hlg).trans y0; have q1 := (hSb.cell (p := ⟨lg, _, none⟩) hlg).trans y1; have q2 := (hSb.cell (p := ⟨lg, _, none⟩) hlg).trans y2; go_simp; (try with_reducible rfl)
      simp only [o19_13_17, Act.put, List.setIfInBounds_toArray, List.set_cons_zero, List.set_cons_succ]
      refine wpAnyH_done (by kernel_rfl) ?_ _
      go_wp2_with fail
      go_ret
      exact ⟨rfl, hS1.1⟩
end Go.Proofs.Ytbmgkgoghgdbhaa.Te
