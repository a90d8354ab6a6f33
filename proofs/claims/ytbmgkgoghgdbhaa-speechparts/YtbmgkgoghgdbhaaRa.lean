/- isRight: whether each step of a proof is right. Condition: no list of parts is long. -/
import Derived.Test.YtbmgkgoghgdbhaaSz
namespace Go.Proofs.Ytbmgkgoghgdbhaa.Te
open Go.RowKit

/-- no list of a proof is long -/
def Lpf (p : Pf) : Prop := p.left.length < 900 ∧ ∀ x : {y // y ∈ p.kids}, Lpf x.1
termination_by SizeOf.sizeOf p
decreasing_by exact Pf.lt_kids x.2
theorem Lpf.kid {p : Pf} (h : Lpf p) {x : Pf} (hx : x ∈ p.kids) : Lpf x := by
  rw [Lpf] at h
  exact h.2 ⟨x, hx⟩
theorem Lpf.here {p : Pf} (h : Lpf p) : p.left.length < 900 := by
  rw [Lpf] at h
  exact h.1
/-- a kid is what it must be -/
def KidOk (q : Pf) (s : List Ty × Ty) : Prop := q.left = s.1 ∧ q.goal = s.2 ∧ Rt q
theorem rt_some {p : Pf} {ss : List (List Ty × Ty)} (h : bef p = some ss) : Rt p ↔ p.kids.length = ss.length ∧ ∀ j (hj : j < p.kids.length) (hj' : j < ss.length), KidOk p.kids[j] ss[j] := by
  rw [Rt, h]
  constructor
  · rintro ⟨ss', e, h1, h2⟩
    obtain rfl := Option.some.inj e
    exact ⟨h1, h2⟩
  · rintro ⟨h1, h2⟩
    exact ⟨ss, rfl, h1, h2⟩
theorem rt_none {p : Pf} (h : bef p = none) : ¬ Rt p := by
  rw [Rt, h]
  rintro ⟨_, e, _⟩
  cases e
set_option maxRecDepth 100000 in
set_option maxHeartbeats 3000000 in
theorem right_any : ∀ (e : Nat) {P : Nat → Prop} {d : Nat} (p : Pf) (x : Pl) (w : World) (r : Bool), PfAt P w d e p x → Gpf p → Lpf p → (r = true ↔ Rt p) → Calls Try.prog 48 #[vpf p x] w fun e w' => e = .returned (.bool r) ∧ Below w.heap.size w w' := by
  intro e
  induction e with
  | zero => intro P d p x w r h; exact h.elim
  | succ e ih =>
    intro P d p x w r h hg hlp hr
    have hP0 : PfAt (fun _ => True) w d (e + 1) p x := h.keep (Nat.le_refl _) (fun _ _ _ => ⟨trivial, rfl⟩)
    have HP : Hid (PfAt (fun _ => True) w d (e + 1) p x) := hP0
    have HR : Hid (r = true ↔ Rt p) := hr
    have HGP : Hid (Gpf p) := hg
    have HLP : Hid (Lpf p) := hlp
    have IH : Hid (∀ {P : Nat → Prop} {d : Nat} (p : Pf) (x : Pl) (w : World) (r : Bool), PfAt P w d e p x → Gpf p → Lpf p → (r = true ↔ Rt p) → Calls Try.prog 48 #[vpf p x] w fun e w' => e = .returned (.bool r) ∧ Below w.heap.size w w') := ih
    clear h hg hlp hr ih
    obtain ⟨_, _, _, hL, hG, hk, hK⟩ := hP0
    obtain ⟨step, left, goal, ix, n, kids⟩ := p
    obtain ⟨la, lc, ga, gc, ka, kc⟩ := x
    dsimp only at hL hG hk hK
    have HK : Hid (kids.length = 0 ∨ ∃ g off, ka = some ⟨g, off, none⟩ ∧ g < w.heap.size ∧ True ∧ ∀ j (h : j < kids.length), ∃ y, C8 w g (off + j * 8) kids[j] y ∧ PfAt (fun _ => True) w d e kids[j] y) := hK
    clear hL hG hK
    have K66 := fun W hW => bef_any (P := fun _ => True) (d := d) (e0 := e) ⟨step, left, goal, ix, n, kids⟩ ⟨la, lc, ga, gc, ka, kc⟩ W (HP.out.below hW) HGP.out.here.1 HGP.out.here.2 HLP.out.here (fun _ _ => trivial)
    unfold vpf at K66 ⊢
    dsimp only at K66 ⊢
    go_enter Try.func48, Try.ntmps48
    go_upto_region 1 with fail
    have hVb : Below w.heap.size w (w.alloc (.cells #[.int .i64 step, .slice la left.length lc, .int .i64 goal.kind, .int .i64 goal.n, .slice ga goal.kids.length gc, .int .i64 ix, .int .i64 n, .slice ka kids.length kc] 37)) := (Below.refl _ w).alloc (Nat.le_refl _) _
    have x1 := heap_alloc_new w (.cells #[.int .i64 step, .slice la left.length lc, .int .i64 goal.kind, .int .i64 goal.n, .slice ga goal.kids.length gc, .int .i64 ix, .int .i64 n, .slice ka kids.length kc] 37)
    have K66 := K66 _ hVb
    generalize hV : w.alloc (.cells #[.int .i64 step, .slice la left.length lc, .int .i64 goal.kind, .int .i64 goal.n, .slice ga goal.kids.length gc, .int .i64 ix, .int .i64 n, .slice ka kids.length kc] 37) = V at *
    clear hV
    have i0 := cell_of_row _ _ 0 _ _ _ x1
    have i1 := cell_of_row _ _ 1 _ _ _ x1
    have i2 := cell_of_row _ _ 2 _ _ _ x1
    have i3 := cell_of_row _ _ 3 _ _ _ x1
    have i4 := cell_of_row _ _ 4 _ _ _ x1
    have i5 := cell_of_row _ _ 5 _ _ _ x1
    have i6 := cell_of_row _ _ 6 _ _ _ x1
    have i7 := cell_of_row _ _ 7 _ _ _ x1
    go_upto_region 2 with (go_at_call 66; (with_reducible refine K66.mono ?_); rintro e2 w2 ⟨v2, r2, rfl, hb2, hn2, hs2⟩; clear K66)
    have hB2 := hVb.trans (hb2.mono hVb.size)
    have x1 := (hb2.block _ (lt_of_get x1)).trans x1
    clear i0 i1 i2 i3 i4 i5 i6 i7
    have i7 := cell_of_row _ _ 7 _ _ _ x1
    obtain ⟨o, ho⟩ : ∃ o, bef ⟨step, left, goal, ix, n, kids⟩ = o := ⟨_, rfl⟩
    rw [ho] at hn2 hs2
    have HO : Hid (bef ⟨step, left, goal, ix, n, kids⟩ = o) := ho
    clear ho
    cases o with
    | none =>
      obtain rfl := hn2 rfl
      have hrf : r = false := by
        cases hrr : r
        · rfl
        · exact absurd (HR.out.1 hrr) (rt_none HO.out)
      subst hrf
      clear hs2 hn2
      go_wp2
      go_ret
      exact ⟨rfl, hB2⟩
    | some ss =>
      obtain ⟨rfl, hsq⟩ := hs2 ss rfl
      obtain ⟨bq, rfl, hq⟩ := hsq
      have HSS : Hid (bef ⟨step, left, goal, ix, n, kids⟩ = some ss) := HO.out
      clear hn2 hs2 HO
      by_cases hlen : kids.length = ss.length
      · have HHL : Hid (kids.length = ss.length) := hlen
        rw [← hlen]
        have HQQ : Hid (ss.length = 0 ∨ ∃ g, bq = some ⟨g, 0, none⟩ ∧ g < w2.heap.size ∧ ∀ j (h : j < ss.length), ∃ a c x y, C4 w2 g (j * 4) ss[j].1 a c ss[j].2 x y ∧ LsAt (fun _ => True) w2 d ss[j].1 a c ∧ TyP (fun _ => True) w2 d ss[j].2 x y) := hq
        clear hq hlen
        go_wp2
        clear i7
        go_loopw [25] (fun iv wr => ∃ k : Nat, iv = .int .i64 (k : Int) ∧ k ≤ kids.length ∧ Below w2.heap.size w2 wr ∧ (∀ j (h : j < kids.length) (h' : j < ss.length), j < k → KidOk kids[j] ss[j])) (fun iv _ => kids.length - (intOf iv).toNat)
        case atStart => exact ⟨0, rfl, by omega, Below.refl _ _, fun _ _ _ h => by omega⟩
        case round =>
          obtain ⟨k, rfl, hkl', hBr, hz⟩ := hrel
          have HZ : Hid (∀ j (h : j < kids.length) (h' : j < ss.length), j < k → KidOk kids[j] ss[j]) := hz
          clear hz
          by_cases hkl : k < kids.length
          · have hks : k < ss.length := by have := HHL.out; omega
            have hkl2 : (k : Int) < (kids.length : Int) := by omega
            have hB := hB2.trans (hBr.mono hB2.size)
            obtain ⟨kg, ko, rfl, hkg, _, hkk⟩ : ∃ g off, ka = some ⟨g, off, none⟩ ∧ g < w.heap.size ∧ True ∧ ∀ j (h : j < kids.length), ∃ y, C8 w g (off + j * 8) kids[j] y ∧ PfAt (fun _ => True) w d e kids[j] y := by
              rcases HK.out with h | h
              · omega
              · exact h
            obtain ⟨y, hc8, hpk⟩ := hkk k hkl
            have hc9 := hc8.below hkg hB
            have HPK : Hid (PfAt (fun _ => True) w d e kids[k] y) := hpk
            obtain ⟨q, hq⟩ : ∃ q, kids[k] = q := ⟨_, rfl⟩
            rw [hq] at hc9
            have HQ : Hid (kids[k] = q) := hq
            obtain ⟨c0, c1, c2, c3, c4, c5, c6, c7⟩ := hc9
            obtain ⟨gq, rfl, hgq, hqq⟩ : ∃ g, bq = some ⟨g, 0, none⟩ ∧ g < w2.heap.size ∧ ∀ j (h : j < ss.length), ∃ a c x y, C4 w2 g (j * 4) ss[j].1 a c ss[j].2 x y ∧ LsAt (fun _ => True) w2 d ss[j].1 a c ∧ TyP (fun _ => True) w2 d ss[j].2 x y := by
              rcases HQQ.out with h | h
              · omega
              · exact h
            obtain ⟨a1, s1, a2, s2, C1, hl1, ht1⟩ := hqq k hks
            obtain ⟨sq, hsq⟩ : ∃ sq, ss[k] = sq := ⟨_, rfl⟩
            rw [hsq] at C1 hl1 ht1
            have HSQ : Hid (ss[k] = sq) := hsq
            obtain ⟨d0, d1, d2, d3⟩ := C1
            clear hc8 hpk hkk hq hqq hsq
            go_upto_region 7 with fail
            have hb5 : Below wr.heap.size wr (wr.alloc (.cells #[.int .i64 q.step, .slice y.la q.left.length y.lc, .int .i64 q.goal.kind, .int .i64 q.goal.n, .slice y.ga q.goal.kids.length y.gc, .int .i64 q.ix, .int .i64 q.n, .slice y.ka q.kids.length y.kc] 37)) := (Below.refl _ wr).alloc (Nat.le_refl _) _
            have x5 := heap_alloc_new wr (.cells #[.int .i64 q.step, .slice y.la q.left.length y.lc, .int .i64 q.goal.kind, .int .i64 q.goal.n, .slice y.ga q.goal.kids.length y.gc, .int .i64 q.ix, .int .i64 q.n, .slice y.ka q.kids.length y.kc] 37)
            have hBW := hB.trans (hb5.mono hB.size)
            have hBW2 := hBr.trans (hb5.mono hBr.size)
            have hl5 := lt_of_get x5
            clear hb5
            generalize hV : wr.alloc (.cells #[.int .i64 q.step, .slice y.la q.left.length y.lc, .int .i64 q.goal.kind, .int .i64 q.goal.n, .slice y.ga q.goal.kids.length y.gc, .int .i64 q.ix, .int .i64 q.n, .slice y.ka q.kids.length y.kc] 37) = W1 at *
            clear hV
            generalize wr.heap.size = b6 at *
            have f0 : ∀ p : After W1, p.W.cell? ⟨b6, 0, none⟩ = some (.int .i64 q.step) := fun p => (p.h.cell (p := ⟨b6, 0, none⟩) hl5).trans (cell_of_row _ _ 0 _ _ _ x5)
            have f1 : ∀ p : After W1, p.W.cell? ⟨b6, 1, none⟩ = some (.slice y.la q.left.length y.lc) := fun p => (p.h.cell (p := ⟨b6, 1, none⟩) hl5).trans (cell_of_row _ _ 1 _ _ _ x5)
            have f2 : ∀ p : After W1, p.W.cell? ⟨b6, 2, none⟩ = some (.int .i64 q.goal.kind) := fun p => (p.h.cell (p := ⟨b6, 2, none⟩) hl5).trans (cell_of_row _ _ 2 _ _ _ x5)
            have f3 : ∀ p : After W1, p.W.cell? ⟨b6, 3, none⟩ = some (.int .i64 q.goal.n) := fun p => (p.h.cell (p := ⟨b6, 3, none⟩) hl5).trans (cell_of_row _ _ 3 _ _ _ x5)
            have f4 : ∀ p : After W1, p.W.cell? ⟨b6, 4, none⟩ = some (.slice y.ga q.goal.kids.length y.gc) := fun p => (p.h.cell (p := ⟨b6, 4, none⟩) hl5).trans (cell_of_row _ _ 4 _ _ _ x5)
            have f5 : ∀ p : After W1, p.W.cell? ⟨b6, 5, none⟩ = some (.int .i64 q.ix) := fun p => (p.h.cell (p := ⟨b6, 5, none⟩) hl5).trans (cell_of_row _ _ 5 _ _ _ x5)
            have f6 : ∀ p : After W1, p.W.cell? ⟨b6, 6, none⟩ = some (.int .i64 q.n) := fun p => (p.h.cell (p := ⟨b6, 6, none⟩) hl5).trans (cell_of_row _ _ 6 _ _ _ x5)
            have f7 : ∀ p : After W1, p.W.cell? ⟨b6, 7, none⟩ = some (.slice y.ka q.kids.length y.kc) := fun p => (p.h.cell (p := ⟨b6, 7, none⟩) hl5).trans (cell_of_row _ _ 7 _ _ _ x5)
            have g0 := fun p : After W1 => ((hBW2.trans (p.h.mono hBW2.size)).cell (p := ⟨gq, _, none⟩) hgq).trans d0
            have g1 := fun p : After W1 => ((hBW2.trans (p.h.mono hBW2.size)).cell (p := ⟨gq, _, none⟩) hgq).trans d1
            have g2 := fun p : After W1 => ((hBW2.trans (p.h.mono hBW2.size)).cell (p := ⟨gq, _, none⟩) hgq).trans d2
            have g3 := fun p : After W1 => ((hBW2.trans (p.h.mono hBW2.size)).cell (p := ⟨gq, _, none⟩) hgq).trans d3
            haveI : Inhabited (After W1) := ⟨⟨_, Below.refl _ _⟩⟩
            obtain ⟨r1, hr1⟩ := fix_prop (q.left = sq.1)
            obtain ⟨r2, hr2⟩ := fix_prop (q.goal = sq.2)
            obtain ⟨r3, hr3⟩ := fix_prop (Rt q)
            have hpq : PfAt (fun _ => True) w d e q y := by have := HPK.out; rw [HQ.out] at this; exact this
            obtain ⟨e', he'⟩ := hpq.pos
            have hpq' := hpq
            rw [he'] at hpq'
            obtain ⟨_, _, _, hql, hqg, _⟩ := hpq'
            have hgq2 : Gpf q := by rw [← HQ.out]; exact HGP.out.kid (List.getElem_mem hkl)
            have hlq2 : Lpf q := by rw [← HQ.out]; exact HLP.out.kid (List.getElem_mem hkl)
            have K67 := fun p : After W1 => are_any d d 0 0 0 0 q.left sq.1 y.la y.lc a1 s1 p.W r1 hr1 (hql.below (hBW.trans (p.h.mono hBW.size))).1.at (hl1.below (hBW2.trans (p.h.mono hBW2.size))).1.at
            have K68 := fun p : After W1 => same_any d q.goal y.ga y.gc d sq.2 a2 s2 p.W r2 hr2 (hqg.below (hBW.trans (p.h.mono hBW.size))).at (ht1.below (hBW2.trans (p.h.mono hBW2.size))).at
            have K48 := fun p : After W1 => IH.out q y p.W r3 (hpq.below (hBW.trans (p.h.mono hBW.size))) hgq2 hlq2 hr3
            unfold vty at K68
            unfold vpf at K48
            have HR1 : Hid (r1 = true ↔ q.left = sq.1) := hr1
            have HR2 : Hid (r2 = true ↔ q.goal = sq.2) := hr2
            have HR3 : Hid (r3 = true ↔ Rt q) := hr3
            have HKO : Hid (∀ h : k < kids.length, KidOk kids[k] ss[k] ↔ KidOk q sq) := fun h => by rw [HQ.out, HSQ.out]
            clear hr1 hr2 hr3 hpq hql hqg hl1 ht1 c0 c1 c2 c3 c4 c5 c6 c7 d0 d1 d2 d3 x5 hgq2 hlq2
            cases r1 with
            | false =>
              refine wp_region_after (by kernel_rfl) (by kernel_rfl) ?_
              repeat (go_big_quiet_step (first | (go_at_call 67; (with_reducible refine after_of (K67 _))) | (go_at_call 68; (with_reducible refine after_of (K68 _))) | (go_at_call 48; (with_reducible refine after_of (K48 _)))))
              refine wpQuiet_nil ?_
              intro W' hw'
              obtain ⟨⟨w1, hb1⟩, rfl⟩ := hw'
              clear K67 K68 K48 f0 f1 f2 f3 f4 f5 f6 f7 g0 g1 g2 g3
              go_wp2_with fail
              go_ret
              have hrf : r = false := by
                cases hrr : r
                · rfl
                · have hko := (HKO.out hkl).1 (((rt_some HSS.out).1 (HR.out.1 hrr)).2 k hkl hks)
                  have := HR1.out.2 hko.1
                  cases this
              subst hrf
              exact ⟨rfl, hBW.trans (hb1.mono hBW.size)⟩
            | true =>
              cases r2 with
              | false =>
                refine wp_region_after (by kernel_rfl) (by kernel_rfl) ?_
                repeat (go_big_quiet_step (first | (go_at_call 67; (with_reducible refine after_of (K67 _))) | (go_at_call 68; (with_reducible refine after_of (K68 _))) | (go_at_call 48; (with_reducible refine after_of (K48 _)))))
                refine wpQuiet_nil ?_
                intro W' hw'
                obtain ⟨⟨w1, hb1⟩, rfl⟩ := hw'
                clear K67 K68 K48 f0 f1 f2 f3 f4 f5 f6 f7 g0 g1 g2 g3
                go_wp2_with fail
                go_ret
                have hrf : r = false := by
                  cases hrr : r
                  · rfl
                  · have hko := (HKO.out hkl).1 (((rt_some HSS.out).1 (HR.out.1 hrr)).2 k hkl hks)
                    have := HR2.out.2 hko.2.1
                    cases this
                subst hrf
                exact ⟨rfl, hBW.trans (hb1.mono hBW.size)⟩
              | true =>
                cases r3 with
                | false =>
                  refine wp_region_after (by kernel_rfl) (by kernel_rfl) ?_
                  repeat (go_big_quiet_step (first | (go_at_call 67; (with_reducible refine after_of (K67 _))) | (go_at_call 68; (with_reducible refine after_of (K68 _))) | (go_at_call 48; (with_reducible refine after_of (K48 _)))))
                  refine wpQuiet_nil ?_
                  intro W' hw'
                  obtain ⟨⟨w1, hb1⟩, rfl⟩ := hw'
                  clear K67 K68 K48 f0 f1 f2 f3 f4 f5 f6 f7 g0 g1 g2 g3
                  go_wp2_with fail
                  go_ret
                  have hrf : r = false := by
                    cases hrr : r
                    · rfl
                    · have hko := (HKO.out hkl).1 (((rt_some HSS.out).1 (HR.out.1 hrr)).2 k hkl hks)
                      have := HR3.out.2 hko.2.2
                      cases this
                  subst hrf
                  exact ⟨rfl, hBW.trans (hb1.mono hBW.size)⟩
                | true =>
                  refine wp_region_after (by kernel_rfl) (by kernel_rfl) ?_
                  repeat (go_big_quiet_step (first | (go_at_call 67; (with_reducible refine after_of (K67 _))) | (go_at_call 68; (with_reducible refine after_of (K68 _))) | (go_at_call 48; (with_reducible refine after_of (K48 _)))))
                  refine wpQuiet_nil ?_
                  intro W' hw'
                  obtain ⟨⟨w1, hb1⟩, rfl⟩ := hw'
                  clear K67 K68 K48 f0 f1 f2 f3 f4 f5 f6 f7 g0 g1 g2 g3
                  go_wp2_with fail
                  go_roundw
                  case rel =>
                    refine ⟨k + 1, by go_num, by omega, hBW2.trans (hb1.mono hBW2.size), fun j h1 h2 h3 => ?_⟩
                    by_cases hjk : j < k
                    · exact HZ.out j h1 h2 hjk
                    · obtain rfl : j = k := by omega
                      exact (HKO.out h1).2 ⟨HR1.out.1 (by trivial), HR2.out.1 (by trivial), HR3.out.1 (by trivial)⟩
                  case measure => simp [intOf]; omega
          · have hkl2 : ¬ (k : Int) < (kids.length : Int) := by omega
            have hrt : r = true := HR.out.2 ((rt_some HSS.out).2 ⟨HHL.out, fun j h h' => HZ.out j h h' (by have h2 : j < kids.length := h; omega)⟩)
            subst hrt
            go_wp2
            go_ret
            exact ⟨rfl, hB2.trans (hBr.mono hB2.size)⟩
      · have hlen' : ¬ (kids.length : Int) = (ss.length : Int) := by omega
        have hrf : r = false := by
          cases hrr : r
          · rfl
          · exact absurd ((rt_some HSS.out).1 (HR.out.1 hrr)).1 hlen
        subst hrf
        clear hq
        go_wp2
        go_ret
        exact ⟨rfl, hB2⟩
end Go.Proofs.Ytbmgkgoghgdbhaa.Te
