/- checkParts: what is wrong with the parts of a proof. No conditions. -/
import Derived.Test.YtbmgkgoghgdbhaaSy
namespace Go.Proofs.Ytbmgkgoghgdbhaa.Te
open Go.RowKit

def cpf (p : Pf) : Int := if crow p.left p.goal = 0 then fz (p.kids.map cpf) else crow p.left p.goal
termination_by SizeOf.sizeOf p
decreasing_by exact Pf.lt_kids ‹_›
theorem fz_drop {l : List Pf} {k : Nat} (h : k < l.length) : fz ((l.drop k).map cpf) = if cpf l[k] = 0 then fz ((l.drop (k + 1)).map cpf) else cpf l[k] := by
  rw [List.drop_eq_getElem_cons h, List.map_cons]
  unfold fz
  by_cases h0 : cpf l[k] = 0
  · rw [if_pos h0, List.find?_cons_of_neg (by simp [h0])]
  · rw [if_neg h0, List.find?_cons_of_pos (by simp [h0])]
    rfl
set_option maxHeartbeats 1500000 in
theorem cpf_any : ∀ (e : Nat) {P : Nat → Prop} {d : Nat} (p : Pf) (x : Pl) (w : World), PfAt P w d e p x → Calls Try.prog 47 #[vpf p x] w fun e w' => e = .returned (.int .i64 (cpf p)) ∧ Below w.heap.size w w' := by
  intro e
  induction e with
  | zero => intro P d p x w h; exact h.elim
  | succ e ih =>
    intro P d p x w h
    obtain ⟨_, _, _, hL, hG, hk, hK⟩ := h
    obtain ⟨r, hr⟩ : ∃ r, cpf p = r := ⟨_, rfl⟩
    rw [hr]
    have hr2 := hr
    rw [cpf] at hr2
    obtain ⟨step, left, goal, ix, n, kids⟩ := p
    obtain ⟨la, lc, ga, gc, ka, kc⟩ := x
    dsimp only at hL hG hk hK hr2
    have HL : Hid (LsAt P w d left la lc) := hL
    have HG : Hid (TyP P w d goal ga gc) := hG
    have HK : Hid (kids.length = 0 ∨ ∃ g off, ka = some ⟨g, off, none⟩ ∧ g < w.heap.size ∧ P g ∧ ∀ j (h : j < kids.length), ∃ y, C8 w g (off + j * 8) kids[j] y ∧ PfAt P w d e kids[j] y) := hK
    have HR : Hid ((if crow left goal = 0 then fz (kids.map cpf) else crow left goal) = r) := hr2
    have IH : Hid (∀ {P : Nat → Prop} {d : Nat} (p : Pf) (x : Pl) (w : World), PfAt P w d e p x → Calls Try.prog 47 #[vpf p x] w fun e w' => e = .returned (.int .i64 (cpf p)) ∧ Below w.heap.size w w') := ih
    clear hL hG hK hr hr2 ih
    unfold vpf
    dsimp only
    go_enter Try.func47, Try.ntmps47
    go_upto_region 1 with fail
    have hVb : Below w.heap.size w (w.alloc (.cells #[.int .i64 step, .slice la left.length lc, .int .i64 goal.kind, .int .i64 goal.n, .slice ga goal.kids.length gc, .int .i64 ix, .int .i64 n, .slice ka kids.length kc] 37)) := (Below.refl _ w).alloc (Nat.le_refl _) _
    have x1 := heap_alloc_new w (.cells #[.int .i64 step, .slice la left.length lc, .int .i64 goal.kind, .int .i64 goal.n, .slice ga goal.kids.length gc, .int .i64 ix, .int .i64 n, .slice ka kids.length kc] 37)
    generalize hV : w.alloc (.cells #[.int .i64 step, .slice la left.length lc, .int .i64 goal.kind, .int .i64 goal.n, .slice ga goal.kids.length gc, .int .i64 ix, .int .i64 n, .slice ka kids.length kc] 37) = V at *
    clear hV
    have K65 := row_any left la lc goal ga gc V (HL.out.below hVb).1.at (HG.out.below hVb).at
    unfold vty at K65
    obtain ⟨e0, he0⟩ : ∃ e0, crow left goal = e0 := ⟨_, rfl⟩
    rw [he0] at K65
    have HR2 : Hid ((if e0 = 0 then fz (kids.map cpf) else e0) = r) := by rw [← he0]; exact HR.out
    clear he0 HR
    have i1 := cell_of_row _ _ 1 _ _ _ x1
    have i2 := cell_of_row _ _ 2 _ _ _ x1
    have i3 := cell_of_row _ _ 3 _ _ _ x1
    have i4 := cell_of_row _ _ 4 _ _ _ x1
    by_cases h0 : e0 = 0
    · subst h0
      have HR3 : Hid (fz (kids.map cpf) = r) := by have := HR2.out; rw [if_pos rfl] at this; exact this
      clear HR2
      go_upto_region 4 with (go_at_call 65; (with_reducible refine K65.mono ?_); rintro e3 w3 ⟨rfl, hb3⟩; clear K65)
      have hB3 := hVb.trans (hb3.mono hVb.size)
      have x1 := (hb3.block _ (lt_of_get x1)).trans x1
      clear i1 i2 i3 i4
      have i7 := cell_of_row _ _ 7 _ _ _ x1
      go_wp2
      clear i7
      go_loopw [18] (fun iv wr => ∃ k : Nat, iv = .int .i64 (k : Int) ∧ k ≤ kids.length ∧ Below w.heap.size w wr ∧ fz ((kids.drop k).map cpf) = r) (fun iv _ => kids.length - (intOf iv).toNat)
      case atStart => exact ⟨0, rfl, by omega, hB3, HR3.out⟩
      case round =>
        obtain ⟨k, rfl, hkl', hB, hc⟩ := hrel
        have HC : Hid (fz ((kids.drop k).map cpf) = r) := hc
        clear hc
        by_cases hkl : k < kids.length
        · have hkl2 : (k : Int) < (kids.length : Int) := by omega
          obtain ⟨kg, ko, rfl, hkg, _, hkk⟩ : ∃ g off, ka = some ⟨g, off, none⟩ ∧ g < w.heap.size ∧ P g ∧ ∀ j (h : j < kids.length), ∃ y, C8 w g (off + j * 8) kids[j] y ∧ PfAt P w d e kids[j] y := by
            rcases HK.out with h | h
            · omega
            · exact h
          obtain ⟨y, hc8, hpk⟩ := hkk k hkl
          have hc9 := hc8.below hkg hB
          have HPK : Hid (PfAt P w d e kids[k] y) := hpk
          obtain ⟨q, hq⟩ : ∃ q, kids[k] = q := ⟨_, rfl⟩
          rw [hq] at hc9
          have HQ : Hid (kids[k] = q) := hq
          obtain ⟨c0, c1, c2, c3, c4, c5, c6, c7⟩ := hc9
          clear hc8 hpk hkk hq
          go_upto_region 7 with fail
          have hb5 : Below wr.heap.size wr (wr.alloc (.cells #[.int .i64 q.step, .slice y.la q.left.length y.lc, .int .i64 q.goal.kind, .int .i64 q.goal.n, .slice y.ga q.goal.kids.length y.gc, .int .i64 q.ix, .int .i64 q.n, .slice y.ka q.kids.length y.kc] 37)) := (Below.refl _ wr).alloc (Nat.le_refl _) _
          have x5 := heap_alloc_new wr (.cells #[.int .i64 q.step, .slice y.la q.left.length y.lc, .int .i64 q.goal.kind, .int .i64 q.goal.n, .slice y.ga q.goal.kids.length y.gc, .int .i64 q.ix, .int .i64 q.n, .slice y.ka q.kids.length y.kc] 37)
          have hB2 := hB.trans (hb5.mono hB.size)
          clear hb5
          generalize hV : wr.alloc (.cells #[.int .i64 q.step, .slice y.la q.left.length y.lc, .int .i64 q.goal.kind, .int .i64 q.goal.n, .slice y.ga q.goal.kids.length y.gc, .int .i64 q.ix, .int .i64 q.n, .slice y.ka q.kids.length y.kc] 37) = W1 at *
          clear hV
          have K47 := IH.out q y W1 (by have := HPK.out.below hB2; rw [HQ.out] at this; exact this)
          unfold vpf at K47
          obtain ⟨e1, he1⟩ : ∃ e1, cpf q = e1 := ⟨_, rfl⟩
          rw [he1] at K47
          have HD : Hid (fz ((kids.drop k).map cpf) = if e1 = 0 then fz ((kids.drop (k + 1)).map cpf) else e1) := by
            have := fz_drop hkl
            rw [HQ.out, he1] at this
            exact this
          clear he1
          have v0 := cell_of_row _ _ 0 _ _ _ x5
          have v1 := cell_of_row _ _ 1 _ _ _ x5
          have v2 := cell_of_row _ _ 2 _ _ _ x5
          have v3 := cell_of_row _ _ 3 _ _ _ x5
          have v4 := cell_of_row _ _ 4 _ _ _ x5
          have v5 := cell_of_row _ _ 5 _ _ _ x5
          have v6 := cell_of_row _ _ 6 _ _ _ x5
          have v7 := cell_of_row _ _ 7 _ _ _ x5
          by_cases h1 : e1 = 0
          · subst h1
            go_wp2_with (go_at_call 47; (with_reducible refine K47.mono ?_); rintro e3 w4 ⟨rfl, hb4⟩; clear K47)
            go_roundw
            case rel =>
              refine ⟨k + 1, by go_num, by omega, hB2.trans (hb4.mono hB2.size), ?_⟩
              have h2 : fz ((kids.drop k).map cpf) = fz ((kids.drop (k + 1)).map cpf) := by
                have := HD.out
                simpa using this
              rw [← h2]
              exact HC.out
            case measure => simp [intOf]; omega
          · go_wp2_with (go_at_call 47; (with_reducible refine K47.mono ?_); rintro e3 w4 ⟨rfl, hb4⟩; clear K47)
            go_ret
            have hre : e1 = r := by
              have := HD.out
              rw [if_neg h1] at this
              exact this.symm.trans HC.out
            subst hre
            exact ⟨rfl, hB2.trans (hb4.mono hB2.size)⟩
        · have hkl2 : ¬ (k : Int) < (kids.length : Int) := by omega
          have hr0 : r = 0 := by
            have := HC.out
            rw [List.drop_of_length_le (by omega)] at this
            exact this.symm
          subst hr0
          go_wp2
          go_ret
          exact ⟨rfl, hB⟩
    · go_wp2_with (go_at_call 65; (with_reducible refine K65.mono ?_); rintro e3 w3 ⟨rfl, hb3⟩; clear K65)
      go_ret
      have hre : e0 = r := by have := HR2.out; rw [if_neg h0] at this; exact this
      subst hre
      exact ⟨rfl, hVb.trans (hb3.mono hVb.size)⟩
end Go.Proofs.Ytbmgkgoghgdbhaa.Te
