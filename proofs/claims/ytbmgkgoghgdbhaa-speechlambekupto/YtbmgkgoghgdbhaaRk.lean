/- The document's ProofParts: what is wrong with the parts of a proof. No conditions. -/
import Derived.Test.YtbmgkgoghgdbhaaRh
namespace Go.Proofs.Ytbmgkgoghgdbhaa.Te
open Go.RowKit

theorem crow_drop {l : List Ty} {g : Ty} {k : Nat} (h : k < l.length) : crow (l.drop k) g = if ck l[k] = 0 then crow (l.drop (k + 1)) g else ck l[k] := by
  rw [List.drop_eq_getElem_cons h, crow]
theorem crow_end {l : List Ty} {g : Ty} : crow (l.drop l.length) g = ck g := by
  rw [List.drop_length, crow]
/-- what is still to be looked at -/
def CK (l : List Ty) (g : Ty) (r : Int) (k : Nat) : Prop := (k ≤ l.length ∧ crow (l.drop k) g = r) ∨ (k = l.length + 1 ∧ r = 0)
set_option maxRecDepth 100000 in
set_option maxHeartbeats 2000000 in
theorem pparts_any : ∀ (e : Nat) {P : Nat → Prop} {d : Nat} (p : Pf) (x : Pl) (w : World), PfAt P w d e p x → Calls Try.prog 50 #[vpf p x] w fun e w' => e = .returned (.int .i64 (cpf p)) ∧ Below w.heap.size w w' := by
  intro e
  induction e with
  | zero => intro P d p x w h; exact h.elim
  | succ e ih =>
    intro P d p x w h
    obtain ⟨_, _, _, hL, hG, hk, hK⟩ := h
    obtain ⟨r, hr⟩ : ∃ r, cpf p = r := ⟨_, rfl⟩
    rw [hr]
    have hr2 := hr
    rw [cpf] at hr2
    obtain ⟨step, left, goal, ix, n, kids⟩ := p
    obtain ⟨la, lc, ga, gc, ka, kc⟩ := x
    dsimp only at hL hG hk hK hr2
    have hlb := hL.1.2.2.1
    dsimp only at hlb
    have HL : Hid (TyAt w (d + 1) ⟨0, 0, left⟩ la lc) := hL.1.at
    have HG : Hid (TyAt w d goal ga gc) := hG.at
    have HK : Hid (KidsAt P w d e kids ka) := hK
    obtain ⟨r0, hr0⟩ : ∃ r0, crow left goal = r0 := ⟨_, rfl⟩
    have HR0 : Hid (crow left goal = r0) := hr0
    rw [hr0] at hr2
    have HR : Hid ((if r0 = 0 then fz (kids.map cpf) else r0) = r) := hr2
    have IH : Hid (∀ {P : Nat → Prop} {d : Nat} (p : Pf) (x : Pl) (w : World), PfAt P w d e p x → Calls Try.prog 50 #[vpf p x] w fun e w' => e = .returned (.int .i64 (cpf p)) ∧ Below w.heap.size w w') := ih
    clear hL hG hK hr hr2 ih hr0
    unfold vpf
    dsimp only
    go_enter Try.func50, Try.ntmps50
    go_upto_region 1 with fail
    have hVb : Below w.heap.size w (w.alloc (.cells #[.int .i64 step, .slice la left.length lc, .int .i64 goal.kind, .int .i64 goal.n, .slice ga goal.kids.length gc, .int .i64 ix, .int .i64 n, .slice ka kids.length kc] 37)) := (Below.refl _ w).alloc (Nat.le_refl _) _
    have x1 := heap_alloc_new w (.cells #[.int .i64 step, .slice la left.length lc, .int .i64 goal.kind, .int .i64 goal.n, .slice ga goal.kids.length gc, .int .i64 ix, .int .i64 n, .slice ka kids.length kc] 37)
    generalize hV : w.alloc (.cells #[.int .i64 step, .slice la left.length lc, .int .i64 goal.kind, .int .i64 goal.n, .slice ga goal.kids.length gc, .int .i64 ix, .int .i64 n, .slice ka kids.length kc] 37) = V at *
    clear hV
    go_wp2
    go_loopw [3, 4, 5] (fun iv _ _ wr => ∃ k : Nat, iv = .int .i64 (k : Int) ∧ CK left goal r0 k ∧ Below w.heap.size w wr ∧ wr.heap[w.heap.size]? = some (.cells #[.int .i64 step, .slice la left.length lc, .int .i64 goal.kind, .int .i64 goal.n, .slice ga goal.kids.length gc, .int .i64 ix, .int .i64 n, .slice ka kids.length kc] 37 (0, 0))) (fun iv _ _ _ => left.length + 1 - (intOf iv).toNat)
    case atStart => exact ⟨0, rfl, .inl ⟨by omega, HR0.out⟩, hVb, x1⟩
    case round =>
      obtain ⟨k, rfl, hC, hB, z1⟩ := hrel
      have HC : Hid (CK left goal r0 k) := hC
      have hkb : k ≤ left.length + 1 := by rcases hC with h | h <;> omega
      clear hC
      have i1 := cell_of_row _ _ 1 _ _ _ z1
      have i2 := cell_of_row _ _ 2 _ _ _ z1
      have i3 := cell_of_row _ _ 3 _ _ _ z1
      have i4 := cell_of_row _ _ 4 _ _ _ z1
      have HZ : Hid _ := z1
      have hal := (Below.refl _ wr).alloc (Nat.le_refl _) (.cells #[.int .i64 goal.kind, .int .i64 goal.n, .slice ga goal.kids.length gc] 24)
      have i1a := (hal.cell (p := ⟨w.heap.size, 1, none⟩) (lt_of_get z1)).trans i1
      by_cases hk1 : k < left.length
      · have hk1' : (k : Int) < (left.length : Int) := by omega
        have hk1'' : (k : Int) ≤ (left.length : Int) := by omega
        obtain ⟨g, off, a', c', rfl, hg, y0, y1, y2, hT⟩ := (HL.out.below hB).kid (j := k) hk1
        dsimp only at y0 y1 y2 hT
        have HT : Hid (TyAt wr d left[k] a' c') := hT
        have y0 := (hal.cell (p := ⟨g, _, none⟩) hg).trans y0
        have y1 := (hal.cell (p := ⟨g, _, none⟩) hg).trans y1
        have y2 := (hal.cell (p := ⟨g, _, none⟩) hg).trans y2
        clear hT
        go_upto_region 7 with fail
        have hl3 := heap_alloc_new wr (.cells #[.int .i64 left[k].kind, .int .i64 left[k].n, .slice a' left[k].kids.length c'] 24)
        have hBn := (Below.refl _ wr).alloc (Nat.le_refl _) (.cells #[.int .i64 left[k].kind, .int .i64 left[k].n, .slice a' left[k].kids.length c'] 24)
        have z3 := (hBn.block _ (lt_of_get z1)).trans z1
        clear y0 y1 y2 i1 i2 i3 i4 i1a hal z1 HZ
        generalize hV : wr.alloc (.cells #[.int .i64 left[k].kind, .int .i64 left[k].n, .slice a' left[k].kids.length c'] 24) = W7 at *
        clear hV
        have hB7 := hB.trans (hBn.mono hB.size)
        have K9 := check_doc d left[k] a' c' W7 (HT.out.below hBn)
        unfold vty at K9
        obtain ⟨e1, he1⟩ : ∃ e1, ck left[k] = e1 := ⟨_, rfl⟩
        rw [he1] at K9
        have HN : Hid ((if e1 = 0 then crow (left.drop (k + 1)) goal else e1) = r0) := by
          rcases HC.out with ⟨_, h⟩ | ⟨h, _⟩
          · rw [crow_drop hk1, he1] at h; exact h
          · omega
        have m0 := cell_of_row _ _ 0 _ _ _ hl3
        have m1 := cell_of_row _ _ 1 _ _ _ hl3
        have m2 := cell_of_row _ _ 2 _ _ _ hl3
        clear he1 HC
        by_cases he : e1 = 0
        · subst he
          go_wp2_with (go_at_call 9; (with_reducible refine K9.mono ?_); rintro e5 w5 ⟨rfl, hb5⟩; clear K9)
          go_roundw
          case rel => exact ⟨k + 1, by go_num, .inl ⟨by omega, by have := HN.out; simpa using this⟩, hB7.trans (hb5.mono hB7.size), (hb5.block _ (lt_of_get z3)).trans z3⟩
          case measure => simp [intOf]; omega
        · go_wp2_with (go_at_call 9; (with_reducible refine K9.mono ?_); rintro e5 w5 ⟨rfl, hb5⟩; clear K9)
          go_ret
          have h1 := HN.out
          rw [if_neg he] at h1
          have h2 := HR.out
          rw [← h1, if_neg he] at h2
          exact ⟨by rw [h2]; rfl, hB7.trans (hb5.mono hB7.size)⟩
      · have hk1' : ¬ (k : Int) < (left.length : Int) := by omega
        by_cases hk2 : k ≤ left.length
        · have hk2' : (k : Int) ≤ (left.length : Int) := by omega
          go_upto_region 7 with fail
          have hn := heap_alloc_new wr (.cells #[.int .i64 goal.kind, .int .i64 goal.n, .slice ga goal.kids.length gc] 24)
          have z2 := (hal.block _ (lt_of_get z1)).trans z1
          clear i1 i2 i3 i4 i1a z1 HZ
          generalize hV : wr.alloc (.cells #[.int .i64 goal.kind, .int .i64 goal.n, .slice ga goal.kids.length gc] 24) = W7 at *
          clear hV
          have hB7 := hB.trans (hal.mono hB.size)
          have K9 := check_doc d goal ga gc W7 (HG.out.below hB7)
          unfold vty at K9
          obtain ⟨e1, he1⟩ : ∃ e1, ck goal = e1 := ⟨_, rfl⟩
          rw [he1] at K9
          have HN : Hid (e1 = r0) := by
            rcases HC.out with ⟨_, h⟩ | ⟨h, _⟩
            · rw [show k = left.length by omega, crow_end, he1] at h; exact h
            · omega
          have m0 := cell_of_row _ _ 0 _ _ _ hn
          have m1 := cell_of_row _ _ 1 _ _ _ hn
          have m2 := cell_of_row _ _ 2 _ _ _ hn
          clear he1 HC
          by_cases he : e1 = 0
          · subst he
            go_wp2_with (go_at_call 9; (with_reducible refine K9.mono ?_); rintro e5 w5 ⟨rfl, hb5⟩; clear K9)
            go_roundw
            case rel => exact ⟨k + 1, by go_num, .inr ⟨by omega, HN.out.symm⟩, hB7.trans (hb5.mono hB7.size), (hb5.block _ (lt_of_get z2)).trans z2⟩
            case measure => simp [intOf]; omega
          · go_wp2_with (go_at_call 9; (with_reducible refine K9.mono ?_); rintro e5 w5 ⟨rfl, hb5⟩; clear K9)
            go_ret
            have h2 := HR.out
            rw [← HN.out, if_neg he] at h2
            exact ⟨by rw [h2]; rfl, hB7.trans (hb5.mono hB7.size)⟩
        · have hk2' : ¬ (k : Int) ≤ (left.length : Int) := by omega
          have HR3 : Hid (fz (kids.map cpf) = r) := by
            have h2 := HR.out
            rcases HC.out with ⟨h, _⟩ | ⟨_, h⟩
            · omega
            · rw [h, if_pos rfl] at h2; exact h2
          clear HC HR i2 i3 i4 i1a hal hk1 hk2
          go_wp2
          clear i1 hk1' hk2' hkb
          go_loopw [6, 7] (fun iv _ wr => ∃ k : Nat, iv = .int .i64 (k : Int) ∧ k ≤ kids.length ∧ Below w.heap.size w wr ∧ wr.heap[w.heap.size]? = some (.cells #[.int .i64 step, .slice la left.length lc, .int .i64 goal.kind, .int .i64 goal.n, .slice ga goal.kids.length gc, .int .i64 ix, .int .i64 n, .slice ka kids.length kc] 37 (0, 0)) ∧ fz ((kids.drop k).map cpf) = r) (fun iv _ _ => kids.length - (intOf iv).toNat)
          case atStart => exact ⟨0, rfl, by omega, hB, HZ.out, HR3.out⟩
          case round =>
            clear HZ z1 hB
            obtain ⟨k, rfl, hkl', hB, z1, hc⟩ := hrel
            have HC : Hid (fz ((kids.drop k).map cpf) = r) := hc
            clear hc
            have i7 := cell_of_row _ _ 7 _ _ _ z1
            by_cases hkl : k < kids.length
            · have hkl2 : (k : Int) < (kids.length : Int) := by omega
              obtain ⟨kg, ko, rfl, hkg, _, hkk⟩ : ∃ g off, ka = some ⟨g, off, none⟩ ∧ g < wr.heap.size ∧ P g ∧ ∀ j (h : j < kids.length), ∃ y, C8 wr g (off + j * 8) kids[j] y ∧ PfAt P wr d e kids[j] y := by
                rcases HK.out.below hB with h | h
                · omega
                · exact h
              obtain ⟨y, hc8, hpk⟩ := hkk k hkl
              obtain ⟨c0, c1, c2, c3, c4, c5, c6, c7⟩ := hc8
              have K50 := IH.out kids[k] y wr hpk
              unfold vpf at K50
              obtain ⟨e1, he1⟩ : ∃ e1, cpf kids[k] = e1 := ⟨_, rfl⟩
              rw [he1] at K50
              have HN : Hid ((if e1 = 0 then fz ((kids.drop (k + 1)).map cpf) else e1) = r) := by
                have := HC.out
                rw [fz_drop hkl, he1] at this
                exact this
              clear he1 HC hpk hkk
              by_cases he : e1 = 0
              · subst he
                go_wp2_with (go_at_call 50; (with_reducible refine K50.mono ?_); rintro e5 w5 ⟨rfl, hb5⟩; clear K50)
                go_roundw
                case rel => exact ⟨k + 1, by go_num, by omega, hB.trans (hb5.mono hB.size), (hb5.block _ (lt_of_get z1)).trans z1, by have := HN.out; simpa using this⟩
                case measure => simp [intOf]; omega
              · go_wp2_with (go_at_call 50; (with_reducible refine K50.mono ?_); rintro e5 w5 ⟨rfl, hb5⟩; clear K50)
                go_ret
                have h1 := HN.out
                rw [if_neg he] at h1
                exact ⟨by rw [h1]; rfl, hB.trans (hb5.mono hB.size)⟩
            · have hkl2 : ¬ (k : Int) < (kids.length : Int) := by omega
              have HN : Hid (r = 0) := by
                have := HC.out
                rw [List.drop_of_length_le (by omega)] at this
                exact this.symm
              clear HC
              go_wp2
              go_ret
              exact ⟨by rw [HN.out]; rfl, hB⟩
end Go.Proofs.Ytbmgkgoghgdbhaa.Te
