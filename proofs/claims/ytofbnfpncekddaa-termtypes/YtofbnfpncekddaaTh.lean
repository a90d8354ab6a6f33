/- isSame, with slices.EqualFunc. No conditions. -/
import Derived.Test.YtofbnfpncekddaaTg
namespace Go.Proofs.Ytofbnfpncekddaa.Te
open Go.RowKit

/-- slices.EqualFunc of two types' kids, on condition of what it calls -/
theorem equal_any (d d2 : Nat) (k n k' n' : Int) (ks ks' : List Ty) (a : Option Addr) (c : Nat) (b : Option Addr) (e0 : Nat) (w : World) (r : Bool) (hr : r = true ↔ ks = ks') (h : TyAt w (d + 1) ⟨k, n, ks⟩ a c) (h' : TyAt w (d2 + 1) ⟨k', n', ks'⟩ b e0)
    (ih : ∀ (t : Ty) (a : Option Addr) (c : Nat) (d' : Nat) (u : Ty) (b : Option Addr) (e0 : Nat) (w : World) (r : Bool), (r = true ↔ t = u) → TyAt w d t a c → TyAt w d' u b e0 → Calls Try.prog 39 #[vty t a c, vty u b e0] w fun e w' => e = .returned (.bool r) ∧ Below w.heap.size w w') :
    Calls Try.prog 44 #[.slice a ks.length c, .slice b ks'.length e0, .func (.func 39) #[] #[]] w fun e w' => e = .returned (.bool r) ∧ Below w.heap.size w w' := by
  have hf := h.few.1
  have HT : Hid (TyAt w (d + 1) ⟨k, n, ks⟩ a c) := h
  have HU : Hid (TyAt w (d2 + 1) ⟨k', n', ks'⟩ b e0) := h'
  have HR : Hid (r = true ↔ ks = ks') := hr
  dsimp only at hf
  clear h h' hr
  by_cases hl : ks.length = ks'.length
  · have bl : (((ks.length : Nat) : Int) != ((ks'.length : Nat) : Int)) = false := by rw [hl]; simp
    have HL : Hid (ks.length = ks'.length) := hl
    clear hl
    go_enter Try.func44, Try.ntmps44
    go_wp2
    go_loopw [7, 8, 9, 17] (fun _ _ _ iv wr => ∃ j : Nat, iv = .int .i64 (j : Int) ∧ j ≤ ks.length ∧ (∀ i (hi : i < ks.length) (hi' : i < ks'.length), i < j → ks[i] = ks'[i]) ∧ Below w.heap.size w wr) (fun _ _ _ iv _ => ks.length - (intOf iv).toNat)
    case atStart => exact ⟨0, rfl, by omega, fun i _ _ h => by omega, Below.refl _ _⟩
    case round =>
      obtain ⟨j, rfl, hj, hz, hB⟩ := hrel
      have HZ : Hid (∀ i (hi : i < ks.length) (hi' : i < ks'.length), i < j → ks[i] = ks'[i]) := hz
      clear hz
      by_cases hjl : j < ks.length
      · have hjl2 : j < ks'.length := by have := HL.out; omega
        have hjl' : (j : Int) < (ks.length : Int) := by omega
        have hjl3 : (j : Int) < (ks'.length : Int) := by omega
        obtain ⟨g1, off1, a1, c1, rfl, hg1, y0, y1, y2, ht⟩ := (HT.out.below hB).kid hjl
        obtain ⟨g2, off2, a2, c2, rfl, hg2, z0, z1, z2, hu⟩ := (HU.out.below hB).kid hjl2
        dsimp only at y0 y1 y2 z0 z1 z2 ht hu
        obtain ⟨x, hx⟩ := fix_same ks[j] ks'[j]
        have HX : Hid (x = true ↔ ks[j] = ks'[j]) := hx
        have K39 := fun W' (hW : Below wr.heap.size wr W') => ih ks[j] a1 c1 d2 ks'[j] a2 c2 W' x HX.out (ht.below hW) (hu.below hW)
        unfold vty at K39
        have hb2 := fun o1 o2 => (two_boxes wr o1 o2).2.2.2
        have v0 := fun o => (((Below.refl _ wr).alloc (Nat.le_refl _) o).cell (p := ⟨g2, off2 + j * 3, none⟩) hg2).trans z0
        have v1 := fun o => (((Below.refl _ wr).alloc (Nat.le_refl _) o).cell (p := ⟨g2, off2 + j * 3 + 1, none⟩) hg2).trans z1
        have v2 := fun o => (((Below.refl _ wr).alloc (Nat.le_refl _) o).cell (p := ⟨g2, off2 + j * 3 + 2, none⟩) hg2).trans z2
        clear ht hu hx z0 z1 z2
        cases x
        · have HF : Hid (r = false) := by
            show r = false
            cases hrr : r
            · rfl
            · have e2 := HR.out.1 hrr
              have : ks[j] = ks'[j] := by simp only [e2]
              have := HX.out.2 this
              cases this
          go_wp2_with (go_at_call 39; (with_reducible refine (K39 _ (hb2 _ _)).mono ?_); rintro e w1 ⟨rfl, hb1⟩)
          go_ret
          have hq := (hb2 _ _).trans (hb1.mono (hb2 _ _).size)
          exact ⟨by rw [HF.out]; rfl, hB.trans (hq.mono hB.size)⟩
        · go_wp2_with (go_at_call 39; (with_reducible refine (K39 _ (hb2 _ _)).mono ?_); rintro e w1 ⟨rfl, hb1⟩)
          go_roundw
          case rel =>
            have hq := (hb2 _ _).trans (hb1.mono (hb2 _ _).size)
            exact ⟨j + 1, by go_num, by omega, fun i hi hi' h => by (by_cases e : i = j; (subst e; exact HX.out.1 (by trivial)); exact HZ.out i hi hi' (by omega)), hB.trans (hq.mono hB.size)⟩
          case measure => simp [intOf]; omega
      · have hjl' : ¬ (j : Int) < (ks.length : Int) := by omega
        have HF : Hid (r = true) := HR.out.2 (List.ext_getElem HL.out (fun i hi hi' => HZ.out i hi hi' (by omega)))
        go_wp2
        go_ret
        exact ⟨by rw [HF.out]; rfl, hB⟩
  · have bl : (((ks.length : Nat) : Int) != ((ks'.length : Nat) : Int)) = true := bne_iff_ne.2 (by omega)
    have HF : Hid (r = false) := by
      show r = false
      cases hrr : r
      · rfl
      · exact absurd (congrArg List.length (HR.out.1 hrr)) hl
    clear hl
    go_enter Try.func44, Try.ntmps44
    go_wp2
    go_ret
    exact ⟨by rw [HF.out]; rfl, Below.refl _ _⟩
set_option maxHeartbeats 4000000 in
theorem same_any : ∀ (d : Nat) (t : Ty) (a : Option Addr) (c : Nat) (d' : Nat) (u : Ty) (b : Option Addr) (e0 : Nat) (w : World) (r : Bool), (r = true ↔ t = u) → TyAt w d t a c → TyAt w d' u b e0 → Calls Try.prog 39 #[vty t a c, vty u b e0] w fun e w' => e = .returned (.bool r) ∧ Below w.heap.size w w' := by
  intro d
  induction d with
  | zero => intro t a c d' u b e0 w r _ h; exact h.elim
  | succ d ih =>
    intro t a c d' u b e0 w r hr h h'
    obtain ⟨d2, rfl⟩ := h'.pos
    obtain ⟨k, n, ks⟩ := t
    obtain ⟨k', n', ks'⟩ := u
    unfold vty
    dsimp only
    obtain ⟨W0, hW0⟩ : ∃ W0, (w.alloc (.cells #[.int .i64 k, .int .i64 n, .slice a ks.length c] 24)).alloc (.cells #[.int .i64 k', .int .i64 n', .slice b ks'.length e0] 24) = W0 := ⟨_, rfl⟩
    have hbx := two_boxes w (.cells #[.int .i64 k, .int .i64 n, .slice a ks.length c] 24) (.cells #[.int .i64 k', .int .i64 n', .slice b ks'.length e0] 24)
    rw [hW0] at hbx
    obtain ⟨hx1, hx2, hs0, hb0⟩ := hbx
    have K44 := fun r (hr : r = true ↔ ks = ks') => equal_any d d2 k n k' n' ks ks' a c b e0 W0 r hr (h.below hb0) (h'.below hb0) ih
    have HW0 : Hid ((w.alloc (.cells #[.int .i64 k, .int .i64 n, .slice a ks.length c] 24)).alloc (.cells #[.int .i64 k', .int .i64 n', .slice b ks'.length e0] 24) = W0) := hW0
    have HR : Hid (r = true ↔ (⟨k, n, ks⟩ : Ty) = ⟨k', n', ks'⟩) := hr
    clear h h' hr
    by_cases hk : k = k'
    · subst hk
      have bk : (k == k) = true := by simp
      by_cases hn : n = n'
      · subst hn
        have bn : (n == n) = true := by simp
        have K := K44 r (by rw [HR.out]; constructor; (intro e; exact congrArg Ty.kids e); (intro e; rw [e]))
        rw [← hW0] at K
        clear K44 hW0
        cases r
        · go_enter Try.func39, Try.ntmps39
          go_wp2_with (go_at_call 44; (with_reducible refine K.mono ?_); rintro e w1 ⟨rfl, hb1⟩; rw [HW0.out] at hb1)
          go_ret
          exact ⟨rfl, hb0.trans (hb1.mono hb0.size)⟩
        · go_enter Try.func39, Try.ntmps39
          go_wp2_with (go_at_call 44; (with_reducible refine K.mono ?_); rintro e w1 ⟨rfl, hb1⟩; rw [HW0.out] at hb1)
          go_ret
          exact ⟨rfl, hb0.trans (hb1.mono hb0.size)⟩
      · have bn : (n == n') = false := beq_eq_false_iff_ne.2 hn
        have HF : Hid (r = false) := same_false HR.out (fun e => hn (congrArg Ty.n e))
        clear hn K44 hW0
        go_enter Try.func39, Try.ntmps39
        go_wp2
        go_ret
        exact ⟨by rw [HF.out]; rfl, by rw [HW0.out]; exact hb0⟩
    · have bk : (k == k') = false := beq_eq_false_iff_ne.2 hk
      have HF : Hid (r = false) := same_false HR.out (fun e => hk (congrArg Ty.kind e))
      clear hk K44 hW0
      go_enter Try.func39, Try.ntmps39
      go_wp2
      go_ret
      exact ⟨by rw [HF.out]; rfl, by rw [HW0.out]; exact hb0⟩
end Go.Proofs.Ytofbnfpncekddaa.Te
