/- Are two types the same: SameType, isSame with slices.EqualFunc. No conditions. -/
import Derived.Test.YtofbnfpncekddaaTb
import Derived.Deep.QuietTactic
namespace Go.Proofs.Ytofbnfpncekddaa.Te
open Go.RowKit

/-- a world in which all that lay in w lies as it lay -/
structure After (w : World) where
  W : World
  h : Below w.heap.size w W
theorem wp_region_after {P : Program} {id : Nat} {Q : Exit → Act → World → Prop} {a : Act} {w : World} {l : List Oper} (hm : P.follows .mixedOrders = true) (hB : Region.lexB .any l.toArray = true)
    (h : wpQuiet P l.toArray (fun w' => ∃ p : After w, w' = p.W) (fun a' => ∀ w', (∃ p : After w, w' = p.W) → Q .normal a' w') l a) : (Code.region id l.toArray true).wp P Q a w :=
  wp_region_quiet (C := fun w' => ∃ p : After w, w' = p.W) hm hB ⟨⟨w.drew, (Below.refl _ _).drew⟩, rfl⟩ (by simpa using h)
theorem after_of {P : Program} {f : FuncId} {args : Array Value} {w : World} {p : After w} {v : Value}
    (h : Calls P f args p.W fun e w' => e = .returned v ∧ Below p.W.heap.size p.W w') : Calls P f args p.W fun e w'' => e = .returned v ∧ ∃ p' : After w, w'' = p'.W :=
  h.mono fun _ w' ⟨he, hb⟩ => ⟨he, ⟨w', p.h.trans (hb.mono p.h.size)⟩, rfl⟩
theorem fix_same (t u : Ty) : ∃ r : Bool, (r = true ↔ t = u) := by
  classical
  exact ⟨decide (t = u), by simp⟩
theorem same_false {r : Bool} {t u : Ty} (h : r = true ↔ t = u) (hn : t ≠ u) : r = false := by
  cases r
  · rfl
  · exact absurd (h.1 rfl) hn
theorem kids_eq {k n : Int} {ks ks' : List Ty} (hl : ks.length = ks'.length) (h : ∀ i (hi : i < ks.length) (hi' : i < ks'.length), ks[i] = ks'[i]) : (⟨k, n, ks⟩ : Ty) = ⟨k, n, ks'⟩ := by
  have : ks = ks' := List.ext_getElem hl h
  rw [this]
theorem two_boxes (w : World) (a b : Obj) : ((w.alloc a).alloc b).heap[w.heap.size]? = some a ∧ ((w.alloc a).alloc b).heap[w.heap.size + 1]? = some b ∧ ((w.alloc a).alloc b).heap.size = w.heap.size + 2 ∧ Below w.heap.size w ((w.alloc a).alloc b) := by
  have e : (w.alloc a).heap.size = w.heap.size + 1 := by simp
  refine ⟨?_, ?_, by simp, ((Below.refl _ w).alloc (Nat.le_refl _) a).alloc (by omega) b⟩
  · rw [((Below.refl _ (w.alloc a)).alloc (Nat.le_refl _) b).block _ (by omega)]
    exact heap_alloc_new w a
  · rw [← e]
    exact heap_alloc_new (w.alloc a) b
set_option maxHeartbeats 4000000 in
theorem same_doc : ∀ (d : Nat) (t : Ty) (a : Option Addr) (c : Nat) (d' : Nat) (u : Ty) (b : Option Addr) (e0 : Nat) (w : World) (r : Bool), (r = true ↔ t = u) → TyAt w d t a c → TyAt w d' u b e0 → Calls Try.prog 9 #[vty t a c, vty u b e0] w fun e w' => e = .returned (.bool r) ∧ Below w.heap.size w w' := by
  intro d
  induction d with
  | zero => intro t a c d' u b e0 w r _ h; exact h.elim
  | succ d ih =>
    intro t a c d' u b e0 w r hr h h'
    obtain ⟨d2, rfl⟩ := h'.pos
    have hf := h.few.1
    obtain ⟨k, n, ks⟩ := t
    obtain ⟨k', n', ks'⟩ := u
    unfold vty
    dsimp only at hf ⊢
    obtain ⟨W0, hW0⟩ : ∃ W0, (w.alloc (.cells #[.int .i64 k, .int .i64 n, .slice a ks.length c] 24)).alloc (.cells #[.int .i64 k', .int .i64 n', .slice b ks'.length e0] 24) = W0 := ⟨_, rfl⟩
    have hbx := two_boxes w (.cells #[.int .i64 k, .int .i64 n, .slice a ks.length c] 24) (.cells #[.int .i64 k', .int .i64 n', .slice b ks'.length e0] 24)
    rw [hW0] at hbx
    obtain ⟨hx1, hx2, hs0, hb0⟩ := hbx
    have HT : Hid (TyAt W0 (d + 1) ⟨k, n, ks⟩ a c) := h.below hb0
    have HU : Hid (TyAt W0 (d2 + 1) ⟨k', n', ks'⟩ b e0) := h'.below hb0
    have HW0 : Hid ((w.alloc (.cells #[.int .i64 k, .int .i64 n, .slice a ks.length c] 24)).alloc (.cells #[.int .i64 k', .int .i64 n', .slice b ks'.length e0] 24) = W0) := hW0
    have HR : Hid (r = true ↔ (⟨k, n, ks⟩ : Ty) = ⟨k', n', ks'⟩) := hr
    clear hW0 h h' hr
    by_cases hk : k = k'
    · subst hk
      have bk : (k != k) = false := by simp
      by_cases hn : n = n'
      · subst hn
        have bn : (n != n) = false := by simp
        by_cases hl : ks.length = ks'.length
        · have bl : (((ks.length : Nat) : Int) != ((ks'.length : Nat) : Int)) = false := by rw [hl]; simp
          have HL : Hid (ks.length = ks'.length) := hl
          clear hl
          go_enter Try.func9, Try.ntmps9
          go_wp2
          rw [HW0.out]
          go_loopw [5] (fun iv wr => ∃ j : Nat, iv = .int .i64 (j : Int) ∧ j ≤ ks.length ∧ (∀ i (hi : i < ks.length) (hi' : i < ks'.length), i < j → ks[i] = ks'[i]) ∧ Below W0.heap.size W0 wr) (fun iv _ => ks.length - (intOf iv).toNat)
          case atStart => exact ⟨0, rfl, by omega, fun i _ _ h => by omega, Below.refl _ _⟩
          case round =>
            obtain ⟨j, rfl, hj, hz, hB⟩ := hrel
            have HZ : Hid (∀ i (hi : i < ks.length) (hi' : i < ks'.length), i < j → ks[i] = ks'[i]) := hz
            have cB := (hB.cell (p := ⟨w.heap.size, 2, none⟩) (by show w.heap.size < W0.heap.size; omega)).trans (cell_of_row _ _ 2 _ 24 (0, 0) hx1)
            have hfin : Below w.heap.size w wr := hb0.trans (hB.mono hb0.size)
            clear hz
            by_cases hjl : j < ks.length
            · have hjl2 : j < ks'.length := by have := HL.out; omega
              have hjl' : (j : Int) < (ks.length : Int) := by omega
              have hjl3 : (j : Int) < (ks'.length : Int) := by omega
              obtain ⟨g1, off1, a1, c1, rfl, hg1, y0, y1, y2, ht⟩ := (HT.out.below hB).kid hjl
              obtain ⟨g2, off2, a2, c2, rfl, hg2, z0, z1, z2, hu⟩ := (HU.out.below hB).kid hjl2
              dsimp only at y0 y1 y2 z0 z1 z2 ht hu
              obtain ⟨x, hx⟩ := fix_same ks[j] ks'[j]
              have HX : Hid (x = true ↔ ks[j] = ks'[j]) := hx
              haveI : Inhabited (After wr) := ⟨⟨_, Below.refl _ _⟩⟩
              have K9 := fun p : After wr => ih ks[j] a1 c1 d2 ks'[j] a2 c2 p.W x HX.out (ht.below p.h) (hu.below p.h)
              unfold vty at K9
              have q0 := fun p : After wr => (p.h.cell (p := ⟨g1, _, none⟩) hg1).trans y0
              have q1 := fun p : After wr => (p.h.cell (p := ⟨g1, _, none⟩) hg1).trans y1
              have q2 := fun p : After wr => (p.h.cell (p := ⟨g1, _, none⟩) hg1).trans y2
              have q3 := fun p : After wr => (p.h.cell (p := ⟨g2, _, none⟩) hg2).trans z0
              have q4 := fun p : After wr => (p.h.cell (p := ⟨g2, _, none⟩) hg2).trans z1
              have q5 := fun p : After wr => (p.h.cell (p := ⟨g2, _, none⟩) hg2).trans z2
              have q6 := fun p : After wr => ((hB.trans (p.h.mono hB.size)).cell (p := ⟨w.heap.size, 2, none⟩) (by show w.heap.size < W0.heap.size; omega)).trans (cell_of_row _ _ 2 _ 24 (0, 0) hx1)
              have q7 := fun p : After wr => ((hB.trans (p.h.mono hB.size)).cell (p := ⟨w.heap.size + 1, 2, none⟩) (by show w.heap.size + 1 < W0.heap.size; omega)).trans (cell_of_row _ _ 2 _ 24 (0, 0) hx2)
              clear ht hu hx y0 y1 y2 z0 z1 z2
              go_wp2_with fail
              refine wp_region_after (by kernel_rfl) (by kernel_rfl) ?_
              repeat (go_big_quiet_step (first | (go_at_call 9; (with_reducible refine after_of (K9 _)))))
              refine wpQuiet_nil ?_
              intro W' hw'
              obtain ⟨⟨w1, hb1⟩, rfl⟩ := hw'
              clear q0 q1 q2 q3 q4 q5 q6 q7 K9
              cases x
              · have HF : Hid (r = false) := by
                  show r = false
                  refine same_false HR.out (fun e => ?_)
                  have e2 := congrArg Ty.kids e
                  dsimp only at e2
                  have : ks[j] = ks'[j] := by simp only [e2]
                  have := HX.out.2 this
                  cases this
                go_wp2
                go_ret
                exact ⟨by rw [HF.out]; rfl, hfin.trans (hb1.mono hfin.size)⟩
              · go_wp2
                go_roundw
                case rel => exact ⟨j + 1, by go_num, by omega, fun i hi hi' h => by (by_cases e : i = j; (subst e; exact HX.out.1 rfl); exact HZ.out i hi hi' (by omega)), hB.trans (hb1.mono hB.size)⟩
                case measure => simp [intOf]; omega
            · have hjl' : ¬ (j : Int) < (ks.length : Int) := by omega
              have HF : Hid (r = true) := HR.out.2 (kids_eq HL.out (fun i hi hi' => HZ.out i hi hi' (by omega)))
              go_wp2
              go_ret
              exact ⟨by rw [HF.out]; rfl, hfin⟩
        · have bl : (((ks.length : Nat) : Int) != ((ks'.length : Nat) : Int)) = true := bne_iff_ne.2 (by omega)
          have HF : Hid (r = false) := same_false HR.out (fun e => hl (congrArg (fun t : Ty => t.kids.length) e))
          clear hl
          go_enter Try.func9, Try.ntmps9
          go_wp2
          go_ret
          exact ⟨by rw [HF.out]; rfl, by rw [HW0.out]; exact hb0⟩
      · have bn : (n != n') = true := bne_iff_ne.2 hn
        have HF : Hid (r = false) := same_false HR.out (fun e => hn (congrArg Ty.n e))
        clear hn
        go_enter Try.func9, Try.ntmps9
        go_wp2
        go_ret
        exact ⟨by rw [HF.out]; rfl, by rw [HW0.out]; exact hb0⟩
    · have bk : (k != k') = true := bne_iff_ne.2 hk
      have HF : Hid (r = false) := same_false HR.out (fun e => hk (congrArg Ty.kind e))
      clear hk
      go_enter Try.func9, Try.ntmps9
      go_wp2
      go_ret
      exact ⟨by rw [HF.out]; rfl, by rw [HW0.out]; exact hb0⟩
end Go.Proofs.Ytofbnfpncekddaa.Te
