/- Terms as trees, how they lie in memory, and how many there are: TermSize, nest.Count of terms. Condition: the bound is at most 1000. -/
import Derived.Test.YtofbnfpncekddaaTb
namespace Go.Proofs.Ytofbnfpncekddaa.Te
open Go.RowKit

/-- a term -/
structure Tm where
  kind : Int
  n : Int
  ty : Ty
  kids : List Tm
theorem Tm.lt_kids {t x : Tm} (h : x ∈ t.kids) : SizeOf.sizeOf x < SizeOf.sizeOf t := by
  obtain ⟨k, n, y, ks⟩ := t
  have := List.sizeOf_lt_of_mem h
  simp at this ⊢
  omega
/-- how many terms stand in one another -/
def szm (t : Tm) : Nat := 1 + (t.kids.map szm).sum
termination_by SizeOf.sizeOf t
decreasing_by exact Tm.lt_kids ‹_›
def vtm (t : Tm) (b : Option Addr) (e : Nat) (a : Option Addr) (c : Nat) : Value := .agg #[.int .i64 t.kind, .int .i64 t.n, .int .i64 t.ty.kind, .int .i64 t.ty.n, .slice b t.ty.kids.length e, .slice a t.kids.length c]
/-- a term lies in memory: b, e: where its type's kids lie; a, c: where its kids lie -/
def TmAt (w : World) : Nat → Tm → Option Addr → Nat → Option Addr → Nat → Prop
  | 0, _, _, _, _, _ => False
  | d + 1, t, b, e, a, _ => i64B t.kind ∧ i64B t.n ∧ t.kids.length ≤ 140737488355328 ∧ (∃ d', TyAt w d' t.ty b e) ∧ (t.kids.length = 0 ∨ ∃ g off, a = some ⟨g, off, none⟩ ∧ g < w.heap.size ∧ ∀ j (h : j < t.kids.length), ∃ b' e' a' c', w.cell? ⟨g, off + j * 6, none⟩ = some (.int .i64 t.kids[j].kind) ∧ w.cell? ⟨g, off + j * 6 + 1, none⟩ = some (.int .i64 t.kids[j].n) ∧ w.cell? ⟨g, off + j * 6 + 2, none⟩ = some (.int .i64 t.kids[j].ty.kind) ∧ w.cell? ⟨g, off + j * 6 + 3, none⟩ = some (.int .i64 t.kids[j].ty.n) ∧ w.cell? ⟨g, off + j * 6 + 4, none⟩ = some (.slice b' t.kids[j].ty.kids.length e') ∧ w.cell? ⟨g, off + j * 6 + 5, none⟩ = some (.slice a' t.kids[j].kids.length c') ∧ TmAt w d t.kids[j] b' e' a' c')
theorem TmAt.below {w w' : World} (hb : Below w.heap.size w w') : ∀ {d : Nat} {t : Tm} {b : Option Addr} {e : Nat} {a : Option Addr} {c : Nat}, TmAt w d t b e a c → TmAt w' d t b e a c := by
  intro d
  induction d with
  | zero => intro t b e a c h; exact h.elim
  | succ d ih =>
    intro t b e a c h
    obtain ⟨h1, h2, h3, ⟨d', hy⟩, h⟩ := h
    refine ⟨h1, h2, h3, ⟨d', hy.below hb⟩, ?_⟩
    rcases h with h | ⟨g, off, ha, hg, h⟩
    · exact .inl h
    · refine .inr ⟨g, off, ha, Nat.lt_of_lt_of_le hg hb.size, fun j hj => ?_⟩
      obtain ⟨b', e', a', c', c0, c1, c2, c3, c4, c5, ht⟩ := h j hj
      exact ⟨b', e', a', c', (hb.cell (p := ⟨g, _, none⟩) hg).trans c0, (hb.cell (p := ⟨g, _, none⟩) hg).trans c1, (hb.cell (p := ⟨g, _, none⟩) hg).trans c2, (hb.cell (p := ⟨g, _, none⟩) hg).trans c3, (hb.cell (p := ⟨g, _, none⟩) hg).trans c4, (hb.cell (p := ⟨g, _, none⟩) hg).trans c5, ih ht⟩
theorem TmAt.kid {w : World} {d : Nat} {t : Tm} {b : Option Addr} {e : Nat} {a : Option Addr} {c : Nat} (h : TmAt w (d + 1) t b e a c) {j : Nat} (hj : j < t.kids.length) : ∃ g off b' e' a' c', a = some ⟨g, off, none⟩ ∧ g < w.heap.size ∧ w.cell? ⟨g, off + j * 6, none⟩ = some (.int .i64 t.kids[j].kind) ∧ w.cell? ⟨g, off + j * 6 + 1, none⟩ = some (.int .i64 t.kids[j].n) ∧ w.cell? ⟨g, off + j * 6 + 2, none⟩ = some (.int .i64 t.kids[j].ty.kind) ∧ w.cell? ⟨g, off + j * 6 + 3, none⟩ = some (.int .i64 t.kids[j].ty.n) ∧ w.cell? ⟨g, off + j * 6 + 4, none⟩ = some (.slice b' t.kids[j].ty.kids.length e') ∧ w.cell? ⟨g, off + j * 6 + 5, none⟩ = some (.slice a' t.kids[j].kids.length c') ∧ TmAt w d t.kids[j] b' e' a' c' := by
  obtain ⟨_, _, _, _, h | ⟨g, off, ha, hg, h⟩⟩ := h
  · omega
  · obtain ⟨b', e', a', c', h⟩ := h j hj
    exact ⟨g, off, b', e', a', c', ha, hg, h⟩
theorem TmAt.pos {w : World} {d : Nat} {t : Tm} {b : Option Addr} {e : Nat} {a : Option Addr} {c : Nat} (h : TmAt w d t b e a c) : ∃ x, d = x + 1 := by
  cases d with
  | zero => exact h.elim
  | succ x => exact ⟨x, rfl⟩
theorem TmAt.few {w : World} {d : Nat} {t : Tm} {b : Option Addr} {e : Nat} {a : Option Addr} {c : Nat} (h : TmAt w d t b e a c) : t.kids.length ≤ 140737488355328 ∧ i64B t.kind ∧ i64B t.n ∧ ∃ d', TyAt w d' t.ty b e := by
  obtain ⟨x, rfl⟩ := h.pos
  exact ⟨h.2.2.1, h.1, h.2.1, h.2.2.2.1⟩
/-- of the first j kids -/
def psm (t : Tm) (j : Nat) : Nat := 1 + ((t.kids.take j).map szm).sum
theorem psm_zero (t : Tm) : psm t 0 = 1 := by simp [psm]
theorem psm_succ {t : Tm} {j : Nat} (h : j < t.kids.length) : psm t (j + 1) = psm t j + szm t.kids[j] := by
  unfold psm
  rw [← List.take_append_getElem h, List.map_append, List.sum_append]
  simp
  omega
theorem psm_all (t : Tm) : psm t t.kids.length = szm t := by
  unfold psm
  rw [szm, List.take_length]
theorem psm_le (t : Tm) (j : Nat) : psm t j ≤ szm t := by
  rw [← psm_all]
  unfold psm
  have : t.kids.take t.kids.length = t.kids.take j ++ (t.kids.take t.kids.length).drop j := by
    rw [List.take_length]
    exact (List.take_append_drop j t.kids).symm
  rw [this, List.map_append, List.sum_append]
  omega
/-- the document's TermSize -/
theorem sizem_any : ∀ (d : Nat) (t : Tm) (b : Option Addr) (e0 : Nat) (a : Option Addr) (c : Nat) (w : World) (m : Nat), TmAt w d t b e0 a c → m ≤ 1000 → Calls Try.prog 21 #[vtm t b e0 a c, .int .i64 (m : Int)] w fun e w' => e = .returned (.int .i64 (cap (szm t) m : Nat)) ∧ Below w.heap.size w w' := by
  intro d
  induction d with
  | zero => intro t b e0 a c w m h; exact h.elim
  | succ d ih =>
    intro t b e0 a c w m h hm
    have hfew := h.few.1
    obtain ⟨k, n, y, ks⟩ := t
    unfold vtm
    dsimp only at hfew ⊢
    obtain ⟨W0, hW0⟩ : ∃ W0, w.alloc (.cells #[.int .i64 k, .int .i64 n, .int .i64 y.kind, .int .i64 y.n, .slice b y.kids.length e0, .slice a ks.length c] 27) = W0 := ⟨_, rfl⟩
    have hb0 : Below w.heap.size w W0 := hW0 ▸ (Below.refl w.heap.size w).alloc (Nat.le_refl _) _
    have hbx : W0.heap[w.heap.size]? = some (.cells #[.int .i64 k, .int .i64 n, .int .i64 y.kind, .int .i64 y.n, .slice b y.kids.length e0, .slice a ks.length c] 27 (0, 0)) := hW0 ▸ heap_alloc_new _ _
    have hsz : w.heap.size < W0.heap.size := hW0 ▸ (by simp)
    have HT : Hid (TmAt W0 (d + 1) ⟨k, n, y, ks⟩ b e0 a c) := h.below hb0
    have HW0 : Hid (w.alloc (.cells #[.int .i64 k, .int .i64 n, .int .i64 y.kind, .int .i64 y.n, .slice b y.kids.length e0, .slice a ks.length c] 27) = W0) := hW0
    obtain ⟨R, hR⟩ : ∃ R, cap (szm ⟨k, n, y, ks⟩) m = R := ⟨_, rfl⟩
    rw [hR]
    have HRR : Hid (cap (szm ⟨k, n, y, ks⟩) m = R) := hR
    clear hW0 h hR
    go_enter Try.func21, Try.ntmps21
    go_wp2
    rw [HW0.out]
    go_loopw [5, 6] (fun nv iv wr => ∃ j : Nat, iv = .int .i64 (j : Int) ∧ nv = .int .i64 (cap (psm ⟨k, n, y, ks⟩ j) m : Nat) ∧ j ≤ ks.length ∧ Below W0.heap.size W0 wr) (fun _ iv _ => ks.length - (intOf iv).toNat)
    case atStart => exact ⟨0, rfl, by rw [psm_zero, cap_one]; rfl, by omega, Below.refl _ _⟩
    case round =>
      obtain ⟨j, rfl, rfl, hj, hB⟩ := hrel
      have cB := (hB.cell (p := ⟨w.heap.size, 5, none⟩) hsz).trans (cell_of_row _ _ 5 _ 27 (0, 0) hbx)
      have hfin : Below w.heap.size w wr := hb0.trans (hB.mono hb0.size)
      have hle := psm_le ⟨k, n, y, ks⟩ j
      by_cases hjl : j < ks.length
      · have hjl' : (j : Int) < (ks.length : Int) := by omega
        by_cases hpm : psm ⟨k, n, y, ks⟩ j ≤ m
        · obtain ⟨g, off, b', e', a', c', rfl, hg, c0, c1, c2, c3, c4, c5, ht⟩ := (HT.out.below hB).kid hjl
          dsimp only at c0 c1 c2 c3 c4 c5 ht
          have HR : Hid (cap (psm ⟨k, n, y, ks⟩ (j + 1)) m = psm ⟨k, n, y, ks⟩ j + cap (szm ks[j]) (m - psm ⟨k, n, y, ks⟩ j)) := by
            show cap (psm ⟨k, n, y, ks⟩ (j + 1)) m = _
            rw [cap_step hpm, psm_succ (t := ⟨k, n, y, ks⟩) hjl]
          have hsc := cap_bound (szm ks[j]) (m - psm ⟨k, n, y, ks⟩ j)
          rw [cap_le hpm]
          have K21 := ih ks[j] b' e' a' c' wr (m - psm ⟨k, n, y, ks⟩ j) ht (by omega)
          unfold vtm at K21
          generalize psm ⟨k, n, y, ks⟩ j = p at *
          generalize cap (szm ks[j]) (m - p) = r at *
          have hpm' : (p : Int) ≤ (m : Int) := by omega
          have hw1 : IntKind.i64.wrap ((m : Int) - (p : Int)) = ((m - p : Nat) : Int) := by rw [wrap_id (by omega) (by omega)]; omega
          clear hle ht
          go_wp2_with (go_at_call 21; (with_reducible refine K21.mono ?_); rintro e w2 ⟨rfl, hb2⟩)
          go_roundw
          case rel => exact ⟨j + 1, by go_num, by rw [HR.out]; simp, by omega, hB.trans (hb2.mono hB.size)⟩
          case measure => simp [intOf]; omega
        · obtain ⟨e1, e2⟩ := cap_stop hpm hle
          rw [e1]
          rw [HRR.out] at e2
          have HE2 : Hid (R = m + 1) := e2
          have hpm' : ¬ ((m + 1 : Nat) : Int) ≤ (m : Int) := by omega
          have hpm2 : (m : Int) < ((m + 1 : Nat) : Int) := by omega
          have hw1 : IntKind.i64.wrap ((m : Int) + 1) = ((m + 1 : Nat) : Int) := by rw [wrap_id (by omega) (by omega)]; omega
          clear e1 e2 hle hpm
          go_wp2
          go_ret
          exact ⟨by rw [HE2.out]; simp, hfin⟩
      · have hjl' : ¬ (j : Int) < (ks.length : Int) := by omega
        have ej : j = ks.length := by omega
        have es : psm ⟨k, n, y, ks⟩ j = szm ⟨k, n, y, ks⟩ := by rw [ej]; exact psm_all ⟨k, n, y, ks⟩
        rw [es]
        by_cases hpm : szm ⟨k, n, y, ks⟩ ≤ m
        · have HE2 : Hid (R = szm ⟨k, n, y, ks⟩) := by (show R = _; rw [← HRR.out, cap_le hpm])
          rw [cap_le hpm]
          clear HRR
          generalize szm ⟨k, n, y, ks⟩ = p at *
          have hpm2 : ¬ (m : Int) < (p : Int) := by omega
          clear es ej hle
          go_wp2
          go_ret
          exact ⟨by rw [HE2.out]; rfl, hfin⟩
        · obtain ⟨e1, _⟩ := cap_stop hpm (Nat.le_refl _)
          rw [e1]
          have HE2 : Hid (R = m + 1) := by (show R = m + 1; rw [← HRR.out, e1])
          have hpm2 : (m : Int) < ((m + 1 : Nat) : Int) := by omega
          have hw1 : IntKind.i64.wrap ((m : Int) + 1) = ((m + 1 : Nat) : Int) := by rw [wrap_id (by omega) (by omega)]; omega
          clear es ej hle hpm e1
          go_wp2
          go_ret
          exact ⟨by rw [HE2.out]; simp, hfin⟩
/-- the kids of a term -/
theorem kidsm_any (t : Tm) (b : Option Addr) (e0 : Nat) (a : Option Addr) (c : Nat) (w : World) : Calls Try.prog 19 #[vtm t b e0 a c] w fun e w' => e = .returned (.slice a t.kids.length c) ∧ Below w.heap.size w w' := by
  obtain ⟨k, n, y, ks⟩ := t
  unfold vtm
  dsimp only
  go_enter Try.func19, Try.ntmps19
  go_wp2
  go_ret
  exact ⟨rfl, (Below.refl w.heap.size w).alloc (Nat.le_refl _) _⟩
/-- nest.Count of terms -/
theorem countm_any : ∀ (d : Nat) (t : Tm) (b : Option Addr) (e0 : Nat) (a : Option Addr) (c : Nat) (w : World) (m : Nat), TmAt w d t b e0 a c → m ≤ 1000 → Calls Try.prog 34 #[vtm t b e0 a c, .func (.func 19) #[] #[], .int .i64 (m : Int)] w fun e w' => e = .returned (.int .i64 (cap (szm t) m : Nat)) ∧ Below w.heap.size w w' := by
  intro d
  induction d with
  | zero => intro t b e0 a c w m h; exact h.elim
  | succ d ih =>
    intro t b e0 a c w m h hm
    have hfew := h.few.1
    have K19 := kidsm_any t b e0 a c
    obtain ⟨k, n, y, ks⟩ := t
    unfold vtm at K19
    unfold vtm
    dsimp only at hfew K19 ⊢
    obtain ⟨W0, hW0⟩ : ∃ W0, w.alloc (.cells #[.int .i64 k, .int .i64 n, .int .i64 y.kind, .int .i64 y.n, .slice b y.kids.length e0, .slice a ks.length c] 27) = W0 := ⟨_, rfl⟩
    have hb0 : Below w.heap.size w W0 := hW0 ▸ (Below.refl w.heap.size w).alloc (Nat.le_refl _) _
    have hbx : W0.heap[w.heap.size]? = some (.cells #[.int .i64 k, .int .i64 n, .int .i64 y.kind, .int .i64 y.n, .slice b y.kids.length e0, .slice a ks.length c] 27 (0, 0)) := hW0 ▸ heap_alloc_new _ _
    have HT : Hid (TmAt W0 (d + 1) ⟨k, n, y, ks⟩ b e0 a c) := h.below hb0
    have HW0 : Hid (w.alloc (.cells #[.int .i64 k, .int .i64 n, .int .i64 y.kind, .int .i64 y.n, .slice b y.kids.length e0, .slice a ks.length c] 27) = W0) := hW0
    obtain ⟨R, hR⟩ : ∃ R, cap (szm ⟨k, n, y, ks⟩) m = R := ⟨_, rfl⟩
    rw [hR]
    have HRR : Hid (cap (szm ⟨k, n, y, ks⟩) m = R) := hR
    clear hW0 h hR hbx
    go_enter Try.func34, Try.ntmps34
    go_wp2_with (go_at_call 19; (with_reducible refine (K19 _).mono ?_); rintro e w1 ⟨rfl, hb1⟩)
    rw [HW0.out] at hb1
    clear K19 HW0
    go_loopw [7, 9, 14] (fun nv _ iv wr => ∃ j : Nat, iv = .int .i64 (j : Int) ∧ nv = .int .i64 (cap (psm ⟨k, n, y, ks⟩ j) m : Nat) ∧ j ≤ ks.length ∧ Below W0.heap.size W0 wr) (fun _ _ iv _ => ks.length - (intOf iv).toNat)
    case atStart => exact ⟨0, rfl, by rw [psm_zero, cap_one]; rfl, by omega, hb1⟩
    case round =>
      clear hb1
      obtain ⟨j, rfl, rfl, hj, hB⟩ := hrel
      have hfin : Below w.heap.size w wr := hb0.trans (hB.mono hb0.size)
      have hle := psm_le ⟨k, n, y, ks⟩ j
      by_cases hjl : j < ks.length
      · have hjl' : (j : Int) < (ks.length : Int) := by omega
        obtain ⟨g, off, b', e', a', c', rfl, hg, c0, c1, c2, c3, c4, c5, ht⟩ := (HT.out.below hB).kid hjl
        dsimp only at c0 c1 c2 c3 c4 c5 ht
        by_cases hpm : psm ⟨k, n, y, ks⟩ j ≤ m
        · have HR : Hid (cap (psm ⟨k, n, y, ks⟩ (j + 1)) m = psm ⟨k, n, y, ks⟩ j + cap (szm ks[j]) (m - psm ⟨k, n, y, ks⟩ j)) := by
            show cap (psm ⟨k, n, y, ks⟩ (j + 1)) m = _
            rw [cap_step hpm, psm_succ (t := ⟨k, n, y, ks⟩) hjl]
          have hsc := cap_bound (szm ks[j]) (m - psm ⟨k, n, y, ks⟩ j)
          rw [cap_le hpm]
          have K34 := fun W' (hW : Below wr.heap.size wr W') => ih ks[j] b' e' a' c' W' (m - psm ⟨k, n, y, ks⟩ j) (ht.below hW) (by omega)
          unfold vtm at K34
          generalize psm ⟨k, n, y, ks⟩ j = p at *
          generalize cap (szm ks[j]) (m - p) = r at *
          have hpm' : ¬ (m : Int) < (p : Int) := by omega
          have hw1 : IntKind.i64.wrap ((m : Int) - (p : Int)) = ((m - p : Nat) : Int) := by rw [wrap_id (by omega) (by omega)]; omega
          have hbA : ∀ o, Below wr.heap.size wr (wr.alloc o) := fun o => (Below.refl _ wr).alloc (Nat.le_refl _) o
          clear hle ht
          go_wp2_with (go_at_call 34; (with_reducible refine (K34 _ (hbA _)).mono ?_); rintro e w2 ⟨rfl, hb2⟩)
          go_roundw
          case rel => exact ⟨j + 1, by go_num, by rw [HR.out]; simp, by omega, hB.trans (((hbA _).trans (hb2.mono (hbA _).size)).mono hB.size)⟩
          case measure => simp [intOf]; omega
        · obtain ⟨e1, e2⟩ := cap_stop hpm hle
          rw [e1]
          rw [HRR.out] at e2
          have HE2 : Hid (R = m + 1) := e2
          have hpm2 : (m : Int) < ((m + 1 : Nat) : Int) := by omega
          have hfin2 : ∀ o, Below w.heap.size w (wr.alloc o) := fun o => hfin.alloc hfin.size o
          clear e1 e2 hle hpm ht
          go_wp2
          go_ret
          exact ⟨by rw [HE2.out]; rfl, hfin2 _⟩
      · have hjl' : ¬ (j : Int) < (ks.length : Int) := by omega
        have ej : j = ks.length := by omega
        have es : psm ⟨k, n, y, ks⟩ j = szm ⟨k, n, y, ks⟩ := by rw [ej]; exact psm_all ⟨k, n, y, ks⟩
        rw [es, HRR.out]
        clear es ej hle
        go_wp2
        go_ret
        exact ⟨rfl, hfin⟩
end Go.Proofs.Ytofbnfpncekddaa.Te
