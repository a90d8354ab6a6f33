/- Types as trees, how they lie in memory, and how many there are: TypeSize, nest.Count of types. Condition: the bound is at most 1000. -/
import Derived.Test.YtofbnfpncekddaaProg
import Derived.WalkKit
import Derived.WalkSpells
import Derived.WalkLawsBesides
import Derived.BigCall
import Derived.BigQuiet
namespace Go.Proofs.Ytofbnfpncekddaa.Te
open Go.RowKit

/-- a type -/
structure Ty where
  kind : Int
  n : Int
  kids : List Ty
theorem Ty.lt_kids {t x : Ty} (h : x ∈ t.kids) : SizeOf.sizeOf x < SizeOf.sizeOf t := by
  obtain ⟨k, n, ks⟩ := t
  have := List.sizeOf_lt_of_mem h
  simp at this ⊢
  omega
/-- how many types stand in one another -/
def sz (t : Ty) : Nat := 1 + (t.kids.map sz).sum
termination_by SizeOf.sizeOf t
decreasing_by exact Ty.lt_kids ‹_›
def i64B (x : Int) : Prop := -9223372036854775808 ≤ x ∧ x ≤ 9223372036854775807
def vty (t : Ty) (a : Option Addr) (c : Nat) : Value := .agg #[.int .i64 t.kind, .int .i64 t.n, .slice a t.kids.length c]
/-- a type lies in memory: a, c: where its kids lie -/
def TyAt (w : World) : Nat → Ty → Option Addr → Nat → Prop
  | 0, _, _, _ => False
  | d + 1, t, a, _ => i64B t.kind ∧ i64B t.n ∧ t.kids.length ≤ 140737488355328 ∧ (t.kids.length = 0 ∨ ∃ g off, a = some ⟨g, off, none⟩ ∧ g < w.heap.size ∧ ∀ j (h : j < t.kids.length), ∃ a' c', w.cell? ⟨g, off + j * 3, none⟩ = some (.int .i64 t.kids[j].kind) ∧ w.cell? ⟨g, off + j * 3 + 1, none⟩ = some (.int .i64 t.kids[j].n) ∧ w.cell? ⟨g, off + j * 3 + 2, none⟩ = some (.slice a' t.kids[j].kids.length c') ∧ TyAt w d t.kids[j] a' c')
theorem TyAt.below {w w' : World} (hb : Below w.heap.size w w') : ∀ {d : Nat} {t : Ty} {a : Option Addr} {c : Nat}, TyAt w d t a c → TyAt w' d t a c := by
  intro d
  induction d with
  | zero => intro t a c h; exact h.elim
  | succ d ih =>
    intro t a c h
    obtain ⟨h1, h2, h3, h⟩ := h
    refine ⟨h1, h2, h3, ?_⟩
    rcases h with h | ⟨g, off, ha, hg, h⟩
    · exact .inl h
    · refine .inr ⟨g, off, ha, Nat.lt_of_lt_of_le hg hb.size, fun j hj => ?_⟩
      obtain ⟨a', c', c0, c1, c2, ht⟩ := h j hj
      exact ⟨a', c', (hb.cell (p := ⟨g, _, none⟩) hg).trans c0, (hb.cell (p := ⟨g, _, none⟩) hg).trans c1, (hb.cell (p := ⟨g, _, none⟩) hg).trans c2, ih ht⟩
theorem TyAt.kid {w : World} {d : Nat} {t : Ty} {a : Option Addr} {c : Nat} (h : TyAt w (d + 1) t a c) {j : Nat} (hj : j < t.kids.length) : ∃ g off a' c', a = some ⟨g, off, none⟩ ∧ g < w.heap.size ∧ w.cell? ⟨g, off + j * 3, none⟩ = some (.int .i64 t.kids[j].kind) ∧ w.cell? ⟨g, off + j * 3 + 1, none⟩ = some (.int .i64 t.kids[j].n) ∧ w.cell? ⟨g, off + j * 3 + 2, none⟩ = some (.slice a' t.kids[j].kids.length c') ∧ TyAt w d t.kids[j] a' c' := by
  obtain ⟨_, _, _, h | ⟨g, off, ha, hg, h⟩⟩ := h
  · omega
  · obtain ⟨a', c', h⟩ := h j hj
    exact ⟨g, off, a', c', ha, hg, h⟩
theorem TyAt.pos {w : World} {d : Nat} {t : Ty} {a : Option Addr} {c : Nat} (h : TyAt w d t a c) : ∃ e, d = e + 1 := by
  cases d with
  | zero => exact h.elim
  | succ e => exact ⟨e, rfl⟩
theorem TyAt.few {w : World} {d : Nat} {t : Ty} {a : Option Addr} {c : Nat} (h : TyAt w d t a c) : t.kids.length ≤ 140737488355328 ∧ i64B t.kind ∧ i64B t.n := by
  obtain ⟨e, rfl⟩ := h.pos
  exact ⟨h.2.2.1, h.1, h.2.1⟩
/-- of the first j kids -/
def ps (t : Ty) (j : Nat) : Nat := 1 + ((t.kids.take j).map sz).sum
theorem ps_zero (t : Ty) : ps t 0 = 1 := by simp [ps]
theorem ps_succ {t : Ty} {j : Nat} (h : j < t.kids.length) : ps t (j + 1) = ps t j + sz t.kids[j] := by
  unfold ps
  rw [← List.take_append_getElem h, List.map_append, List.sum_append]
  simp
  omega
theorem ps_all (t : Ty) : ps t t.kids.length = sz t := by
  unfold ps
  rw [sz, List.take_length]
theorem ps_le (t : Ty) (j : Nat) : ps t j ≤ sz t := by
  rw [← ps_all]
  unfold ps
  have : t.kids.take t.kids.length = t.kids.take j ++ (t.kids.take t.kids.length).drop j := by
    rw [List.take_length]
    exact (List.take_append_drop j t.kids).symm
  rw [this, List.map_append, List.sum_append]
  omega
def cap (n m : Nat) : Nat := if n ≤ m then n else m + 1
theorem cap_step {p s m : Nat} (h : p ≤ m) : p + cap s (m - p) = cap (p + s) m := by
  unfold cap
  split <;> split <;> omega
theorem cap_stop {p s m : Nat} (h : ¬ p ≤ m) (h' : p ≤ s) : cap p m = m + 1 ∧ cap s m = m + 1 := by
  unfold cap
  rw [if_neg h, if_neg (by omega)]
  exact ⟨rfl, rfl⟩
theorem cap_one (m : Nat) : cap 1 m = 1 := by unfold cap; split <;> omega
theorem cap_bound (s m : Nat) : cap s m ≤ m + 1 := by unfold cap; split <;> omega
theorem cap_le {p m : Nat} (h : p ≤ m) : cap p m = p := by unfold cap; rw [if_pos h]
theorem wrap_id {x : Int} (h1 : -9223372036854775808 ≤ x) (h2 : x ≤ 9223372036854775807) : IntKind.i64.wrap x = x := by
  rw [IntKind.wrap_i64]
  omega
/-- the document's TypeSize -/
theorem size_any : ∀ (d : Nat) (t : Ty) (a : Option Addr) (c : Nat) (w : World) (m : Nat), TyAt w d t a c → m ≤ 1000 → Calls Try.prog 26 #[vty t a c, .int .i64 (m : Int)] w fun e w' => e = .returned (.int .i64 (cap (sz t) m : Nat)) ∧ Below w.heap.size w w' := by
  intro d
  induction d with
  | zero => intro t a c w m h; exact h.elim
  | succ d ih =>
    intro t a c w m h hm
    have hfew := h.few.1
    obtain ⟨k, n, ks⟩ := t
    unfold vty
    dsimp only at hfew ⊢
    obtain ⟨W0, hW0⟩ : ∃ W0, w.alloc (.cells #[.int .i64 k, .int .i64 n, .slice a ks.length c] 24) = W0 := ⟨_, rfl⟩
    have hb0 : Below w.heap.size w W0 := hW0 ▸ (Below.refl w.heap.size w).alloc (Nat.le_refl _) _
    have hbx : W0.heap[w.heap.size]? = some (.cells #[.int .i64 k, .int .i64 n, .slice a ks.length c] 24 (0, 0)) := hW0 ▸ heap_alloc_new _ _
    have hsz : w.heap.size < W0.heap.size := hW0 ▸ (by simp)
    have HT : Hid (TyAt W0 (d + 1) ⟨k, n, ks⟩ a c) := h.below hb0
    have HW0 : Hid (w.alloc (.cells #[.int .i64 k, .int .i64 n, .slice a ks.length c] 24) = W0) := hW0
    obtain ⟨R, hR⟩ : ∃ R, cap (sz ⟨k, n, ks⟩) m = R := ⟨_, rfl⟩
    rw [hR]
    have HRR : Hid (cap (sz ⟨k, n, ks⟩) m = R) := hR
    clear hW0 h hR
    go_enter Try.func26, Try.ntmps26
    go_wp2
    rw [HW0.out]
    go_loopw [5, 6] (fun nv iv wr => ∃ j : Nat, iv = .int .i64 (j : Int) ∧ nv = .int .i64 (cap (ps ⟨k, n, ks⟩ j) m : Nat) ∧ j ≤ ks.length ∧ Below W0.heap.size W0 wr) (fun _ iv _ => ks.length - (intOf iv).toNat)
    case atStart => exact ⟨0, rfl, by rw [ps_zero, cap_one]; rfl, by omega, Below.refl _ _⟩
    case round =>
      obtain ⟨j, rfl, rfl, hj, hB⟩ := hrel
      have cB := (hB.cell (p := ⟨w.heap.size, 2, none⟩) hsz).trans (cell_of_row _ _ 2 _ 24 (0, 0) hbx)
      have hfin : Below w.heap.size w wr := hb0.trans (hB.mono hb0.size)
      have hle := ps_le ⟨k, n, ks⟩ j
      by_cases hjl : j < ks.length
      · have hjl' : (j : Int) < (ks.length : Int) := by omega
        by_cases hpm : ps ⟨k, n, ks⟩ j ≤ m
        · obtain ⟨g, off, a', c', rfl, hg, c0, c1, c2, ht⟩ := (HT.out.below hB).kid hjl
          dsimp only at c0 c1 c2 ht
          have HR : Hid (cap (ps ⟨k, n, ks⟩ (j + 1)) m = ps ⟨k, n, ks⟩ j + cap (sz ks[j]) (m - ps ⟨k, n, ks⟩ j)) := by
            show cap (ps ⟨k, n, ks⟩ (j + 1)) m = _
            rw [cap_step hpm, ps_succ (t := ⟨k, n, ks⟩) hjl]
          have hsc := cap_bound (sz ks[j]) (m - ps ⟨k, n, ks⟩ j)
          rw [cap_le hpm]
          have K26 := ih ks[j] a' c' wr (m - ps ⟨k, n, ks⟩ j) ht (by omega)
          unfold vty at K26
          generalize ps ⟨k, n, ks⟩ j = p at *
          generalize cap (sz ks[j]) (m - p) = r at *
          have hpm' : (p : Int) ≤ (m : Int) := by omega
          have hw1 : IntKind.i64.wrap ((m : Int) - (p : Int)) = ((m - p : Nat) : Int) := by rw [wrap_id (by omega) (by omega)]; omega
          clear hle ht
          go_wp2_with (go_at_call 26; (with_reducible refine K26.mono ?_); rintro e w2 ⟨rfl, hb2⟩)
          go_roundw
          case rel => exact ⟨j + 1, by go_num, by rw [HR.out]; simp, by omega, hB.trans (hb2.mono hB.size)⟩
          case measure => simp [intOf]; omega
        · obtain ⟨e1, e2⟩ := cap_stop hpm hle
          rw [e1]
          rw [HRR.out] at e2
          have HE2 : Hid (R = m + 1) := e2
          have hpm' : ¬ ((m + 1 : Nat) : Int) ≤ (m : Int) := by omega
          have hpm2 : (m : Int) < ((m + 1 : Nat) : Int) := by omega
          have hw1 : IntKind.i64.wrap ((m : Int) + 1) = ((m + 1 : Nat) : Int) := by rw [wrap_id (by omega) (by omega)]; omega
          clear e1 e2 hle hpm
          go_wp2
          go_ret
          exact ⟨by rw [HE2.out]; simp, hfin⟩
      · have hjl' : ¬ (j : Int) < (ks.length : Int) := by omega
        have ej : j = ks.length := by omega
        have es : ps ⟨k, n, ks⟩ j = sz ⟨k, n, ks⟩ := by rw [ej]; exact ps_all ⟨k, n, ks⟩
        rw [es]
        by_cases hpm : sz ⟨k, n, ks⟩ ≤ m
        · have HE2 : Hid (R = sz ⟨k, n, ks⟩) := by (show R = _; rw [← HRR.out, cap_le hpm])
          rw [cap_le hpm]
          clear HRR
          generalize sz ⟨k, n, ks⟩ = p at *
          have hpm2 : ¬ (m : Int) < (p : Int) := by omega
          clear es ej hle
          go_wp2
          go_ret
          exact ⟨by rw [HE2.out]; rfl, hfin⟩
        · obtain ⟨e1, _⟩ := cap_stop hpm (Nat.le_refl _)
          rw [e1]
          have HE2 : Hid (R = m + 1) := by (show R = m + 1; rw [← HRR.out, e1])
          have hpm2 : (m : Int) < ((m + 1 : Nat) : Int) := by omega
          have hw1 : IntKind.i64.wrap ((m : Int) + 1) = ((m + 1 : Nat) : Int) := by rw [wrap_id (by omega) (by omega)]; omega
          clear es ej hle hpm e1
          go_wp2
          go_ret
          exact ⟨by rw [HE2.out]; simp, hfin⟩
/-- the kids of a type -/
theorem kids_any (t : Ty) (a : Option Addr) (c : Nat) (w : World) : Calls Try.prog 24 #[vty t a c] w fun e w' => e = .returned (.slice a t.kids.length c) ∧ Below w.heap.size w w' := by
  obtain ⟨k, n, ks⟩ := t
  unfold vty
  dsimp only
  go_enter Try.func24, Try.ntmps24
  go_wp2
  go_ret
  exact ⟨rfl, (Below.refl w.heap.size w).alloc (Nat.le_refl _) _⟩
/-- nest.Count of types -/
theorem count_any : ∀ (d : Nat) (t : Ty) (a : Option Addr) (c : Nat) (w : World) (m : Nat), TyAt w d t a c → m ≤ 1000 → Calls Try.prog 37 #[vty t a c, .func (.func 24) #[] #[], .int .i64 (m : Int)] w fun e w' => e = .returned (.int .i64 (cap (sz t) m : Nat)) ∧ Below w.heap.size w w' := by
  intro d
  induction d with
  | zero => intro t a c w m h; exact h.elim
  | succ d ih =>
    intro t a c w m h hm
    have hfew := h.few.1
    have K24 := kids_any t a c
    obtain ⟨k, n, ks⟩ := t
    unfold vty at K24
    unfold vty
    dsimp only at hfew K24 ⊢
    obtain ⟨W0, hW0⟩ : ∃ W0, w.alloc (.cells #[.int .i64 k, .int .i64 n, .slice a ks.length c] 24) = W0 := ⟨_, rfl⟩
    have hb0 : Below w.heap.size w W0 := hW0 ▸ (Below.refl w.heap.size w).alloc (Nat.le_refl _) _
    have hbx : W0.heap[w.heap.size]? = some (.cells #[.int .i64 k, .int .i64 n, .slice a ks.length c] 24 (0, 0)) := hW0 ▸ heap_alloc_new _ _
    have HT : Hid (TyAt W0 (d + 1) ⟨k, n, ks⟩ a c) := h.below hb0
    have HW0 : Hid (w.alloc (.cells #[.int .i64 k, .int .i64 n, .slice a ks.length c] 24) = W0) := hW0
    obtain ⟨R, hR⟩ : ∃ R, cap (sz ⟨k, n, ks⟩) m = R := ⟨_, rfl⟩
    rw [hR]
    have HRR : Hid (cap (sz ⟨k, n, ks⟩) m = R) := hR
    clear hW0 h hR hbx
    go_enter Try.func37, Try.ntmps37
    go_wp2_with (go_at_call 24; (with_reducible refine (K24 _).mono ?_); rintro e w1 ⟨rfl, hb1⟩)
    rw [HW0.out] at hb1
    clear K24 HW0
    go_loopw [7, 9, 14] (fun nv _ iv wr => ∃ j : Nat, iv = .int .i64 (j : Int) ∧ nv = .int .i64 (cap (ps ⟨k, n, ks⟩ j) m : Nat) ∧ j ≤ ks.length ∧ Below W0.heap.size W0 wr) (fun _ _ iv _ => ks.length - (intOf iv).toNat)
    case atStart => exact ⟨0, rfl, by rw [ps_zero, cap_one]; rfl, by omega, hb1⟩
    case round =>
      clear hb1
      obtain ⟨j, rfl, rfl, hj, hB⟩ := hrel
      have hfin : Below w.heap.size w wr := hb0.trans (hB.mono hb0.size)
      have hle := ps_le ⟨k, n, ks⟩ j
      by_cases hjl : j < ks.length
      · have hjl' : (j : Int) < (ks.length : Int) := by omega
        obtain ⟨g, off, a', c', rfl, hg, c0, c1, c2, ht⟩ := (HT.out.below hB).kid hjl
        dsimp only at c0 c1 c2 ht
        by_cases hpm : ps ⟨k, n, ks⟩ j ≤ m
        · have HR : Hid (cap (ps ⟨k, n, ks⟩ (j + 1)) m = ps ⟨k, n, ks⟩ j + cap (sz ks[j]) (m - ps ⟨k, n, ks⟩ j)) := by
            show cap (ps ⟨k, n, ks⟩ (j + 1)) m = _
            rw [cap_step hpm, ps_succ (t := ⟨k, n, ks⟩) hjl]
          have hsc := cap_bound (sz ks[j]) (m - ps ⟨k, n, ks⟩ j)
          rw [cap_le hpm]
          have K37 := fun W' (hW : Below wr.heap.size wr W') => ih ks[j] a' c' W' (m - ps ⟨k, n, ks⟩ j) (ht.below hW) (by omega)
          unfold vty at K37
          generalize ps ⟨k, n, ks⟩ j = p at *
          generalize cap (sz ks[j]) (m - p) = r at *
          have hpm' : ¬ (m : Int) < (p : Int) := by omega
          have hw1 : IntKind.i64.wrap ((m : Int) - (p : Int)) = ((m - p : Nat) : Int) := by rw [wrap_id (by omega) (by omega)]; omega
          have hbA : ∀ o, Below wr.heap.size wr (wr.alloc o) := fun o => (Below.refl _ wr).alloc (Nat.le_refl _) o
          clear hle ht
          go_wp2_with (go_at_call 37; (with_reducible refine (K37 _ (hbA _)).mono ?_); rintro e w2 ⟨rfl, hb2⟩)
          go_roundw
          case rel => exact ⟨j + 1, by go_num, by rw [HR.out]; simp, by omega, hB.trans (((hbA _).trans (hb2.mono (hbA _).size)).mono hB.size)⟩
          case measure => simp [intOf]; omega
        · obtain ⟨e1, e2⟩ := cap_stop hpm hle
          rw [e1]
          rw [HRR.out] at e2
          have HE2 : Hid (R = m + 1) := e2
          have hpm2 : (m : Int) < ((m + 1 : Nat) : Int) := by omega
          have hfin2 : ∀ o, Below w.heap.size w (wr.alloc o) := fun o => hfin.alloc hfin.size o
          clear e1 e2 hle hpm ht
          go_wp2
          go_ret
          exact ⟨by rw [HE2.out]; rfl, hfin2 _⟩
      · have hjl' : ¬ (j : Int) < (ks.length : Int) := by omega
        have ej : j = ks.length := by omega
        have es : ps ⟨k, n, ks⟩ j = sz ⟨k, n, ks⟩ := by rw [ej]; exact ps_all ⟨k, n, ks⟩
        rw [es, HRR.out]
        clear es ej hle
        go_wp2
        go_ret
        exact ⟨rfl, hfin⟩
end Go.Proofs.Ytofbnfpncekddaa.Te
