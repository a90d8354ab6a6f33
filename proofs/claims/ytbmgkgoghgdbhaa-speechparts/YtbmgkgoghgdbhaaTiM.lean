/- Types as trees, how they lie in memory, and how many there are: TypeSize, nest.Count of types. Condition: the bound is at most 1000. -/
import Derived.Test.YtbmgkgoghgdbhaaProg
import Derived.WalkKit
import Derived.WalkSpells
import Derived.WalkLawsBesides
import Derived.BigCall
import Derived.BigQuiet
import Derived.Deep.QuietTactic
namespace Go.Proofs.Ytbmgkgoghgdbhaa.Te
open Go.RowKit

/-- a type -/
structure Ty where
  kind : Int
  n : Int
  kids : List Ty
theorem Ty.lt_kids {t x : Ty} (h : x ∈ t.kids) : SizeOf.sizeOf x < SizeOf.sizeOf t := by
  obtain ⟨k, n, ks⟩ := t
  have := List.sizeOf_lt_of_mem h
  simp at this ⊢
  omega
/-- how many types stand in one another -/
def sz (t : Ty) : Nat := 1 + (t.kids.map sz).sum
termination_by SizeOf.sizeOf t
decreasing_by exact Ty.lt_kids ‹_›
def i64B (x : Int) : Prop := -9223372036854775808 ≤ x ∧ x ≤ 9223372036854775807
def vty (t : Ty) (a : Option Addr) (c : Nat) : Value := .agg #[.int .i64 t.kind, .int .i64 t.n, .slice a t.kids.length c]
/-- a type lies in memory: a, c: where its kids lie -/
def TyAt (w : World) : Nat → Ty → Option Addr → Nat → Prop
  | 0, _, _, _ => False
  | d + 1, t, a, _ => i64B t.kind ∧ i64B t.n ∧ t.kids.length ≤ 140737488355328 ∧ (t.kids.length = 0 ∨ ∃ g off, a = some ⟨g, off, none⟩ ∧ g < w.heap.size ∧ ∀ j (h : j < t.kids.length), ∃ a' c', w.cell? ⟨g, off + j * 3, none⟩ = some (.int .i64 t.kids[j].kind) ∧ w.cell? ⟨g, off + j * 3 + 1, none⟩ = some (.int .i64 t.kids[j].n) ∧ w.cell? ⟨g, off + j * 3 + 2, none⟩ = some (.slice a' t.kids[j].kids.length c') ∧ TyAt w d t.kids[j] a' c')
theorem TyAt.below {w w' : World} (hb : Below w.heap.size w w') : ∀ {d : Nat} {t : Ty} {a : Option Addr} {c : Nat}, TyAt w d t a c → TyAt w' d t a c := by
  intro d
  induction d with
  | zero => intro t a c h; exact h.elim
  | succ d ih =>
    intro t a c h
    obtain ⟨h1, h2, h3, h⟩ := h
    refine ⟨h1, h2, h3, ?_⟩
    rcases h with h | ⟨g, off, ha, hg, h⟩
    · exact .inl h
    · refine .inr ⟨g, off, ha, Nat.lt_of_lt_of_le hg hb.size, fun j hj => ?_⟩
      obtain ⟨a', c', c0, c1, c2, ht⟩ := h j hj
      exact ⟨a', c', (hb.cell (p := ⟨g, _, none⟩) hg).trans c0, (hb.cell (p := ⟨g, _, none⟩) hg).trans c1, (hb.cell (p := ⟨g, _, none⟩) hg).trans c2, ih ht⟩
theorem TyAt.kid {w : World} {d : Nat} {t : Ty} {a : Option Addr} {c : Nat} (h : TyAt w (d + 1) t a c) {j : Nat} (hj : j < t.kids.length) : ∃ g off a' c', a = some ⟨g, off, none⟩ ∧ g < w.heap.size ∧ w.cell? ⟨g, off + j * 3, none⟩ = some (.int .i64 t.kids[j].kind) ∧ w.cell? ⟨g, off + j * 3 + 1, none⟩ = some (.int .i64 t.kids[j].n) ∧ w.cell? ⟨g, off + j * 3 + 2, none⟩ = some (.slice a' t.kids[j].kids.length c') ∧ TyAt w d t.kids[j] a' c' := by
  obtain ⟨_, _, _, h | ⟨g, off, ha, hg, h⟩⟩ := h
  · omega
  · obtain ⟨a', c', h⟩ := h j hj
    exact ⟨g, off, a', c', ha, hg, h⟩
theorem TyAt.pos {w : World} {d : Nat} {t : Ty} {a : Option Addr} {c : Nat} (h : TyAt w d t a c) : ∃ e, d = e + 1 := by
  cases d with
  | zero => exact h.elim
  | succ e => exact ⟨e, rfl⟩
theorem TyAt.few {w : World} {d : Nat} {t : Ty} {a : Option Addr} {c : Nat} (h : TyAt w d t a c) : t.kids.length ≤ 140737488355328 ∧ i64B t.kind ∧ i64B t.n := by
  obtain ⟨e, rfl⟩ := h.pos
  exact ⟨h.2.2.1, h.1, h.2.1⟩
/-- of the first j kids -/
def ps (t : Ty) (j : Nat) : Nat := 1 + ((t.kids.take j).map sz).sum
theorem ps_zero (t : Ty) : ps t 0 = 1 := by simp [ps]
theorem ps_succ {t : Ty} {j : Nat} (h : j < t.kids.length) : ps t (j + 1) = ps t j + sz t.kids[j] := by
  unfold ps
  rw [← List.take_append_getElem h, List.map_append, List.sum_append]
  simp
  omega
theorem ps_all (t : Ty) : ps t t.kids.length = sz t := by
  unfold ps
  rw [sz, List.take_length]
theorem ps_le (t : Ty) (j : Nat) : ps t j ≤ sz t := by
  rw [← ps_all]
  unfold ps
  have : t.kids.take t.kids.length = t.kids.take j ++ (t.kids.take t.kids.length).drop j := by
    rw [List.take_length]
    exact (List.take_append_drop j t.kids).symm
  rw [this, List.map_append, List.sum_append]
  omega
def cap (n m : Nat) : Nat := if n ≤ m then n else m + 1
theorem cap_step {p s m : Nat} (h : p ≤ m) : p + cap s (m - p) = cap (p + s) m := by
  unfold cap
  split <;> split <;> omega
theorem cap_stop {p s m : Nat} (h : ¬ p ≤ m) (h' : p ≤ s) : cap p m = m + 1 ∧ cap s m = m + 1 := by
  unfold cap
  rw [if_neg h, if_neg (by omega)]
  exact ⟨rfl, rfl⟩
theorem cap_one (m : Nat) : cap 1 m = 1 := by unfold cap; split <;> omega
theorem cap_bound (s m : Nat) : cap s m ≤ m + 1 := by unfold cap; split <;> omega
theorem cap_le {p m : Nat} (h : p ≤ m) : cap p m = p := by unfold cap; rw [if_pos h]
theorem wrap_id {x : Int} (h1 : -9223372036854775808 ≤ x) (h2 : x ≤ 9223372036854775807) : IntKind.i64.wrap x = x := by
  rw [IntKind.wrap_i64]
  omega
/-- the document's TypeSize -/
theorem size_any : ∀ (d : Nat) (t : Ty) (a : Option Addr) (c : Nat) (w : World) (m : Nat), TyAt w d t a c → m ≤ 1000 → Calls Try.prog 33 #[vty t a c, .int .i64 (m : Int)] w fun e w' => e = .returned (.int .i64 (cap (sz t) m : Nat)) ∧ Below w.heap.size w w' := by
  intro d
  induction d with
  | zero => intro t a c w m h; exact h.elim
  | succ d ih =>
    intro t a c w m h hm
    have hfew := h.few.1
    obtain ⟨k, n, ks⟩ := t
    unfold vty
    dsimp only at hfew ⊢
    obtain ⟨W0, hW0⟩ : ∃ W0, w.alloc (.cells #[.int .i64 k, .int .i64 n, .slice a ks.length c] 24) = W0 := ⟨_, rfl⟩
    have hb0 : Below w.heap.size w W0 := hW0 ▸ (Below.refl w.heap.size w).alloc (Nat.le_refl _) _
    have hbx : W0.heap[w.heap.size]? = some (.cells #[.int .i64 k, .int .i64 n, .slice a ks.length c] 24 (0, 0)) := hW0 ▸ heap_alloc_new _ _
    have hsz : w.heap.size < W0.heap.size := hW0 ▸ (by simp)
    have HT : Hid (TyAt W0 (d + 1) ⟨k, n, ks⟩ a c) := h.below hb0
    have HW0 : Hid (w.alloc (.cells #[.int .i64 k, .int .i64 n, .slice a ks.length c] 24) = W0) := hW0
    obtain ⟨R, hR⟩ : ∃ R, cap (sz ⟨k, n, ks⟩) m = R := ⟨_, rfl⟩
    rw [hR]
    have HRR : Hid (cap (sz ⟨k, n, ks⟩) m = R) := hR
    clear hW0 h hR
    go_enter Try.func33, Try.ntmps33
    go_wp2
    rw [HW0.out]
    go_loopw [5, 6] (fun nv iv wr => ∃ j : Nat, iv = .int .i64 (j : Int) ∧ nv = .int .i64 (cap (ps ⟨k, n, ks⟩ j) m : Nat) ∧ j ≤ ks.length ∧ Below W0.heap.size W0 wr) (fun _ iv _ => ks.length - (intOf iv).toNat)
    case atStart => exact ⟨0, rfl, by rw [ps_zero, cap_one]; rfl, by omega, Below.refl _ _⟩
    case round =>
      obtain ⟨j, rfl, rfl, hj, hB⟩ := hrel
      have cB := (hB.cell (p := ⟨w.heap.size, 2, none⟩) hsz).trans (cell_of_row _ _ 2 _ 24 (0, 0) hbx)
      have hfin : Below w.heap.size w wr := hb0.trans (hB.mono hb0.size)
      have hle := ps_le ⟨k, n, ks⟩ j
      by_cases hjl : j < ks.length
      · have hjl' : (j : Int) < (ks.length : Int) := by omega
        by_cases hpm : ps ⟨k, n, ks⟩ j ≤ m
        · obtain ⟨g, off, a', c', rfl, hg, c0, c1, c2, ht⟩ := (HT.out.below hB).kid hjl
          dsimp only at c0 c1 c2 ht
          have HR : Hid (cap (ps ⟨k, n, ks⟩ (j + 1)) m = ps ⟨k, n, ks⟩ j + cap (sz ks[j]) (m - ps ⟨k, n, ks⟩ j)) := by
            show cap (ps ⟨k, n, ks⟩ (j + 1)) m = _
            rw [cap_step hpm, ps_succ (t := ⟨k, n, ks⟩) hjl]
          have hsc := cap_bound (sz ks[j]) (m - ps ⟨k, n, ks⟩ j)
          rw [cap_le hpm]
          have K26 := ih ks[j] a' c' wr (m - ps ⟨k, n, ks⟩ j) ht (by omega)
          unfold vty at K26
          generalize ps ⟨k, n, ks⟩ j = p at *
          generalize cap (sz ks[j]) (m - p) = r at *
          have hpm' : (p : Int) ≤ (m : Int) := by omega
          have hw1 : IntKind.i64.wrap ((m : Int) - (p : Int)) = ((m - p : Nat) : Int) := by rw [wrap_id (by omega) (by omega)]; omega
          clear hle ht
          go_wp2_with (go_at_call 33; (with_reducible refine K26.mono ?_); rintro e w2 ⟨rfl, hb2⟩)
          go_roundw
          case rel => exact ⟨j + 1, by go_num, by rw [HR.out]; simp, by omega, hB.trans (hb2.mono hB.size)⟩
          case measure => simp [intOf]; omega
        · obtain ⟨e1, e2⟩ := cap_stop hpm hle
          rw [e1]
          rw [HRR.out] at e2
          have HE2 : Hid (R = m + 1) := e2
          have hpm' : ¬ ((m + 1 : Nat) : Int) ≤ (m : Int) := by omega
          have hpm2 : (m : Int) < ((m + 1 : Nat) : Int) := by omega
          have hw1 : IntKind.i64.wrap ((m : Int) + 1) = ((m + 1 : Nat) : Int) := by rw [wrap_id (by omega) (by omega)]; omega
          clear e1 e2 hle hpm
          go_wp2
          go_ret
          exact ⟨by rw [HE2.out]; simp, hfin⟩
      · have hjl' : ¬ (j : Int) < (ks.length : Int) := by omega
        have ej : j = ks.length := by omega
        have es : ps ⟨k, n, ks⟩ j = sz ⟨k, n, ks⟩ := by rw [ej]; exact ps_all ⟨k, n, ks⟩
        rw [es]
        by_cases hpm : sz ⟨k, n, ks⟩ ≤ m
        · have HE2 : Hid (R = sz ⟨k, n, ks⟩) := by (show R = _; rw [← HRR.out, cap_le hpm])
          rw [cap_le hpm]
          clear HRR
          generalize sz ⟨k, n, ks⟩ = p at *
          have hpm2 : ¬ (m : Int) < (p : Int) := by omega
          clear es ej hle
          go_wp2
          go_ret
          exact ⟨by rw [HE2.out]; rfl, hfin⟩
        · obtain ⟨e1, _⟩ := cap_stop hpm (Nat.le_refl _)
          rw [e1]
          have HE2 : Hid (R = m + 1) := by (show R = m + 1; rw [← HRR.out, e1])
          have hpm2 : (m : Int) < ((m + 1 : Nat) : Int) := by omega
          have hw1 : IntKind.i64.wrap ((m : Int) + 1) = ((m + 1 : Nat) : Int) := by rw [wrap_id (by omega) (by omega)]; omega
          clear es ej hle hpm e1
          go_wp2
          go_ret
          exact ⟨by rw [HE2.out]; simp, hfin⟩
/-- the kids of a type -/
theorem kids_any (t : Ty) (a : Option Addr) (c : Nat) (w : World) : Calls Try.prog 38 #[vty t a c] w fun e w' => e = .returned (.slice a t.kids.length c) ∧ Below w.heap.size w w' := by
  obtain ⟨k, n, ks⟩ := t
  unfold vty
  dsimp only
  go_enter Try.func38, Try.ntmps38
  go_wp2
  go_ret
  exact ⟨rfl, (Below.refl w.heap.size w).alloc (Nat.le_refl _) _⟩
/-- nest.Count of types -/
theorem count_any : ∀ (d : Nat) (t : Ty) (a : Option Addr) (c : Nat) (w : World) (m : Nat), TyAt w d t a c → m ≤ 1000 → Calls Try.prog 62 #[vty t a c, .func (.func 38) #[] #[], .int .i64 (m : Int)] w fun e w' => e = .returned (.int .i64 (cap (sz t) m : Nat)) ∧ Below w.heap.size w w' := by
  intro d
  induction d with
  | zero => intro t a c w m h; exact h.elim
  | succ d ih =>
    intro t a c w m h hm
    have hfew := h.few.1
    have K24 := kids_any t a c
    obtain ⟨k, n, ks⟩ := t
    unfold vty at K24
    unfold vty
    dsimp only at hfew K24 ⊢
    obtain ⟨W0, hW0⟩ : ∃ W0, w.alloc (.cells #[.int .i64 k, .int .i64 n, .slice a ks.length c] 24) = W0 := ⟨_, rfl⟩
    have hb0 : Below w.heap.size w W0 := hW0 ▸ (Below.refl w.heap.size w).alloc (Nat.le_refl _) _
    have hbx : W0.heap[w.heap.size]? = some (.cells #[.int .i64 k, .int .i64 n, .slice a ks.length c] 24 (0, 0)) := hW0 ▸ heap_alloc_new _ _
    have HT : Hid (TyAt W0 (d + 1) ⟨k, n, ks⟩ a c) := h.below hb0
    have HW0 : Hid (w.alloc (.cells #[.int .i64 k, .int .i64 n, .slice a ks.length c] 24) = W0) := hW0
    obtain ⟨R, hR⟩ : ∃ R, cap (sz ⟨k, n, ks⟩) m = R := ⟨_, rfl⟩
    rw [hR]
    have HRR : Hid (cap (sz ⟨k, n, ks⟩) m = R) := hR
    clear hW0 h hR hbx
    go_enter Try.func62, Try.ntmps62
    go_wp2_with (go_at_call 38; (with_reducible refine (K24 _).mono ?_); rintro e w1 ⟨rfl, hb1⟩)
    rw [HW0.out] at hb1
    clear K24 HW0
    go_loopw [7, 9, 14] (fun nv _ iv wr => ∃ j : Nat, iv = .int .i64 (j : Int) ∧ nv = .int .i64 (cap (ps ⟨k, n, ks⟩ j) m : Nat) ∧ j ≤ ks.length ∧ Below W0.heap.size W0 wr) (fun _ _ iv _ => ks.length - (intOf iv).toNat)
    case atStart => exact ⟨0, rfl, by rw [ps_zero, cap_one]; rfl, by omega, hb1⟩
    case round =>
      clear hb1
      obtain ⟨j, rfl, rfl, hj, hB⟩ := hrel
      have hfin : Below w.heap.size w wr := hb0.trans (hB.mono hb0.size)
      have hle := ps_le ⟨k, n, ks⟩ j
      by_cases hjl : j < ks.length
      · have hjl' : (j : Int) < (ks.length : Int) := by omega
        obtain ⟨g, off, a', c', rfl, hg, c0, c1, c2, ht⟩ := (HT.out.below hB).kid hjl
        dsimp only at c0 c1 c2 ht
        by_cases hpm : ps ⟨k, n, ks⟩ j ≤ m
        · have HR : Hid (cap (ps ⟨k, n, ks⟩ (j + 1)) m = ps ⟨k, n, ks⟩ j + cap (sz ks[j]) (m - ps ⟨k, n, ks⟩ j)) := by
            show cap (ps ⟨k, n, ks⟩ (j + 1)) m = _
            rw [cap_step hpm, ps_succ (t := ⟨k, n, ks⟩) hjl]
          have hsc := cap_bound (sz ks[j]) (m - ps ⟨k, n, ks⟩ j)
          rw [cap_le hpm]
          have K37 := fun W' (hW : Below wr.heap.size wr W') => ih ks[j] a' c' W' (m - ps ⟨k, n, ks⟩ j) (ht.below hW) (by omega)
          unfold vty at K37
          generalize ps ⟨k, n, ks⟩ j = p at *
          generalize cap (sz ks[j]) (m - p) = r at *
          have hpm' : ¬ (m : Int) < (p : Int) := by omega
          have hw1 : IntKind.i64.wrap ((m : Int) - (p : Int)) = ((m - p : Nat) : Int) := by rw [wrap_id (by omega) (by omega)]; omega
          have hbA : ∀ o, Below wr.heap.size wr (wr.alloc o) := fun o => (Below.refl _ wr).alloc (Nat.le_refl _) o
          clear hle ht
          go_wp2_with (go_at_call 62; (with_reducible refine (K37 _ (hbA _)).mono ?_); rintro e w2 ⟨rfl, hb2⟩)
          go_roundw
          case rel => exact ⟨j + 1, by go_num, by rw [HR.out]; simp, by omega, hB.trans (((hbA _).trans (hb2.mono (hbA _).size)).mono hB.size)⟩
          case measure => simp [intOf]; omega
        · obtain ⟨e1, e2⟩ := cap_stop hpm hle
          rw [e1]
          rw [HRR.out] at e2
          have HE2 : Hid (R = m + 1) := e2
          have hpm2 : (m : Int) < ((m + 1 : Nat) : Int) := by omega
          have hfin2 : ∀ o, Below w.heap.size w (wr.alloc o) := fun o => hfin.alloc hfin.size o
          clear e1 e2 hle hpm ht
          go_wp2
          go_ret
          exact ⟨by rw [HE2.out]; rfl, hfin2 _⟩
      · have hjl' : ¬ (j : Int) < (ks.length : Int) := by omega
        have ej : j = ks.length := by omega
        have es : ps ⟨k, n, ks⟩ j = sz ⟨k, n, ks⟩ := by rw [ej]; exact ps_all ⟨k, n, ks⟩
        rw [es, HRR.out]
        clear es ej hle
        go_wp2
        go_ret
        exact ⟨rfl, hfin⟩
end Go.Proofs.Ytbmgkgoghgdbhaa.Te
/- What is wrong with a type: wrongWithType, typeWrong, nest.checkEach and nest.Check of types, both CheckTypes. No conditions. -/
namespace Go.Proofs.Ytbmgkgoghgdbhaa.Te
open Go.RowKit

/-- the first that is not nought -/
def fz (l : List Int) : Int := (l.find? (fun x => decide (x ≠ 0))).getD 0
theorem fz_zero {l : List Int} (h : ∀ x ∈ l, x = 0) : fz l = 0 := by
  unfold fz
  rw [List.find?_eq_none.2 (fun x hx => by simp [h x hx])]
  rfl
theorem fz_at {l : List Int} {j : Nat} (hj : j < l.length) (h : ∀ i (hi : i < l.length), i < j → l[i] = 0) (hn : l[j] ≠ 0) : fz l = l[j] := by
  unfold fz
  have : l.find? (fun x => decide (x ≠ 0)) = some l[j] := by
    rw [List.find?_eq_some_iff_getElem]
    refine ⟨by simpa using hn, j, hj, rfl, fun i hi => by simpa using h i (by omega) hi⟩
  rw [this]
  rfl
/-- what is wrong with a type, but for those in it -/
def w1 (k n : Int) (len : Nat) : Int := if k = 1 then (if len ≠ 0 then 1 else if n < 0 ∨ 9 < n then 3 else 0) else if k = 2 ∨ k = 3 then (if len ≠ 2 then 1 else if n < 0 ∨ 0 < n then 3 else 0) else 4
/-- what is wrong with a type -/
def wr (t : Ty) : Int := if w1 t.kind t.n t.kids.length ≠ 0 then w1 t.kind t.n t.kids.length else fz (t.kids.map wr)
termination_by SizeOf.sizeOf t
decreasing_by exact Ty.lt_kids ‹_›
theorem wr_bad {t : Ty} (h : w1 t.kind t.n t.kids.length ≠ 0) : wr t = w1 t.kind t.n t.kids.length := by rw [wr, if_pos h]
theorem wr_ok {t : Ty} (h : w1 t.kind t.n t.kids.length = 0) : wr t = fz (t.kids.map wr) := by rw [wr, if_neg (by simp [h])]
def ck (t : Ty) : Int := if 15 < sz t then 7 else wr t

theorem wrong1_any (t : Ty) (a : Option Addr) (c : Nat) (w : World) (hf : t.kids.length ≤ 140737488355328) : Calls Try.prog 39 #[vty t a c] w fun e w' => e = .returned (.int .i64 (w1 t.kind t.n t.kids.length)) ∧ Below w.heap.size w w' := by
  obtain ⟨k, n, ks⟩ := t
  unfold vty w1
  dsimp only at hf ⊢
  obtain ⟨l, hl⟩ : ∃ l, ks.length = l := ⟨_, rfl⟩
  rw [hl] at hf ⊢
  have hfin : ∀ o, Below w.heap.size w (w.alloc o) := fun o => (Below.refl w.heap.size w).alloc (Nat.le_refl _) o
  clear hl
  by_cases h1 : k = 1
  · subst h1
    rw [if_pos rfl]
    by_cases hl : l = 0
    · subst hl
      rw [if_neg (by simp)]
      by_cases h2 : n < 0
      · rw [if_pos (.inl h2)]
        go_enter Try.func39, Try.ntmps39
        go_wp2
        go_ret
        exact ⟨rfl, hfin _⟩
      · by_cases h3 : 9 < n
        · rw [if_pos (.inr h3)]
          go_enter Try.func39, Try.ntmps39
          go_wp2
          go_ret
          exact ⟨rfl, hfin _⟩
        · rw [if_neg (by omega)]
          go_enter Try.func39, Try.ntmps39
          go_wp2
          go_ret
          exact ⟨rfl, hfin _⟩
    · rw [if_pos hl]
      have bl : ((l : Int) != 0) = true := by simp; omega
      go_enter Try.func39, Try.ntmps39
      go_wp2
      go_ret
      exact ⟨rfl, hfin _⟩
  · rw [if_neg h1]
    have b1 : (k == 1) = false := by simp [h1]
    by_cases h2 : k = 2 ∨ k = 3
    · rw [if_pos h2]
      rcases h2 with rfl | rfl
      · by_cases hl : l = 2
        · subst hl
          rw [if_neg (by simp)]
          by_cases h3 : n < 0
          · rw [if_pos (.inl h3)]
            go_enter Try.func39, Try.ntmps39
            go_wp2
            go_ret
            exact ⟨rfl, hfin _⟩
          · by_cases h4 : 0 < n
            · rw [if_pos (.inr h4)]
              go_enter Try.func39, Try.ntmps39
              go_wp2
              go_ret
              exact ⟨rfl, hfin _⟩
            · rw [if_neg (by omega)]
              go_enter Try.func39, Try.ntmps39
              go_wp2
              go_ret
              exact ⟨rfl, hfin _⟩
        · rw [if_pos hl]
          have bl : ((l : Int) != 2) = true := by simp; omega
          go_enter Try.func39, Try.ntmps39
          go_wp2
          go_ret
          exact ⟨rfl, hfin _⟩
      · by_cases hl : l = 2
        · subst hl
          rw [if_neg (by simp)]
          by_cases h3 : n < 0
          · rw [if_pos (.inl h3)]
            go_enter Try.func39, Try.ntmps39
            go_wp2
            go_ret
            exact ⟨rfl, hfin _⟩
          · by_cases h4 : 0 < n
            · rw [if_pos (.inr h4)]
              go_enter Try.func39, Try.ntmps39
              go_wp2
              go_ret
              exact ⟨rfl, hfin _⟩
            · rw [if_neg (by omega)]
              go_enter Try.func39, Try.ntmps39
              go_wp2
              go_ret
              exact ⟨rfl, hfin _⟩
        · rw [if_pos hl]
          have bl : ((l : Int) != 2) = true := by simp; omega
          go_enter Try.func39, Try.ntmps39
          go_wp2
          go_ret
          exact ⟨rfl, hfin _⟩
    · rw [if_neg h2]
      have b2 : (k == 2) = false := by simp; omega
      have b3 : (k == 3) = false := by simp; omega
      clear h1 h2
      go_enter Try.func39, Try.ntmps39
      go_wp2
      go_ret
      exact ⟨rfl, hfin _⟩
/-- the document's typeWrong -/
theorem wrong_doc : ∀ (d : Nat) (t : Ty) (a : Option Addr) (c : Nat) (w : World), TyAt w d t a c → Calls Try.prog 34 #[vty t a c] w fun e w' => e = .returned (.int .i64 (Te.wr t)) ∧ Below w.heap.size w w' := by
  intro d
  induction d with
  | zero => intro t a c w h; exact h.elim
  | succ d ih =>
    intro t a c w h
    have hfew := h.few.1
    obtain ⟨k, n, ks⟩ := t
    unfold vty
    dsimp only at hfew ⊢
    obtain ⟨W0, hW0⟩ : ∃ W0, w.alloc (.cells #[.int .i64 k, .int .i64 n, .slice a ks.length c] 24) = W0 := ⟨_, rfl⟩
    have hb0 : Below w.heap.size w W0 := hW0 ▸ (Below.refl w.heap.size w).alloc (Nat.le_refl _) _
    have hbx : W0.heap[w.heap.size]? = some (.cells #[.int .i64 k, .int .i64 n, .slice a ks.length c] 24 (0, 0)) := hW0 ▸ heap_alloc_new _ _
    have hsz : w.heap.size < W0.heap.size := hW0 ▸ (by simp)
    have HT : Hid (TyAt W0 (d + 1) ⟨k, n, ks⟩ a c) := h.below hb0
    have HW0 : Hid (w.alloc (.cells #[.int .i64 k, .int .i64 n, .slice a ks.length c] 24) = W0) := hW0
    obtain ⟨R, hR⟩ : ∃ R, Te.wr ⟨k, n, ks⟩ = R := ⟨_, rfl⟩
    rw [hR]
    have HR0 : Hid (Te.wr ⟨k, n, ks⟩ = R) := hR
    clear hW0 h hR
    have bad : ∀ x, w1 k n ks.length = x → x ≠ 0 → R = x := fun x hx h0 => by rw [← HR0.out, wr_bad (t := ⟨k, n, ks⟩) (by dsimp only; rw [hx]; exact h0)]; exact hx
    have HB : Hid (∀ x, w1 k n ks.length = x → x ≠ 0 → R = x) := bad
    have HG : Hid (w1 k n ks.length = 0 → fz (ks.map Te.wr) = R) := fun h => by rw [← HR0.out, wr_ok (t := ⟨k, n, ks⟩) h]
    clear bad
    by_cases hk1 : k < 1
    · have HR : Hid (R = 4) := HB.out 4 (by unfold w1; rw [if_neg (by omega), if_neg (by omega)]) (by decide)
      go_enter Try.func34, Try.ntmps34
      go_wp2
      go_ret
      exact ⟨by rw [HR.out]; rfl, by rw [HW0.out]; exact hb0⟩
    by_cases hk3 : 3 < k
    · have HR : Hid (R = 4) := HB.out 4 (by unfold w1; rw [if_neg (by omega), if_neg (by omega)]) (by decide)
      go_enter Try.func34, Try.ntmps34
      go_wp2
      go_ret
      exact ⟨by rw [HR.out]; rfl, by rw [HW0.out]; exact hb0⟩
    by_cases h1 : k = 1
    · subst h1
      by_cases hl : ks.length = 0
      · have bl : (((ks.length : Nat) : Int) != 0) = false := by rw [hl]; rfl
        by_cases h2 : n < 0 ∨ 9 < n
        · have HR : Hid (R = 3) := HB.out 3 (by unfold w1; rw [if_pos rfl, if_neg (by simp [hl]), if_pos h2]) (by decide)
          by_cases h3 : n < 0
          · clear hl
            go_enter Try.func34, Try.ntmps34
            go_wp2
            go_ret
            exact ⟨by rw [HR.out]; rfl, by rw [HW0.out]; exact hb0⟩
          · have h4 : 9 < n := by omega
            clear hl
            go_enter Try.func34, Try.ntmps34
            go_wp2
            go_ret
            exact ⟨by rw [HR.out]; rfl, by rw [HW0.out]; exact hb0⟩
        · have HOK : Hid (fz (ks.map Te.wr) = R) := HG.out (by unfold w1; rw [if_pos rfl, if_neg (by simp [hl]), if_neg h2])
          have h2a : ¬ n < 0 := by omega
          have h2b : ¬ 9 < n := by omega
          clear h2 hl
          go_enter Try.func34, Try.ntmps34
          go_wp2
          rw [HW0.out]
          go_loopw [3, 4] (fun iv _ wr => ∃ j : Nat, iv = .int .i64 (j : Int) ∧ j ≤ ks.length ∧ (∀ i (hi : i < ks.length), i < j → Te.wr ks[i] = 0) ∧ Below W0.heap.size W0 wr) (fun iv _ _ => ks.length - (intOf iv).toNat)
          case atStart => exact ⟨0, rfl, by omega, fun i _ h => by omega, Below.refl _ _⟩
          case round =>
            obtain ⟨j, rfl, hj, hz, hB⟩ := hrel
            have HZ : Hid (∀ i (hi : i < ks.length), i < j → Te.wr ks[i] = 0) := hz
            have cB := (hB.cell (p := ⟨w.heap.size, 2, none⟩) hsz).trans (cell_of_row _ _ 2 _ 24 (0, 0) hbx)
            have hfin : Below w.heap.size w wr := hb0.trans (hB.mono hb0.size)
            clear hz
            by_cases hjl : j < ks.length
            · have hjl' : (j : Int) < (ks.length : Int) := by omega
              obtain ⟨g, off, a', c', rfl, hg, c0, c1, c2, ht⟩ := (HT.out.below hB).kid hjl
              dsimp only at c0 c1 c2 ht
              have K27 := ih ks[j] a' c' wr ht
              unfold vty at K27
              obtain ⟨x, hx⟩ : ∃ x, Te.wr ks[j] = x := ⟨_, rfl⟩
              rw [hx] at K27
              have HX : Hid (Te.wr ks[j] = x) := hx
              clear ht hx
              by_cases hx0 : x = 0
              · subst hx0
                go_wp2_with (go_at_call 34; (with_reducible refine K27.mono ?_); rintro e w2 ⟨rfl, hb2⟩)
                go_roundw
                case rel => exact ⟨j + 1, by go_num, by omega, fun i hi h => by (by_cases e : i = j; (subst e; exact HX.out); exact HZ.out i hi (by omega)), hB.trans (hb2.mono hB.size)⟩
                case measure => simp [intOf]; omega
              · have bx : (x != 0) = true := by simp [hx0]
                have HR : Hid (R = x) := by
                  show R = x
                  have hjl2 : j < (ks.map Te.wr).length := by simp; exact hjl
                  rw [← HOK.out, fz_at hjl2 (fun i hi h => by rw [List.getElem_map]; exact HZ.out i (by simpa using hi) h) (by rw [List.getElem_map, HX.out]; exact hx0), List.getElem_map, HX.out]
                go_wp2_with (go_at_call 34; (with_reducible refine K27.mono ?_); rintro e w2 ⟨rfl, hb2⟩)
                go_ret
                exact ⟨by rw [HR.out]; rfl, hfin.trans (hb2.mono hfin.size)⟩
            · have hjl' : ¬ (j : Int) < (ks.length : Int) := by omega
              have HR : Hid (R = 0) := by
                show R = 0
                rw [← HOK.out]
                refine fz_zero (fun x hx => ?_)
                obtain ⟨t', ht', rfl⟩ := List.mem_map.1 hx
                obtain ⟨i, hi, rfl⟩ := List.getElem_of_mem ht'
                exact HZ.out i hi (by omega)
              go_wp2
              go_ret
              exact ⟨by rw [HR.out]; rfl, hfin⟩
      · have HR : Hid (R = 1) := HB.out 1 (by unfold w1; rw [if_pos rfl, if_pos hl]) (by decide)
        have bl : (((ks.length : Nat) : Int) != 0) = true := bne_iff_ne.2 (by omega)
        clear hl
        go_enter Try.func34, Try.ntmps34
        go_wp2
        go_ret
        exact ⟨by rw [HR.out]; rfl, by rw [HW0.out]; exact hb0⟩
    · have b1 : (k == 1) = false := by simp [h1]
      have hgt : 1 < k := by omega
      have hk23 : k = 2 ∨ k = 3 := by omega
      by_cases hl : ks.length = 2
      · have bl : (((ks.length : Nat) : Int) != 2) = false := by simp; omega
        by_cases h3 : n < 0 ∨ 0 < n
        · have HR : Hid (R = 3) := HB.out 3 (by unfold w1; rw [if_neg h1, if_pos hk23, if_neg (by simp [hl]), if_pos h3]) (by decide)
          clear hl
          by_cases h4 : n < 0
          · clear h3
            go_enter Try.func34, Try.ntmps34
            go_wp2
            go_ret
            exact ⟨by rw [HR.out]; rfl, by rw [HW0.out]; exact hb0⟩
          · by_cases h5 : 9 < n
            · clear h3
              go_enter Try.func34, Try.ntmps34
              go_wp2
              go_ret
              exact ⟨by rw [HR.out]; rfl, by rw [HW0.out]; exact hb0⟩
            · have h6 : (n != 0) = true := by simp; omega
              clear h3
              go_enter Try.func34, Try.ntmps34
              go_wp2
              go_ret
              exact ⟨by rw [HR.out]; rfl, by rw [HW0.out]; exact hb0⟩
        · have HOK : Hid (fz (ks.map Te.wr) = R) := HG.out (by unfold w1; rw [if_neg h1, if_pos hk23, if_neg (by simp [hl]), if_neg h3])
          have e0 : n = 0 := by omega
          subst e0
          clear hl h3 hk23
          go_enter Try.func34, Try.ntmps34
          go_wp2
          rw [HW0.out]
          go_loopw [3, 4] (fun iv _ wr => ∃ j : Nat, iv = .int .i64 (j : Int) ∧ j ≤ ks.length ∧ (∀ i (hi : i < ks.length), i < j → Te.wr ks[i] = 0) ∧ Below W0.heap.size W0 wr) (fun iv _ _ => ks.length - (intOf iv).toNat)
          case atStart => exact ⟨0, rfl, by omega, fun i _ h => by omega, Below.refl _ _⟩
          case round =>
            obtain ⟨j, rfl, hj, hz, hB⟩ := hrel
            have HZ : Hid (∀ i (hi : i < ks.length), i < j → Te.wr ks[i] = 0) := hz
            have cB := (hB.cell (p := ⟨w.heap.size, 2, none⟩) hsz).trans (cell_of_row _ _ 2 _ 24 (0, 0) hbx)
            have hfin : Below w.heap.size w wr := hb0.trans (hB.mono hb0.size)
            clear hz
            by_cases hjl : j < ks.length
            · have hjl' : (j : Int) < (ks.length : Int) := by omega
              obtain ⟨g, off, a', c', rfl, hg, c0, c1, c2, ht⟩ := (HT.out.below hB).kid hjl
              dsimp only at c0 c1 c2 ht
              have K27 := ih ks[j] a' c' wr ht
              unfold vty at K27
              obtain ⟨x, hx⟩ : ∃ x, Te.wr ks[j] = x := ⟨_, rfl⟩
              rw [hx] at K27
              have HX : Hid (Te.wr ks[j] = x) := hx
              clear ht hx
              by_cases hx0 : x = 0
              · subst hx0
                go_wp2_with (go_at_call 34; (with_reducible refine K27.mono ?_); rintro e w2 ⟨rfl, hb2⟩)
                go_roundw
                case rel => exact ⟨j + 1, by go_num, by omega, fun i hi h => by (by_cases e : i = j; (subst e; exact HX.out); exact HZ.out i hi (by omega)), hB.trans (hb2.mono hB.size)⟩
                case measure => simp [intOf]; omega
              · have bx : (x != 0) = true := by simp [hx0]
                have HR : Hid (R = x) := by
                  show R = x
                  have hjl2 : j < (ks.map Te.wr).length := by simp; exact hjl
                  rw [← HOK.out, fz_at hjl2 (fun i hi h => by rw [List.getElem_map]; exact HZ.out i (by simpa using hi) h) (by rw [List.getElem_map, HX.out]; exact hx0), List.getElem_map, HX.out]
                go_wp2_with (go_at_call 34; (with_reducible refine K27.mono ?_); rintro e w2 ⟨rfl, hb2⟩)
                go_ret
                exact ⟨by rw [HR.out]; rfl, hfin.trans (hb2.mono hfin.size)⟩
            · have hjl' : ¬ (j : Int) < (ks.length : Int) := by omega
              have HR : Hid (R = 0) := by
                show R = 0
                rw [← HOK.out]
                refine fz_zero (fun x hx => ?_)
                obtain ⟨t', ht', rfl⟩ := List.mem_map.1 hx
                obtain ⟨i, hi, rfl⟩ := List.getElem_of_mem ht'
                exact HZ.out i hi (by omega)
              go_wp2
              go_ret
              exact ⟨by rw [HR.out]; rfl, hfin⟩
      · have HR : Hid (R = 1) := HB.out 1 (by unfold w1; rw [if_neg h1, if_pos hk23, if_pos hl]) (by decide)
        have bl : (((ks.length : Nat) : Int) != 2) = true := by simp; omega
        clear hl hk23
        go_enter Try.func34, Try.ntmps34
        go_wp2
        go_ret
        exact ⟨by rw [HR.out]; rfl, by rw [HW0.out]; exact hb0⟩
/-- nest.checkEach of types -/
theorem each_any : ∀ (d : Nat) (t : Ty) (a : Option Addr) (c : Nat) (w : World), TyAt w d t a c → Calls Try.prog 63 #[vty t a c, .func (.func 38) #[] #[], .func (.func 39) #[] #[]] w fun e w' => e = .returned (.int .i64 (Te.wr t)) ∧ Below w.heap.size w w' := by
  intro d
  induction d with
  | zero => intro t a c w h; exact h.elim
  | succ d ih =>
    intro t a c w h
    have hfew := h.few.1
    obtain ⟨k, n, ks⟩ := t
    have K24 := kids_any ⟨k, n, ks⟩ a c
    have K25 := fun w => wrong1_any ⟨k, n, ks⟩ a c w hfew
    unfold vty at K24 K25
    unfold vty
    dsimp only at hfew K24 K25 ⊢
    obtain ⟨W0, hW0⟩ : ∃ W0, w.alloc (.cells #[.int .i64 k, .int .i64 n, .slice a ks.length c] 24) = W0 := ⟨_, rfl⟩
    have hb0 : Below w.heap.size w W0 := hW0 ▸ (Below.refl w.heap.size w).alloc (Nat.le_refl _) _
    have hbx : W0.heap[w.heap.size]? = some (.cells #[.int .i64 k, .int .i64 n, .slice a ks.length c] 24 (0, 0)) := hW0 ▸ heap_alloc_new _ _
    have hsz : w.heap.size < W0.heap.size := hW0 ▸ (by simp)
    have HT : Hid (TyAt W0 (d + 1) ⟨k, n, ks⟩ a c) := h.below hb0
    have HW0 : Hid (w.alloc (.cells #[.int .i64 k, .int .i64 n, .slice a ks.length c] 24) = W0) := hW0
    obtain ⟨R, hR⟩ : ∃ R, Te.wr ⟨k, n, ks⟩ = R := ⟨_, rfl⟩
    rw [hR]
    have HR0 : Hid (Te.wr ⟨k, n, ks⟩ = R) := hR
    clear hW0 h hR
    obtain ⟨y, hy⟩ : ∃ y, w1 k n ks.length = y := ⟨_, rfl⟩
    rw [hy] at K25
    have q0 := cell_of_row _ _ 0 _ 24 (0, 0) hbx
    have q1 := cell_of_row _ _ 1 _ 24 (0, 0) hbx
    have q2 := cell_of_row _ _ 2 _ 24 (0, 0) hbx
    by_cases hy0 : y = 0
    · have HOK : Hid (fz (ks.map Te.wr) = R) := by (show fz (ks.map Te.wr) = R; rw [← HR0.out, wr_ok (t := ⟨k, n, ks⟩) (hy.trans hy0)])
      subst hy0
      clear hy HR0
      have RB : Hid (∀ W', Below W0.heap.size W0 W' → W'.cell? ⟨w.heap.size, 0, none⟩ = some (.int .i64 k) ∧ W'.cell? ⟨w.heap.size, 1, none⟩ = some (.int .i64 n) ∧ W'.cell? ⟨w.heap.size, 2, none⟩ = some (.slice a ks.length c)) := fun W' hW => ⟨(hW.cell (p := ⟨w.heap.size, 0, none⟩) hsz).trans q0, (hW.cell (p := ⟨w.heap.size, 1, none⟩) hsz).trans q1, (hW.cell (p := ⟨w.heap.size, 2, none⟩) hsz).trans q2⟩
      go_enter Try.func63, Try.ntmps63
      go_wp2_with (first
        | (go_at_call 39; (with_reducible refine (K25 _).mono ?_); rintro e w1 ⟨rfl, hb1⟩; rw [HW0.out] at hb1; have z := RB.out _ hb1; obtain ⟨z0, z1, z2⟩ := z)
        | (go_at_call 38; (with_reducible refine (K24 _).mono ?_); rintro e w2 ⟨rfl, hb2⟩))
      have hb12 : Below W0.heap.size W0 w2 := hb1.trans (hb2.mono hb1.size)
      clear K24 K25 z0 z1 z2 q0 q1 q2 hb1 hb2
      go_loopw [9, 10, 21] (fun _ _ iv wr => ∃ j : Nat, iv = .int .i64 (j : Int) ∧ j ≤ ks.length ∧ (∀ i (hi : i < ks.length), i < j → Te.wr ks[i] = 0) ∧ Below W0.heap.size W0 wr) (fun _ _ iv _ => ks.length - (intOf iv).toNat)
      case atStart => exact ⟨0, rfl, by omega, fun i _ h => by omega, hb12⟩
      case round =>
        clear hb12
        obtain ⟨j, rfl, hj, hz, hB⟩ := hrel
        have HZ : Hid (∀ i (hi : i < ks.length), i < j → Te.wr ks[i] = 0) := hz
        have hfin : Below w.heap.size w wr := hb0.trans (hB.mono hb0.size)
        clear hz
        by_cases hjl : j < ks.length
        · have hjl' : (j : Int) < (ks.length : Int) := by omega
          obtain ⟨g, off, a', c', rfl, hg, c0, c1, c2, ht⟩ := (HT.out.below hB).kid hjl
          dsimp only at c0 c1 c2 ht
          have hbA : ∀ o, Below wr.heap.size wr (wr.alloc o) := fun o => (Below.refl _ wr).alloc (Nat.le_refl _) o
          have K38 := fun W' (hW : Below wr.heap.size wr W') => ih ks[j] a' c' W' (ht.below hW)
          unfold vty at K38
          obtain ⟨x, hx⟩ : ∃ x, Te.wr ks[j] = x := ⟨_, rfl⟩
          rw [hx] at K38
          have HX : Hid (Te.wr ks[j] = x) := hx
          clear ht hx
          by_cases hx0 : x = 0
          · subst hx0
            go_wp2_with (go_at_call 63; (with_reducible refine (K38 _ (hbA _)).mono ?_); rintro e w2 ⟨rfl, hb2⟩)
            go_roundw
            case rel => exact ⟨j + 1, by go_num, by omega, fun i hi h => by (by_cases e : i = j; (subst e; exact HX.out); exact HZ.out i hi (by omega)), hB.trans (((hbA _).trans (hb2.mono (hbA _).size)).mono hB.size)⟩
            case measure => simp [intOf]; omega
          · have bx : (x != 0) = true := by simp [hx0]
            have HR : Hid (R = x) := by
              show R = x
              have hjl2 : j < (ks.map Te.wr).length := by simp; exact hjl
              rw [← HOK.out, fz_at hjl2 (fun i hi h => by rw [List.getElem_map]; exact HZ.out i (by simpa using hi) h) (by rw [List.getElem_map, HX.out]; exact hx0), List.getElem_map, HX.out]
            go_wp2_with (go_at_call 63; (with_reducible refine (K38 _ (hbA _)).mono ?_); rintro e w2 ⟨rfl, hb2⟩)
            go_ret
            exact ⟨by rw [HR.out]; rfl, hfin.trans (((hbA _).trans (hb2.mono (hbA _).size)).mono hfin.size)⟩
        · have hjl' : ¬ (j : Int) < (ks.length : Int) := by omega
          have HR : Hid (R = 0) := by
            show R = 0
            rw [← HOK.out]
            refine fz_zero (fun x hx => ?_)
            obtain ⟨t', ht', rfl⟩ := List.mem_map.1 hx
            obtain ⟨i, hi, rfl⟩ := List.getElem_of_mem ht'
            exact HZ.out i hi (by omega)
          go_wp2
          go_ret
          exact ⟨by rw [HR.out]; rfl, hfin⟩
    · have HR : Hid (R = y) := by (show R = y; rw [← HR0.out, wr_bad (t := ⟨k, n, ks⟩) (by dsimp only; rw [hy]; exact hy0)]; exact hy)
      have by0 : (y != 0) = true := by simp [hy0]
      clear hy
      go_enter Try.func63, Try.ntmps63
      go_wp2_with (go_at_call 39; (with_reducible refine (K25 _).mono ?_); rintro e w1 ⟨rfl, hb1⟩; rw [HW0.out] at hb1)
      go_ret
      exact ⟨by rw [HR.out]; rfl, hb0.trans (hb1.mono hb0.size)⟩
theorem cap_gt (s m : Nat) : (m < cap s m) = (m < s) := by unfold cap; split <;> simp <;> omega
theorem nest_any (d : Nat) (t : Ty) (a : Option Addr) (c : Nat) (w : World) (h : TyAt w d t a c) : Calls Try.prog 37 #[vty t a c, .func (.func 38) #[] #[], .int .i64 15, .func (.func 39) #[] #[]] w fun e w' => e = .returned (.int .i64 (ck t)) ∧ Below w.heap.size w w' := by
  have hgt := cap_gt (sz t) 15
  have K37 : ∀ W', Below w.heap.size w W' → Calls Try.prog 62 #[vty t a c, .func (.func 38) #[] #[], .int .i64 15] W' fun e w' => e = .returned (.int .i64 (cap (sz t) 15 : Nat)) ∧ Below W'.heap.size W' w' := fun W' hW => count_any d t a c W' 15 (h.below hW) (by omega)
  have K38 := fun W' (hW : Below w.heap.size w W') => each_any d t a c W' (h.below hW)
  unfold ck
  obtain ⟨k, n, ks⟩ := t
  unfold vty at K37 K38
  unfold vty
  dsimp only at K37 K38 ⊢
  obtain ⟨W0, hW0⟩ : ∃ W0, w.alloc (.cells #[.int .i64 k, .int .i64 n, .slice a ks.length c] 24) = W0 := ⟨_, rfl⟩
  have hb0 : Below w.heap.size w W0 := hW0 ▸ (Below.refl w.heap.size w).alloc (Nat.le_refl _) _
  have hbx : W0.heap[w.heap.size]? = some (.cells #[.int .i64 k, .int .i64 n, .slice a ks.length c] 24 (0, 0)) := hW0 ▸ heap_alloc_new _ _
  have hsz : w.heap.size < W0.heap.size := hW0 ▸ (by simp)
  have HW0 : Hid (w.alloc (.cells #[.int .i64 k, .int .i64 n, .slice a ks.length c] 24) = W0) := hW0
  have q0 := cell_of_row _ _ 0 _ 24 (0, 0) hbx
  have q1 := cell_of_row _ _ 1 _ 24 (0, 0) hbx
  have q2 := cell_of_row _ _ 2 _ 24 (0, 0) hbx
  have RB : Hid (∀ W', Below W0.heap.size W0 W' → W'.cell? ⟨w.heap.size, 0, none⟩ = some (.int .i64 k) ∧ W'.cell? ⟨w.heap.size, 1, none⟩ = some (.int .i64 n) ∧ W'.cell? ⟨w.heap.size, 2, none⟩ = some (.slice a ks.length c)) := fun W' hW => ⟨(hW.cell (p := ⟨w.heap.size, 0, none⟩) hsz).trans q0, (hW.cell (p := ⟨w.heap.size, 1, none⟩) hsz).trans q1, (hW.cell (p := ⟨w.heap.size, 2, none⟩) hsz).trans q2⟩
  obtain ⟨s, hs⟩ : ∃ s, cap (sz ⟨k, n, ks⟩) 15 = s := ⟨_, rfl⟩
  rw [hs] at K37 hgt
  obtain ⟨r, hr⟩ : ∃ r, Te.wr ⟨k, n, ks⟩ = r := ⟨_, rfl⟩
  rw [hr] at K38 ⊢
  have hbA : ∀ o, Below w.heap.size w (w.alloc o) := fun o => (Below.refl _ w).alloc (Nat.le_refl _) o
  clear hs hr hW0 h
  by_cases h15 : 15 < sz ⟨k, n, ks⟩
  · rw [if_pos h15]
    have h15' : (15 : Int) < (s : Int) := by (have : 15 < s := by (rw [hgt]; exact h15)); omega
    clear hgt h15
    go_enter Try.func37, Try.ntmps37
    go_wp2_with (go_at_call 62; (with_reducible refine (K37 _ (hbA _)).mono ?_); rintro e w1 ⟨rfl, hb1⟩; rw [HW0.out] at hb1)
    go_ret
    exact ⟨rfl, hb0.trans (hb1.mono hb0.size)⟩
  · rw [if_neg h15]
    have h15' : ¬ (15 : Int) < (s : Int) := by (have : ¬ 15 < s := by (rw [hgt]; exact h15)); omega
    clear hgt h15
    go_enter Try.func37, Try.ntmps37
    go_wp2_with (first
      | (go_at_call 62; (with_reducible refine (K37 _ (hbA _)).mono ?_); rintro e w1 ⟨rfl, hb1⟩; rw [HW0.out] at hb1; have z := RB.out _ hb1; obtain ⟨z0, z1, z2⟩ := z)
      | (go_at_call 63; (with_reducible refine (K38 _ (hb0.trans (hb1.mono hb0.size))).mono ?_); rintro e w2 ⟨rfl, hb2⟩))
    go_ret
    have hb01 := hb0.trans (hb1.mono hb0.size)
    exact ⟨rfl, hb01.trans (hb2.mono hb01.size)⟩
/-- CheckType -/
theorem check_any (d : Nat) (t : Ty) (a : Option Addr) (c : Nat) (w : World) (h : TyAt w d t a c) : Calls Try.prog 12 #[vty t a c] w fun e w' => e = .returned (.int .i64 (ck t)) ∧ Below w.heap.size w w' := by
  have K23 := fun W' (hW : Below w.heap.size w W') => nest_any d t a c W' (h.below hW)
  obtain ⟨r, hr⟩ : ∃ r, ck t = r := ⟨_, rfl⟩
  rw [hr] at K23 ⊢
  obtain ⟨k, n, ks⟩ := t
  unfold vty at K23
  unfold vty
  dsimp only at K23 ⊢
  have hbA : ∀ o, Below w.heap.size w (w.alloc o) := fun o => (Below.refl _ w).alloc (Nat.le_refl _) o
  clear h hr
  go_enter Try.func12, Try.ntmps12
  go_wp2_with (go_at_call 37; (with_reducible refine (K23 _ (hbA _)).mono ?_); rintro e w1 ⟨rfl, hb1⟩)
  go_ret
  exact ⟨rfl, (hbA _).trans (hb1.mono (hbA _).size)⟩
/-- the document's CheckType -/
theorem check_doc (d : Nat) (t : Ty) (a : Option Addr) (c : Nat) (w : World) (h : TyAt w d t a c) : Calls Try.prog 9 #[vty t a c] w fun e w' => e = .returned (.int .i64 (ck t)) ∧ Below w.heap.size w w' := by
  have hgt := cap_gt (sz t) 15
  have K26 : ∀ W', Below w.heap.size w W' → Calls Try.prog 33 #[vty t a c, .int .i64 15] W' fun e w' => e = .returned (.int .i64 (cap (sz t) 15 : Nat)) ∧ Below W'.heap.size W' w' := fun W' hW => size_any d t a c W' 15 (h.below hW) (by omega)
  have K27 := fun W' (hW : Below w.heap.size w W') => wrong_doc d t a c W' (h.below hW)
  unfold ck
  obtain ⟨k, n, ks⟩ := t
  unfold vty at K26 K27
  unfold vty
  dsimp only at K26 K27 ⊢
  obtain ⟨W0, hW0⟩ : ∃ W0, w.alloc (.cells #[.int .i64 k, .int .i64 n, .slice a ks.length c] 24) = W0 := ⟨_, rfl⟩
  have hb0 : Below w.heap.size w W0 := hW0 ▸ (Below.refl w.heap.size w).alloc (Nat.le_refl _) _
  have hbx : W0.heap[w.heap.size]? = some (.cells #[.int .i64 k, .int .i64 n, .slice a ks.length c] 24 (0, 0)) := hW0 ▸ heap_alloc_new _ _
  have hsz : w.heap.size < W0.heap.size := hW0 ▸ (by simp)
  have HW0 : Hid (w.alloc (.cells #[.int .i64 k, .int .i64 n, .slice a ks.length c] 24) = W0) := hW0
  have q0 := cell_of_row _ _ 0 _ 24 (0, 0) hbx
  have q1 := cell_of_row _ _ 1 _ 24 (0, 0) hbx
  have q2 := cell_of_row _ _ 2 _ 24 (0, 0) hbx
  have RB : Hid (∀ W', Below W0.heap.size W0 W' → W'.cell? ⟨w.heap.size, 0, none⟩ = some (.int .i64 k) ∧ W'.cell? ⟨w.heap.size, 1, none⟩ = some (.int .i64 n) ∧ W'.cell? ⟨w.heap.size, 2, none⟩ = some (.slice a ks.length c)) := fun W' hW => ⟨(hW.cell (p := ⟨w.heap.size, 0, none⟩) hsz).trans q0, (hW.cell (p := ⟨w.heap.size, 1, none⟩) hsz).trans q1, (hW.cell (p := ⟨w.heap.size, 2, none⟩) hsz).trans q2⟩
  obtain ⟨s, hs⟩ : ∃ s, cap (sz ⟨k, n, ks⟩) 15 = s := ⟨_, rfl⟩
  rw [hs] at K26 hgt
  obtain ⟨r, hr⟩ : ∃ r, Te.wr ⟨k, n, ks⟩ = r := ⟨_, rfl⟩
  rw [hr] at K27 ⊢
  have hbA : ∀ o, Below w.heap.size w (w.alloc o) := fun o => (Below.refl _ w).alloc (Nat.le_refl _) o
  clear hs hr hW0 h
  by_cases h15 : 15 < sz ⟨k, n, ks⟩
  · rw [if_pos h15]
    have h15' : (15 : Int) < (s : Int) := by (have : 15 < s := by (rw [hgt]; exact h15)); omega
    clear hgt h15
    go_enter Try.func9, Try.ntmps9
    go_wp2_with (go_at_call 33; (with_reducible refine (K26 _ (hbA _)).mono ?_); rintro e w1 ⟨rfl, hb1⟩; rw [HW0.out] at hb1)
    go_ret
    exact ⟨rfl, hb0.trans (hb1.mono hb0.size)⟩
  · rw [if_neg h15]
    have h15' : ¬ (15 : Int) < (s : Int) := by (have : ¬ 15 < s := by (rw [hgt]; exact h15)); omega
    clear hgt h15
    go_enter Try.func9, Try.ntmps9
    go_wp2_with (first
      | (go_at_call 33; (with_reducible refine (K26 _ (hbA _)).mono ?_); rintro e w1 ⟨rfl, hb1⟩; rw [HW0.out] at hb1; have z := RB.out _ hb1; obtain ⟨z0, z1, z2⟩ := z)
      | (go_at_call 34; (with_reducible refine (K27 _ (hb0.trans (hb1.mono hb0.size))).mono ?_); rintro e w2 ⟨rfl, hb2⟩))
    go_ret
    have hb01 := hb0.trans (hb1.mono hb0.size)
    exact ⟨rfl, hb01.trans (hb2.mono hb01.size)⟩
end Go.Proofs.Ytbmgkgoghgdbhaa.Te
/- Are two parts the same, and two lists of them: isSame, areSame, SamePart, SameParts. No conditions. -/
namespace Go.Proofs.Ytbmgkgoghgdbhaa.Te
open Go.RowKit

/-- a world in which all that lay in w lies as it lay -/
structure After (w : World) where
  W : World
  h : Below w.heap.size w W
theorem wp_region_after {P : Program} {id : Nat} {Q : Exit → Act → World → Prop} {a : Act} {w : World} {l : List Oper} (hm : P.follows .mixedOrders = true) (hB : Region.lexB .any l.toArray = true)
    (h : wpQuiet P l.toArray (fun w' => ∃ p : After w, w' = p.W) (fun a' => ∀ w', (∃ p : After w, w' = p.W) → Q .normal a' w') l a) : (Code.region id l.toArray true).wp P Q a w :=
  wp_region_quiet (C := fun w' => ∃ p : After w, w' = p.W) hm hB ⟨⟨w.drew, (Below.refl _ _).drew⟩, rfl⟩ (by simpa using h)
theorem after_of {P : Program} {f : FuncId} {args : Array Value} {w : World} {p : After w} {v : Value}
    (h : Calls P f args p.W fun e w' => e = .returned v ∧ Below p.W.heap.size p.W w') : Calls P f args p.W fun e w'' => e = .returned v ∧ ∃ p' : After w, w'' = p'.W :=
  h.mono fun _ w' ⟨he, hb⟩ => ⟨he, ⟨w', p.h.trans (hb.mono p.h.size)⟩, rfl⟩
theorem fix_same (t u : Ty) : ∃ r : Bool, (r = true ↔ t = u) := by
  classical
  exact ⟨decide (t = u), by simp⟩
theorem same_false {r : Bool} {t u : Ty} (h : r = true ↔ t = u) (hn : t ≠ u) : r = false := by
  cases r
  · rfl
  · exact absurd (h.1 rfl) hn
theorem kids_eq {k n : Int} {ks ks' : List Ty} (hl : ks.length = ks'.length) (h : ∀ i (hi : i < ks.length) (hi' : i < ks'.length), ks[i] = ks'[i]) : (⟨k, n, ks⟩ : Ty) = ⟨k, n, ks'⟩ := by
  have : ks = ks' := List.ext_getElem hl h
  rw [this]
theorem two_boxes (w : World) (a b : Obj) : ((w.alloc a).alloc b).heap[w.heap.size]? = some a ∧ ((w.alloc a).alloc b).heap[w.heap.size + 1]? = some b ∧ ((w.alloc a).alloc b).heap.size = w.heap.size + 2 ∧ Below w.heap.size w ((w.alloc a).alloc b) := by
  have e : (w.alloc a).heap.size = w.heap.size + 1 := by simp
  refine ⟨?_, ?_, by simp, ((Below.refl _ w).alloc (Nat.le_refl _) a).alloc (by omega) b⟩
  · rw [((Below.refl _ (w.alloc a)).alloc (Nat.le_refl _) b).block _ (by omega)]
    exact heap_alloc_new w a
  · rw [← e]
    exact heap_alloc_new (w.alloc a) b
/-- slices.EqualFunc of two types' kids, on condition of what it calls -/
theorem equal_any (d d2 : Nat) (k n k' n' : Int) (ks ks' : List Ty) (a : Option Addr) (c : Nat) (b : Option Addr) (e0 : Nat) (w : World) (r : Bool) (hr : r = true ↔ ks = ks') (h : TyAt w (d + 1) ⟨k, n, ks⟩ a c) (h' : TyAt w (d2 + 1) ⟨k', n', ks'⟩ b e0)
    (ih : ∀ (t : Ty) (a : Option Addr) (c : Nat) (d' : Nat) (u : Ty) (b : Option Addr) (e0 : Nat) (w : World) (r : Bool), (r = true ↔ t = u) → TyAt w d t a c → TyAt w d' u b e0 → Calls Try.prog 68 #[vty t a c, vty u b e0] w fun e w' => e = .returned (.bool r) ∧ Below w.heap.size w w') :
    Calls Try.prog 84 #[.slice a ks.length c, .slice b ks'.length e0, .func (.func 68) #[] #[]] w fun e w' => e = .returned (.bool r) ∧ Below w.heap.size w w' := by
  have hf := h.few.1
  have HT : Hid (TyAt w (d + 1) ⟨k, n, ks⟩ a c) := h
  have HU : Hid (TyAt w (d2 + 1) ⟨k', n', ks'⟩ b e0) := h'
  have HR : Hid (r = true ↔ ks = ks') := hr
  dsimp only at hf
  clear h h' hr
  by_cases hl : ks.length = ks'.length
  · have bl : (((ks.length : Nat) : Int) != ((ks'.length : Nat) : Int)) = false := by rw [hl]; simp
    have HL : Hid (ks.length = ks'.length) := hl
    clear hl
    go_enter Try.func84, Try.ntmps84
    go_wp2
    go_loopw [7, 8, 9, 17] (fun _ _ _ iv wr => ∃ j : Nat, iv = .int .i64 (j : Int) ∧ j ≤ ks.length ∧ (∀ i (hi : i < ks.length) (hi' : i < ks'.length), i < j → ks[i] = ks'[i]) ∧ Below w.heap.size w wr) (fun _ _ _ iv _ => ks.length - (intOf iv).toNat)
    case atStart => exact ⟨0, rfl, by omega, fun i _ _ h => by omega, Below.refl _ _⟩
    case round =>
      obtain ⟨j, rfl, hj, hz, hB⟩ := hrel
      have HZ : Hid (∀ i (hi : i < ks.length) (hi' : i < ks'.length), i < j → ks[i] = ks'[i]) := hz
      clear hz
      by_cases hjl : j < ks.length
      · have hjl2 : j < ks'.length := by have := HL.out; omega
        have hjl' : (j : Int) < (ks.length : Int) := by omega
        have hjl3 : (j : Int) < (ks'.length : Int) := by omega
        obtain ⟨g1, off1, a1, c1, rfl, hg1, y0, y1, y2, ht⟩ := (HT.out.below hB).kid hjl
        obtain ⟨g2, off2, a2, c2, rfl, hg2, z0, z1, z2, hu⟩ := (HU.out.below hB).kid hjl2
        dsimp only at y0 y1 y2 z0 z1 z2 ht hu
        obtain ⟨x, hx⟩ := fix_same ks[j] ks'[j]
        have HX : Hid (x = true ↔ ks[j] = ks'[j]) := hx
        have K39 := fun W' (hW : Below wr.heap.size wr W') => ih ks[j] a1 c1 d2 ks'[j] a2 c2 W' x HX.out (ht.below hW) (hu.below hW)
        unfold vty at K39
        have hb2 := fun o1 o2 => (two_boxes wr o1 o2).2.2.2
        have v0 := fun o => (((Below.refl _ wr).alloc (Nat.le_refl _) o).cell (p := ⟨g2, off2 + j * 3, none⟩) hg2).trans z0
        have v1 := fun o => (((Below.refl _ wr).alloc (Nat.le_refl _) o).cell (p := ⟨g2, off2 + j * 3 + 1, none⟩) hg2).trans z1
        have v2 := fun o => (((Below.refl _ wr).alloc (Nat.le_refl _) o).cell (p := ⟨g2, off2 + j * 3 + 2, none⟩) hg2).trans z2
        clear ht hu hx z0 z1 z2
        cases x
        · have HF : Hid (r = false) := by
            show r = false
            cases hrr : r
            · rfl
            · have e2 := HR.out.1 hrr
              have : ks[j] = ks'[j] := by simp only [e2]
              have := HX.out.2 this
              cases this
          go_wp2_with (go_at_call 68; (with_reducible refine (K39 _ (hb2 _ _)).mono ?_); rintro e w1 ⟨rfl, hb1⟩)
          go_ret
          have hq := (hb2 _ _).trans (hb1.mono (hb2 _ _).size)
          exact ⟨by rw [HF.out]; rfl, hB.trans (hq.mono hB.size)⟩
        · go_wp2_with (go_at_call 68; (with_reducible refine (K39 _ (hb2 _ _)).mono ?_); rintro e w1 ⟨rfl, hb1⟩)
          go_roundw
          case rel =>
            have hq := (hb2 _ _).trans (hb1.mono (hb2 _ _).size)
            exact ⟨j + 1, by go_num, by omega, fun i hi hi' h => by (by_cases e : i = j; (subst e; exact HX.out.1 (by trivial)); exact HZ.out i hi hi' (by omega)), hB.trans (hq.mono hB.size)⟩
          case measure => simp [intOf]; omega
      · have hjl' : ¬ (j : Int) < (ks.length : Int) := by omega
        have HF : Hid (r = true) := HR.out.2 (List.ext_getElem HL.out (fun i hi hi' => HZ.out i hi hi' (by omega)))
        go_wp2
        go_ret
        exact ⟨by rw [HF.out]; rfl, hB⟩
  · have bl : (((ks.length : Nat) : Int) != ((ks'.length : Nat) : Int)) = true := bne_iff_ne.2 (by omega)
    have HF : Hid (r = false) := by
      show r = false
      cases hrr : r
      · rfl
      · exact absurd (congrArg List.length (HR.out.1 hrr)) hl
    clear hl
    go_enter Try.func84, Try.ntmps84
    go_wp2
    go_ret
    exact ⟨by rw [HF.out]; rfl, Below.refl _ _⟩
/-- areSame, on condition of what it calls -/
theorem are_of (d d2 : Nat) (k n k' n' : Int) (ks ks' : List Ty) (a : Option Addr) (c : Nat) (b : Option Addr) (e0 : Nat) (w : World) (r : Bool) (hr : r = true ↔ ks = ks') (h : TyAt w (d + 1) ⟨k, n, ks⟩ a c) (h' : TyAt w (d2 + 1) ⟨k', n', ks'⟩ b e0)
    (ih : ∀ (t : Ty) (a : Option Addr) (c : Nat) (d' : Nat) (u : Ty) (b : Option Addr) (e0 : Nat) (w : World) (r : Bool), (r = true ↔ t = u) → TyAt w d t a c → TyAt w d' u b e0 → Calls Try.prog 68 #[vty t a c, vty u b e0] w fun e w' => e = .returned (.bool r) ∧ Below w.heap.size w w') :
    Calls Try.prog 67 #[.slice a ks.length c, .slice b ks'.length e0] w fun e w' => e = .returned (.bool r) ∧ Below w.heap.size w w' := by
  have K := equal_any d d2 k n k' n' ks ks' a c b e0 w r hr h h' ih
  go_enter Try.func67, Try.ntmps67
  go_wp2_with (go_at_call 84; (with_reducible refine K.mono ?_); rintro e w1 ⟨rfl, hb1⟩)
  go_ret
  exact ⟨rfl, hb1⟩
set_option maxHeartbeats 4000000 in
theorem same_any : ∀ (d : Nat) (t : Ty) (a : Option Addr) (c : Nat) (d' : Nat) (u : Ty) (b : Option Addr) (e0 : Nat) (w : World) (r : Bool), (r = true ↔ t = u) → TyAt w d t a c → TyAt w d' u b e0 → Calls Try.prog 68 #[vty t a c, vty u b e0] w fun e w' => e = .returned (.bool r) ∧ Below w.heap.size w w' := by
  intro d
  induction d with
  | zero => intro t a c d' u b e0 w r _ h; exact h.elim
  | succ d ih =>
    intro t a c d' u b e0 w r hr h h'
    obtain ⟨d2, rfl⟩ := h'.pos
    obtain ⟨k, n, ks⟩ := t
    obtain ⟨k', n', ks'⟩ := u
    unfold vty
    dsimp only
    obtain ⟨W0, hW0⟩ : ∃ W0, (w.alloc (.cells #[.int .i64 k, .int .i64 n, .slice a ks.length c] 24)).alloc (.cells #[.int .i64 k', .int .i64 n', .slice b ks'.length e0] 24) = W0 := ⟨_, rfl⟩
    have hbx := two_boxes w (.cells #[.int .i64 k, .int .i64 n, .slice a ks.length c] 24) (.cells #[.int .i64 k', .int .i64 n', .slice b ks'.length e0] 24)
    rw [hW0] at hbx
    obtain ⟨hx1, hx2, hs0, hb0⟩ := hbx
    have K44 := fun r (hr : r = true ↔ ks = ks') => are_of d d2 k n k' n' ks ks' a c b e0 W0 r hr (h.below hb0) (h'.below hb0) ih
    have HW0 : Hid ((w.alloc (.cells #[.int .i64 k, .int .i64 n, .slice a ks.length c] 24)).alloc (.cells #[.int .i64 k', .int .i64 n', .slice b ks'.length e0] 24) = W0) := hW0
    have HR : Hid (r = true ↔ (⟨k, n, ks⟩ : Ty) = ⟨k', n', ks'⟩) := hr
    clear h h' hr
    by_cases hk : k = k'
    · subst hk
      have bk : (k == k) = true := by simp
      by_cases hn : n = n'
      · subst hn
        have bn : (n == n) = true := by simp
        have K := K44 r (by rw [HR.out]; constructor; (intro e; exact congrArg Ty.kids e); (intro e; rw [e]))
        rw [← hW0] at K
        clear K44 hW0
        cases r
        · go_enter Try.func68, Try.ntmps68
          go_wp2_with (go_at_call 67; (with_reducible refine K.mono ?_); rintro e w1 ⟨rfl, hb1⟩; rw [HW0.out] at hb1)
          go_ret
          exact ⟨rfl, hb0.trans (hb1.mono hb0.size)⟩
        · go_enter Try.func68, Try.ntmps68
          go_wp2_with (go_at_call 67; (with_reducible refine K.mono ?_); rintro e w1 ⟨rfl, hb1⟩; rw [HW0.out] at hb1)
          go_ret
          exact ⟨rfl, hb0.trans (hb1.mono hb0.size)⟩
      · have bn : (n == n') = false := beq_eq_false_iff_ne.2 hn
        have HF : Hid (r = false) := same_false HR.out (fun e => hn (congrArg Ty.n e))
        clear hn K44 hW0
        go_enter Try.func68, Try.ntmps68
        go_wp2
        go_ret
        exact ⟨by rw [HF.out]; rfl, by rw [HW0.out]; exact hb0⟩
    · have bk : (k == k') = false := beq_eq_false_iff_ne.2 hk
      have HF : Hid (r = false) := same_false HR.out (fun e => hk (congrArg Ty.kind e))
      clear hk K44 hW0
      go_enter Try.func68, Try.ntmps68
      go_wp2
      go_ret
      exact ⟨by rw [HF.out]; rfl, by rw [HW0.out]; exact hb0⟩
theorem are_any (d d2 : Nat) (k n k' n' : Int) (ks ks' : List Ty) (a : Option Addr) (c : Nat) (b : Option Addr) (e0 : Nat) (w : World) (r : Bool) (hr : r = true ↔ ks = ks') (h : TyAt w (d + 1) ⟨k, n, ks⟩ a c) (h' : TyAt w (d2 + 1) ⟨k', n', ks'⟩ b e0) :
    Calls Try.prog 67 #[.slice a ks.length c, .slice b ks'.length e0] w fun e w' => e = .returned (.bool r) ∧ Below w.heap.size w w' := are_of d d2 k n k' n' ks ks' a c b e0 w r hr h h' (same_any d)
/-- the document's SameParts, on condition of what it calls -/
theorem equal_doc (d d2 : Nat) (k n k' n' : Int) (ks ks' : List Ty) (a : Option Addr) (c : Nat) (b : Option Addr) (e0 : Nat) (w : World) (r : Bool) (hr : r = true ↔ ks = ks') (h : TyAt w (d + 1) ⟨k, n, ks⟩ a c) (h' : TyAt w (d2 + 1) ⟨k', n', ks'⟩ b e0)
    (ih : ∀ (t : Ty) (a : Option Addr) (c : Nat) (d' : Nat) (u : Ty) (b : Option Addr) (e0 : Nat) (w : World) (r : Bool), (r = true ↔ t = u) → TyAt w d t a c → TyAt w d' u b e0 → Calls Try.prog 16 #[vty t a c, vty u b e0] w fun e w' => e = .returned (.bool r) ∧ Below w.heap.size w w') :
    Calls Try.prog 43 #[.slice a ks.length c, .slice b ks'.length e0] w fun e w' => e = .returned (.bool r) ∧ Below w.heap.size w w' := by
  have hf := h.few.1
  have HT : Hid (TyAt w (d + 1) ⟨k, n, ks⟩ a c) := h
  have HU : Hid (TyAt w (d2 + 1) ⟨k', n', ks'⟩ b e0) := h'
  have HR : Hid (r = true ↔ ks = ks') := hr
  dsimp only at hf
  clear h h' hr
  by_cases hl : ks.length = ks'.length
  · have bl : (((ks.length : Nat) : Int) != ((ks'.length : Nat) : Int)) = false := by rw [hl]; simp
    have HL : Hid (ks.length = ks'.length) := hl
    clear hl
    go_enter Try.func43, Try.ntmps43
    go_wp2
    go_loopw [5] (fun iv wr => ∃ j : Nat, iv = .int .i64 (j : Int) ∧ j ≤ ks.length ∧ (∀ i (hi : i < ks.length) (hi' : i < ks'.length), i < j → ks[i] = ks'[i]) ∧ Below w.heap.size w wr) (fun iv _ => ks.length - (intOf iv).toNat)
    case atStart => exact ⟨0, rfl, by omega, fun i _ _ h => by omega, Below.refl _ _⟩
    case round =>
      obtain ⟨j, rfl, hj, hz, hB⟩ := hrel
      have HZ : Hid (∀ i (hi : i < ks.length) (hi' : i < ks'.length), i < j → ks[i] = ks'[i]) := hz
      clear hz
      by_cases hjl : j < ks.length
      · have hjl2 : j < ks'.length := by have := HL.out; omega
        have hjl' : (j : Int) < (ks.length : Int) := by omega
        have hjl3 : (j : Int) < (ks'.length : Int) := by omega
        obtain ⟨g1, off1, a1, c1, rfl, hg1, y0, y1, y2, ht⟩ := (HT.out.below hB).kid hjl
        obtain ⟨g2, off2, a2, c2, rfl, hg2, z0, z1, z2, hu⟩ := (HU.out.below hB).kid hjl2
        dsimp only at y0 y1 y2 z0 z1 z2 ht hu
        obtain ⟨x, hx⟩ := fix_same ks[j] ks'[j]
        have HX : Hid (x = true ↔ ks[j] = ks'[j]) := hx
        haveI : Inhabited (After wr) := ⟨⟨_, Below.refl _ _⟩⟩
        have K9 := fun p : After wr => ih ks[j] a1 c1 d2 ks'[j] a2 c2 p.W x HX.out (ht.below p.h) (hu.below p.h)
        unfold vty at K9
        have q0 := fun p : After wr => (p.h.cell (p := ⟨g1, _, none⟩) hg1).trans y0
        have q1 := fun p : After wr => (p.h.cell (p := ⟨g1, _, none⟩) hg1).trans y1
        have q2 := fun p : After wr => (p.h.cell (p := ⟨g1, _, none⟩) hg1).trans y2
        have q3 := fun p : After wr => (p.h.cell (p := ⟨g2, _, none⟩) hg2).trans z0
        have q4 := fun p : After wr => (p.h.cell (p := ⟨g2, _, none⟩) hg2).trans z1
        have q5 := fun p : After wr => (p.h.cell (p := ⟨g2, _, none⟩) hg2).trans z2
        clear ht hu hx y0 y1 y2 z0 z1 z2
        go_wp2_with fail
        refine wp_region_after (by kernel_rfl) (by kernel_rfl) ?_
        repeat (go_big_quiet_step (first | (go_at_call 16; (with_reducible refine after_of (K9 _)))))
        refine wpQuiet_nil ?_
        intro W' hw'
        obtain ⟨⟨w1, hb1⟩, rfl⟩ := hw'
        clear q0 q1 q2 q3 q4 q5 K9
        cases x
        · have HF : Hid (r = false) := by
            show r = false
            cases hrr : r
            · rfl
            · have e2 := HR.out.1 hrr
              have : ks[j] = ks'[j] := by simp only [e2]
              have := HX.out.2 this
              cases this
          go_wp2
          go_ret
          exact ⟨by rw [HF.out]; rfl, hB.trans (hb1.mono hB.size)⟩
        · go_wp2
          go_roundw
          case rel => exact ⟨j + 1, by go_num, by omega, fun i hi hi' h => by (by_cases e : i = j; (subst e; exact HX.out.1 (by trivial)); exact HZ.out i hi hi' (by omega)), hB.trans (hb1.mono hB.size)⟩
          case measure => simp [intOf]; omega
      · have hjl' : ¬ (j : Int) < (ks.length : Int) := by omega
        have HF : Hid (r = true) := HR.out.2 (List.ext_getElem HL.out (fun i hi hi' => HZ.out i hi hi' (by omega)))
        go_wp2
        go_ret
        exact ⟨by rw [HF.out]; rfl, hB⟩
  · have bl : (((ks.length : Nat) : Int) != ((ks'.length : Nat) : Int)) = true := bne_iff_ne.2 (by omega)
    have HF : Hid (r = false) := by
      show r = false
      cases hrr : r
      · rfl
      · exact absurd (congrArg List.length (HR.out.1 hrr)) hl
    clear hl
    go_enter Try.func43, Try.ntmps43
    go_wp2
    go_ret
    exact ⟨by rw [HF.out]; rfl, Below.refl _ _⟩
set_option maxHeartbeats 4000000 in
theorem same_doc : ∀ (d : Nat) (t : Ty) (a : Option Addr) (c : Nat) (d' : Nat) (u : Ty) (b : Option Addr) (e0 : Nat) (w : World) (r : Bool), (r = true ↔ t = u) → TyAt w d t a c → TyAt w d' u b e0 → Calls Try.prog 16 #[vty t a c, vty u b e0] w fun e w' => e = .returned (.bool r) ∧ Below w.heap.size w w' := by
  intro d
  induction d with
  | zero => intro t a c d' u b e0 w r _ h; exact h.elim
  | succ d ih =>
    intro t a c d' u b e0 w r hr h h'
    obtain ⟨d2, rfl⟩ := h'.pos
    obtain ⟨k, n, ks⟩ := t
    obtain ⟨k', n', ks'⟩ := u
    unfold vty
    dsimp only
    obtain ⟨W0, hW0⟩ : ∃ W0, (w.alloc (.cells #[.int .i64 k, .int .i64 n, .slice a ks.length c] 24)).alloc (.cells #[.int .i64 k', .int .i64 n', .slice b ks'.length e0] 24) = W0 := ⟨_, rfl⟩
    have hbx := two_boxes w (.cells #[.int .i64 k, .int .i64 n, .slice a ks.length c] 24) (.cells #[.int .i64 k', .int .i64 n', .slice b ks'.length e0] 24)
    rw [hW0] at hbx
    obtain ⟨hx1, hx2, hs0, hb0⟩ := hbx
    have K44 := fun r (hr : r = true ↔ ks = ks') => equal_doc d d2 k n k' n' ks ks' a c b e0 W0 r hr (h.below hb0) (h'.below hb0) ih
    have HW0 : Hid ((w.alloc (.cells #[.int .i64 k, .int .i64 n, .slice a ks.length c] 24)).alloc (.cells #[.int .i64 k', .int .i64 n', .slice b ks'.length e0] 24) = W0) := hW0
    have HR : Hid (r = true ↔ (⟨k, n, ks⟩ : Ty) = ⟨k', n', ks'⟩) := hr
    clear h h' hr
    by_cases hk : k = k'
    · subst hk
      have bk : (k == k) = true := by simp
      by_cases hn : n = n'
      · subst hn
        have bn : (n == n) = true := by simp
        have K := K44 r (by rw [HR.out]; constructor; (intro e; exact congrArg Ty.kids e); (intro e; rw [e]))
        rw [← hW0] at K
        clear K44 hW0
        cases r
        · go_enter Try.func16, Try.ntmps16
          go_wp2_with (go_at_call 43; (with_reducible refine K.mono ?_); rintro e w1 ⟨rfl, hb1⟩; rw [HW0.out] at hb1)
          go_ret
          exact ⟨rfl, hb0.trans (hb1.mono hb0.size)⟩
        · go_enter Try.func16, Try.ntmps16
          go_wp2_with (go_at_call 43; (with_reducible refine K.mono ?_); rintro e w1 ⟨rfl, hb1⟩; rw [HW0.out] at hb1)
          go_ret
          exact ⟨rfl, hb0.trans (hb1.mono hb0.size)⟩
      · have bn : (n == n') = false := beq_eq_false_iff_ne.2 hn
        have HF : Hid (r = false) := same_false HR.out (fun e => hn (congrArg Ty.n e))
        clear hn K44 hW0
        go_enter Try.func16, Try.ntmps16
        go_wp2
        go_ret
        exact ⟨by rw [HF.out]; rfl, by rw [HW0.out]; exact hb0⟩
    · have bk : (k == k') = false := beq_eq_false_iff_ne.2 hk
      have HF : Hid (r = false) := same_false HR.out (fun e => hk (congrArg Ty.kind e))
      clear hk K44 hW0
      go_enter Try.func16, Try.ntmps16
      go_wp2
      go_ret
      exact ⟨by rw [HF.out]; rfl, by rw [HW0.out]; exact hb0⟩
theorem ares_doc (d d2 : Nat) (k n k' n' : Int) (ks ks' : List Ty) (a : Option Addr) (c : Nat) (b : Option Addr) (e0 : Nat) (w : World) (r : Bool) (hr : r = true ↔ ks = ks') (h : TyAt w (d + 1) ⟨k, n, ks⟩ a c) (h' : TyAt w (d2 + 1) ⟨k', n', ks'⟩ b e0) :
    Calls Try.prog 43 #[.slice a ks.length c, .slice b ks'.length e0] w fun e w' => e = .returned (.bool r) ∧ Below w.heap.size w w' := equal_doc d d2 k n k' n' ks ks' a c b e0 w r hr h h' (same_doc d)
end Go.Proofs.Ytbmgkgoghgdbhaa.Te
/- Types that lie in some blocks alone; lists of types. No conditions. -/
namespace Go.Proofs.Ytbmgkgoghgdbhaa.Te
open Go.RowKit

/-- a type lies in memory, all that is in it in blocks of which P holds -/
def TyP (P : Nat → Prop) (w : World) : Nat → Ty → Option Addr → Nat → Prop
  | 0, _, _, _ => False
  | d + 1, t, a, _ => i64B t.kind ∧ i64B t.n ∧ t.kids.length ≤ 140737488355328 ∧ (t.kids.length = 0 ∨ ∃ g off, a = some ⟨g, off, none⟩ ∧ g < w.heap.size ∧ P g ∧ ∀ j (h : j < t.kids.length), ∃ a' c', w.cell? ⟨g, off + j * 3, none⟩ = some (.int .i64 t.kids[j].kind) ∧ w.cell? ⟨g, off + j * 3 + 1, none⟩ = some (.int .i64 t.kids[j].n) ∧ w.cell? ⟨g, off + j * 3 + 2, none⟩ = some (.slice a' t.kids[j].kids.length c') ∧ TyP P w d t.kids[j] a' c')
theorem TyP.at {P : Nat → Prop} {w : World} : ∀ {d : Nat} {t : Ty} {a : Option Addr} {c : Nat}, TyP P w d t a c → TyAt w d t a c := by
  intro d
  induction d with
  | zero => intro t a c h; exact h.elim
  | succ d ih =>
    intro t a c h
    obtain ⟨h1, h2, h3, h⟩ := h
    refine ⟨h1, h2, h3, ?_⟩
    rcases h with h | ⟨g, off, ha, hg, _, h⟩
    · exact .inl h
    · refine .inr ⟨g, off, ha, hg, fun j hj => ?_⟩
      obtain ⟨a', c', c0, c1, c2, ht⟩ := h j hj
      exact ⟨a', c', c0, c1, c2, ih ht⟩
theorem TyAt.within {w : World} : ∀ {d : Nat} {t : Ty} {a : Option Addr} {c : Nat}, TyAt w d t a c → TyP (fun g => g < w.heap.size) w d t a c := by
  intro d
  induction d with
  | zero => intro t a c h; exact h.elim
  | succ d ih =>
    intro t a c h
    obtain ⟨h1, h2, h3, h⟩ := h
    refine ⟨h1, h2, h3, ?_⟩
    rcases h with h | ⟨g, off, ha, hg, h⟩
    · exact .inl h
    · refine .inr ⟨g, off, ha, hg, hg, fun j hj => ?_⟩
      obtain ⟨a', c', c0, c1, c2, ht⟩ := h j hj
      exact ⟨a', c', c0, c1, c2, ih ht⟩
theorem cell_same {W W' : World} {b q : Nat} (h : W'.heap[b]? = W.heap[b]?) : W'.cell? ⟨b, q, none⟩ = W.cell? ⟨b, q, none⟩ := by
  unfold World.cell?
  rw [h]
/-- carried over, and to other blocks -/
theorem TyP.keep {P Q : Nat → Prop} {w w' : World} (hs : w.heap.size ≤ w'.heap.size) (hk : ∀ g, g < w.heap.size → P g → Q g ∧ w'.heap[g]? = w.heap[g]?) : ∀ {d : Nat} {t : Ty} {a : Option Addr} {c : Nat}, TyP P w d t a c → TyP Q w' d t a c := by
  intro d
  induction d with
  | zero => intro t a c h; exact h.elim
  | succ d ih =>
    intro t a c h
    obtain ⟨h1, h2, h3, h⟩ := h
    refine ⟨h1, h2, h3, ?_⟩
    rcases h with h | ⟨g, off, ha, hg, hP, h⟩
    · exact .inl h
    · have q := hk g hg hP
      refine .inr ⟨g, off, ha, by omega, q.1, fun j hj => ?_⟩
      obtain ⟨a', c', c0, c1, c2, ht⟩ := h j hj
      exact ⟨a', c', (cell_same q.2).trans c0, (cell_same q.2).trans c1, (cell_same q.2).trans c2, ih ht⟩
theorem TyP.below {P : Nat → Prop} {w w' : World} (hb : Below w.heap.size w w') {d : Nat} {t : Ty} {a : Option Addr} {c : Nat} (h : TyP P w d t a c) : TyP P w' d t a c := h.keep hb.size (fun g hg hP => ⟨hP, hb.block g hg⟩)
theorem TyP.kid {P : Nat → Prop} {w : World} {d : Nat} {t : Ty} {a : Option Addr} {c : Nat} (h : TyP P w (d + 1) t a c) {j : Nat} (hj : j < t.kids.length) : ∃ g off a' c', a = some ⟨g, off, none⟩ ∧ g < w.heap.size ∧ P g ∧ w.cell? ⟨g, off + j * 3, none⟩ = some (.int .i64 t.kids[j].kind) ∧ w.cell? ⟨g, off + j * 3 + 1, none⟩ = some (.int .i64 t.kids[j].n) ∧ w.cell? ⟨g, off + j * 3 + 2, none⟩ = some (.slice a' t.kids[j].kids.length c') ∧ TyP P w d t.kids[j] a' c' := by
  obtain ⟨_, _, _, h | ⟨g, off, ha, hg, hP, h⟩⟩ := h
  · omega
  · obtain ⟨a', c', h⟩ := h j hj
    exact ⟨g, off, a', c', ha, hg, hP, h⟩
/-- more depth does no harm -/
theorem TyP.more {P : Nat → Prop} {w : World} : ∀ {d : Nat} {t : Ty} {a : Option Addr} {c : Nat}, TyP P w d t a c → TyP P w (d + 1) t a c := by
  intro d
  induction d with
  | zero => intro t a c h; exact h.elim
  | succ d ih =>
    intro t a c h
    obtain ⟨h1, h2, h3, h⟩ := h
    refine ⟨h1, h2, h3, ?_⟩
    rcases h with h | ⟨g, off, ha, hg, hP, h⟩
    · exact .inl h
    · refine .inr ⟨g, off, ha, hg, hP, fun j hj => ?_⟩
      obtain ⟨a', c', c0, c1, c2, ht⟩ := h j hj
      exact ⟨a', c', c0, c1, c2, ih ht⟩
theorem TyP.upto {P : Nat → Prop} {w : World} {d e : Nat} {t : Ty} {a : Option Addr} {c : Nat} (h : TyP P w d t a c) (hd : d ≤ e) : TyP P w e t a c := by
  induction e with
  | zero =>
    have : d = 0 := by omega
    subst this
    exact h
  | succ e ih =>
    by_cases h' : d ≤ e
    · exact (ih h').more
    · have : d = e + 1 := by omega
      subst this
      exact h

/-- a list of types, to be read -/
def TysAt (w : World) (d : Nat) (l : List Ty) (a : Option Addr) (c : Nat) : Prop := TyAt w (d + 1) ⟨0, 0, l⟩ a c
end Go.Proofs.Ytbmgkgoghgdbhaa.Te
