/- Claims in plain words; how they and lists of numbers lie in memory, to be read; isLiteral, both Checks of a claim, all and some. No conditions. -/
import Derived.Test.YtcnanbimpajonaaProg
import Derived.WalkKit
import Derived.WalkSpells
import Derived.WalkLawsBesides
import Derived.BigCall
import Derived.BigQuiet
namespace Go.Proofs.Ytcnanbimpajonaa.Cl
open Go.RowKit

/-- a slice that is read: n elements of so many cells each -/
def Row (w : World) (v : Value) (size n : Nat) (xs : List Value) : Prop :=
  xs.length = n * size ∧ ∃ a cap, v = .slice a n cap ∧ n ≤ 140737488355328 ∧ (n = 0 ∨ ∃ b off, a = some ⟨b, off, none⟩ ∧ b < w.heap.size ∧ ∀ j u, xs[j]? = some u → w.cell? ⟨b, off + j, none⟩ = some u)
theorem Row.below {w w' : World} {v : Value} {size n : Nat} {xs : List Value} (h : Row w v size n xs) (hb : Below w.heap.size w w') : Row w' v size n xs := by
  obtain ⟨hl, a, cap, hv, hn, h⟩ := h
  refine ⟨hl, a, cap, hv, hn, ?_⟩
  rcases h with h | ⟨b, off, ha, hlt, hc⟩
  · exact .inl h
  · exact .inr ⟨b, off, ha, Nat.lt_of_lt_of_le hlt hb.size, fun j u hu => (hb.cell (p := ⟨b, off + j, none⟩) hlt).trans (hc j u hu)⟩
theorem Row.alloc {w : World} {v : Value} {size n : Nat} {xs : List Value} (h : Row w v size n xs) (o : Obj) : Row (w.alloc o) v size n xs := h.below ((Below.refl _ w).alloc (Nat.le_refl _) o)

/-- a claim: is it of some; A; B -/
abbrev C := Bool × Int × Int
def vc (c : C) : Value := .agg #[.bool c.1, .int .i64 c.2.1, .int .i64 c.2.2]
def cc (c : C) : List Value := [.bool c.1, .int .i64 c.2.1, .int .i64 c.2.2]
def ccs (l : List C) : List Value := l.flatMap cc
theorem ccs_length (l : List C) : (ccs l).length = l.length * 3 := by
  induction l with
  | nil => rfl
  | cons a l ih => simp [ccs, cc] at ih ⊢; omega
theorem ccs_at (l : List C) (k : Nat) (h : k < l.length) : (ccs l)[k * 3]? = some (.bool (l[k]).1) ∧ (ccs l)[k * 3 + 1]? = some (.int .i64 (l[k]).2.1) ∧ (ccs l)[k * 3 + 2]? = some (.int .i64 (l[k]).2.2) := by
  induction l generalizing k with
  | nil => simp at h
  | cons a l ih =>
    cases k with
    | zero => simp [ccs, cc]
    | succ k =>
      have := ih k (by simpa using h)
      have e : ∀ j, (ccs (a :: l))[(k + 1) * 3 + j]? = (ccs l)[k * 3 + j]? := by
        intro j
        have : (k + 1) * 3 + j = (k * 3 + j) + 3 := by omega
        rw [this]
        simp [ccs, cc]
      exact ⟨(e 0).trans this.1, (e 1).trans this.2.1, (e 2).trans this.2.2⟩

/-- K1: a literal -/
def litB (n : Int) : Bool := decide (n ≠ 0 ∧ -6 ≤ n ∧ n ≤ 6)
def okC (c : C) : Bool := litB c.2.1 && litB c.2.2
def ckC (c : C) : Int := if okC c then 0 else 3

set_option maxHeartbeats 1000000 in
theorem lit_any (n : Int) (w : World) : Calls Try.prog 38 #[.int .i64 n] w fun e w' => e = .returned (.bool (litB n)) ∧ w' = w := by
  by_cases h0 : n = 0
  · subst h0
    have e : litB 0 = false := by decide
    rw [e]
    go_enter Try.func38, Try.ntmps38
    go_wp2
    go_ret
    exact ⟨rfl, rfl⟩
  · have hne : (n != 0) = true := by simpa using h0
    by_cases h1 : -6 ≤ n
    · by_cases h2 : n ≤ 6
      · have e : litB n = true := by unfold litB; simp; omega
        rw [e]
        go_enter Try.func38, Try.ntmps38
        go_wp2
        go_ret
        exact ⟨by first | rfl | rw [hne], rfl⟩
      · have e : litB n = false := by unfold litB; simp; omega
        rw [e]
        go_enter Try.func38, Try.ntmps38
        go_wp2
        go_ret
        exact ⟨rfl, rfl⟩
    · have e : litB n = false := by unfold litB; simp; omega
      rw [e]
      go_enter Try.func38, Try.ntmps38
      go_wp2
      go_ret
      exact ⟨rfl, rfl⟩

set_option maxHeartbeats 1000000 in
theorem check_any (c : C) (w : World) : Calls Try.prog 23 #[vc c] w fun e w' => e = .returned (.int .i64 (ckC c)) ∧ Below w.heap.size w w' := by
  obtain ⟨s, a, b⟩ := c
  unfold vc
  cases q1 : litB a <;> cases q2 : litB b
  all_goals
    have ek : ckC (s, a, b) = if litB a && litB b then 0 else 3 := rfl
    rw [q1, q2] at ek
    rw [ek]
    clear ek
    go_enter Try.func23, Try.ntmps23
    go_wp2_with (go_at_call 38; refine (lit_any _ _).mono ?_; rintro e w' ⟨rfl, rfl⟩)
    go_ret
    exact ⟨rfl, (Below.refl _ _).alloc (Nat.le_refl _) _⟩

theorem row24 : (Try.prog.info? 24).map (·.size) = some 3 := by kernel_rfl
set_option maxHeartbeats 1000000 in
theorem all_any (a b : Int) (w : World) : Calls Try.prog 30 #[.int .i64 a, .int .i64 b] w fun e w' => e = .returned (.agg #[.bool false, .int .i64 a, .int .i64 b]) ∧ w' = w.alloc (.cells #[.bool false, .int .i64 a, .int .i64 b] 24) := by
  go_enter Try.func30, Try.ntmps30
  go_wp2
  exact bodyPost_ret (results_cell_row rfl _ _ w.heap.size 24 _ (0, 0) _ rfl (heap_alloc_new _ _) Try.underlying24 rfl row24) rfl ⟨rfl, rfl⟩
set_option maxHeartbeats 1000000 in
theorem some_any (a b : Int) (w : World) : Calls Try.prog 47 #[.int .i64 a, .int .i64 b] w fun e w' => e = .returned (.agg #[.bool true, .int .i64 a, .int .i64 b]) ∧ w' = w.alloc (.cells #[.bool true, .int .i64 a, .int .i64 b] 24) := by
  go_enter Try.func47, Try.ntmps47
  go_wp2
  exact bodyPost_ret (results_cell_row rfl _ _ w.heap.size 24 _ (0, 0) _ rfl (heap_alloc_new _ _) Try.underlying24 rfl row24) rfl ⟨rfl, rfl⟩

theorem ck_bad {s : Bool} {a b : Int} (h : ¬ ((a ≠ 0 ∧ -6 ≤ a ∧ a ≤ 6) ∧ (b ≠ 0 ∧ -6 ≤ b ∧ b ≤ 6))) : ckC (s, a, b) = 3 := by
  unfold ckC okC litB
  rw [if_neg (by simpa using h)]
theorem ck_ok {s : Bool} {a b : Int} (h : (a ≠ 0 ∧ -6 ≤ a ∧ a ≤ 6) ∧ (b ≠ 0 ∧ -6 ≤ b ∧ b ≤ 6)) : ckC (s, a, b) = 0 := by
  unfold ckC okC litB
  rw [if_pos (by simpa using h)]
set_option maxHeartbeats 2000000 in
/-- the document's CheckClaim -/
theorem ref_any (c : C) (w : World) : Calls Try.prog 12 #[vc c] w fun e w' => e = .returned (.int .i64 (ckC c)) ∧ Below w.heap.size w w' := by
  obtain ⟨s, a, b⟩ := c
  unfold vc
  by_cases h : (a ≠ 0 ∧ -6 ≤ a ∧ a ≤ 6) ∧ (b ≠ 0 ∧ -6 ≤ b ∧ b ≤ 6)
  · rw [ck_ok h]
    obtain ⟨⟨h1, h2, h3⟩, h4, h5, h6⟩ := h
    have g1 : (a == 0) = false := by simpa using h1
    have g4 : (b == 0) = false := by simpa using h4
    go_enter Try.func12, Try.ntmps12
    go_wp2
    go_ret
    exact ⟨rfl, (Below.refl _ _).alloc (Nat.le_refl _) _⟩
  · rw [ck_bad h]
    have HH : Hid _ := h
    clear h
    by_cases h1 : a = 0
    · subst h1
      go_enter Try.func12, Try.ntmps12
      go_wp2
      go_ret
      exact ⟨rfl, (Below.refl _ _).alloc (Nat.le_refl _) _⟩
    have g1 : (a == 0) = false := by simpa using h1
    by_cases h2 : a < -6
    · go_enter Try.func12, Try.ntmps12
      go_wp2
      go_ret
      exact ⟨rfl, (Below.refl _ _).alloc (Nat.le_refl _) _⟩
    by_cases h3 : 6 < a
    · go_enter Try.func12, Try.ntmps12
      go_wp2
      go_ret
      exact ⟨rfl, (Below.refl _ _).alloc (Nat.le_refl _) _⟩
    by_cases h4 : b = 0
    · subst h4
      go_enter Try.func12, Try.ntmps12
      go_wp2
      go_ret
      exact ⟨rfl, (Below.refl _ _).alloc (Nat.le_refl _) _⟩
    have g4 : (b == 0) = false := by simpa using h4
    by_cases h5 : b < -6
    · go_enter Try.func12, Try.ntmps12
      go_wp2
      go_ret
      exact ⟨rfl, (Below.refl _ _).alloc (Nat.le_refl _) _⟩
    by_cases h6 : 6 < b
    · go_enter Try.func12, Try.ntmps12
      go_wp2
      go_ret
      exact ⟨rfl, (Below.refl _ _).alloc (Nat.le_refl _) _⟩
    · exact absurd ⟨⟨h1, by omega, by omega⟩, h4, by omega, by omega⟩ HH.out
end Go.Proofs.Ytcnanbimpajonaa.Cl
