/- How machines and lists of numbers lie in memory, to be read; what Check says of a machine, in plain words. No conditions. -/
import Derived.Test.YtfjocafepigijaaDoorProg
import Derived.WalkKit
import Derived.WalkSpells
import Derived.WalkLawsBesides
import Derived.BigCall
namespace Go.Proofs.YtfjocafepigijaaDoor.Mv
open Go.RowKit

/-- a slice that is read: n elements of so many cells each -/
def Row (w : World) (v : Value) (size n : Nat) (xs : List Value) : Prop :=
  xs.length = n * size ∧ ∃ a cap, v = .slice a n cap ∧ n ≤ 140737488355328 ∧ (n = 0 ∨ ∃ b off, a = some ⟨b, off, none⟩ ∧ b < w.heap.size ∧ ∀ j u, xs[j]? = some u → w.cell? ⟨b, off + j, none⟩ = some u)

theorem Row.below {w w' : World} {v : Value} {size n : Nat} {xs : List Value} (h : Row w v size n xs) (hb : Below w.heap.size w w') : Row w' v size n xs := by
  obtain ⟨hl, a, cap, hv, hn, h⟩ := h
  refine ⟨hl, a, cap, hv, hn, ?_⟩
  rcases h with h | ⟨b, off, ha, hlt, hc⟩
  · exact .inl h
  · exact .inr ⟨b, off, ha, Nat.lt_of_lt_of_le hlt hb.size, fun j u hu => (hb.cell (p := ⟨b, off + j, none⟩) hlt).trans (hc j u hu)⟩
/-- a machine: states; arcs (from, to, in, out, cost); finals (state, cost) -/
structure M where
  st : Int
  arcs : List (Int × Int × Int × Int × Int)
  fins : List (Int × Int)
def ac (a : Int × Int × Int × Int × Int) : List Value := [.int .i64 a.1, .int .i64 a.2.1, .int .i64 a.2.2.1, .int .i64 a.2.2.2.1, .int .i64 a.2.2.2.2]
def acs (l : List (Int × Int × Int × Int × Int)) : List Value := l.flatMap ac
def fc (a : Int × Int) : List Value := [.int .i64 a.1, .int .i64 a.2]
def fcs (l : List (Int × Int)) : List Value := l.flatMap fc

theorem acs_length (l : List (Int × Int × Int × Int × Int)) : (acs l).length = l.length * 5 := by
  induction l with
  | nil => rfl
  | cons a l ih => simp [acs, ac] at ih ⊢; omega
theorem fcs_length (l : List (Int × Int)) : (fcs l).length = l.length * 2 := by
  induction l with
  | nil => rfl
  | cons a l ih => simp [fcs, fc] at ih ⊢; omega
theorem acs_at (l : List (Int × Int × Int × Int × Int)) (k : Nat) (h : k < l.length) :
    (acs l)[k * 5]? = some (.int .i64 (l[k]).1) ∧ (acs l)[k * 5 + 1]? = some (.int .i64 (l[k]).2.1) ∧ (acs l)[k * 5 + 2]? = some (.int .i64 (l[k]).2.2.1) ∧ (acs l)[k * 5 + 3]? = some (.int .i64 (l[k]).2.2.2.1) ∧ (acs l)[k * 5 + 4]? = some (.int .i64 (l[k]).2.2.2.2) := by
  induction l generalizing k with
  | nil => simp at h
  | cons a l ih =>
    cases k with
    | zero => simp [acs, ac]
    | succ k =>
      have := ih k (by simpa using h)
      have e : ∀ j, (acs (a :: l))[(k + 1) * 5 + j]? = (acs l)[k * 5 + j]? := by
        intro j
        have : (k + 1) * 5 + j = (k * 5 + j) + 5 := by omega
        rw [this]
        simp [acs, ac]
      exact ⟨(e 0).trans this.1, (e 1).trans this.2.1, (e 2).trans this.2.2.1, (e 3).trans this.2.2.2.1, (e 4).trans this.2.2.2.2⟩
theorem fcs_at (l : List (Int × Int)) (k : Nat) (h : k < l.length) : (fcs l)[k * 2]? = some (.int .i64 (l[k]).1) ∧ (fcs l)[k * 2 + 1]? = some (.int .i64 (l[k]).2) := by
  induction l generalizing k with
  | nil => simp at h
  | cons a l ih =>
    cases k with
    | zero => simp [fcs, fc]
    | succ k =>
      have := ih k (by simpa using h)
      have e : ∀ j, (fcs (a :: l))[(k + 1) * 2 + j]? = (fcs l)[k * 2 + j]? := by
        intro j
        have : (k + 1) * 2 + j = (k * 2 + j) + 2 := by omega
        rw [this]
        simp [fcs, fc]
      exact ⟨(e 0).trans this.1, (e 1).trans this.2⟩

/-- a machine, handed in by value -/
def IsM (w : World) (v : Value) (m : M) : Prop := ∃ va vf, v = .agg #[.int .i64 m.st, va, vf] ∧ Row w va 5 m.arcs.length (acs m.arcs) ∧ Row w vf 2 m.fins.length (fcs m.fins)
theorem IsM.below {w w' : World} {v : Value} {m : M} (h : IsM w v m) (hb : Below w.heap.size w w') : IsM w' v m := by
  obtain ⟨va, vf, hv, h1, h2⟩ := h
  exact ⟨va, vf, hv, h1.below hb, h2.below hb⟩

/-- B1, in plain words -/
def arcB (st : Int) (a : Int × Int × Int × Int × Int) : Bool :=
  decide (0 ≤ a.1 ∧ a.1 < st ∧ 0 ≤ a.2.1 ∧ a.2.1 < st ∧ 0 ≤ a.2.2.1 ∧ a.2.2.1 ≤ 60 ∧ 0 ≤ a.2.2.2.1 ∧ a.2.2.2.1 ≤ 60 ∧ 0 ≤ a.2.2.2.2 ∧ a.2.2.2.2 ≤ 1000000)
def finB (st : Int) (f : Int × Int) : Bool := decide (0 ≤ f.1 ∧ f.1 < st ∧ 0 ≤ f.2 ∧ f.2 ≤ 1000000)
def sizeB (m : M) : Bool := decide (1 ≤ m.st ∧ m.st ≤ 3000 ∧ (m.arcs.length : Int) ≤ 20000 ∧ (m.fins.length : Int) ≤ m.st)
/-- no state is final twice among the first k -/
def onceK (m : M) (k : Nat) : Prop := ∀ i j (hi : i < m.fins.length) (hj : j < m.fins.length), i < j → j < k → (m.fins[i]).1 ≠ (m.fins[j]).1
def checkP (m : M) (e : Int) : Prop :=
  (sizeB m = false ∧ e = 7) ∨
  (sizeB m = true ∧ (∃ k, ∃ h : k < m.arcs.length, arcB m.st m.arcs[k] = false) ∧ e = 3) ∨
  (sizeB m = true ∧ (∀ k (h : k < m.arcs.length), arcB m.st m.arcs[k] = true) ∧ (∃ k, ∃ h : k < m.fins.length, finB m.st m.fins[k] = false) ∧ e = 3) ∨
  (sizeB m = true ∧ (∀ k (h : k < m.arcs.length), arcB m.st m.arcs[k] = true) ∧ (∀ k (h : k < m.fins.length), finB m.st m.fins[k] = true) ∧ ¬ onceK m m.fins.length ∧ e = 6) ∨
  (sizeB m = true ∧ (∀ k (h : k < m.arcs.length), arcB m.st m.arcs[k] = true) ∧ (∀ k (h : k < m.fins.length), finB m.st m.fins[k] = true) ∧ onceK m m.fins.length ∧ e = 0)
theorem checkP_one {m : M} {e e' : Int} (h : checkP m e) (h' : checkP m e') : e = e' := by
  rcases h with ⟨a, r⟩ | ⟨a, ⟨k, hk, b⟩, r⟩ | ⟨a, b, ⟨k, hk, c⟩, r⟩ | ⟨a, b, c, d, r⟩ | ⟨a, b, c, d, r⟩ <;>
  rcases h' with ⟨a', r'⟩ | ⟨a', ⟨k', hk', b'⟩, r'⟩ | ⟨a', b', ⟨k', hk', c'⟩, r'⟩ | ⟨a', b', c', d', r'⟩ | ⟨a', b', c', d', r'⟩ <;>
  first
  | omega
  | (rw [a] at a'; exact absurd a' (by decide))
  | (have q := b' k hk; rw [b] at q; exact absurd q (by decide))
  | (have q := b k' hk'; rw [b'] at q; exact absurd q (by decide))
  | (have q := c' k hk; rw [c] at q; exact absurd q (by decide))
  | (have q := c k' hk'; rw [c'] at q; exact absurd q (by decide))
  | exact absurd d' d
  | exact absurd d d'
end Go.Proofs.YtfjocafepigijaaDoor.Mv
