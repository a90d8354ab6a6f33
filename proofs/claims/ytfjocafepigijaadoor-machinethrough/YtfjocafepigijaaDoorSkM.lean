/- A step of a drawn region, with what each step gives alike; three laws of lists under short names. No conditions. -/
import Derived.Deep.RegionHeld
import Derived.Test.YtfjocafepigijaaDoorProg
import Derived.WalkKit
import Derived.WalkSpells
import Derived.WalkLawsBesides
import Derived.BigCall
import Derived.Deep.LoopGhost
import Derived.Deep.QuietTactic
import Derived.BigQuiet
namespace Go.Proofs.YtfjocafepigijaaDoor

theorem tk {P : Program} {ops : Array Oper} {Q : Exit → Act → World → Prop} {md : Region.Mode} {S : World → Prop} {v : Value} {fuel : Nat} {listed : Array Bool} {a : Act} {w : World} (i : Nat) (oi : Oper) (hw : Region.wanted oi (yielded ops a.tmps) = true) (hy : ∀ w, S w → (execOp a.eval oi).run P w = .ok (.value v) w)
    (h : wpAnyH P md ops Q S fuel (listed.setIfInBounds i true) (a.put oi.dst v) w) (hi : ops[i]? = some oi := by rfl) (hs : Region.noSelect ops = true := by kernel_rfl) (hf : Region.free md ops listed i = true := by kernel_rfl) (hr : (Region.ready md ops listed).contains i = true := by kernel_rfl)
    (hQ : ∀ c a w, Q (.panic c) (a.put oi.dst v) w → Q (.panic c) a w := by exact fun _ _ _ h => h) (hS : S w := by assumption) : wpAnyH P md ops Q S (fuel + 1) listed a w :=
  wpAnyH_take hi hs hf hr hQ (.inl ⟨hw, hy⟩) hS h
theorem zS0 {α : Type _} (l : List α) (i : Nat) (a : α) : l.toArray.setIfInBounds i a = (l.set i a).toArray := List.setIfInBounds_toArray l i a
theorem zS1 {α : Type _} (x : α) (xs : List α) (a : α) : (x :: xs).set 0 a = a :: xs := rfl
theorem zS2 {α : Type _} (x : α) (xs : List α) (n : Nat) (a : α) : (x :: xs).set (n + 1) a = x :: xs.set n a := rfl
end Go.Proofs.YtfjocafepigijaaDoor
/- How machines and lists of numbers lie in memory, to be read; what Check says of a machine, in plain words. No conditions. -/
namespace Go.Proofs.YtfjocafepigijaaDoor.Mv
open Go.RowKit

/-- a slice that is read: n elements of so many cells each -/
def Row (w : World) (v : Value) (size n : Nat) (xs : List Value) : Prop :=
 xs.length = n * size ∧ ∃ a cap, v = .slice a n cap ∧ n ≤ 140737488355328 ∧ (n = 0 ∨ ∃ b off, a = some ⟨b, off, none⟩ ∧ b < w.heap.size ∧ ∀ j u, xs[j]? = some u → w.cell? ⟨b, off + j, none⟩ = some u)

theorem Row.below {w w' : World} {v : Value} {size n : Nat} {xs : List Value} (h : Row w v size n xs) (hb : Below w.heap.size w w') : Row w' v size n xs := by
 obtain ⟨hl, a, cap, hv, hn, h⟩ := h
 refine ⟨hl, a, cap, hv, hn, ?_⟩
 rcases h with h | ⟨b, off, ha, hlt, hc⟩
 ·exact .inl h
 ·exact .inr ⟨b, off, ha, Nat.lt_of_lt_of_le hlt hb.size, fun j u hu => (hb.cell (p := ⟨b, off + j, none⟩) hlt).trans (hc j u hu)⟩
/-- a machine: states; arcs (from, to, in, out, cost); finals (state, cost) -/
structure M where
 st : Int
 arcs : List (Int × Int × Int × Int × Int)
 fins : List (Int × Int)
def ac (a : Int × Int × Int × Int × Int) : List Value := [.int .i64 a.1, .int .i64 a.2.1, .int .i64 a.2.2.1, .int .i64 a.2.2.2.1, .int .i64 a.2.2.2.2]
def acs (l : List (Int × Int × Int × Int × Int)) : List Value := l.flatMap ac
def fc (a : Int × Int) : List Value := [.int .i64 a.1, .int .i64 a.2]
def fcs (l : List (Int × Int)) : List Value := l.flatMap fc

theorem acs_length (l : List (Int × Int × Int × Int × Int)) : (acs l).length = l.length * 5 := by
 induction l with
 | nil => rfl
 | cons a l ih => simp [acs, ac] at ih ⊢; omega
theorem fcs_length (l : List (Int × Int)) : (fcs l).length = l.length * 2 := by
 induction l with
 | nil => rfl
 | cons a l ih => simp [fcs, fc] at ih ⊢; omega
theorem acs_at (l : List (Int × Int × Int × Int × Int)) (k : Nat) (h : k < l.length) :
  (acs l)[k * 5]? = some (.int .i64 (l[k]).1) ∧ (acs l)[k * 5 + 1]? = some (.int .i64 (l[k]).2.1) ∧ (acs l)[k * 5 + 2]? = some (.int .i64 (l[k]).2.2.1) ∧ (acs l)[k * 5 + 3]? = some (.int .i64 (l[k]).2.2.2.1) ∧ (acs l)[k * 5 + 4]? = some (.int .i64 (l[k]).2.2.2.2) := by
 induction l generalizing k with
 | nil => simp at h
 | cons a l ih =>
  cases k with
  | zero => simp [acs, ac]
  | succ k =>
   have := ih k (by simpa using h)
   have e : ∀ j, (acs (a :: l))[(k + 1) * 5 + j]? = (acs l)[k * 5 + j]? := by
    intro j
    have : (k + 1) * 5 + j = (k * 5 + j) + 5 := by omega
    rw [this]
    simp [acs, ac]
   exact ⟨(e 0).trans this.1, (e 1).trans this.2.1, (e 2).trans this.2.2.1, (e 3).trans this.2.2.2.1, (e 4).trans this.2.2.2.2⟩
theorem fcs_at (l : List (Int × Int)) (k : Nat) (h : k < l.length) : (fcs l)[k * 2]? = some (.int .i64 (l[k]).1) ∧ (fcs l)[k * 2 + 1]? = some (.int .i64 (l[k]).2) := by
 induction l generalizing k with
 | nil => simp at h
 | cons a l ih =>
  cases k with
  | zero => simp [fcs, fc]
  | succ k =>
   have := ih k (by simpa using h)
   have e : ∀ j, (fcs (a :: l))[(k + 1) * 2 + j]? = (fcs l)[k * 2 + j]? := by
    intro j
    have : (k + 1) * 2 + j = (k * 2 + j) + 2 := by omega
    rw [this]
    simp [fcs, fc]
   exact ⟨(e 0).trans this.1, (e 1).trans this.2⟩

/-- a machine, handed in by value -/
def IsM (w : World) (v : Value) (m : M) : Prop := ∃ va vf, v = .agg #[.int .i64 m.st, va, vf] ∧ Row w va 5 m.arcs.length (acs m.arcs) ∧ Row w vf 2 m.fins.length (fcs m.fins)
theorem IsM.below {w w' : World} {v : Value} {m : M} (h : IsM w v m) (hb : Below w.heap.size w w') : IsM w' v m := by
 obtain ⟨va, vf, hv, h1, h2⟩ := h
 exact ⟨va, vf, hv, h1.below hb, h2.below hb⟩

/-- B1, in plain words -/
def arcB (st : Int) (a : Int × Int × Int × Int × Int) : Bool :=
 decide (0 ≤ a.1 ∧ a.1 < st ∧ 0 ≤ a.2.1 ∧ a.2.1 < st ∧ 0 ≤ a.2.2.1 ∧ a.2.2.1 ≤ 60 ∧ 0 ≤ a.2.2.2.1 ∧ a.2.2.2.1 ≤ 60 ∧ 0 ≤ a.2.2.2.2 ∧ a.2.2.2.2 ≤ 1000000)
def finB (st : Int) (f : Int × Int) : Bool := decide (0 ≤ f.1 ∧ f.1 < st ∧ 0 ≤ f.2 ∧ f.2 ≤ 1000000)
def sizeB (m : M) : Bool := decide (1 ≤ m.st ∧ m.st ≤ 3000 ∧ (m.arcs.length : Int) ≤ 20000 ∧ (m.fins.length : Int) ≤ m.st)
/-- no state is final twice among the first k -/
def onceK (m : M) (k : Nat) : Prop := ∀ i j (hi : i < m.fins.length) (hj : j < m.fins.length), i < j → j < k → (m.fins[i]).1 ≠ (m.fins[j]).1
def checkP (m : M) (e : Int) : Prop :=
 (sizeB m = false ∧ e = 7) ∨
 (sizeB m = true ∧ (∃ k, ∃ h : k < m.arcs.length, arcB m.st m.arcs[k] = false) ∧ e = 3) ∨
 (sizeB m = true ∧ (∀ k (h : k < m.arcs.length), arcB m.st m.arcs[k] = true) ∧ (∃ k, ∃ h : k < m.fins.length, finB m.st m.fins[k] = false) ∧ e = 3) ∨
 (sizeB m = true ∧ (∀ k (h : k < m.arcs.length), arcB m.st m.arcs[k] = true) ∧ (∀ k (h : k < m.fins.length), finB m.st m.fins[k] = true) ∧ ¬ onceK m m.fins.length ∧ e = 6) ∨
 (sizeB m = true ∧ (∀ k (h : k < m.arcs.length), arcB m.st m.arcs[k] = true) ∧ (∀ k (h : k < m.fins.length), finB m.st m.fins[k] = true) ∧ onceK m m.fins.length ∧ e = 0)
theorem checkP_one {m : M} {e e' : Int} (h : checkP m e) (h' : checkP m e') : e = e' := by
 rcases h with ⟨a, r⟩ | ⟨a, ⟨k, hk, b⟩, r⟩ | ⟨a, b, ⟨k, hk, c⟩, r⟩ | ⟨a, b, c, d, r⟩ | ⟨a, b, c, d, r⟩ <;>
 rcases h' with ⟨a', r'⟩ | ⟨a', ⟨k', hk', b'⟩, r'⟩ | ⟨a', b', ⟨k', hk', c'⟩, r'⟩ | ⟨a', b', c', d', r'⟩ | ⟨a', b', c', d', r'⟩ <;>
 first
 | omega
 | (rw [a] at a'; exact absurd a' (by decide))
 | (have q := b' k hk; rw [b] at q; exact absurd q (by decide))
 | (have q := b k' hk'; rw [b'] at q; exact absurd q (by decide))
 | (have q := c' k hk; rw [c] at q; exact absurd q (by decide))
 | (have q := c k' hk'; rw [c'] at q; exact absurd q (by decide))
 | exact absurd d' d
 | exact absurd d d'
end Go.Proofs.YtfjocafepigijaaDoor.Mv
/- Plain facts on walks of a machine and their least cost: a table of costs that no arc betters is the table of the least. No conditions beyond that the machine is right. -/
namespace Go.Proofs.YtfjocafepigijaaDoor.Wk
open Mv

def dear : Nat := 1152921504606846976

/-- what an arc reads and writes at a place of both texts, and the place behind -/
def Move (inn out : List Int) (told : Bool) (a : Int × Int × Int × Int × Int) (i j i' j' : Nat) : Prop :=
 ((a.2.2.1 = 0 ∧ i' = i) ∨ (0 < a.2.2.1 ∧ inn[i]? = some a.2.2.1 ∧ i' = i + 1)) ∧
 (((a.2.2.2.1 = 0 ∨ told = false) ∧ j' = j) ∨ (0 < a.2.2.2.1 ∧ told = true ∧ out[j]? = some a.2.2.2.1 ∧ j' = j + 1))

/-- a walk of so many arcs comes to a state at a place of both texts, for so much -/
def ReachN (m : M) (inn out : List Int) (told : Bool) : Nat → Nat → Nat → Nat → Nat → Prop
 | 0, s, i, j, c => s = 0 ∧ i = 0 ∧ j = 0 ∧ c = 0
 | t + 1, s', i', j', c' => ∃ s i j c x, ∃ h : x < m.arcs.length, ReachN m inn out told t s i j c ∧ (m.arcs[x]).1 = (s : Int) ∧ (m.arcs[x]).2.1 = (s' : Int) ∧ Move inn out told m.arcs[x] i j i' j' ∧ (c' : Int) = c + (m.arcs[x]).2.2.2.2
def Reach (m : M) (inn out : List Int) (told : Bool) (s i j c : Nat) : Prop := ∃ t, ReachN m inn out told t s i j c

def cols (out : List Int) (told : Bool) : Nat := if told then out.length + 1 else 1
def idx (n k s i j : Nat) : Nat := (s * n + i) * k + j
theorem idx_lt {S n k s i j : Nat} (hs : s < S) (hi : i < n) (hj : j < k) : idx n k s i j < S * n * k := by
 unfold idx
 have h1 : s * n + i + 1 ≤ S * n := by
  have : (s + 1) * n ≤ S * n := Nat.mul_le_mul_right n hs
  rw [Nat.add_mul] at this
  omega
 have h2 : (s * n + i + 1) * k ≤ S * n * k := Nat.mul_le_mul_right k h1
 rw [Nat.add_mul (s * n + i) 1 k] at h2
 omega
theorem pair_inj {n a b i j : Nat} (hi : i < n) (hj : j < n) (h : a * n + i = b * n + j) : a = b ∧ i = j := by
 have h1 : (a * n + i) / n = a := by rw [Nat.mul_comm, Nat.mul_add_div (by omega), Nat.div_eq_of_lt hi]; omega
 have h2 : (b * n + j) / n = b := by rw [Nat.mul_comm, Nat.mul_add_div (by omega), Nat.div_eq_of_lt hj]; omega
 rw [h] at h1
 have e : a = b := by omega
 subst e
 exact ⟨rfl, by omega⟩
theorem idx_inj {n k s i j s' i' j' : Nat} (hi : i < n) (hj : j < k) (hi' : i' < n) (hj' : j' < k) (h : idx n k s i j = idx n k s' i' j') : s = s' ∧ i = i' ∧ j = j' := by
 unfold idx at h
 obtain ⟨h1, h2⟩ := pair_inj hj hj' h
 obtain ⟨h3, h4⟩ := pair_inj hi hi' h1
 exact ⟨h3, h4, h2⟩

theorem Move.bd {inn out : List Int} {told : Bool} {a : Int × Int × Int × Int × Int} {i j i' j' : Nat} (h : Move inn out told a i j i' j') (hi : i < inn.length + 1) (hj : j < cols out told) : i' < inn.length + 1 ∧ j' < cols out told := by
 obtain ⟨h1, h2⟩ := h
 constructor
 ·rcases h1 with ⟨_, rfl⟩ | ⟨_, h, rfl⟩
  ·exact hi
  ·have := (List.getElem?_eq_some_iff.1 h).1
   omega
 ·rcases h2 with ⟨_, rfl⟩ | ⟨_, ht, h, rfl⟩
  ·exact hj
  ·have := (List.getElem?_eq_some_iff.1 h).1
   unfold cols
   rw [if_pos ht]
   omega

/-- what the table has at a place -/
def val (B : List Nat) (q : Nat) : Nat := B.getD q dear
theorem val_set (B : List Nat) (q v r : Nat) (hq : q < B.length) : val (B.set q v) r = if q = r then v else val B r := by
 unfold val
 rw [List.getD_eq_getElem?_getD, List.getD_eq_getElem?_getD, List.getElem?_set]
 split
 ·simp
 ·rfl
def cnt (B : List Nat) : Nat := B.countP fun x => decide (x < dear)
theorem cnt_set (B : List Nat) (q v : Nat) (hq : q < B.length) (hv : v < dear) : (val B q < dear → cnt (B.set q v) = cnt B) ∧ (¬ val B q < dear → cnt (B.set q v) = cnt B + 1) := by
 have e : val B q = B[q] := by unfold val; simp [hq]
 unfold cnt
 rw [List.countP_set hq, e]
 constructor
 ·intro h
  have hp : 0 < B.countP (fun x => decide (x < dear)) := List.countP_pos_iff.2 ⟨B[q], List.getElem_mem hq, by simpa using h⟩
  simp [h, hv]
  omega
 ·intro h
  simp [h, hv]
theorem cnt_le (B : List Nat) : cnt B ≤ B.length := List.countP_le_length
theorem sum_set (B : List Nat) (q v : Nat) (hq : q < B.length) : (B.set q v).sum + val B q = B.sum + v := by
 induction B generalizing q with
 | nil => simp at hq
 | cons a B ih =>
  cases q with
  | zero => simp [val]; omega
  | succ q =>
   have := ih q (by simpa using hq)
   simp [val] at this ⊢
   omega

/-- a table that is on its way: what it has is the cost of a walk -/
structure Inv (m : M) (inn out : List Int) (told : Bool) (S : Nat) (B : List Nat) : Prop where
 len : B.length = S * (inn.length + 1) * cols out told
 top : ∀ q, val B q ≤ dear
 zero : val B 0 = 0
 real : ∀ s i j, s < S → i < inn.length + 1 → j < cols out told → val B (idx (inn.length + 1) (cols out told) s i j) < dear → Reach m inn out told s i j (val B (idx (inn.length + 1) (cols out told) s i j))
 small : ∀ q, val B q < dear → val B q ≤ 1000000 * cnt B

/-- no arc betters anything at a place -/
def Rel (inn out : List Int) (told : Bool) (B : List Nat) (a : Int × Int × Int × Int × Int) (i j : Nat) : Prop :=
 ∀ s s' i' j' : Nat, a.1 = (s : Int) → a.2.1 = (s' : Int) → Move inn out told a i j i' j' → val B (idx (inn.length + 1) (cols out told) s i j) < dear →
  (val B (idx (inn.length + 1) (cols out told) s' i' j') : Int) ≤ val B (idx (inn.length + 1) (cols out told) s i j) + a.2.2.2.2

theorem Inv.step {m : M} {inn out : List Int} {told : Bool} {S : Nat} {B : List Nat} (h : Inv m inn out told S B) (x : Nat) (hx : x < m.arcs.length) (s s' i j i' j' W : Nat) (hs : s < S) (hs' : s' < S) (hi : i < inn.length + 1) (hj : j < cols out told)
  (e1 : (m.arcs[x]).1 = (s : Int)) (e2 : (m.arcs[x]).2.1 = (s' : Int)) (eW : (m.arcs[x]).2.2.2.2 = (W : Int)) (hW : W ≤ 1000000) (hm : Move inn out told m.arcs[x] i j i' j')
  (hp : val B (idx (inn.length + 1) (cols out told) s i j) < dear) (hN : B.length ≤ 100000000)
  (hlt : val B (idx (inn.length + 1) (cols out told) s i j) + W < val B (idx (inn.length + 1) (cols out told) s' i' j')) :
  Inv m inn out told S (B.set (idx (inn.length + 1) (cols out told) s' i' j') (val B (idx (inn.length + 1) (cols out told) s i j) + W)) ∧
  (B.set (idx (inn.length + 1) (cols out told) s' i' j') (val B (idx (inn.length + 1) (cols out told) s i j) + W)).sum < B.sum := by
 obtain ⟨hi', hj'⟩ := hm.bd hi hj
 have hq : idx (inn.length + 1) (cols out told) s' i' j' < B.length := by rw [h.len]; exact idx_lt hs' hi' hj'
 have hsm := h.small _ hp
 have hcl := cnt_le B
 generalize hpv : val B (idx (inn.length + 1) (cols out told) s i j) = p at *
 have hvd : p + W < dear := by unfold dear; omega
 generalize hqe : idx (inn.length + 1) (cols out told) s' i' j' = q at *
 have hcs := cnt_set B q (p + W) hq hvd
 have hcge : cnt B ≤ cnt (B.set q (p + W)) := by
  by_cases hd : val B q < dear
  ·rw [hcs.1 hd]; omega
  ·rw [hcs.2 hd]; omega
 refine ⟨⟨by rw [List.length_set]; exact h.len, ?_, ?_, ?_, ?_⟩, ?_⟩
 ·intro r
  rw [val_set B q _ r hq]
  split
  ·omega
  ·exact h.top r
 ·rw [val_set B q _ 0 hq]
  split
  ·rename_i hz
   rw [hz, h.zero] at hlt
   omega
  ·exact h.zero
 ·intro s2 i2 j2 hs2 hi2 hj2
  rw [val_set B q _ _ hq]
  split
  ·rename_i hz
   intro _
   rw [← hqe] at hz
   obtain ⟨rfl, rfl, rfl⟩ := idx_inj hi' hj' hi2 hj2 hz
   have hr := h.real s i j hs hi hj
   rw [hpv] at hr
   obtain ⟨t, ht⟩ := hr hp
   exact ⟨t + 1, s, i, j, p, x, hx, ht, e1, e2, hm, by rw [eW]; omega⟩
  ·exact h.real s2 i2 j2 hs2 hi2 hj2
 ·intro r
  rw [val_set B q _ r hq]
  split
  ·intro _
   by_cases hd : val B q < dear
   ·have := h.small q hd
    rw [hcs.1 hd]
    omega
   ·rw [hcs.2 hd]
    omega
  ·intro hr
   have := h.small r hr
   omega
 ·have := sum_set B q (p + W) hq
  omega

/-- a right machine of S states -/
def Right (m : M) (S : Nat) : Prop := m.st = (S : Int) ∧ 0 < S ∧ ∀ x (h : x < m.arcs.length), arcB m.st m.arcs[x] = true

theorem reach_bd {m : M} {inn out : List Int} {told : Bool} {S : Nat} (hr : Right m S) : ∀ t s i j c, ReachN m inn out told t s i j c → s < S ∧ i < inn.length + 1 ∧ j < cols out told
 | 0, s, i, j, c, h => by
  obtain ⟨rfl, rfl, rfl, _⟩ := h
  exact ⟨hr.2.1, by omega, by unfold cols; split <;> omega⟩
 | t + 1, s', i', j', c', h => by
  obtain ⟨s, i, j, c, x, hx, h, _, e2, hm, _⟩ := h
  have ih := reach_bd hr t s i j c h
  have ha := hr.2.2 x hx
  unfold arcB at ha
  simp only [decide_eq_true_eq] at ha
  have hst := hr.1
  exact ⟨by omega, hm.bd ih.2.1 ih.2.2⟩

/-- a table that no arc betters has the least -/
theorem least {m : M} {inn out : List Int} {told : Bool} {S : Nat} {B : List Nat} (hr : Right m S) (h : Inv m inn out told S B) (hf : ∀ x (hx : x < m.arcs.length), ∀ i j, i < inn.length + 1 → j < cols out told → Rel inn out told B m.arcs[x] i j) :
  ∀ t s i j c, ReachN m inn out told t s i j c → val B (idx (inn.length + 1) (cols out told) s i j) ≤ c
 | 0, s, i, j, c, h0 => by
  obtain ⟨rfl, rfl, rfl, _⟩ := h0
  have e : idx (inn.length + 1) (cols out told) 0 0 0 = 0 := by unfold idx; simp
  rw [e, h.zero]
  omega
 | t + 1, s', i', j', c', h1 => by
  obtain ⟨s, i, j, c, x, hx, h1, e1, e2, hm, ec⟩ := h1
  have ih := least hr h hf t s i j c h1
  have bd := reach_bd hr t s i j c h1
  have ha := hr.2.2 x hx
  unfold arcB at ha
  simp only [decide_eq_true_eq] at ha
  by_cases hd : val B (idx (inn.length + 1) (cols out told) s i j) < dear
  ·have := hf x hx i j bd.2.1 bd.2.2 s s' i' j' e1 e2 hm hd
   omega
  ·have := h.top (idx (inn.length + 1) (cols out told) s' i' j')
   omega

/-- the least cost of a walk that ends: dear, if there is none -/
def IsCost (m : M) (inn out : List Int) (told : Bool) (v : Nat) : Prop :=
 (v = dear ∧ ∀ y (hy : y < m.fins.length), ∀ f c : Nat, (m.fins[y]).1 = (f : Int) → ¬ Reach m inn out told f inn.length (cols out told - 1) c) ∨
 (v < dear ∧ (∃ y, ∃ hy : y < m.fins.length, ∃ f c : Nat, (m.fins[y]).1 = (f : Int) ∧ Reach m inn out told f inn.length (cols out told - 1) c ∧ (v : Int) = c + (m.fins[y]).2) ∧
 ∀ y (hy : y < m.fins.length), ∀ f c : Nat, (m.fins[y]).1 = (f : Int) → Reach m inn out told f inn.length (cols out told - 1) c → (v : Int) ≤ c + (m.fins[y]).2)
theorem IsCost.one {m : M} {inn out : List Int} {told : Bool} {v v' : Nat} (h : IsCost m inn out told v) (h' : IsCost m inn out told v') : v = v' := by
 rcases h with ⟨rfl, h⟩ | ⟨_, ⟨y, hy, f, c, e, r, ev⟩, hl⟩ <;> rcases h' with ⟨rfl, h'⟩ | ⟨_, ⟨y', hy', f', c', e', r', ev'⟩, hl'⟩
 ·rfl
 ·exact absurd r' (h y' hy' f' c' e')
 ·exact absurd r (h' y hy f c e)
 ·have q1 := hl y' hy' f' c' e' r'
  have q2 := hl' y hy f c e r
  omega
end Go.Proofs.YtfjocafepigijaaDoor.Wk
/- Plain facts for MachineMakes: the walks of a machine turned round, of a side, of either of two; what they cost. Conditions: the machines are right. -/
namespace Go.Proofs.YtfjocafepigijaaDoor.Bw
open Mv Wk

abbrev A5 := Int × Int × Int × Int × Int
theorem reachN_succ {m : M} {inn out : List Int} {told : Bool} {t s' i' j' c' : Nat} : ReachN m inn out told (t + 1) s' i' j' c' ↔ ∃ s i j c : Nat, ∃ a ∈ m.arcs, ReachN m inn out told t s i j c ∧ a.1 = (s : Int) ∧ a.2.1 = (s' : Int) ∧ Wk.Move inn out told a i j i' j' ∧ (c' : Int) = c + a.2.2.2.2 := by
 constructor
 ·rintro ⟨s, i, j, c, x, hx, hr, h1, h2, h3, h4⟩
  exact ⟨s, i, j, c, m.arcs[x], List.getElem_mem hx, hr, h1, h2, h3, h4⟩
 ·rintro ⟨s, i, j, c, a, ha, hr, h1, h2, h3, h4⟩
  obtain ⟨x, hx, rfl⟩ := List.getElem_of_mem ha
  exact ⟨s, i, j, c, x, hx, hr, h1, h2, h3, h4⟩
/-- a walk that ends, for so much -/
def Acc (m : M) (inn out : List Int) (told : Bool) (v : Nat) : Prop := ∃ f ∈ m.fins, ∃ s c : Nat, f.1 = (s : Int) ∧ Wk.Reach m inn out told s inn.length (cols out told - 1) c ∧ (v : Int) = c + f.2
/-- the least of what holds, or dear -/
def Least (P : Nat → Prop) (v : Nat) : Prop := (v = dear ∧ ∀ u, ¬ P u) ∨ (v < dear ∧ P v ∧ ∀ u, P u → v ≤ u)
theorem isCost_iff {m : M} {inn out : List Int} {told : Bool} {v : Nat} (hf : ∀ f ∈ m.fins, 0 ≤ f.2) : IsCost m inn out told v ↔ Least (Acc m inn out told) v := by
 constructor
 ·rintro (⟨e, h⟩ | ⟨e, ⟨y, hy, f, c, h1, h2, h3⟩, h⟩)
  ·refine .inl ⟨e, ?_⟩
   rintro u ⟨f, hm, s, c, h1, h2, _⟩
   obtain ⟨y, hy, rfl⟩ := List.getElem_of_mem hm
   exact h y hy s c h1 h2
  ·refine .inr ⟨e, ⟨_, List.getElem_mem hy, f, c, h1, h2, h3⟩, ?_⟩
   rintro u ⟨g, hm, s, d, k1, k2, k3⟩
   obtain ⟨z, hz, rfl⟩ := List.getElem_of_mem hm
   have := h z hz s d k1 k2
   omega
 ·rintro (⟨e, h⟩ | ⟨e, ⟨f, hm, s, c, h1, h2, h3⟩, h⟩)
  ·refine .inl ⟨e, fun y hy f c h1 h2 => ?_⟩
   have h0 := hf _ (List.getElem_mem hy)
   exact h (c + (m.fins[y]).2.toNat) ⟨_, List.getElem_mem hy, f, c, h1, h2, by omega⟩
  ·obtain ⟨y, hy, rfl⟩ := List.getElem_of_mem hm
   refine .inr ⟨e, ⟨y, hy, s, c, h1, h2, h3⟩, fun z hz g d k1 k2 => ?_⟩
   have h0 := hf _ (List.getElem_mem hz)
   have := h (d + (m.fins[z]).2.toNat) ⟨_, List.getElem_mem hz, g, d, k1, k2, by omega⟩
   omega

/- TURN -/
def turnA (a : A5) : A5 := (a.1, a.2.1, a.2.2.2.1, a.2.2.1, a.2.2.2.2)
def turnM (m : M) : M := ⟨m.st, m.arcs.map turnA, m.fins⟩
/- SIDE -/
def sideA (a : A5) : A5 := (a.1, a.2.1, a.2.2.1, a.2.2.1, a.2.2.2.2)
def sideM (m : M) : M := ⟨m.st, m.arcs.map sideA, m.fins⟩
/- EITHER -/
def mvA (d : Int) (a : A5) : A5 := (a.1 + d, a.2.1 + d, a.2.2)
def mvF (d : Int) (f : Int × Int) : Int × Int := (f.1 + d, f.2)
def eitherM (a b : M) : M := ⟨1 + a.st + b.st, (0, 1, 0, 0, 0) :: (0, 1 + a.st, 0, 0, 0) :: (a.arcs.map (mvA 1) ++ b.arcs.map (mvA (1 + a.st))), a.fins.map (mvF 1) ++ b.fins.map (mvF (1 + a.st))⟩
end Go.Proofs.YtfjocafepigijaaDoor.Bw
/- Plain facts for MachineThrough: the machine of all pairs of states, and a smaller one that has the pairs that matter alone: what they cost is the same. No program text. -/
namespace Go.Proofs.YtfjocafepigijaaDoor.Th
open Mv Wk Bw

/-- an arc of the machine of pairs: p, q: pairs of states; what is read, written, and its cost -/
def PE (a b : M) (SA SB : Nat) (p q : Nat) (i o w : Int) : Prop :=
 (∃ x ∈ a.arcs, x.2.2.2.1 = 0 ∧ ∃ s s' t : Nat, x.1 = (s : Int) ∧ x.2.1 = (s' : Int) ∧ t < SB ∧ p = s * SB + t ∧ q = s' * SB + t ∧ i = x.2.2.1 ∧ o = 0 ∧ w = x.2.2.2.2) ∨
 (∃ x ∈ a.arcs, ∃ y ∈ b.arcs, x.2.2.2.1 ≠ 0 ∧ y.2.2.1 = x.2.2.2.1 ∧ ∃ s s' t t' : Nat, x.1 = (s : Int) ∧ x.2.1 = (s' : Int) ∧ y.1 = (t : Int) ∧ y.2.1 = (t' : Int) ∧ p = s * SB + t ∧ q = s' * SB + t' ∧ i = x.2.2.1 ∧ o = y.2.2.2.1 ∧ w = x.2.2.2.2 + y.2.2.2.2) ∨
 (∃ y ∈ b.arcs, y.2.2.1 = 0 ∧ ∃ s t t' : Nat, y.1 = (t : Int) ∧ y.2.1 = (t' : Int) ∧ s < SA ∧ p = s * SB + t ∧ q = s * SB + t' ∧ i = 0 ∧ o = y.2.2.2.1 ∧ w = y.2.2.2.2)
/-- the arcs of the machine of pairs, as a list: of an arc of the first one; of one of the second one that reads nothing -/
def eA (SB : Nat) (x : A5) (t : Nat) : A5 := (x.1 * SB + (t : Int), x.2.1 * SB + (t : Int), x.2.2.1, 0, x.2.2.2.2)
def eX (SB : Nat) (x y : A5) : A5 := (x.1 * SB + y.1, x.2.1 * SB + y.2.1, x.2.2.1, y.2.2.2.1, x.2.2.2.2 + y.2.2.2.2)
def eB (SB : Nat) (y : A5) (s : Nat) : A5 := ((s : Int) * SB + y.1, (s : Int) * SB + y.2.1, 0, y.2.2.2.1, y.2.2.2.2)
def jy (SB : Nat) (x y : A5) : List A5 := if y.2.2.1 = x.2.2.2.1 then [eX SB x y] else []
def jx (b : M) (SB : Nat) (x : A5) : List A5 := if x.2.2.2.1 = 0 then (List.range SB).map (eA SB x) else b.arcs.flatMap (jy SB x)
def jb (SA SB : Nat) (y : A5) : List A5 := if y.2.2.1 = 0 then (List.range SA).map (eB SB y) else []
def prA (a b : M) (SA SB : Nat) : List A5 := a.arcs.flatMap (jx b SB) ++ b.arcs.flatMap (jb SA SB)
def prF (a b : M) (SB : Nat) : List (Int × Int) := a.fins.flatMap fun f => b.fins.map fun g => (f.1 * SB + g.1, f.2 + g.2)
def prM (a b : M) (SA SB : Nat) : M := ⟨(SA : Int) * SB, prA a b SA SB, prF a b SB⟩
/-- states are numbers that are not below nought -/
def NN (a : M) : Prop := ∀ x ∈ a.arcs, 0 ≤ x.1 ∧ 0 ≤ x.2.1
theorem cast_pair {x t : Int} {SB : Nat} (hx : 0 ≤ x) (ht : 0 ≤ t) : ((x.toNat * SB + t.toNat : Nat) : Int) = x * SB + t := by rw [Int.natCast_add, Int.natCast_mul, Int.toNat_of_nonneg hx, Int.toNat_of_nonneg ht]
theorem prA_iff {a b : M} {SA SB : Nat} (ha : NN a) (hb : NN b) {p q : Nat} {i o w : Int} : ((p : Int), (q : Int), i, o, w) ∈ prA a b SA SB ↔ PE a b SA SB p q i o w := by
 unfold prA PE
 rw [List.mem_append]
 constructor
 ·rintro (h | h)
  ·obtain ⟨x, hx, h⟩ := List.mem_flatMap.1 h
   have hn := ha x hx
   unfold jx at h
   by_cases h0 : x.2.2.2.1 = 0
   ·rw [if_pos h0] at h
    obtain ⟨t, ht, e⟩ := List.mem_map.1 h
    simp only [eA, Prod.mk.injEq] at e
    obtain ⟨e1, e2, e3, e4, e5⟩ := e
    have c1 := cast_pair (SB := SB) hn.1 (Int.natCast_nonneg t)
    have c2 := cast_pair (SB := SB) hn.2 (Int.natCast_nonneg t)
    rw [Int.toNat_natCast] at c1 c2
    exact .inl ⟨x, hx, h0, x.1.toNat, x.2.1.toNat, t, by omega, by omega, List.mem_range.1 ht, by omega, by omega, e3.symm, e4.symm, e5.symm⟩
   ·rw [if_neg h0] at h
    obtain ⟨y, hy, h⟩ := List.mem_flatMap.1 h
    unfold jy at h
    by_cases h1 : y.2.2.1 = x.2.2.2.1
    ·rw [if_pos h1, List.mem_singleton] at h
     simp only [eX, Prod.mk.injEq] at h
     obtain ⟨e1, e2, e3, e4, e5⟩ := h
     have hm := hb y hy
     have c1 := cast_pair (SB := SB) hn.1 hm.1
     have c2 := cast_pair (SB := SB) hn.2 hm.2
     exact .inr (.inl ⟨x, hx, y, hy, h0, h1, x.1.toNat, x.2.1.toNat, y.1.toNat, y.2.1.toNat, by omega, by omega, by omega, by omega, by omega, by omega, e3, e4, e5⟩)
    ·rw [if_neg h1] at h; cases h
  ·obtain ⟨y, hy, h⟩ := List.mem_flatMap.1 h
   unfold jb at h
   by_cases h0 : y.2.2.1 = 0
   ·rw [if_pos h0] at h
    obtain ⟨s, hs, e⟩ := List.mem_map.1 h
    simp only [eB, Prod.mk.injEq] at e
    obtain ⟨e1, e2, e3, e4, e5⟩ := e
    have hm := hb y hy
    have c1 := cast_pair (SB := SB) (Int.natCast_nonneg s) hm.1
    have c2 := cast_pair (SB := SB) (Int.natCast_nonneg s) hm.2
    rw [Int.toNat_natCast] at c1 c2
    exact .inr (.inr ⟨y, hy, h0, s, y.1.toNat, y.2.1.toNat, by omega, by omega, List.mem_range.1 hs, by omega, by omega, e3.symm, e4.symm, e5.symm⟩)
   ·rw [if_neg h0] at h; cases h
 ·rintro (⟨x, hx, h0, s, s', t, e1, e2, ht, rfl, rfl, rfl, rfl, rfl⟩ | ⟨x, hx, y, hy, h0, h1, s, s', t, t', e1, e2, e3, e4, rfl, rfl, rfl, rfl, rfl⟩ | ⟨y, hy, h0, s, t, t', e1, e2, hs, rfl, rfl, rfl, rfl, rfl⟩)
  ·refine .inl (List.mem_flatMap.2 ⟨x, hx, ?_⟩)
   unfold jx
   rw [if_pos h0]
   refine List.mem_map.2 ⟨t, List.mem_range.2 ht, ?_⟩
   simp only [eA, Prod.mk.injEq, and_true]
   rw [e1, e2]
   constructor <;> simp
  ·refine .inl (List.mem_flatMap.2 ⟨x, hx, ?_⟩)
   unfold jx
   rw [if_neg h0]
   refine List.mem_flatMap.2 ⟨y, hy, ?_⟩
   unfold jy
   rw [if_pos h1, List.mem_singleton]
   simp only [eX, Prod.mk.injEq, and_true]
   rw [e1, e2, e3, e4]
   constructor <;> simp
  ·refine .inr (List.mem_flatMap.2 ⟨y, hy, ?_⟩)
   unfold jb
   rw [if_pos h0]
   refine List.mem_map.2 ⟨s, List.mem_range.2 hs, ?_⟩
   simp only [eB, Prod.mk.injEq, and_true]
   rw [e1, e2]
   constructor <;> simp
/-- each arc of the list is one of pairs -/
theorem prA_pe {a b : M} {SA SB : Nat} (ha : NN a) (hb : NN b) {e : A5} (he : e ∈ prA a b SA SB) : ∃ p q : Nat, e.1 = (p : Int) ∧ e.2.1 = (q : Int) ∧ PE a b SA SB p q e.2.2.1 e.2.2.2.1 e.2.2.2.2 := by
 have h : 0 ≤ e.1 ∧ 0 ≤ e.2.1 := by
  rcases List.mem_append.1 he with h | h
  ·obtain ⟨x, hx, h⟩ := List.mem_flatMap.1 h
   have hn := ha x hx
   have h1 := Int.mul_nonneg hn.1 (Int.natCast_nonneg SB)
   have h2 := Int.mul_nonneg hn.2 (Int.natCast_nonneg SB)
   unfold jx at h
   split at h
   ·obtain ⟨t, _, rfl⟩ := List.mem_map.1 h
    simp only [eA]
    omega
   ·obtain ⟨y, hy, h⟩ := List.mem_flatMap.1 h
    have hm := hb y hy
    unfold jy at h
    split at h
    ·rw [List.mem_singleton] at h
     subst h
     simp only [eX]
     omega
    ·cases h
  ·obtain ⟨y, hy, h⟩ := List.mem_flatMap.1 h
   have hm := hb y hy
   unfold jb at h
   split at h
   ·obtain ⟨s, _, rfl⟩ := List.mem_map.1 h
    have h1 := Int.mul_nonneg (Int.natCast_nonneg s) (Int.natCast_nonneg SB)
    simp only [eB]
    omega
   ·cases h
 obtain ⟨e1, e2, i, o, w⟩ := e
 obtain ⟨p, rfl⟩ : ∃ p : Nat, e1 = (p : Int) := ⟨e1.toNat, by have := h.1; dsimp only at this; omega⟩
 obtain ⟨q, rfl⟩ : ∃ q : Nat, e2 = (q : Int) := ⟨e2.toNat, by have := h.2; dsimp only at this; omega⟩
 exact ⟨p, q, rfl, rfl, (prA_iff ha hb).1 he⟩
/-- an edge, whatever it reads, writes and costs -/
def Ed (m : M) (p q : Nat) : Prop := ∃ e ∈ m.arcs, e.1 = (p : Int) ∧ e.2.1 = (q : Int)
/-- from a state one comes to an end by so many edges -/
def LeadsN (m : M) : Nat → Nat → Prop
 | 0, p => ∃ f ∈ m.fins, f.1 = (p : Int)
 | n + 1, p => ∃ q, Ed m p q ∧ LeadsN m n q
def Leads (m : M) (p : Nat) : Prop := ∃ n, LeadsN m n p
theorem Leads.back {m : M} {p q : Nat} (h : Leads m q) (e : Ed m p q) : Leads m p := by
 obtain ⟨n, h⟩ := h
 exact ⟨n + 1, q, e, h⟩
/-- a smaller machine: P: which states of the great one it has, in its order -/
structure Cut (m x : M) (P : List Nat) : Prop where
 one : P.Nodup
 zero : P[0]? = some 0
 sub : ∀ e ∈ x.arcs, ∃ u v : Nat, ∃ p q : Nat, P[u]? = some p ∧ P[v]? = some q ∧ e.1 = (u : Int) ∧ e.2.1 = (v : Int) ∧ ((p : Int), (q : Int), e.2.2) ∈ m.arcs
 sup : ∀ e ∈ m.arcs, ∀ u v p q : Nat, P[u]? = some p → P[v]? = some q → e.1 = (p : Int) → e.2.1 = (q : Int) → ∃ w, w ≤ e.2.2.2.2 ∧ ((u : Int), (v : Int), e.2.2.1, e.2.2.2.1, w) ∈ x.arcs
 fsub : ∀ f ∈ x.fins, ∃ u p : Nat, P[u]? = some p ∧ f.1 = (u : Int) ∧ ((p : Int), f.2) ∈ m.fins
 fsup : ∀ f ∈ m.fins, ∀ u p : Nat, P[u]? = some p → f.1 = (p : Int) → ((u : Int), f.2) ∈ x.fins
 closed : ∀ p q, p ∈ P → Ed m p q → Leads m q → q ∈ P
theorem move_w {inn out : List Int} {told : Bool} {a a' : A5} {i j i' j' : Nat} (h : Wk.Move inn out told a i j i' j') (e1 : a.2.2.1 = a'.2.2.1) (e2 : a.2.2.2.1 = a'.2.2.2.1) : Wk.Move inn out told a' i j i' j' := by
 unfold Wk.Move at h ⊢
 rw [← e1, ← e2]
 exact h
theorem cut_in {m x : M} {P : List Nat} (h : Cut m x P) {inn out : List Int} {told : Bool} : ∀ t u i j c, ReachN x inn out told t u i j c → ∃ p : Nat, P[u]? = some p ∧ ReachN m inn out told t p i j c := by
 intro t
 induction t with
 | zero =>
  rintro u i j c ⟨rfl, rfl, rfl, rfl⟩
  exact ⟨0, h.zero, rfl, rfl, rfl, rfl⟩
 | succ t ih =>
  intro u' i' j' c' hr0
  obtain ⟨u, i, j, c, e, he, hr, e1, e2, hm, hc⟩ := reachN_succ.1 hr0
  clear hr0
  obtain ⟨u0, v0, p, q, hp, hq, f1, f2, hin⟩ := h.sub e he
  obtain rfl : u0 = u := by omega
  obtain rfl : v0 = u' := by omega
  obtain ⟨p', hp', hr'⟩ := ih u0 i j c hr
  rw [hp] at hp'
  obtain rfl := Option.some.inj hp'
  exact ⟨q, hq, reachN_succ.2 ⟨p, i, j, c, _, hin, hr', rfl, rfl, move_w hm rfl rfl, hc⟩⟩
theorem cut_out {m x : M} {P : List Nat} (h : Cut m x P) (hw : ∀ e ∈ x.arcs, 0 ≤ e.2.2.2.2) {inn out : List Int} {told : Bool} : ∀ t p i j c, ReachN m inn out told t p i j c → Leads m p → ∃ u c' : Nat, P[u]? = some p ∧ c' ≤ c ∧ ReachN x inn out told t u i j c' := by
 intro t
 induction t with
 | zero =>
  rintro p i j c ⟨rfl, rfl, rfl, rfl⟩ _
  exact ⟨0, 0, h.zero, Nat.le_refl _, rfl, rfl, rfl, rfl⟩
 | succ t ih =>
  intro q i' j' c' hr hl
  obtain ⟨p, i, j, c, e, he, hr, e1, e2, hm, hc⟩ := reachN_succ.1 hr
  have hed : Ed m p q := ⟨e, he, e1, e2⟩
  obtain ⟨u, d, hu, hd, hr'⟩ := ih p i j c hr (hl.back hed)
  have hq := h.closed p q (List.mem_of_getElem? hu) hed hl
  obtain ⟨v, hv, hv'⟩ := List.getElem_of_mem hq
  have hv2 : P[v]? = some q := by rw [List.getElem?_eq_getElem hv, hv']
  obtain ⟨w, hwle, hin⟩ := h.sup e he u v p q hu hv2 e1 e2
  have h0 := hw _ hin
  dsimp only at h0
  refine ⟨v, d + w.toNat, hv2, by omega, reachN_succ.2 ⟨u, i, j, d, _, hin, hr', rfl, rfl, move_w hm rfl rfl, ?_⟩⟩
  dsimp only
  omega
theorem cut_least {m x : M} {P : List Nat} (h : Cut m x P) (hw : ∀ e ∈ x.arcs, 0 ≤ e.2.2.2.2) {inn out : List Int} {v : Nat} (hf : ∀ f ∈ m.fins, 0 ≤ f.2) (hl : Least (Acc m inn out true) v) : Least (Acc x inn out true) v := by
 have h1 : ∀ u, Acc x inn out true u → Acc m inn out true u := by
  rintro u ⟨f, hfm, s, c, e, ⟨t, hr⟩, hu⟩
  obtain ⟨u0, p, hp, f1, hin⟩ := h.fsub f hfm
  obtain rfl : u0 = s := by omega
  obtain ⟨p', hp', hr'⟩ := cut_in h t u0 _ _ c hr
  rw [hp] at hp'
  obtain rfl := Option.some.inj hp'
  exact ⟨_, hin, p, c, rfl, ⟨t, hr'⟩, hu⟩
 have h2 : ∀ u, Acc m inn out true u → ∃ u', u' ≤ u ∧ Acc x inn out true u' := by
  rintro u ⟨f, hfm, p, c, e, ⟨t, hr⟩, hu⟩
  obtain ⟨s, c', hs, hc, hr'⟩ := cut_out h hw t p _ _ c hr ⟨0, f, hfm, e⟩
  have hin := h.fsup f hfm s p hs e
  have h0 := hf f hfm
  exact ⟨c' + f.2.toNat, by omega, _, hin, s, c', rfl, ⟨t, hr'⟩, by dsimp only; omega⟩
 rcases hl with ⟨rfl, hn⟩ | ⟨hd, hp, hmin⟩
 ·exact .inl ⟨rfl, fun u hu => hn u (h1 u hu)⟩
 ·obtain ⟨u', hle, hu'⟩ := h2 v hp
  have := hmin u' (h1 u' hu')
  obtain rfl : u' = v := by omega
  exact .inr ⟨hd, hu', fun u hu => hmin u (h1 u hu)⟩
end Go.Proofs.YtfjocafepigijaaDoor.Th
/- Plain facts on a pass over all arcs and places: what is bettered lowers the sum; what is not is at its least. No conditions. -/
namespace Go.Proofs.YtfjocafepigijaaDoor.Wk
open Mv

/-- a place of a pass is behind another one -/
def Ahead (x' i' j' x i j : Nat) : Prop := x' < x ∨ (x' = x ∧ (i' < i ∨ (i' = i ∧ j' < j)))
def Pass (arcs : List (Int × Int × Int × Int × Int)) (inn out : List Int) (B0 : List Nat) (ag : Bool) (B : List Nat) (x i j : Nat) : Prop :=
 (ag = false ∧ B = B0 ∧ ∀ x' (h : x' < arcs.length), ∀ i' j', i' < inn.length + 1 → j' < cols out true → Ahead x' i' j' x i j → Rel inn out true B arcs[x'] i' j') ∨ (ag = true ∧ B.sum < B0.sum)
theorem Pass.start (arcs : List (Int × Int × Int × Int × Int)) (inn out : List Int) (B : List Nat) : Pass arcs inn out B false B 0 0 0 :=
 .inl ⟨rfl, rfl, fun x' _ i' j' _ _ h => by unfold Ahead at h; omega⟩
theorem Pass.nextI {arcs : List (Int × Int × Int × Int × Int)} {inn out : List Int} {B0 B : List Nat} {ag : Bool} {x i : Nat} (h : Pass arcs inn out B0 ag B x i (cols out true)) : Pass arcs inn out B0 ag B x (i + 1) 0 := by
 rcases h with ⟨a, b, h⟩ | h
 ·exact .inl ⟨a, b, fun x' hx i' j' hi hj hA => h x' hx i' j' hi hj (by unfold Ahead at hA ⊢; omega)⟩
 ·exact .inr h
theorem Pass.nextX {arcs : List (Int × Int × Int × Int × Int)} {inn out : List Int} {B0 B : List Nat} {ag : Bool} {x : Nat} (h : Pass arcs inn out B0 ag B x (inn.length + 1) 0) : Pass arcs inn out B0 ag B (x + 1) 0 0 := by
 rcases h with ⟨a, b, h⟩ | h
 ·exact .inl ⟨a, b, fun x' hx i' j' hi hj hA => h x' hx i' j' hi hj (by unfold Ahead at hA ⊢; omega)⟩
 ·exact .inr h
theorem Pass.skip {arcs : List (Int × Int × Int × Int × Int)} {inn out : List Int} {B0 B : List Nat} {ag : Bool} {x i j : Nat} (h : Pass arcs inn out B0 ag B x i j) (hx : x < arcs.length) (hr : Rel inn out true B arcs[x] i j) : Pass arcs inn out B0 ag B x i (j + 1) := by
 rcases h with ⟨a, b, h⟩ | h
 ·refine .inl ⟨a, b, fun x' hx' i' j' hi hj hA => ?_⟩
  by_cases e : x' = x ∧ i' = i ∧ j' = j
  ·obtain ⟨rfl, rfl, rfl⟩ := e
   exact hr
  ·exact h x' hx' i' j' hi hj (by unfold Ahead at hA ⊢; omega)
 ·exact .inr h
theorem Pass.took {arcs : List (Int × Int × Int × Int × Int)} {inn out : List Int} {B0 B B' : List Nat} {ag : Bool} {x i j x2 i2 j2 : Nat} (h : Pass arcs inn out B0 ag B x i j) (hs : B'.sum < B.sum) : Pass arcs inn out B0 true B' x2 i2 j2 := by
 rcases h with ⟨_, rfl, _⟩ | ⟨_, h⟩
 ·exact .inr ⟨rfl, hs⟩
 ·exact .inr ⟨rfl, by omega⟩

/-- the table as it begins -/
def first (N : Nat) : List Nat := (List.replicate N dear).set 0 0
theorem first_inv (m : M) (inn out : List Int) (told : Bool) (S : Nat) (hS : 0 < S) : Inv m inn out told S (first (S * (inn.length + 1) * cols out told)) := by
 have hc : 0 < cols out told := by unfold cols; split <;> omega
 have hN : 0 < S * (inn.length + 1) * cols out told := Nat.mul_pos (Nat.mul_pos hS (by omega)) hc
 have hv : ∀ q, val (first (S * (inn.length + 1) * cols out told)) q = if 0 = q then 0 else dear := by
  intro q
  unfold first
  rw [val_set _ _ _ _ (by simpa using hN)]
  split
  ·rfl
  ·unfold val
   rw [List.getD_eq_getElem?_getD, List.getElem?_replicate]
   split <;> rfl
 refine ⟨by simp [first], ?_, ?_, ?_, ?_⟩
 ·intro q; rw [hv]; split <;> simp [dear]
 ·rw [hv]; rfl
 ·intro s i j hs hi hj
  rw [hv]
  split
  ·rename_i h
   intro _
   have e : idx (inn.length + 1) (cols out told) 0 0 0 = 0 := by unfold idx; simp
   obtain ⟨rfl, rfl, rfl⟩ := idx_inj (by omega) hc hi hj (e.trans h)
   exact ⟨0, rfl, rfl, rfl, rfl⟩
  ·intro h; omega
 ·intro q
  rw [hv]
  split
  ·intro _; omega
  ·intro h; omega

/-- no move at all -/
theorem rel_none {inn out : List Int} {B : List Nat} {a : Int × Int × Int × Int × Int} {i j : Nat} (h : ∀ i' j', ¬ Move inn out true a i j i' j') : Rel inn out true B a i j :=
 fun _ _ i' j' _ _ hm => absurd hm (h i' j')
theorem rel_dear {inn out : List Int} {B : List Nat} {a : Int × Int × Int × Int × Int} {i j f : Nat} (hf : a.1 = (f : Int)) (h : val B (idx (inn.length + 1) (cols out true) f i j) = dear) : Rel inn out true B a i j := by
 intro s s' i' j' e _ _ hd
 obtain rfl : s = f := by omega
 omega
theorem move_one {inn out : List Int} {a : Int × Int × Int × Int × Int} {i j i1 j1 i2 j2 : Nat} (h1 : Move inn out true a i j i1 j1) (h2 : Move inn out true a i j i2 j2) : i1 = i2 ∧ j1 = j2 := by
 obtain ⟨a1, b1⟩ := h1
 obtain ⟨a2, b2⟩ := h2
 constructor
 ·rcases a1 with ⟨_, rfl⟩ | ⟨_, _, rfl⟩ <;> rcases a2 with ⟨_, rfl⟩ | ⟨_, _, rfl⟩ <;> omega
 ·rcases b1 with ⟨h, rfl⟩ | ⟨_, _, _, rfl⟩ <;> rcases b2 with ⟨h', rfl⟩ | ⟨_, _, _, rfl⟩
  ·rfl
  ·rcases h with h | h
   ·omega
   ·cases h
  ·rcases h' with h | h
   ·omega
   ·cases h
  ·rfl
theorem rel_kept {inn out : List Int} {B : List Nat} {a : Int × Int × Int × Int × Int} {i j i1 j1 f t W : Nat} (hf : a.1 = (f : Int)) (ht : a.2.1 = (t : Int)) (hW : a.2.2.2.2 = (W : Int)) (hm : Move inn out true a i j i1 j1)
  (h : ¬ val B (idx (inn.length + 1) (cols out true) f i j) + W < val B (idx (inn.length + 1) (cols out true) t i1 j1)) : Rel inn out true B a i j := by
 intro s s' i' j' e1 e2 hm2 _
 obtain rfl : s = f := by omega
 obtain rfl : s' = t := by omega
 obtain ⟨rfl, rfl⟩ := move_one hm hm2
 omega
end Go.Proofs.YtfjocafepigijaaDoor.Wk
/- Plain facts on the table of costs as it begins, and at the end of a pass. No conditions. -/
namespace Go.Proofs.YtfjocafepigijaaDoor.Wk
open Mv

theorem all_dear {B : List Nat} {N : Nat} (hl : B.length = N) (h : ∀ r, r < N → val B r = dear) : B = List.replicate N dear := by
 apply List.ext_getElem
 ·rw [List.length_replicate, hl]
 ·intro r h1 h2
  have := h r (by omega)
  unfold val at this
  rw [List.getD_eq_getElem?_getD, List.getElem?_eq_getElem h1, Option.getD_some] at this
  rw [this, List.getElem_replicate]
def Fix (arcs : List (Int × Int × Int × Int × Int)) (inn out : List Int) (B : List Nat) : Prop := ∀ x (hx : x < arcs.length), ∀ i j, i < inn.length + 1 → j < cols out true → Rel inn out true B arcs[x] i j
theorem Pass.fin {arcs : List (Int × Int × Int × Int × Int)} {inn out : List Int} {B0 B : List Nat} {ag : Bool} (h : Pass arcs inn out B0 ag B arcs.length 0 0) : (ag = false ∧ Fix arcs inn out B) ∨ (ag = true ∧ B.sum < B0.sum) := by
 rcases h with ⟨a, _, h⟩ | h
 ·exact .inl ⟨a, fun x hx i j hi hj => h x hx i j hi hj (.inl hx)⟩
 ·exact .inr h
end Go.Proofs.YtfjocafepigijaaDoor.Wk
/- Plain facts on the cheapest end of a table of least costs. No conditions beyond that the machine is right. -/
namespace Go.Proofs.YtfjocafepigijaaDoor.Wk
open Mv

/-- what may be come to has a cost in a table that no arc betters -/
theorem reached {m : M} {inn out : List Int} {told : Bool} {S : Nat} {B : List Nat} (hr : Right m S) (h : Inv m inn out told S B) (hN : B.length ≤ 100000000) (hf : ∀ x (hx : x < m.arcs.length), ∀ i j, i < inn.length + 1 → j < cols out told → Rel inn out told B m.arcs[x] i j) :
  ∀ t s i j c, ReachN m inn out told t s i j c → val B (idx (inn.length + 1) (cols out told) s i j) < dear
 | 0, s, i, j, c, h0 => by
  obtain ⟨rfl, rfl, rfl, _⟩ := h0
  have e : idx (inn.length + 1) (cols out told) 0 0 0 = 0 := by unfold idx; simp
  rw [e, h.zero]
  unfold dear
  omega
 | t + 1, s', i', j', c', h1 => by
  obtain ⟨s, i, j, c, x, hx, h1, e1, e2, hm, ec⟩ := h1
  have ih := reached hr h hN hf t s i j c h1
  have bd := reach_bd hr t s i j c h1
  have ha := hr.2.2 x hx
  unfold arcB at ha
  simp only [decide_eq_true_eq] at ha
  have h2 := hf x hx i j bd.2.1 bd.2.2 s s' i' j' e1 e2 hm ih
  have h3 := h.small _ ih
  have h4 := cnt_le B
  generalize val B (idx (inn.length + 1) (cols out told) s i j) = p at *
  generalize val B (idx (inn.length + 1) (cols out told) s' i' j') = q at *
  unfold dear
  omega

/-- the least of the first y ends -/
structure Lst (fins : List (Int × Int)) (inn out : List Int) (B : List Nat) (y v : Nat) : Prop where
 top : v ≤ dear
 low : ∀ y' (h : y' < fins.length), y' < y → ∀ f : Nat, (fins[y']).1 = (f : Int) → val B (idx (inn.length + 1) (cols out true) f inn.length (cols out true - 1)) < dear → (v : Int) ≤ val B (idx (inn.length + 1) (cols out true) f inn.length (cols out true - 1)) + (fins[y']).2
 real : v < dear → ∃ y', ∃ h : y' < fins.length, ∃ f : Nat, (fins[y']).1 = (f : Int) ∧ val B (idx (inn.length + 1) (cols out true) f inn.length (cols out true - 1)) < dear ∧ (v : Int) = val B (idx (inn.length + 1) (cols out true) f inn.length (cols out true - 1)) + (fins[y']).2
theorem Lst.start (fins : List (Int × Int)) (inn out : List Int) (B : List Nat) : Lst fins inn out B 0 dear :=
 ⟨Nat.le_refl _, fun _ _ h => absurd h (Nat.not_lt_zero _), fun h => absurd h (Nat.lt_irrefl _)⟩
theorem Lst.keep {fins : List (Int × Int)} {inn out : List Int} {B : List Nat} {y v f : Nat} (h : Lst fins inn out B y v) (hy : y < fins.length) (hf : (fins[y]).1 = (f : Int))
  (hk : val B (idx (inn.length + 1) (cols out true) f inn.length (cols out true - 1)) < dear → (v : Int) ≤ val B (idx (inn.length + 1) (cols out true) f inn.length (cols out true - 1)) + (fins[y]).2) : Lst fins inn out B (y + 1) v := by
 refine ⟨h.top, fun y' h' hlt f' e hd => ?_, h.real⟩
 by_cases e' : y' = y
 ·subst e'
  obtain rfl : f' = f := by omega
  exact hk hd
 ·exact h.low y' h' (by omega) f' e hd
theorem Lst.took {fins : List (Int × Int)} {inn out : List Int} {B : List Nat} {y v f p W : Nat} (h : Lst fins inn out B y v) (hy : y < fins.length) (hf : (fins[y]).1 = (f : Int)) (hW : (fins[y]).2 = (W : Int))
  (hp : val B (idx (inn.length + 1) (cols out true) f inn.length (cols out true - 1)) = p) (hpd : p < dear) (hlt : p + W < v) : Lst fins inn out B (y + 1) (p + W) := by
 refine ⟨by have := h.top; omega, fun y' h' hlt' f' e hd => ?_, fun _ => ⟨y, hy, f, hf, by rw [hp]; exact hpd, by rw [hp, hW]; omega⟩⟩
 by_cases e' : y' = y
 ·subst e'
  obtain rfl : f' = f := by omega
  rw [hp, hW]
  omega
 ·have := h.low y' h' (by omega) f' e hd
  omega
theorem Lst.fin {S : Nat} {arcs : List (Int × Int × Int × Int × Int)} {fins : List (Int × Int)} {inn out : List Int} {B : List Nat} {v : Nat} (h : Lst fins inn out B fins.length v) (hr : Right ⟨(S : Int), arcs, fins⟩ S) (hN : B.length ≤ 100000000)
  (hF : ∀ x (h : x < fins.length), finB (S : Int) fins[x] = true) (hI : Inv ⟨(S : Int), arcs, fins⟩ inn out true S B) (hX : Fix arcs inn out B) : IsCost ⟨(S : Int), arcs, fins⟩ inn out true v := by
 have hc : 0 < cols out true := by show 0 < out.length + 1; omega
 have key : ∀ y (hy : y < fins.length), ∀ f c : Nat, (fins[y]).1 = (f : Int) → Reach ⟨(S : Int), arcs, fins⟩ inn out true f inn.length (cols out true - 1) c → (v : Int) ≤ c + (fins[y]).2 ∧ v < dear := by
  intro y hy f c e hR
  obtain ⟨t, ht⟩ := hR
  have h1 := reached hr hI hN hX t _ _ _ _ ht
  have h2 := least hr hI hX t _ _ _ _ ht
  have h3 := h.low y hy hy f e h1
  have h4 := hI.small _ h1
  have h5 := cnt_le B
  have h6 := hF y hy
  unfold finB at h6
  simp only [decide_eq_true_eq] at h6
  generalize val B (idx (inn.length + 1) (cols out true) f inn.length (cols out true - 1)) = p at *
  refine ⟨by omega, ?_⟩
  unfold dear
  omega
 by_cases hd : v < dear
 ·refine .inr ⟨hd, ?_, fun y hy f c e hR => (key y hy f c e hR).1⟩
  obtain ⟨y, hy, f, e, hv, ev⟩ := h.real hd
  have hb := hF y hy
  unfold finB at hb
  simp only [decide_eq_true_eq] at hb
  exact ⟨y, hy, f, _, e, hI.real f inn.length (cols out true - 1) (by omega) (by omega) (by omega) hv, ev⟩
 ·refine .inl ⟨Nat.le_antisymm h.top (Nat.not_lt.1 hd), fun y hy f c e hR => absurd (key y hy f c e hR).2 hd⟩
/-- what is not dear is not much -/
theorem Lst.bound {S : Nat} {arcs : List (Int × Int × Int × Int × Int)} {fins : List (Int × Int)} {inn out : List Int} {B : List Nat} {v : Nat} (h : Lst fins inn out B fins.length v) (hN : B.length ≤ 11532000)
  (hF : ∀ x (h : x < fins.length), finB (S : Int) fins[x] = true) (hI : Inv ⟨(S : Int), arcs, fins⟩ inn out true S B) : v = dear ∨ v ≤ 11532001000000 := by
 by_cases hd : v < dear
 ·obtain ⟨y, hy, f, _, hv, ev⟩ := h.real hd
  have h4 := hI.small _ hv
  have h5 := cnt_le B
  have h6 := hF y hy
  unfold finB at h6
  simp only [decide_eq_true_eq] at h6
  generalize val B (idx (inn.length + 1) (cols out true) f inn.length (cols out true - 1)) = p at *
  exact .inr (by omega)
 ·exact .inl (Nat.le_antisymm h.top (Nat.not_lt.1 hd))
end Go.Proofs.YtfjocafepigijaaDoor.Wk
/- The queue's entries in plain words: what is moved about stays what it was but for its order. No conditions. -/
namespace Go.Proofs.YtfjocafepigijaaDoor.Qp
open Go.RowKit Mv

theorem fcs_set (l : List (Int × Int)) (k : Nat) (a b : Int) : ((fcs l).set (k * 2) (.int .i64 a)).set (k * 2 + 1) (.int .i64 b) = fcs (l.set k (a, b)) := by
 induction l generalizing k with
 | nil => simp [fcs]
 | cons x l ih =>
  cases k with
  | zero => simp [fcs, fc]
  | succ k =>
   have e : (k + 1) * 2 = k * 2 + 1 + 1 := by omega
   have := ih k
   rw [e]
   have e2 : ∀ m : List (Int × Int), fcs (x :: m) = .int .i64 x.1 :: .int .i64 x.2 :: fcs m := fun m => rfl
   simp only [e2, List.set_cons_succ, ← this]

/-- a thing moved from one place to another, and another one laid where it was -/
theorem set_swap (l : List (Int × Int)) (i j : Nat) (e : Int × Int) (hi : i < l.length) (hj : j < l.length) (hne : i ≠ j) : ((l.set i l[j]).set j e).Perm (l.set i e) := by
 rw [List.perm_iff_count]
 intro b
 have h1 : (l.set i l[j]).count b = l.count b - (if l[i] == b then 1 else 0) + (if l[j] == b then 1 else 0) := by rw [List.count_set hi]
 have h2 : (l.set i e).count b = l.count b - (if l[i] == b then 1 else 0) + (if e == b then 1 else 0) := by rw [List.count_set hi]
 have hj' : j < (l.set i l[j]).length := by simpa using hj
 have h3 : ((l.set i l[j]).set j e).count b = (l.set i l[j]).count b - (if (l.set i l[j])[j] == b then 1 else 0) + (if e == b then 1 else 0) := by rw [List.count_set hj']
 have h4 : (l.set i l[j])[j] = l[j] := List.getElem_set_ne hne _
 rw [h3, h4, h1, h2]
 have hp : (if l[i] == b then 1 else 0) ≤ l.count b := by
  split
  ·rename_i h
   have : b = l[i] := by simpa using (beq_iff_eq.1 h).symm
   exact List.count_pos_iff.2 (this ▸ List.getElem_mem hi)
  ·omega
 generalize (if l[i] == b then 1 else 0) = x at *
 generalize (if l[j] == b then 1 else 0) = y at *
 generalize (if e == b then 1 else 0) = z at *
 omega
theorem wrap_idx {k n : Nat} (h : k < n) (hn : n ≤ 1000000000000) : ∃ m2 k1 k2 : Nat, k1 = 2 * k + 1 ∧ k2 = 2 * k + 2 ∧ wrap64 (2 * (k : Int)) = (m2 : Int) ∧ wrap64 ((m2 : Int) + 1) = (k1 : Int) ∧ wrap64 ((k1 : Int) + 1) = (k2 : Int) ∧ IntKind.i64.wrap ((k1 : Int) + 1) = (k2 : Int) := by
 refine ⟨2 * k, 2 * k + 1, 2 * k + 2, rfl, rfl, ?_, ?_, ?_, ?_⟩
 ·unfold wrap64; omega
 ·unfold wrap64; omega
 ·unfold wrap64; omega
 ·rw [IntKind.wrap_i64]; omega
end Go.Proofs.YtfjocafepigijaaDoor.Qp
/- The program's sink: the entries stay, but for the first one, which makes room for another one. Condition: there is one. -/
namespace Go.Proofs.YtfjocafepigijaaDoor.Sk
open Go.RowKit Mv Qp

/-- an entry laid at a place of a row -/
theorem put2 {w : World} {base g cap n : Nat} {p : List (Int × Int)} (h : w.ownsRow base 192 2 (.slice (some ⟨g, 0, none⟩) n cap) n (fcs p)) (k : Nat) (a b : Int) (d : Nat) :
  (((w.drewN d).setCell ⟨g, k * 2, none⟩ (.int .i64 a)).setCell ⟨g, k * 2 + 1, none⟩ (.int .i64 b)).ownsRow base 192 2 (.slice (some ⟨g, 0, none⟩) n cap) n (fcs (p.set k (a, b))) ∧ w.grownBy (((w.drewN d).setCell ⟨g, k * 2, none⟩ (.int .i64 a)).setCell ⟨g, k * 2 + 1, none⟩ (.int .i64 b)) (some g) := by
 have h0 : (w.drewN d).ownsRow base 192 2 (.slice (some ⟨g, 0, none⟩) n cap) n (fcs p) := h
 have h1 := h0.stored (k * 2) (.int .i64 a)
 have h2 := h1.1.stored (k * 2 + 1) (.int .i64 b)
 rw [fcs_set] at h2
 have g0 : w.grownBy (w.drewN d) (some g) := ⟨rfl, rfl, rfl, Nat.le_refl _, fun _ _ _ => rfl⟩
 exact ⟨h2.1, (g0.trans h1.2).trans h2.2⟩
theorem moved {w0 w : World} {base g cap n k kk : Nat} {p z : List (Int × Int)} {c s a b : Int} (hown : w.ownsRow base 192 2 (.slice (some ⟨g, 0, none⟩) n cap) n (fcs p)) (hgr : w0.grownBy w (some g)) (hperm : (p.set k (c, s)).Perm z) (hpl : p.length = n) (hk : k < n) (hkk : kk < n) (hne : k ≠ kk) (hv : p[kk]? = some (a, b)) (d : Nat) :
  ∃ (k' : Nat) (p' : List (Int × Int)), Value.int .i64 (kk : Int) = .int .i64 (k' : Int) ∧ k' < n ∧ p'.length = n ∧ (p'.set k' (c, s)).Perm z ∧ (((w.drewN d).setCell ⟨g, k * 2, none⟩ (.int .i64 a)).setCell ⟨g, k * 2 + 1, none⟩ (.int .i64 b)).ownsRow base 192 2 (.slice (some ⟨g, 0, none⟩) n cap) n (fcs p') ∧ w0.grownBy (((w.drewN d).setCell ⟨g, k * 2, none⟩ (.int .i64 a)).setCell ⟨g, k * 2 + 1, none⟩ (.int .i64 b)) (some g) := by
 have h := put2 hown k a b d
 have e : p[kk]'(by omega) = (a, b) := (List.getElem?_eq_some_iff.1 hv).2
 refine ⟨kk, p.set k (a, b), rfl, hkk, by simpa using hpl, ?_, h.1, hgr.trans h.2⟩
 rw [← e]
 exact (set_swap p k kk (c, s) (by omega) (by omega) hne).trans hperm
theorem box_cell {w0 w : World} {g t : Nat} {x y : Value} (hg : g < w0.heap.size) (h : (w0.alloc (.cells #[x, y] t)).grownBy w (some g)) : w.cell? ⟨w0.heap.size, 0, none⟩ = some x ∧ w.cell? ⟨w0.heap.size, 1, none⟩ = some y := by
 have hb := h.block w0.heap.size (by simp) (by simp; omega)
 constructor
 ·rw [World.cell?_of_block (w := w0.alloc (.cells #[x, y] t)) hb]; simp
 ·rw [World.cell?_of_block (w := w0.alloc (.cells #[x, y] t)) hb]; simp

set_option maxHeartbeats 2000000 in
set_option maxRecDepth 100000 in
theorem sink_any (base g cap : Nat) (q : List (Int × Int)) (c s : Int) (w : World) (hown : w.ownsRow base 192 2 (.slice (some ⟨g, 0, none⟩) q.length cap) q.length (fcs q)) (hq : 0 < q.length) (hb : q.length ≤ 1000000000000) :
  Calls Tryd.prog 102 #[.slice (some ⟨g, 0, none⟩) q.length cap, .agg #[.int .i64 c, .int .i64 s]] w fun e w' => e = .returned (.tuple #[]) ∧ ∃ q', q'.Perm (q.set 0 (c, s)) ∧ w'.ownsRow base 192 2 (.slice (some ⟨g, 0, none⟩) q.length cap) q.length (fcs q') ∧ w.grownBy w' (some g) := by
 have hg := (hown.lt g rfl).2
 go_enter Tryd.func102, Tryd.ntmps102
 go_wp2
 go_loopw [4] (fun a wr => ∃ (k : Nat) (p : List (Int × Int)), a = .int .i64 k ∧ k < q.length ∧ p.length = q.length ∧ (p.set k (c, s)).Perm (q.set 0 (c, s)) ∧ wr.ownsRow base 192 2 (.slice (some ⟨g, 0, none⟩) q.length cap) q.length (fcs p) ∧ (w.alloc (.cells #[.int .i64 c, .int .i64 s] 192)).grownBy wr (some g)) (fun a _ => q.length - (intOf a).toNat)
 case atStart => exact ⟨0, q, rfl, hq, rfl, List.Perm.refl _, hown.alloc _, ⟨rfl, rfl, rfl, Nat.le_refl _, fun _ _ _ => rfl⟩⟩
 case round =>
  clear hown
  obtain ⟨k, p, rfl, hk, hpl, hperm, hown, hgr⟩ := hrel
  have y := box_cell hg hgr
  have y0 := y.1
  have y1 := y.2
  clear y
  obtain ⟨m2, k1, k2, e1, e2, a1, a2, a3, a4⟩ := wrap_idx hk hb
  have HE : Hid (k1 = 2 * k + 1 ∧ k2 = 2 * k + 2) := ⟨e1, e2⟩
  clear e1 e2
  have HP : Hid _ := hperm
  have HB : Hid (q.length ≤ 1000000000000) := hb
  clear hperm hb
  have f0 := hown.frozenAt (k * 2)
  have f1 := hown.frozenAt (k * 2 + 1)
  obtain ⟨z0, c0⟩ : ∃ z, wr.cell? ⟨g, k * 2, none⟩ = some z := ⟨_, by rw [hown.cellAt _ (by omega)]; exact (fcs_at p k (by omega)).1⟩
  obtain ⟨z1, c1⟩ : ∃ z, wr.cell? ⟨g, k * 2 + 1, none⟩ = some z := ⟨_, by rw [hown.cellAt _ (by omega)]; exact (fcs_at p k (by omega)).2⟩
  by_cases h2 : k2 < q.length
  ·have h1 : k1 < q.length := by have := HE.out; omega
   obtain ⟨⟨v2, s2⟩, ek2⟩ : ∃ v, p[k2]? = some v := ⟨_, List.getElem?_eq_getElem (by omega)⟩
   have ck2a : wr.cell? ⟨g, k2 * 2, none⟩ = some (.int .i64 v2) := by rw [hown.cellAt _ (by omega), (fcs_at p k2 (by omega)).1, (List.getElem?_eq_some_iff.1 ek2).2]
   have ck2b : wr.cell? ⟨g, k2 * 2 + 1, none⟩ = some (.int .i64 s2) := by rw [hown.cellAt _ (by omega), (fcs_at p k2 (by omega)).2, (List.getElem?_eq_some_iff.1 ek2).2]
   have Hk2 : Hid (p[k2]? = some (v2, s2)) := ek2
   clear ek2
   obtain ⟨⟨v1, s1⟩, ek1⟩ : ∃ v, p[k1]? = some v := ⟨_, List.getElem?_eq_getElem (by omega)⟩
   have ck1a : wr.cell? ⟨g, k1 * 2, none⟩ = some (.int .i64 v1) := by rw [hown.cellAt _ (by omega), (fcs_at p k1 (by omega)).1, (List.getElem?_eq_some_iff.1 ek1).2]
   have ck1b : wr.cell? ⟨g, k1 * 2 + 1, none⟩ = some (.int .i64 s1) := by rw [hown.cellAt _ (by omega), (fcs_at p k1 (by omega)).2, (List.getElem?_eq_some_iff.1 ek1).2]
   have Hk1 : Hid (p[k1]? = some (v1, s1)) := ek1
   clear ek1
   by_cases hlt : v2 < v1
   ·skip
    by_cases hge : v2 ≥ c
    ·have hge1 : c ≤ v2 := hge
     go_wp2
     repeat (go_quiet (fail); go_wp2)
     go_end0
     exact ⟨rfl, p.set k (c, s), HP.out, (put2 hown k c s _).1, (World.grownBy_alloc w _ _).trans (hgr.trans (put2 hown k c s _).2)⟩
    ·have hge2 : v2 < c := Int.not_le.1 hge
     go_wp2
     repeat (go_quiet (fail); go_wp2)
     exact ⟨moved hown hgr HP.out hpl hk h2 (by have := HE.out; omega) Hk2.out _, by have := HE.out; simp [intOf]; omega⟩
   ·skip
    by_cases hge : v1 ≥ c
    ·have hge1 : c ≤ v1 := hge
     go_wp2
     repeat (go_quiet (fail); go_wp2)
     go_end0
     exact ⟨rfl, p.set k (c, s), HP.out, (put2 hown k c s _).1, (World.grownBy_alloc w _ _).trans (hgr.trans (put2 hown k c s _).2)⟩
    ·have hge2 : v1 < c := Int.not_le.1 hge
     go_wp2
     repeat (go_quiet (fail); go_wp2)
     exact ⟨moved hown hgr HP.out hpl hk h1 (by have := HE.out; omega) Hk1.out _, by have := HE.out; simp [intOf]; omega⟩
  ·by_cases h1 : k1 < q.length
   ·skip
    obtain ⟨⟨v1, s1⟩, ek1⟩ : ∃ v, p[k1]? = some v := ⟨_, List.getElem?_eq_getElem (by omega)⟩
    have ck1a : wr.cell? ⟨g, k1 * 2, none⟩ = some (.int .i64 v1) := by rw [hown.cellAt _ (by omega), (fcs_at p k1 (by omega)).1, (List.getElem?_eq_some_iff.1 ek1).2]
    have ck1b : wr.cell? ⟨g, k1 * 2 + 1, none⟩ = some (.int .i64 s1) := by rw [hown.cellAt _ (by omega), (fcs_at p k1 (by omega)).2, (List.getElem?_eq_some_iff.1 ek1).2]
    have Hk1 : Hid (p[k1]? = some (v1, s1)) := ek1
    clear ek1
    by_cases hge : v1 ≥ c
    ·have hge1 : c ≤ v1 := hge
     go_wp2
     repeat (go_quiet (fail); go_wp2)
     go_end0
     exact ⟨rfl, p.set k (c, s), HP.out, (put2 hown k c s _).1, (World.grownBy_alloc w _ _).trans (hgr.trans (put2 hown k c s _).2)⟩
    ·have hge2 : v1 < c := Int.not_le.1 hge
     go_wp2
     repeat (go_quiet (fail); go_wp2)
     exact ⟨moved hown hgr HP.out hpl hk h1 (by have := HE.out; omega) Hk1.out _, by have := HE.out; simp [intOf]; omega⟩
   ·skip
    go_wp2
    repeat (go_quiet (fail); go_wp2)
    go_end0
    exact ⟨rfl, p.set k (c, s), HP.out, (put2 hown k c s _).1, (World.grownBy_alloc w _ _).trans (hgr.trans (put2 hown k c s _).2)⟩
end Go.Proofs.YtfjocafepigijaaDoor.Sk
