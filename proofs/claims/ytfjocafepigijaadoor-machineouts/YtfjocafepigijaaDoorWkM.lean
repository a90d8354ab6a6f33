/- How machines and lists of numbers lie in memory, to be read; what Check says of a machine, in plain words. No conditions. -/
import Derived.Test.YtfjocafepigijaaDoorProg
import Derived.WalkKit
import Derived.WalkSpells
import Derived.WalkLawsBesides
import Derived.BigCall
namespace Go.Proofs.YtfjocafepigijaaDoor.Mv
open Go.RowKit

/-- a slice that is read: n elements of so many cells each -/
def Row (w : World) (v : Value) (size n : Nat) (xs : List Value) : Prop :=
  xs.length = n * size ∧ ∃ a cap, v = .slice a n cap ∧ n ≤ 140737488355328 ∧ (n = 0 ∨ ∃ b off, a = some ⟨b, off, none⟩ ∧ b < w.heap.size ∧ ∀ j u, xs[j]? = some u → w.cell? ⟨b, off + j, none⟩ = some u)

theorem Row.below {w w' : World} {v : Value} {size n : Nat} {xs : List Value} (h : Row w v size n xs) (hb : Below w.heap.size w w') : Row w' v size n xs := by
  obtain ⟨hl, a, cap, hv, hn, h⟩ := h
  refine ⟨hl, a, cap, hv, hn, ?_⟩
  rcases h with h | ⟨b, off, ha, hlt, hc⟩
  · exact .inl h
  · exact .inr ⟨b, off, ha, Nat.lt_of_lt_of_le hlt hb.size, fun j u hu => (hb.cell (p := ⟨b, off + j, none⟩) hlt).trans (hc j u hu)⟩
/-- a machine: states; arcs (from, to, in, out, cost); finals (state, cost) -/
structure M where
  st : Int
  arcs : List (Int × Int × Int × Int × Int)
  fins : List (Int × Int)
def ac (a : Int × Int × Int × Int × Int) : List Value := [.int .i64 a.1, .int .i64 a.2.1, .int .i64 a.2.2.1, .int .i64 a.2.2.2.1, .int .i64 a.2.2.2.2]
def acs (l : List (Int × Int × Int × Int × Int)) : List Value := l.flatMap ac
def fc (a : Int × Int) : List Value := [.int .i64 a.1, .int .i64 a.2]
def fcs (l : List (Int × Int)) : List Value := l.flatMap fc

theorem acs_length (l : List (Int × Int × Int × Int × Int)) : (acs l).length = l.length * 5 := by
  induction l with
  | nil => rfl
  | cons a l ih => simp [acs, ac] at ih ⊢; omega
theorem fcs_length (l : List (Int × Int)) : (fcs l).length = l.length * 2 := by
  induction l with
  | nil => rfl
  | cons a l ih => simp [fcs, fc] at ih ⊢; omega
theorem acs_at (l : List (Int × Int × Int × Int × Int)) (k : Nat) (h : k < l.length) :
    (acs l)[k * 5]? = some (.int .i64 (l[k]).1) ∧ (acs l)[k * 5 + 1]? = some (.int .i64 (l[k]).2.1) ∧ (acs l)[k * 5 + 2]? = some (.int .i64 (l[k]).2.2.1) ∧ (acs l)[k * 5 + 3]? = some (.int .i64 (l[k]).2.2.2.1) ∧ (acs l)[k * 5 + 4]? = some (.int .i64 (l[k]).2.2.2.2) := by
  induction l generalizing k with
  | nil => simp at h
  | cons a l ih =>
    cases k with
    | zero => simp [acs, ac]
    | succ k =>
      have := ih k (by simpa using h)
      have e : ∀ j, (acs (a :: l))[(k + 1) * 5 + j]? = (acs l)[k * 5 + j]? := by
        intro j
        have : (k + 1) * 5 + j = (k * 5 + j) + 5 := by omega
        rw [this]
        simp [acs, ac]
      exact ⟨(e 0).trans this.1, (e 1).trans this.2.1, (e 2).trans this.2.2.1, (e 3).trans this.2.2.2.1, (e 4).trans this.2.2.2.2⟩
theorem fcs_at (l : List (Int × Int)) (k : Nat) (h : k < l.length) : (fcs l)[k * 2]? = some (.int .i64 (l[k]).1) ∧ (fcs l)[k * 2 + 1]? = some (.int .i64 (l[k]).2) := by
  induction l generalizing k with
  | nil => simp at h
  | cons a l ih =>
    cases k with
    | zero => simp [fcs, fc]
    | succ k =>
      have := ih k (by simpa using h)
      have e : ∀ j, (fcs (a :: l))[(k + 1) * 2 + j]? = (fcs l)[k * 2 + j]? := by
        intro j
        have : (k + 1) * 2 + j = (k * 2 + j) + 2 := by omega
        rw [this]
        simp [fcs, fc]
      exact ⟨(e 0).trans this.1, (e 1).trans this.2⟩

/-- a machine, handed in by value -/
def IsM (w : World) (v : Value) (m : M) : Prop := ∃ va vf, v = .agg #[.int .i64 m.st, va, vf] ∧ Row w va 5 m.arcs.length (acs m.arcs) ∧ Row w vf 2 m.fins.length (fcs m.fins)
theorem IsM.below {w w' : World} {v : Value} {m : M} (h : IsM w v m) (hb : Below w.heap.size w w') : IsM w' v m := by
  obtain ⟨va, vf, hv, h1, h2⟩ := h
  exact ⟨va, vf, hv, h1.below hb, h2.below hb⟩

/-- B1, in plain words -/
def arcB (st : Int) (a : Int × Int × Int × Int × Int) : Bool :=
  decide (0 ≤ a.1 ∧ a.1 < st ∧ 0 ≤ a.2.1 ∧ a.2.1 < st ∧ 0 ≤ a.2.2.1 ∧ a.2.2.1 ≤ 60 ∧ 0 ≤ a.2.2.2.1 ∧ a.2.2.2.1 ≤ 60 ∧ 0 ≤ a.2.2.2.2 ∧ a.2.2.2.2 ≤ 1000000)
def finB (st : Int) (f : Int × Int) : Bool := decide (0 ≤ f.1 ∧ f.1 < st ∧ 0 ≤ f.2 ∧ f.2 ≤ 1000000)
def sizeB (m : M) : Bool := decide (1 ≤ m.st ∧ m.st ≤ 3000 ∧ (m.arcs.length : Int) ≤ 20000 ∧ (m.fins.length : Int) ≤ m.st)
/-- no state is final twice among the first k -/
def onceK (m : M) (k : Nat) : Prop := ∀ i j (hi : i < m.fins.length) (hj : j < m.fins.length), i < j → j < k → (m.fins[i]).1 ≠ (m.fins[j]).1
def checkP (m : M) (e : Int) : Prop :=
  (sizeB m = false ∧ e = 7) ∨
  (sizeB m = true ∧ (∃ k, ∃ h : k < m.arcs.length, arcB m.st m.arcs[k] = false) ∧ e = 3) ∨
  (sizeB m = true ∧ (∀ k (h : k < m.arcs.length), arcB m.st m.arcs[k] = true) ∧ (∃ k, ∃ h : k < m.fins.length, finB m.st m.fins[k] = false) ∧ e = 3) ∨
  (sizeB m = true ∧ (∀ k (h : k < m.arcs.length), arcB m.st m.arcs[k] = true) ∧ (∀ k (h : k < m.fins.length), finB m.st m.fins[k] = true) ∧ ¬ onceK m m.fins.length ∧ e = 6) ∨
  (sizeB m = true ∧ (∀ k (h : k < m.arcs.length), arcB m.st m.arcs[k] = true) ∧ (∀ k (h : k < m.fins.length), finB m.st m.fins[k] = true) ∧ onceK m m.fins.length ∧ e = 0)
theorem checkP_one {m : M} {e e' : Int} (h : checkP m e) (h' : checkP m e') : e = e' := by
  rcases h with ⟨a, r⟩ | ⟨a, ⟨k, hk, b⟩, r⟩ | ⟨a, b, ⟨k, hk, c⟩, r⟩ | ⟨a, b, c, d, r⟩ | ⟨a, b, c, d, r⟩ <;>
  rcases h' with ⟨a', r'⟩ | ⟨a', ⟨k', hk', b'⟩, r'⟩ | ⟨a', b', ⟨k', hk', c'⟩, r'⟩ | ⟨a', b', c', d', r'⟩ | ⟨a', b', c', d', r'⟩ <;>
  first
  | omega
  | (rw [a] at a'; exact absurd a' (by decide))
  | (have q := b' k hk; rw [b] at q; exact absurd q (by decide))
  | (have q := b k' hk'; rw [b'] at q; exact absurd q (by decide))
  | (have q := c' k hk; rw [c] at q; exact absurd q (by decide))
  | (have q := c k' hk'; rw [c'] at q; exact absurd q (by decide))
  | exact absurd d' d
  | exact absurd d d'
end Go.Proofs.YtfjocafepigijaaDoor.Mv
/- Plain facts on walks of a machine and their least cost: a table of costs that no arc betters is the table of the least. No conditions beyond that the machine is right. -/
namespace Go.Proofs.YtfjocafepigijaaDoor.Wk
open Mv

def dear : Nat := 1152921504606846976

/-- what an arc reads and writes at a place of both texts, and the place behind -/
def Move (inn out : List Int) (told : Bool) (a : Int × Int × Int × Int × Int) (i j i' j' : Nat) : Prop :=
  ((a.2.2.1 = 0 ∧ i' = i) ∨ (0 < a.2.2.1 ∧ inn[i]? = some a.2.2.1 ∧ i' = i + 1)) ∧
  (((a.2.2.2.1 = 0 ∨ told = false) ∧ j' = j) ∨ (0 < a.2.2.2.1 ∧ told = true ∧ out[j]? = some a.2.2.2.1 ∧ j' = j + 1))

/-- a walk of so many arcs comes to a state at a place of both texts, for so much -/
def ReachN (m : M) (inn out : List Int) (told : Bool) : Nat → Nat → Nat → Nat → Nat → Prop
  | 0, s, i, j, c => s = 0 ∧ i = 0 ∧ j = 0 ∧ c = 0
  | t + 1, s', i', j', c' => ∃ s i j c x, ∃ h : x < m.arcs.length, ReachN m inn out told t s i j c ∧ (m.arcs[x]).1 = (s : Int) ∧ (m.arcs[x]).2.1 = (s' : Int) ∧ Move inn out told m.arcs[x] i j i' j' ∧ (c' : Int) = c + (m.arcs[x]).2.2.2.2
def Reach (m : M) (inn out : List Int) (told : Bool) (s i j c : Nat) : Prop := ∃ t, ReachN m inn out told t s i j c

def cols (out : List Int) (told : Bool) : Nat := if told then out.length + 1 else 1
def idx (n k s i j : Nat) : Nat := (s * n + i) * k + j
theorem idx_lt {S n k s i j : Nat} (hs : s < S) (hi : i < n) (hj : j < k) : idx n k s i j < S * n * k := by
  unfold idx
  have h1 : s * n + i + 1 ≤ S * n := by
    have : (s + 1) * n ≤ S * n := Nat.mul_le_mul_right n hs
    rw [Nat.add_mul] at this
    omega
  have h2 : (s * n + i + 1) * k ≤ S * n * k := Nat.mul_le_mul_right k h1
  rw [Nat.add_mul (s * n + i) 1 k] at h2
  omega
theorem pair_inj {n a b i j : Nat} (hi : i < n) (hj : j < n) (h : a * n + i = b * n + j) : a = b ∧ i = j := by
  have h1 : (a * n + i) / n = a := by rw [Nat.mul_comm, Nat.mul_add_div (by omega), Nat.div_eq_of_lt hi]; omega
  have h2 : (b * n + j) / n = b := by rw [Nat.mul_comm, Nat.mul_add_div (by omega), Nat.div_eq_of_lt hj]; omega
  rw [h] at h1
  have e : a = b := by omega
  subst e
  exact ⟨rfl, by omega⟩
theorem idx_inj {n k s i j s' i' j' : Nat} (hi : i < n) (hj : j < k) (hi' : i' < n) (hj' : j' < k) (h : idx n k s i j = idx n k s' i' j') : s = s' ∧ i = i' ∧ j = j' := by
  unfold idx at h
  obtain ⟨h1, h2⟩ := pair_inj hj hj' h
  obtain ⟨h3, h4⟩ := pair_inj hi hi' h1
  exact ⟨h3, h4, h2⟩

theorem Move.bd {inn out : List Int} {told : Bool} {a : Int × Int × Int × Int × Int} {i j i' j' : Nat} (h : Move inn out told a i j i' j') (hi : i < inn.length + 1) (hj : j < cols out told) : i' < inn.length + 1 ∧ j' < cols out told := by
  obtain ⟨h1, h2⟩ := h
  constructor
  · rcases h1 with ⟨_, rfl⟩ | ⟨_, h, rfl⟩
    · exact hi
    · have := (List.getElem?_eq_some_iff.1 h).1
      omega
  · rcases h2 with ⟨_, rfl⟩ | ⟨_, ht, h, rfl⟩
    · exact hj
    · have := (List.getElem?_eq_some_iff.1 h).1
      unfold cols
      rw [if_pos ht]
      omega

/-- what the table has at a place -/
def val (B : List Nat) (q : Nat) : Nat := B.getD q dear
theorem val_set (B : List Nat) (q v r : Nat) (hq : q < B.length) : val (B.set q v) r = if q = r then v else val B r := by
  unfold val
  rw [List.getD_eq_getElem?_getD, List.getD_eq_getElem?_getD, List.getElem?_set]
  split
  · simp
  · rfl
def cnt (B : List Nat) : Nat := B.countP fun x => decide (x < dear)
theorem cnt_set (B : List Nat) (q v : Nat) (hq : q < B.length) (hv : v < dear) : (val B q < dear → cnt (B.set q v) = cnt B) ∧ (¬ val B q < dear → cnt (B.set q v) = cnt B + 1) := by
  have e : val B q = B[q] := by unfold val; simp [hq]
  unfold cnt
  rw [List.countP_set hq, e]
  constructor
  · intro h
    have hp : 0 < B.countP (fun x => decide (x < dear)) := List.countP_pos_iff.2 ⟨B[q], List.getElem_mem hq, by simpa using h⟩
    simp [h, hv]
    omega
  · intro h
    simp [h, hv]
theorem cnt_le (B : List Nat) : cnt B ≤ B.length := List.countP_le_length
theorem sum_set (B : List Nat) (q v : Nat) (hq : q < B.length) : (B.set q v).sum + val B q = B.sum + v := by
  induction B generalizing q with
  | nil => simp at hq
  | cons a B ih =>
    cases q with
    | zero => simp [val]; omega
    | succ q =>
      have := ih q (by simpa using hq)
      simp [val] at this ⊢
      omega

/-- a table that is on its way: what it has is the cost of a walk -/
structure Inv (m : M) (inn out : List Int) (told : Bool) (S : Nat) (B : List Nat) : Prop where
  len : B.length = S * (inn.length + 1) * cols out told
  top : ∀ q, val B q ≤ dear
  zero : val B 0 = 0
  real : ∀ s i j, s < S → i < inn.length + 1 → j < cols out told → val B (idx (inn.length + 1) (cols out told) s i j) < dear → Reach m inn out told s i j (val B (idx (inn.length + 1) (cols out told) s i j))
  small : ∀ q, val B q < dear → val B q ≤ 1000000 * cnt B

/-- no arc betters anything at a place -/
def Rel (inn out : List Int) (told : Bool) (B : List Nat) (a : Int × Int × Int × Int × Int) (i j : Nat) : Prop :=
  ∀ s s' i' j' : Nat, a.1 = (s : Int) → a.2.1 = (s' : Int) → Move inn out told a i j i' j' → val B (idx (inn.length + 1) (cols out told) s i j) < dear →
    (val B (idx (inn.length + 1) (cols out told) s' i' j') : Int) ≤ val B (idx (inn.length + 1) (cols out told) s i j) + a.2.2.2.2

theorem Inv.step {m : M} {inn out : List Int} {told : Bool} {S : Nat} {B : List Nat} (h : Inv m inn out told S B) (x : Nat) (hx : x < m.arcs.length) (s s' i j i' j' W : Nat) (hs : s < S) (hs' : s' < S) (hi : i < inn.length + 1) (hj : j < cols out told)
    (e1 : (m.arcs[x]).1 = (s : Int)) (e2 : (m.arcs[x]).2.1 = (s' : Int)) (eW : (m.arcs[x]).2.2.2.2 = (W : Int)) (hW : W ≤ 1000000) (hm : Move inn out told m.arcs[x] i j i' j')
    (hp : val B (idx (inn.length + 1) (cols out told) s i j) < dear) (hN : B.length ≤ 100000000)
    (hlt : val B (idx (inn.length + 1) (cols out told) s i j) + W < val B (idx (inn.length + 1) (cols out told) s' i' j')) :
    Inv m inn out told S (B.set (idx (inn.length + 1) (cols out told) s' i' j') (val B (idx (inn.length + 1) (cols out told) s i j) + W)) ∧
    (B.set (idx (inn.length + 1) (cols out told) s' i' j') (val B (idx (inn.length + 1) (cols out told) s i j) + W)).sum < B.sum := by
  obtain ⟨hi', hj'⟩ := hm.bd hi hj
  have hq : idx (inn.length + 1) (cols out told) s' i' j' < B.length := by rw [h.len]; exact idx_lt hs' hi' hj'
  have hsm := h.small _ hp
  have hcl := cnt_le B
  generalize hpv : val B (idx (inn.length + 1) (cols out told) s i j) = p at *
  have hvd : p + W < dear := by unfold dear; omega
  generalize hqe : idx (inn.length + 1) (cols out told) s' i' j' = q at *
  have hcs := cnt_set B q (p + W) hq hvd
  have hcge : cnt B ≤ cnt (B.set q (p + W)) := by
    by_cases hd : val B q < dear
    · rw [hcs.1 hd]; omega
    · rw [hcs.2 hd]; omega
  refine ⟨⟨by rw [List.length_set]; exact h.len, ?_, ?_, ?_, ?_⟩, ?_⟩
  · intro r
    rw [val_set B q _ r hq]
    split
    · omega
    · exact h.top r
  · rw [val_set B q _ 0 hq]
    split
    · rename_i hz
      rw [hz, h.zero] at hlt
      omega
    · exact h.zero
  · intro s2 i2 j2 hs2 hi2 hj2
    rw [val_set B q _ _ hq]
    split
    · rename_i hz
      intro _
      rw [← hqe] at hz
      obtain ⟨rfl, rfl, rfl⟩ := idx_inj hi' hj' hi2 hj2 hz
      have hr := h.real s i j hs hi hj
      rw [hpv] at hr
      obtain ⟨t, ht⟩ := hr hp
      exact ⟨t + 1, s, i, j, p, x, hx, ht, e1, e2, hm, by rw [eW]; omega⟩
    · exact h.real s2 i2 j2 hs2 hi2 hj2
  · intro r
    rw [val_set B q _ r hq]
    split
    · intro _
      by_cases hd : val B q < dear
      · have := h.small q hd
        rw [hcs.1 hd]
        omega
      · rw [hcs.2 hd]
        omega
    · intro hr
      have := h.small r hr
      omega
  · have := sum_set B q (p + W) hq
    omega

/-- a right machine of S states -/
def Right (m : M) (S : Nat) : Prop := m.st = (S : Int) ∧ 0 < S ∧ ∀ x (h : x < m.arcs.length), arcB m.st m.arcs[x] = true

theorem reach_bd {m : M} {inn out : List Int} {told : Bool} {S : Nat} (hr : Right m S) : ∀ t s i j c, ReachN m inn out told t s i j c → s < S ∧ i < inn.length + 1 ∧ j < cols out told
  | 0, s, i, j, c, h => by
    obtain ⟨rfl, rfl, rfl, _⟩ := h
    exact ⟨hr.2.1, by omega, by unfold cols; split <;> omega⟩
  | t + 1, s', i', j', c', h => by
    obtain ⟨s, i, j, c, x, hx, h, _, e2, hm, _⟩ := h
    have ih := reach_bd hr t s i j c h
    have ha := hr.2.2 x hx
    unfold arcB at ha
    simp only [decide_eq_true_eq] at ha
    have hst := hr.1
    exact ⟨by omega, hm.bd ih.2.1 ih.2.2⟩

/-- a table that no arc betters has the least -/
theorem least {m : M} {inn out : List Int} {told : Bool} {S : Nat} {B : List Nat} (hr : Right m S) (h : Inv m inn out told S B) (hf : ∀ x (hx : x < m.arcs.length), ∀ i j, i < inn.length + 1 → j < cols out told → Rel inn out told B m.arcs[x] i j) :
    ∀ t s i j c, ReachN m inn out told t s i j c → val B (idx (inn.length + 1) (cols out told) s i j) ≤ c
  | 0, s, i, j, c, h0 => by
    obtain ⟨rfl, rfl, rfl, _⟩ := h0
    have e : idx (inn.length + 1) (cols out told) 0 0 0 = 0 := by unfold idx; simp
    rw [e, h.zero]
    omega
  | t + 1, s', i', j', c', h1 => by
    obtain ⟨s, i, j, c, x, hx, h1, e1, e2, hm, ec⟩ := h1
    have ih := least hr h hf t s i j c h1
    have bd := reach_bd hr t s i j c h1
    have ha := hr.2.2 x hx
    unfold arcB at ha
    simp only [decide_eq_true_eq] at ha
    by_cases hd : val B (idx (inn.length + 1) (cols out told) s i j) < dear
    · have := hf x hx i j bd.2.1 bd.2.2 s s' i' j' e1 e2 hm hd
      omega
    · have := h.top (idx (inn.length + 1) (cols out told) s' i' j')
      omega

/-- the least cost of a walk that ends: dear, if there is none -/
def IsCost (m : M) (inn out : List Int) (told : Bool) (v : Nat) : Prop :=
  (v = dear ∧ ∀ y (hy : y < m.fins.length), ∀ f c : Nat, (m.fins[y]).1 = (f : Int) → ¬ Reach m inn out told f inn.length (cols out told - 1) c) ∨
  (v < dear ∧ (∃ y, ∃ hy : y < m.fins.length, ∃ f c : Nat, (m.fins[y]).1 = (f : Int) ∧ Reach m inn out told f inn.length (cols out told - 1) c ∧ (v : Int) = c + (m.fins[y]).2) ∧
   ∀ y (hy : y < m.fins.length), ∀ f c : Nat, (m.fins[y]).1 = (f : Int) → Reach m inn out told f inn.length (cols out told - 1) c → (v : Int) ≤ c + (m.fins[y]).2)
theorem IsCost.one {m : M} {inn out : List Int} {told : Bool} {v v' : Nat} (h : IsCost m inn out told v) (h' : IsCost m inn out told v') : v = v' := by
  rcases h with ⟨rfl, h⟩ | ⟨_, ⟨y, hy, f, c, e, r, ev⟩, hl⟩ <;> rcases h' with ⟨rfl, h'⟩ | ⟨_, ⟨y', hy', f', c', e', r', ev'⟩, hl'⟩
  · rfl
  · exact absurd r' (h y' hy' f' c' e')
  · exact absurd r (h' y hy f c e)
  · have q1 := hl y' hy' f' c' e' r'
    have q2 := hl' y hy f c e r
    omega
end Go.Proofs.YtfjocafepigijaaDoor.Wk
