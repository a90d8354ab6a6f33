/- How machines and lists of numbers lie in memory, to be read; what Check says of a machine, in plain words. No conditions. -/
import Derived.Test.YtfjocafepigijaaDoorProg
import Derived.WalkKit
import Derived.WalkSpells
import Derived.WalkLawsBesides
import Derived.BigCall
namespace Go.Proofs.YtfjocafepigijaaDoor.Bw
end Go.Proofs.YtfjocafepigijaaDoor.Bw
namespace Go.Proofs.YtfjocafepigijaaDoor.Ec
end Go.Proofs.YtfjocafepigijaaDoor.Ec
namespace Go.Proofs.YtfjocafepigijaaDoor.Gc
end Go.Proofs.YtfjocafepigijaaDoor.Gc
namespace Go.Proofs.YtfjocafepigijaaDoor.Jf
end Go.Proofs.YtfjocafepigijaaDoor.Jf
namespace Go.Proofs.YtfjocafepigijaaDoor.Ry
end Go.Proofs.YtfjocafepigijaaDoor.Ry
namespace Go.Proofs.YtfjocafepigijaaDoor.Th
end Go.Proofs.YtfjocafepigijaaDoor.Th
namespace Go.Proofs.YtfjocafepigijaaDoor.Zz
end Go.Proofs.YtfjocafepigijaaDoor.Zz
namespace Go.Proofs.YtfjocafepigijaaDoor.Mv
open Go.RowKit

/-- a slice that is read: n elements of so many cells each -/
def Row (w : World) (v : Value) (size n : Nat) (xs : List Value) : Prop :=
  xs.length = n * size ∧ ∃ a cap, v = .slice a n cap ∧ n ≤ 140737488355328 ∧ (n = 0 ∨ ∃ b off, a = some ⟨b, off, none⟩ ∧ b < w.heap.size ∧ ∀ j u, xs[j]? = some u → w.cell? ⟨b, off + j, none⟩ = some u)

theorem Row.below {w w' : World} {v : Value} {size n : Nat} {xs : List Value} (h : Row w v size n xs) (hb : Below w.heap.size w w') : Row w' v size n xs := by
  obtain ⟨hl, a, cap, hv, hn, h⟩ := h
  refine ⟨hl, a, cap, hv, hn, ?_⟩
  rcases h with h | ⟨b, off, ha, hlt, hc⟩
  · exact .inl h
  · exact .inr ⟨b, off, ha, Nat.lt_of_lt_of_le hlt hb.size, fun j u hu => (hb.cell (p := ⟨b, off + j, none⟩) hlt).trans (hc j u hu)⟩
/-- a machine: states; arcs (from, to, in, out, cost); finals (state, cost) -/
structure M where
  st : Int
  arcs : List (Int × Int × Int × Int × Int)
  fins : List (Int × Int)
def ac (a : Int × Int × Int × Int × Int) : List Value := [.int .i64 a.1, .int .i64 a.2.1, .int .i64 a.2.2.1, .int .i64 a.2.2.2.1, .int .i64 a.2.2.2.2]
def acs (l : List (Int × Int × Int × Int × Int)) : List Value := l.flatMap ac
def fc (a : Int × Int) : List Value := [.int .i64 a.1, .int .i64 a.2]
def fcs (l : List (Int × Int)) : List Value := l.flatMap fc

theorem acs_length (l : List (Int × Int × Int × Int × Int)) : (acs l).length = l.length * 5 := by
  induction l with
  | nil => rfl
  | cons a l ih => simp [acs, ac] at ih ⊢; omega
theorem fcs_length (l : List (Int × Int)) : (fcs l).length = l.length * 2 := by
  induction l with
  | nil => rfl
  | cons a l ih => simp [fcs, fc] at ih ⊢; omega
theorem acs_at (l : List (Int × Int × Int × Int × Int)) (k : Nat) (h : k < l.length) :
    (acs l)[k * 5]? = some (.int .i64 (l[k]).1) ∧ (acs l)[k * 5 + 1]? = some (.int .i64 (l[k]).2.1) ∧ (acs l)[k * 5 + 2]? = some (.int .i64 (l[k]).2.2.1) ∧ (acs l)[k * 5 + 3]? = some (.int .i64 (l[k]).2.2.2.1) ∧ (acs l)[k * 5 + 4]? = some (.int .i64 (l[k]).2.2.2.2) := by
  induction l generalizing k with
  | nil => simp at h
  | cons a l ih =>
    cases k with
    | zero => simp [acs, ac]
    | succ k =>
      have := ih k (by simpa using h)
      have e : ∀ j, (acs (a :: l))[(k + 1) * 5 + j]? = (acs l)[k * 5 + j]? := by
        intro j
        have : (k + 1) * 5 + j = (k * 5 + j) + 5 := by omega
        rw [this]
        simp [acs, ac]
      exact ⟨(e 0).trans this.1, (e 1).trans this.2.1, (e 2).trans this.2.2.1, (e 3).trans this.2.2.2.1, (e 4).trans this.2.2.2.2⟩
theorem fcs_at (l : List (Int × Int)) (k : Nat) (h : k < l.length) : (fcs l)[k * 2]? = some (.int .i64 (l[k]).1) ∧ (fcs l)[k * 2 + 1]? = some (.int .i64 (l[k]).2) := by
  induction l generalizing k with
  | nil => simp at h
  | cons a l ih =>
    cases k with
    | zero => simp [fcs, fc]
    | succ k =>
      have := ih k (by simpa using h)
      have e : ∀ j, (fcs (a :: l))[(k + 1) * 2 + j]? = (fcs l)[k * 2 + j]? := by
        intro j
        have : (k + 1) * 2 + j = (k * 2 + j) + 2 := by omega
        rw [this]
        simp [fcs, fc]
      exact ⟨(e 0).trans this.1, (e 1).trans this.2⟩

/-- a machine, handed in by value -/
def IsM (w : World) (v : Value) (m : M) : Prop := ∃ va vf, v = .agg #[.int .i64 m.st, va, vf] ∧ Row w va 5 m.arcs.length (acs m.arcs) ∧ Row w vf 2 m.fins.length (fcs m.fins)
theorem IsM.below {w w' : World} {v : Value} {m : M} (h : IsM w v m) (hb : Below w.heap.size w w') : IsM w' v m := by
  obtain ⟨va, vf, hv, h1, h2⟩ := h
  exact ⟨va, vf, hv, h1.below hb, h2.below hb⟩

/-- B1, in plain words -/
def arcB (st : Int) (a : Int × Int × Int × Int × Int) : Bool :=
  decide (0 ≤ a.1 ∧ a.1 < st ∧ 0 ≤ a.2.1 ∧ a.2.1 < st ∧ 0 ≤ a.2.2.1 ∧ a.2.2.1 ≤ 60 ∧ 0 ≤ a.2.2.2.1 ∧ a.2.2.2.1 ≤ 60 ∧ 0 ≤ a.2.2.2.2 ∧ a.2.2.2.2 ≤ 1000000)
def finB (st : Int) (f : Int × Int) : Bool := decide (0 ≤ f.1 ∧ f.1 < st ∧ 0 ≤ f.2 ∧ f.2 ≤ 1000000)
def sizeB (m : M) : Bool := decide (1 ≤ m.st ∧ m.st ≤ 3000 ∧ (m.arcs.length : Int) ≤ 20000 ∧ (m.fins.length : Int) ≤ m.st)
/-- no state is final twice among the first k -/
def onceK (m : M) (k : Nat) : Prop := ∀ i j (hi : i < m.fins.length) (hj : j < m.fins.length), i < j → j < k → (m.fins[i]).1 ≠ (m.fins[j]).1
def checkP (m : M) (e : Int) : Prop :=
  (sizeB m = false ∧ e = 7) ∨
  (sizeB m = true ∧ (∃ k, ∃ h : k < m.arcs.length, arcB m.st m.arcs[k] = false) ∧ e = 3) ∨
  (sizeB m = true ∧ (∀ k (h : k < m.arcs.length), arcB m.st m.arcs[k] = true) ∧ (∃ k, ∃ h : k < m.fins.length, finB m.st m.fins[k] = false) ∧ e = 3) ∨
  (sizeB m = true ∧ (∀ k (h : k < m.arcs.length), arcB m.st m.arcs[k] = true) ∧ (∀ k (h : k < m.fins.length), finB m.st m.fins[k] = true) ∧ ¬ onceK m m.fins.length ∧ e = 6) ∨
  (sizeB m = true ∧ (∀ k (h : k < m.arcs.length), arcB m.st m.arcs[k] = true) ∧ (∀ k (h : k < m.fins.length), finB m.st m.fins[k] = true) ∧ onceK m m.fins.length ∧ e = 0)
theorem checkP_one {m : M} {e e' : Int} (h : checkP m e) (h' : checkP m e') : e = e' := by
  rcases h with ⟨a, r⟩ | ⟨a, ⟨k, hk, b⟩, r⟩ | ⟨a, b, ⟨k, hk, c⟩, r⟩ | ⟨a, b, c, d, r⟩ | ⟨a, b, c, d, r⟩ <;>
  rcases h' with ⟨a', r'⟩ | ⟨a', ⟨k', hk', b'⟩, r'⟩ | ⟨a', b', ⟨k', hk', c'⟩, r'⟩ | ⟨a', b', c', d', r'⟩ | ⟨a', b', c', d', r'⟩ <;>
  first
  | omega
  | (rw [a] at a'; exact absurd a' (by decide))
  | (have q := b' k hk; rw [b] at q; exact absurd q (by decide))
  | (have q := b k' hk'; rw [b'] at q; exact absurd q (by decide))
  | (have q := c' k hk; rw [c] at q; exact absurd q (by decide))
  | (have q := c k' hk'; rw [c'] at q; exact absurd q (by decide))
  | exact absurd d' d
  | exact absurd d d'
end Go.Proofs.YtfjocafepigijaaDoor.Mv
/- Plain facts on walks of a machine and their least cost: a table of costs that no arc betters is the table of the least. No conditions beyond that the machine is right. -/
namespace Go.Proofs.YtfjocafepigijaaDoor.Wk
open Mv

/-- what an arc reads and writes at a place of both texts, and the place behind -/
def Move (inn out : List Int) (told : Bool) (a : Int × Int × Int × Int × Int) (i j i' j' : Nat) : Prop :=
  ((a.2.2.1 = 0 ∧ i' = i) ∨ (0 < a.2.2.1 ∧ inn[i]? = some a.2.2.1 ∧ i' = i + 1)) ∧
  (((a.2.2.2.1 = 0 ∨ told = false) ∧ j' = j) ∨ (0 < a.2.2.2.1 ∧ told = true ∧ out[j]? = some a.2.2.2.1 ∧ j' = j + 1))

/-- a walk of so many arcs comes to a state at a place of both texts, for so much -/
def ReachN (m : M) (inn out : List Int) (told : Bool) : Nat → Nat → Nat → Nat → Nat → Prop
  | 0, s, i, j, c => s = 0 ∧ i = 0 ∧ j = 0 ∧ c = 0
  | t + 1, s', i', j', c' => ∃ s i j c x, ∃ h : x < m.arcs.length, ReachN m inn out told t s i j c ∧ (m.arcs[x]).1 = (s : Int) ∧ (m.arcs[x]).2.1 = (s' : Int) ∧ Move inn out told m.arcs[x] i j i' j' ∧ (c' : Int) = c + (m.arcs[x]).2.2.2.2
def Reach (m : M) (inn out : List Int) (told : Bool) (s i j c : Nat) : Prop := ∃ t, ReachN m inn out told t s i j c

/-- a right machine of S states -/
def Right (m : M) (S : Nat) : Prop := m.st = (S : Int) ∧ 0 < S ∧ ∀ x (h : x < m.arcs.length), arcB m.st m.arcs[x] = true

end Go.Proofs.YtfjocafepigijaaDoor.Wk
/- The queue's entries in plain words: what is moved about stays what it was but for its order. No conditions. -/
namespace Go.Proofs.YtfjocafepigijaaDoor.Qp
open Go.RowKit Mv

theorem fcs_set (l : List (Int × Int)) (k : Nat) (a b : Int) : ((fcs l).set (k * 2) (.int .i64 a)).set (k * 2 + 1) (.int .i64 b) = fcs (l.set k (a, b)) := by
  induction l generalizing k with
  | nil => simp [fcs]
  | cons x l ih =>
    cases k with
    | zero => simp [fcs, fc]
    | succ k =>
      have e : (k + 1) * 2 = k * 2 + 1 + 1 := by omega
      have := ih k
      rw [e]
      have e2 : ∀ m : List (Int × Int), fcs (x :: m) = .int .i64 x.1 :: .int .i64 x.2 :: fcs m := fun m => rfl
      simp only [e2, List.set_cons_succ, ← this]

/-- a thing moved from one place to another, and another one laid where it was -/
theorem set_swap (l : List (Int × Int)) (i j : Nat) (e : Int × Int) (hi : i < l.length) (hj : j < l.length) (hne : i ≠ j) : ((l.set i l[j]).set j e).Perm (l.set i e) := by
  rw [List.perm_iff_count]
  intro b
  have h1 : (l.set i l[j]).count b = l.count b - (if l[i] == b then 1 else 0) + (if l[j] == b then 1 else 0) := by rw [List.count_set hi]
  have h2 : (l.set i e).count b = l.count b - (if l[i] == b then 1 else 0) + (if e == b then 1 else 0) := by rw [List.count_set hi]
  have hj' : j < (l.set i l[j]).length := by simpa using hj
  have h3 : ((l.set i l[j]).set j e).count b = (l.set i l[j]).count b - (if (l.set i l[j])[j] == b then 1 else 0) + (if e == b then 1 else 0) := by rw [List.count_set hj']
  have h4 : (l.set i l[j])[j] = l[j] := List.getElem_set_ne hne _
  rw [h3, h4, h1, h2]
  have hp : (if l[i] == b then 1 else 0) ≤ l.count b := by
    split
    · rename_i h
      have : b = l[i] := by simpa using (beq_iff_eq.1 h).symm
      exact List.count_pos_iff.2 (this ▸ List.getElem_mem hi)
    · omega
  generalize (if l[i] == b then 1 else 0) = x at *
  generalize (if l[j] == b then 1 else 0) = y at *
  generalize (if e == b then 1 else 0) = z at *
  omega
theorem wrap_idx {k n : Nat} (h : k < n) (hn : n ≤ 1000000000000) : ∃ m2 k1 k2 : Nat, k1 = 2 * k + 1 ∧ k2 = 2 * k + 2 ∧ wrap64 (2 * (k : Int)) = (m2 : Int) ∧ wrap64 ((m2 : Int) + 1) = (k1 : Int) ∧ wrap64 ((k1 : Int) + 1) = (k2 : Int) ∧ IntKind.i64.wrap ((k1 : Int) + 1) = (k2 : Int) := by
  refine ⟨2 * k, 2 * k + 1, 2 * k + 2, rfl, rfl, ?_, ?_, ?_, ?_⟩
  · unfold wrap64; omega
  · unfold wrap64; omega
  · unfold wrap64; omega
  · rw [IntKind.wrap_i64]; omega
end Go.Proofs.YtfjocafepigijaaDoor.Qp
/- Sure machines in plain words: tables, what is read from a row, rows that read the same; a run that is ended by its own length. No program text; no conditions. -/
namespace Go.Proofs.YtfjocafepigijaaDoor.Su

/-- a sure machine, not yet a small one: where each symbol leads, which rows are final -/
structure Tb where
  n : Nat
  to : Nat → Nat → Option Nat
  fin : Nat → Bool
/-- a text of symbols -/
def Tt (t : List Nat) : Prop := ∀ c ∈ t, 1 ≤ c ∧ c ≤ 60
theorem Tt.nil : Tt [] := fun c h => by cases h
theorem Tt.cons {c : Nat} {t : List Nat} (h1 : 1 ≤ c ∧ c ≤ 60) (h : Tt t) : Tt (c :: t) := fun d hd => by
  rcases List.mem_cons.1 hd with rfl | hd
  · exact h1
  · exact h d hd
theorem Tt.tail {c : Nat} {t : List Nat} (h : Tt (c :: t)) : Tt t := fun d hd => h d (List.mem_cons_of_mem _ hd)
theorem Tt.head {c : Nat} {t : List Nat} (h : Tt (c :: t)) : 1 ≤ c ∧ c ≤ 60 := h c List.mem_cons_self
namespace Tb
/-- one step: from nowhere one comes nowhere -/
def st (T : Tb) (s : Option Nat) (c : Nat) : Option Nat := s.bind fun i => T.to i c
def go (T : Tb) : Option Nat → List Nat → Option Nat
  | s, [] => s
  | s, c :: t => T.go (T.st s c) t
def fo (T : Tb) (s : Option Nat) : Bool := match s with | some i => T.fin i | none => false
/-- is the text read from there? -/
def acc (T : Tb) (s : Option Nat) (t : List Nat) : Bool := T.fo (T.go s t)
theorem acc_nil (T : Tb) (s : Option Nat) : T.acc s [] = T.fo s := rfl
theorem acc_cons (T : Tb) (s : Option Nat) (c : Nat) (t : List Nat) : T.acc s (c :: t) = T.acc (T.st s c) t := rfl
theorem go_none (T : Tb) : ∀ t, T.go none t = none
  | [] => rfl
  | _ :: t => T.go_none t
theorem acc_none (T : Tb) (t : List Nat) : T.acc none t = false := by unfold acc; rw [go_none]; rfl
/-- the same is read from both -/
def Lk (T : Tb) (s u : Option Nat) : Prop := ∀ t, Tt t → T.acc s t = T.acc u t
/-- something is read from there -/
def Live (T : Tb) (s : Option Nat) : Prop := ∃ t, Tt t ∧ T.acc s t = true
theorem Lk.refl (T : Tb) (s : Option Nat) : T.Lk s s := fun _ _ => rfl
theorem Lk.symm {T : Tb} {s u : Option Nat} (h : T.Lk s u) : T.Lk u s := fun t ht => (h t ht).symm
theorem Lk.trans {T : Tb} {s u v : Option Nat} (h : T.Lk s u) (k : T.Lk u v) : T.Lk s v := fun t ht => (h t ht).trans (k t ht)
theorem Lk.step {T : Tb} {s u : Option Nat} (h : T.Lk s u) {c : Nat} (hc : 1 ≤ c ∧ c ≤ 60) : T.Lk (T.st s c) (T.st u c) := fun t ht => h (c :: t) (ht.cons hc)
theorem Lk.fo {T : Tb} {s u : Option Nat} (h : T.Lk s u) : T.fo s = T.fo u := h [] Tt.nil
theorem live_iff (T : Tb) (s : Option Nat) : T.Live s ↔ ¬ T.Lk s none := by
  constructor
  · rintro ⟨t, ht, h⟩ he
    rw [he t ht, acc_none] at h
    cases h
  · intro h
    refine Classical.byContradiction fun hn => h fun t ht => ?_
    rw [acc_none]
    cases e : T.acc s t with
    | false => rfl
    | true => exact absurd ⟨t, ht, e⟩ hn
theorem Lk.live {T : Tb} {s u : Option Nat} (h : T.Lk s u) : T.Live s ↔ T.Live u := by
  constructor
  · rintro ⟨t, ht, k⟩; exact ⟨t, ht, (h t ht).symm.trans k⟩
  · rintro ⟨t, ht, k⟩; exact ⟨t, ht, (h t ht).trans k⟩
/-- rows lead to rows -/
def Ok (T : Tb) : Prop := ∀ i c j, i < T.n → T.to i c = some j → j < T.n
/-- a relation that keeps finals and steps, among rows and nowhere, is one of the same texts -/
theorem eq_of_sim {T : Tb} (R : Option Nat → Option Nat → Prop) (hf : ∀ s u, R s u → T.fo s = T.fo u) (hs : ∀ s u c, 1 ≤ c ∧ c ≤ 60 → R s u → R (T.st s c) (T.st u c)) : ∀ t s u, Tt t → R s u → T.acc s t = T.acc u t
  | [], s, u, _, h => hf s u h
  | c :: t, s, u, ht, h => by rw [acc_cons, acc_cons]; exact eq_of_sim R hf hs t _ _ ht.tail (hs s u c ht.head h)
open Classical in
/-- the table with what leads to dead rows taken away -/
noncomputable def cut (T : Tb) : Tb := ⟨T.n, fun i c => match T.to i c with | some j => if T.Live (some j) then some j else none | none => none, T.fin⟩
theorem cut_st (T : Tb) (s : Option Nat) (c : Nat) : (T.cut.st s c = T.st s c) ∨ (T.cut.st s c = none ∧ ¬ T.Live (T.st s c)) := by
  cases s with
  | none => exact .inl rfl
  | some i =>
    show (T.cut.to i c = T.to i c) ∨ (T.cut.to i c = none ∧ ¬ T.Live (T.to i c))
    unfold cut
    dsimp only
    cases e : T.to i c with
    | none => exact .inl rfl
    | some j =>
      by_cases h : T.Live (some j)
      · simp [h]
      · simp [h]
theorem not_live {T : Tb} {s : Option Nat} (h : ¬ T.Live s) {t : List Nat} (ht : Tt t) : T.acc s t = false := by
  cases e : T.acc s t with
  | false => rfl
  | true => exact absurd ⟨t, ht, e⟩ h
theorem cut_acc (T : Tb) : ∀ t s, Tt t → T.cut.acc s t = T.acc s t
  | [], s, _ => by cases s <;> rfl
  | c :: t, s, ht => by
    rw [acc_cons, acc_cons]
    rcases T.cut_st s c with h | ⟨h, hd⟩
    · rw [h]; exact cut_acc T t _ ht.tail
    · rw [h, acc_none, not_live hd ht.tail]
theorem cut_eq (T : Tb) (s u : Option Nat) : T.cut.Lk s u ↔ T.Lk s u := by
  constructor
  · intro h t ht; rw [← T.cut_acc t s ht, ← T.cut_acc t u ht]; exact h t ht
  · intro h t ht; rw [T.cut_acc t s ht, T.cut_acc t u ht]; exact h t ht
theorem cut_live (T : Tb) (s : Option Nat) : T.cut.Live s ↔ T.Live s := by
  rw [live_iff, live_iff, cut_eq]
/-- in the table that was cut, what leads anywhere leads to what is live -/
theorem cut_some {T : Tb} {i c j : Nat} (h : T.cut.to i c = some j) : T.to i c = some j ∧ T.Live (some j) := by
  unfold cut at h
  dsimp only at h
  cases e : T.to i c with
  | none => rw [e] at h; cases h
  | some k =>
    rw [e] at h
    dsimp only at h
    by_cases hl : T.Live (some k)
    · rw [if_pos hl] at h; cases h; exact ⟨rfl, hl⟩
    · rw [if_neg hl] at h; cases h
theorem cut_none {T : Tb} {i c : Nat} (h : T.cut.to i c = none) : ¬ T.Live (T.to i c) := by
  unfold cut at h
  dsimp only at h
  cases e : T.to i c with
  | none =>
    rw [live_iff]
    exact fun hn => hn (Lk.refl T none)
  | some k =>
    rw [e] at h
    dsimp only at h
    by_cases hl : T.Live (some k)
    · rw [if_pos hl] at h; cases h
    · exact hl
end Tb
/-- a run that goes on while its count is below its own length has one end -/
theorem end_one {α : Type} (f : Nat → α) (len : α → Nat) {k l : Nat} (hk : ¬ k < len (f k)) (hk' : ∀ i, i < k → i < len (f i)) (hl : ¬ l < len (f l)) (hl' : ∀ i, i < l → i < len (f i)) : k = l := by
  rcases Nat.lt_trichotomy k l with h | h | h
  · exact absurd (hl' k h) hk
  · exact h
  · exact absurd (hk' l h) hl
end Go.Proofs.YtfjocafepigijaaDoor.Su
/- Classes of rows, made finer until that tells no more apart (Moore), in plain words. No program text; no conditions. -/
namespace Go.Proofs.YtfjocafepigijaaDoor.Su

/-- a list that holds all numbers below n is as long -/
theorem pig : ∀ (n : Nat) (l : List Nat), (∀ v, v < n → v ∈ l) → n ≤ l.length
  | 0, _, _ => Nat.zero_le _
  | n + 1, l, h => by
    have hn : n ∈ l := h n (Nat.lt_succ_self n)
    have h2 := pig n (l.erase n) (fun v hv => (List.mem_erase_of_ne (by omega)).2 (h v (by omega)))
    rw [List.length_erase_of_mem hn] at h2
    have := List.length_pos_of_mem hn
    omega
theorem onto_one {n : Nat} {f : Nat → Nat} (h : ∀ v, v < n → ∃ u, u < n ∧ f u = v) {u u' : Nat} (hu : u < n) (hu' : u' < n) (e : f u = f u') : u = u' := by
  refine Classical.byContradiction fun hne => ?_
  have h2 := pig n (((List.range n).erase u).map f) (fun v hv => by
    obtain ⟨x, hx, rfl⟩ := h v hv
    by_cases hxu : x = u
    · subst hxu
      exact List.mem_map.2 ⟨u', (List.mem_erase_of_ne (fun h => hne h.symm)).2 (List.mem_range.2 hu'), e.symm⟩
    · exact List.mem_map.2 ⟨x, (List.mem_erase_of_ne hxu).2 (List.mem_range.2 hx), rfl⟩)
  rw [List.length_map, List.length_erase_of_mem (List.mem_range.2 hu), List.length_range] at h2
  omega
/-- k' tells apart what k tells apart one symbol on, what is final, what is dead -/
def Fine (T : Tb) (d : Nat → Bool) (k k' : Nat → Nat) : Prop := ∀ i j, i < T.n → j < T.n → (k' i = k' j ↔ T.fin i = T.fin j ∧ d i = d j ∧ ∀ c, 1 ≤ c ∧ c ≤ 60 → (T.to i c).map k = (T.to j c).map k)
/-- all numbers below cnt are used, no others -/
def Full (n cnt : Nat) (k : Nat → Nat) : Prop := (∀ i, i < n → k i < cnt) ∧ ∀ v, v < cnt → ∃ i, i < n ∧ k i = v
theorem Full.le {n cnt : Nat} {k : Nat → Nat} (h : Full n cnt k) : cnt ≤ n := by
  have := pig cnt ((List.range n).map k) (fun v hv => by
    obtain ⟨i, hi, rfl⟩ := h.2 v hv
    exact List.mem_map.2 ⟨i, List.mem_range.2 hi, rfl⟩)
  simpa using this
structure Cls (T : Tb) (d : Nat → Bool) (k : Nat → Nat) (cnt : Nat) : Prop where
  full : Full T.n cnt k
  same : ∀ i j, i < T.n → j < T.n → T.Lk (some i) (some j) → k i = k j
  mono : ∀ k', Fine T d k k' → ∀ i j, i < T.n → j < T.n → k' i = k' j → k i = k j
theorem Cls.first {T : Tb} {d : Nat → Bool} (h : 0 < T.n) : Cls T d (fun _ => 0) 1 := ⟨⟨fun _ _ => Nat.zero_lt_one, fun v hv => ⟨0, h, show 0 = v by omega⟩⟩, fun _ _ _ _ _ => rfl, fun _ _ _ _ _ _ _ => rfl⟩
/-- what the rows' flags and steps must be: dead flags are right; what leads anywhere leads to what is live -/
structure Cutd (T : Tb) (d : Nat → Bool) : Prop where
  ok : T.Ok
  dead : ∀ i, i < T.n → (d i = true ↔ ¬ T.Live (some i))
  live : ∀ i c j, i < T.n → T.to i c = some j → T.Live (some j)
theorem Cls.less {T : Tb} {d : Nat → Bool} {k k' : Nat → Nat} {cnt cnt' : Nat} (h : Cls T d k cnt) (hf : Fine T d k k') (hn : Full T.n cnt' k') : cnt ≤ cnt' := by
  have hr : ∀ v, v < cnt' → ∃ i, i < T.n ∧ k' i = v := hn.2
  have := pig cnt ((List.range cnt').map fun v => if hv : v < cnt' then k (Classical.choose (hr v hv)) else 0) (fun v hv => by
    obtain ⟨i, hi, rfl⟩ := h.full.2 v hv
    refine List.mem_map.2 ⟨k' i, List.mem_range.2 (hn.1 i hi), ?_⟩
    rw [dif_pos (hn.1 i hi)]
    obtain ⟨h1, h2⟩ := Classical.choose_spec (hr (k' i) (hn.1 i hi))
    exact h.mono k' hf _ _ h1 hi h2)
  simpa using this
theorem Cls.next {T : Tb} {d : Nat → Bool} {k k' : Nat → Nat} {cnt cnt' : Nat} (h : Cls T d k cnt) (hT : Cutd T d) (hf : Fine T d k k') (hn : Full T.n cnt' k') : Cls T d k' cnt' := by
  refine ⟨hn, fun i j hi hj hl => (hf i j hi hj).2 ⟨hl.fo, ?_, fun c hc => ?_⟩, fun k'' hf' i j hi hj he => ?_⟩
  · have e : (d i = true ↔ d j = true) := by rw [hT.dead i hi, hT.dead j hj, hl.live]
    cases h1 : d i <;> cases h2 : d j <;> simp_all
  · have hs : T.Lk (T.to i c) (T.to j c) := hl.step hc
    cases e1 : T.to i c with
    | none =>
      cases e2 : T.to j c with
      | none => rfl
      | some y =>
        have hy := hT.live j c y hj e2
        rw [e1, e2] at hs
        exact absurd hs.symm ((T.live_iff _).1 hy)
    | some x =>
      have hx := hT.live i c x hi e1
      cases e2 : T.to j c with
      | none =>
        rw [e1, e2] at hs
        exact absurd hs ((T.live_iff _).1 hx)
      | some y =>
        rw [e1, e2] at hs
        show some (k x) = some (k y)
        rw [h.same x y (hT.ok i c x hi e1) (hT.ok j c y hj e2) hs]
  · obtain ⟨h1, h2, h3⟩ := (hf' i j hi hj).1 he
    refine (hf i j hi hj).2 ⟨h1, h2, fun c hc => ?_⟩
    have h4 := h3 c hc
    cases e1 : T.to i c with
    | none => cases e2 : T.to j c with
      | none => rfl
      | some y => rw [e1, e2] at h4; cases h4
    | some x => cases e2 : T.to j c with
      | none => rw [e1, e2] at h4; cases h4
      | some y =>
        rw [e1, e2] at h4
        have h5 : k' x = k' y := by simpa using h4
        show some (k x) = some (k y)
        rw [h.mono k' hf x y (hT.ok i c x hi e1) (hT.ok j c y hj e2) h5]
/-- no more is told apart: two rows share a number just if they read the same -/
theorem Cls.done {T : Tb} {d : Nat → Bool} {k k' : Nat → Nat} {cnt : Nat} (h : Cls T d k cnt) (hT : Cutd T d) (hf : Fine T d k k') (hn : Full T.n cnt k') : ∀ i j, i < T.n → j < T.n → (k i = k j ↔ T.Lk (some i) (some j)) := by
  have hr : ∀ v, v < cnt → ∃ i, i < T.n ∧ k' i = v := hn.2
  have hst : ∀ i j, i < T.n → j < T.n → k i = k j → k' i = k' j := fun i j hi hj he => by
    have key := onto_one (n := cnt) (f := fun v => if hv : v < cnt then k (Classical.choose (hr v hv)) else 0) (fun v hv => by
      obtain ⟨x, hx, rfl⟩ := h.full.2 v hv
      refine ⟨k' x, hn.1 x hx, ?_⟩
      rw [dif_pos (hn.1 x hx)]
      obtain ⟨h1, h2⟩ := Classical.choose_spec (hr (k' x) (hn.1 x hx))
      exact h.mono k' hf _ _ h1 hx h2) (hn.1 i hi) (hn.1 j hj)
    refine key ?_
    rw [dif_pos (hn.1 i hi), dif_pos (hn.1 j hj)]
    obtain ⟨h1, h2⟩ := Classical.choose_spec (hr (k' i) (hn.1 i hi))
    obtain ⟨h3, h4⟩ := Classical.choose_spec (hr (k' j) (hn.1 j hj))
    rw [h.mono k' hf _ _ h1 hi h2, h.mono k' hf _ _ h3 hj h4, he]
  intro i j hi hj
  refine ⟨fun he t ht => ?_, h.same i j hi hj⟩
  refine Tb.eq_of_sim (T := T) (fun s u => (s = none ∧ u = none) ∨ ∃ x y, s = some x ∧ u = some y ∧ x < T.n ∧ y < T.n ∧ k x = k y) ?_ ?_ t _ _ ht (.inr ⟨i, j, rfl, rfl, hi, hj, he⟩)
  · rintro s u (⟨rfl, rfl⟩ | ⟨x, y, rfl, rfl, hx, hy, e⟩)
    · rfl
    · exact ((hf x y hx hy).1 (hst x y hx hy e)).1
  · rintro s u c hc (⟨rfl, rfl⟩ | ⟨x, y, rfl, rfl, hx, hy, e⟩)
    · exact .inl ⟨rfl, rfl⟩
    · have h4 := ((hf x y hx hy).1 (hst x y hx hy e)).2.2 c hc
      show (T.to x c = none ∧ T.to y c = none) ∨ _
      cases e1 : T.to x c with
      | none => cases e2 : T.to y c with
        | none => exact .inl ⟨rfl, rfl⟩
        | some v => rw [e1, e2] at h4; cases h4
      | some v => cases e2 : T.to y c with
        | none => rw [e1, e2] at h4; cases h4
        | some v' =>
          rw [e1, e2] at h4
          exact .inr ⟨v, v', e1, e2, hT.ok x c v hx e1, hT.ok y c v' hy e2, by simpa using h4⟩
end Go.Proofs.YtfjocafepigijaaDoor.Su
/- The document's CheckMachine: what it answers of any machine. No conditions. -/
namespace Go.Proofs.YtfjocafepigijaaDoor.CkR
open Go.RowKit Mv

theorem size_no {m : M} (h : sizeB m = false) : checkP m 7 := .inl ⟨h, rfl⟩

end Go.Proofs.YtfjocafepigijaaDoor.CkR
/- The small sure machine of a table, in plain words: a state for each class of rows, numbered as they are come to. No program text; no conditions. -/
namespace Go.Proofs.YtfjocafepigijaaDoor.Su
open Mv

theorem inj_len : ∀ (n : Nat) (l : List Nat), l.Nodup → (∀ x ∈ l, x < n) → l.length ≤ n
  | 0, l, _, h => by
    cases l with
    | nil => exact Nat.le_refl _
    | cons x l => exact absurd (h x List.mem_cons_self) (Nat.not_lt_zero x)
  | n + 1, l, hd, h => by
    by_cases hm : n ∈ l
    · have h2 := inj_len n (l.erase n) (hd.erase n) (fun x hx => by
        have h3 := h x (List.mem_of_mem_erase hx)
        have h4 : x ≠ n := fun e => by subst e; exact (List.Nodup.not_mem_erase hd) hx
        omega)
      rw [List.length_erase_of_mem hm] at h2
      omega
    · have h2 := inj_len n l hd (fun x hx => by
        have h3 := h x hx
        have h4 : x ≠ n := fun e => by subst e; exact hm hx
        omega)
      omega
open Classical in
/-- where in the list a row of the same class stands -/
noncomputable def wh (T : Tb) (l : List Nat) (x : Nat) : Nat := l.findIdx fun y => decide (T.Lk (some y) (some x))
/-- a symbol more: states so far, arcs so far (from, symbol, to) -/
noncomputable def js (T : Tb) (p r : Nat) (s : List Nat × List (Nat × Nat × Nat)) (c : Nat) : List Nat × List (Nat × Nat × Nat) :=
  match T.cut.to r c with
  | none => s
  | some x => (if wh T s.1 x = s.1.length then s.1 ++ [x] else s.1, s.2 ++ [(p, c, wh T s.1 x)])
noncomputable def jr (T : Tb) (p r : Nat) (s : List Nat × List (Nat × Nat × Nat)) (c : Nat) : List Nat × List (Nat × Nat × Nat) := (List.range' 1 c).foldl (js T p r) s
noncomputable def jn (T : Tb) : Nat → List Nat × List (Nat × Nat × Nat)
  | 0 => ([0], [])
  | k + 1 => jr T k ((jn T k).1.getD k 0) (jn T k) 60
theorem jr_zero (T : Tb) (p r : Nat) (s : List Nat × List (Nat × Nat × Nat)) : jr T p r s 0 = s := rfl
theorem jr_up (T : Tb) (p r : Nat) (s : List Nat × List (Nat × Nat × Nat)) (c : Nat) : jr T p r s (c + 1) = js T p r (jr T p r s c) (c + 1) := by
  unfold jr
  rw [List.range'_concat, List.foldl_append]
  simp [Nat.add_comm]
theorem js_pre (T : Tb) (p r : Nat) (s : List Nat × List (Nat × Nat × Nat)) (c : Nat) : s.1 <+: (js T p r s c).1 := by
  unfold js
  split
  · exact List.prefix_refl _
  · dsimp only
    split
    · exact List.prefix_append _ _
    · exact List.prefix_refl _
theorem jr_pre (T : Tb) (p r : Nat) (s : List Nat × List (Nat × Nat × Nat)) : ∀ c d, c ≤ d → (jr T p r s c).1 <+: (jr T p r s d).1 := by
  intro c d h
  induction h with
  | refl => exact List.prefix_refl _
  | step _ ih => rw [jr_up]; exact ih.trans (js_pre _ _ _ _ _)
theorem jn_pre (T : Tb) : ∀ i j, i ≤ j → (jn T i).1 <+: (jn T j).1 := by
  intro i j h
  induction h with
  | refl => exact List.prefix_refl _
  | step _ ih => exact ih.trans (jr_pre T _ _ _ 0 60 (by omega))
/-- the rows are rows of the table, of classes of their own -/
def Rows (T : Tb) (l : List Nat) : Prop := (∀ x ∈ l, x < T.n) ∧ l.Pairwise fun x y => ¬ T.Lk (some x) (some y)
theorem Rows.len {T : Tb} {l : List Nat} (h : Rows T l) : l.length ≤ T.n := inj_len T.n l (h.2.imp (fun hn e => by subst e; exact hn (Tb.Lk.refl _ _))) h.1
open Classical in
theorem wh_le (T : Tb) (l : List Nat) (x : Nat) : wh T l x ≤ l.length := List.findIdx_le_length
open Classical in
theorem wh_new {T : Tb} {l : List Nat} {x : Nat} : wh T l x = l.length ↔ ∀ y ∈ l, ¬ T.Lk (some y) (some x) := by
  unfold wh
  rw [List.findIdx_eq_length]
  constructor
  · intro h y hy; have := h y hy; simpa using this
  · intro h y hy; simpa using h y hy
open Classical in
/-- the class's own place -/
theorem wh_at {T : Tb} {l : List Nat} {x i y : Nat} (h : Rows T l) (hi : l[i]? = some y) (hl : T.Lk (some y) (some x)) : wh T l x = i := by
  obtain ⟨h1, h2⟩ := List.getElem?_eq_some_iff.1 hi
  unfold wh
  rw [List.findIdx_eq h1]
  refine ⟨by rw [h2]; simpa using hl, fun j hj => ?_⟩
  have h3 := List.pairwise_iff_getElem.1 h.2 j i (by omega) h1 hj
  rw [h2] at h3
  have h4 : ¬ T.Lk (some l[j]) (some x) := fun h5 => h3 (h5.trans hl.symm)
  simpa using h4
open Classical in
theorem wh_some {T : Tb} {l : List Nat} {x : Nat} (h : wh T l x < l.length) : ∃ y, l[wh T l x]? = some y ∧ T.Lk (some y) (some x) := by
  have h1 : l.findIdx (fun y => decide (T.Lk (some y) (some x))) < l.length := h
  have h2 := List.findIdx_getElem (w := h1)
  exact ⟨_, List.getElem?_eq_getElem h, of_decide_eq_true h2⟩
theorem js_rows {T : Tb} (hT : T.Ok) {p r c : Nat} {s : List Nat × List (Nat × Nat × Nat)} (h : Rows T s.1) (hr : r < T.n) : Rows T (js T p r s c).1 := by
  unfold js
  split
  · exact h
  · rename_i x hx
    dsimp only
    split
    · rename_i hw
      refine ⟨fun y hy => ?_, List.pairwise_append.2 ⟨h.2, by simp, fun y hy z hz => ?_⟩⟩
      · rcases List.mem_append.1 hy with hy | hy
        · exact h.1 y hy
        · rw [List.mem_singleton.1 hy]; exact hT r c x hr (Tb.cut_some hx).1
      · rw [List.mem_singleton.1 hz]; exact wh_new.1 hw y hy
    · exact h
theorem jr_rows {T : Tb} (hT : T.Ok) {p r : Nat} {s : List Nat × List (Nat × Nat × Nat)} (h : Rows T s.1) (hr : r < T.n) : ∀ c, Rows T (jr T p r s c).1
  | 0 => h
  | c + 1 => by rw [jr_up]; exact js_rows hT (jr_rows hT h hr c) hr
theorem jn_rows {T : Tb} (hT : T.Ok) (h0 : 0 < T.n) : ∀ k, Rows T (jn T k).1
  | 0 => ⟨fun x hx => by rw [List.mem_singleton.1 hx]; exact h0, by simp [jn]⟩
  | k + 1 => by
    have ih := jn_rows hT h0 k
    refine jr_rows hT ih ?_ 60
    rw [List.getD_eq_getElem?_getD]
    cases e : (jn T k).1[k]? with
    | none => exact h0
    | some x => exact ih.1 x (List.mem_of_getElem? e)
theorem js_arcs (T : Tb) (p r c : Nat) (s : List Nat × List (Nat × Nat × Nat)) : (js T p r s c).2.length ≤ s.2.length + 1 := by
  unfold js
  split
  · omega
  · simp
theorem jr_arcs (T : Tb) (p r : Nat) (s : List Nat × List (Nat × Nat × Nat)) : ∀ c, (jr T p r s c).2.length ≤ s.2.length + c
  | 0 => Nat.le_refl _
  | c + 1 => by rw [jr_up]; have := js_arcs T p r (c + 1) (jr T p r s c); have := jr_arcs T p r s c; omega
theorem jn_arcs (T : Tb) : ∀ k, (jn T k).2.length ≤ 60 * k
  | 0 => Nat.le_refl _
  | k + 1 => by
    have h1 := jr_arcs T k ((jn T k).1.getD k 0) (jn T k) 60
    have h2 := jn_arcs T k
    show (jr T k ((jn T k).1.getD k 0) (jn T k) 60).2.length ≤ _
    omega
def JAt (T : Tb) (k : Nat) : Prop := ∀ i, i < k → i < (jn T i).1.length
theorem JAt.up {T : Tb} {k : Nat} (h : JAt T k) (hk : k < (jn T k).1.length) : JAt T (k + 1) := fun i hi => by
  rcases Nat.lt_succ_iff_lt_or_eq.1 hi with h1 | rfl
  · exact h i h1
  · exact hk
theorem JAt.le {T : Tb} {k : Nat} (h : JAt T k) : k ≤ (jn T k).1.length := by
  cases k with
  | zero => exact Nat.zero_le _
  | succ k =>
    have h1 := h k (Nat.lt_succ_self k)
    have h2 := (jn_pre T k (k + 1) (Nat.le_succ k)).length_le
    omega
def arcOf (x : Nat × Nat × Nat) : Int × Int × Int × Int × Int := ((x.1 : Int), (x.2.2 : Int), (x.2.1 : Int), (x.2.1 : Int), 0)
/-- the final ones among the first k states -/
def jf (T : Tb) (l : List Nat) (k : Nat) : List Nat := (List.range k).filter fun i => T.fin (l.getD i 0)
theorem jf_up (T : Tb) (l : List Nat) (k : Nat) : jf T l (k + 1) = jf T l k ++ (if T.fin (l.getD k 0) then [k] else []) := by
  unfold jf
  rw [List.range_succ, List.filter_append]
  congr 1
  by_cases h : T.fin (l.getD k 0) = true
  · simp only [List.getD_eq_getElem?_getD] at h; simp [h]
  · simp only [List.getD_eq_getElem?_getD] at h; simp [h]
theorem jf_pre (T : Tb) {l l' : List Nat} (h : l <+: l') (k : Nat) (hk : k ≤ l.length) : jf T l k = jf T l' k := by
  unfold jf
  apply List.filter_congr
  intro i hi
  have hi2 := List.mem_range.1 hi
  obtain ⟨r, rfl⟩ := h
  rw [List.getD_eq_getElem?_getD, List.getD_eq_getElem?_getD, List.getElem?_append_left (by omega)]
theorem jf_len (T : Tb) (l : List Nat) (k : Nat) : (jf T l k).length ≤ k := by
  have := List.length_filter_le (fun i => T.fin (l.getD i 0)) (List.range k)
  rw [List.length_range] at this
  exact this
def finOf (i : Nat) : Int × Int := ((i : Int), 0)
/-- the small sure machine -/
def IsSure (T : Tb) (m : M) : Prop := (¬ T.Live (some 0) ∧ m = ⟨1, [], []⟩) ∨ (T.Live (some 0) ∧ ∃ k, JAt T k ∧ (jn T k).1.length = k ∧ m = ⟨(k : Int), (jn T k).2.map arcOf, (jf T (jn T k).1 k).map finOf⟩)
end Go.Proofs.YtfjocafepigijaaDoor.Su
/- Duos of two tables, by texts that get longer, in plain words: the first duo of which just one ends; leaving out where both are nowhere changes nothing. No program text; no conditions. -/
namespace Go.Proofs.YtfjocafepigijaaDoor.Su

abbrev Duo := Option Nat × Option Nat
abbrev Vis := Duo × List Nat
def nn : Duo := (none, none)
/-- was the duo come to? -/
def hasD (l : List Vis) (q : Duo) : Bool := l.any fun x => decide (x.1 = q)
theorem hasD_iff {l : List Vis} {q : Duo} : hasD l q = true ↔ ∃ x ∈ l, x.1 = q := by
  unfold hasD
  rw [List.any_eq_true]
  constructor
  · rintro ⟨x, hx, h⟩; exact ⟨x, hx, of_decide_eq_true h⟩
  · rintro ⟨x, hx, h⟩; exact ⟨x, hx, decide_eq_true h⟩
/-- where a symbol leads both -/
def dst (T U : Tb) (d : Duo) (c : Nat) : Duo := (T.st d.1 c, U.st d.2 c)
/-- does just one end here? -/
def df (T U : Tb) (d : Duo) : Bool := T.fo d.1 != U.fo d.2
theorem df_nn (T U : Tb) : df T U nn = false := rfl
theorem dst_nn (T U : Tb) (c : Nat) : dst T U nn c = nn := rfl
/-- had: was it come to (z: or is it nowhere)? -/
def hd (z : Bool) (l : List Vis) (q : Duo) : Bool := (z && decide (q = nn)) || hasD l q
/-- a symbol more -/
def bs (T U : Tb) (z : Bool) (p : Vis) (l : List Vis) (c : Nat) : List Vis := if hd z l (dst T U p.1 c) = true then l else l ++ [(dst T U p.1 c, p.2 ++ [c])]
def br (T U : Tb) (z : Bool) (p : Vis) (l : List Vis) (c : Nat) : List Vis := (List.range' 1 c).foldl (bs T U z p) l
theorem br_zero (T U : Tb) (z : Bool) (p : Vis) (l : List Vis) : br T U z p l 0 = l := rfl
theorem br_up (T U : Tb) (z : Bool) (p : Vis) (l : List Vis) (c : Nat) : br T U z p l (c + 1) = bs T U z p (br T U z p l c) (c + 1) := by
  unfold br
  rw [List.range'_concat, List.foldl_append]
  simp [Nat.add_comm]
def v0 : Vis := ((some 0, some 0), [])
def bf (T U : Tb) (z : Bool) : Nat → List Vis
  | 0 => [v0]
  | k + 1 => br T U z ((bf T U z k).getD k v0) (bf T U z k) 60
theorem bf_up (T U : Tb) (z : Bool) (k : Nat) : bf T U z (k + 1) = br T U z ((bf T U z k).getD k v0) (bf T U z k) 60 := rfl
theorem bs_pre (T U : Tb) (z : Bool) (p : Vis) (l : List Vis) (c : Nat) : l <+: bs T U z p l c := by
  unfold bs
  split
  · exact List.prefix_refl _
  · exact List.prefix_append _ _
theorem br_pre (T U : Tb) (z : Bool) (p : Vis) (l : List Vis) : ∀ c d, c ≤ d → br T U z p l c <+: br T U z p l d := by
  intro c d h
  induction h with
  | refl => exact List.prefix_refl _
  | step _ ih => rw [br_up]; exact ih.trans (bs_pre _ _ _ _ _ _)
theorem bf_pre (T U : Tb) (z : Bool) : ∀ i j, i ≤ j → bf T U z i <+: bf T U z j := by
  intro i j h
  induction h with
  | refl => exact List.prefix_refl _
  | step _ ih => exact ih.trans (br_pre T U z _ _ 0 60 (by omega))
theorem pre_get {α : Type} {l l' : List α} (h : l <+: l') {i : Nat} {x : α} (hx : l[i]? = some x) : l'[i]? = some x := by
  obtain ⟨r, rfl⟩ := h
  have hi := (List.getElem?_eq_some_iff.1 hx).1
  rw [List.getElem?_append_left hi]
  exact hx
/-- the run stands at visit k, and none before it told the two apart -/
structure BAt (T U : Tb) (z : Bool) (k : Nat) : Prop where
  run : ∀ i, i < k → i < (bf T U z i).length
  no : ∀ i e, i < k → (bf T U z k)[i]? = some e → df T U e.1 = false
theorem BAt.zero (T U : Tb) (z : Bool) : BAt T U z 0 := ⟨fun i h => absurd h (Nat.not_lt_zero i), fun i _ h => absurd h (Nat.not_lt_zero i)⟩
theorem BAt.up {T U : Tb} {z : Bool} {k : Nat} {e : Vis} (h : BAt T U z k) (he : (bf T U z k)[k]? = some e) (hn : df T U e.1 = false) : BAt T U z (k + 1) := by
  have hp := bf_pre T U z k (k + 1) (Nat.le_succ k)
  refine ⟨fun i hi => ?_, fun i e' hi he' => ?_⟩
  · rcases Nat.lt_succ_iff_lt_or_eq.1 hi with h1 | rfl
    · exact h.run i h1
    · exact (List.getElem?_eq_some_iff.1 he).1
  · have hk := (List.getElem?_eq_some_iff.1 he).1
    rcases Nat.lt_succ_iff_lt_or_eq.1 hi with h1 | rfl
    · have h2 : (bf T U z k)[i]? = some (bf T U z k)[i] := List.getElem?_eq_getElem (by omega)
      rw [pre_get hp h2] at he'
      cases he'
      exact h.no i _ h1 h2
    · rw [pre_get hp he] at he'
      cases he'
      exact hn
theorem BAt.le {T U : Tb} {z : Bool} {k : Nat} (h : BAt T U z k) : k ≤ (bf T U z k).length := by
  cases k with
  | zero => exact Nat.zero_le _
  | succ k =>
    have h1 := h.run k (Nat.lt_succ_self k)
    have h2 := (bf_pre T U z k (k + 1) (Nat.le_succ k)).length_le
    omega
/-- the answer: the first text that just one reads, or that there is none -/
def IsAp (T U : Tb) (z : Bool) (r : Option (List Nat)) : Prop := ∃ k, BAt T U z k ∧ ((∃ e, (bf T U z k)[k]? = some e ∧ df T U e.1 = true ∧ r = some e.2) ∨ ((bf T U z k).length = k ∧ r = none))
/-- without where both are nowhere -/
def flt (l : List Vis) : List Vis := l.filter fun x => decide (x.1 ≠ nn)
theorem flt_append (a b : List Vis) : flt (a ++ b) = flt a ++ flt b := List.filter_append ..
theorem flt_hasD {l : List Vis} {q : Duo} (h : q ≠ nn) : hasD (flt l) q = hasD l q := by
  rw [Bool.eq_iff_iff, hasD_iff, hasD_iff]
  constructor
  · rintro ⟨x, hx, rfl⟩
    exact ⟨x, (List.mem_filter.1 hx).1, rfl⟩
  · rintro ⟨x, hx, rfl⟩
    exact ⟨x, List.mem_filter.2 ⟨hx, by simpa using h⟩, rfl⟩
theorem flt_bs (T U : Tb) (p : Vis) (l : List Vis) (c : Nat) : flt (bs T U false p l c) = bs T U true p (flt l) c := by
  by_cases hq : dst T U p.1 c = nn
  · have h1 : bs T U true p (flt l) c = flt l := by
      unfold bs hd
      rw [if_pos]
      simp [hq]
    rw [h1]
    unfold bs
    split
    · rfl
    · rw [flt_append]
      have : flt [(dst T U p.1 c, p.2 ++ [c])] = [] := by simp [flt, hq]
      rw [this, List.append_nil]
  · have h2 := flt_hasD (l := l) hq
    unfold bs hd
    rw [h2]
    have h3 : decide (dst T U p.1 c = nn) = false := decide_eq_false hq
    rw [h3]
    simp only [Bool.and_false, Bool.false_or]
    split
    · rfl
    · rw [flt_append]
      have : flt [(dst T U p.1 c, p.2 ++ [c])] = [(dst T U p.1 c, p.2 ++ [c])] := by simp [flt, hq]
      rw [this]
theorem flt_br (T U : Tb) (p : Vis) (l : List Vis) : ∀ c, flt (br T U false p l c) = br T U true p (flt l) c
  | 0 => rfl
  | c + 1 => by rw [br_up, br_up, flt_bs, flt_br T U p l c]
theorem br_nn {T U : Tb} {p : Vis} {l : List Vis} (hp : p.1 = nn) (hm : p ∈ l) : ∀ c, br T U false p l c = l
  | 0 => rfl
  | c + 1 => by
    rw [br_up, br_nn hp hm c]
    unfold bs
    rw [if_pos]
    unfold hd
    rw [hp, dst_nn]
    simp only [Bool.false_and, Bool.false_or]
    exact hasD_iff.2 ⟨p, hm, hp⟩
theorem flt_at {l : List Vis} {k : Nat} {p : Vis} (h : l[k]? = some p) (hp : p.1 ≠ nn) : (flt l)[(flt (l.take k)).length]? = some p := by
  obtain ⟨h1, h2⟩ := List.getElem?_eq_some_iff.1 h
  have e : l = l.take k ++ p :: l.drop (k + 1) := by
    rw [← h2, ← List.drop_eq_getElem_cons h1, List.take_append_drop]
  have e2 : flt l = flt (l.take k) ++ (p :: flt (l.drop (k + 1))) := by
    have h3 : flt (p :: l.drop (k + 1)) = p :: flt (l.drop (k + 1)) := by simp [flt, hp]
    rw [← h3, ← flt_append, ← e]
  rw [e2, List.getElem?_append_right (Nat.le_refl _), Nat.sub_self]
  rfl
/-- what the program's run has come to, the document's has come to -/
theorem flt_bf (T U : Tb) : ∀ k, BAt T U false k → BAt T U true (flt ((bf T U false k).take k)).length ∧ flt (bf T U false k) = bf T U true (flt ((bf T U false k).take k)).length := by
  intro k
  induction k with
  | zero =>
    intro _
    refine ⟨BAt.zero T U true, ?_⟩
    rfl
  | succ k ih =>
    intro h
    have hrun := h.run k (Nat.lt_succ_self k)
    have hp := bf_pre T U false k (k + 1) (Nat.le_succ k)
    obtain ⟨p, hpk⟩ : ∃ p, (bf T U false k)[k]? = some p := ⟨_, List.getElem?_eq_getElem hrun⟩
    have hpk2 := pre_get hp hpk
    have hdf := h.no k p (Nat.lt_succ_self k) hpk2
    have hk : BAt T U false k := ⟨fun i hi => h.run i (by omega), fun i e hi he => h.no i e (by omega) (pre_get hp he)⟩
    obtain ⟨i1, i2⟩ := ih hk
    have hg : (bf T U false k).getD k v0 = p := by rw [List.getD_eq_getElem?_getD, hpk]; rfl
    have htk : (bf T U false (k + 1)).take (k + 1) = (bf T U false k).take k ++ [p] := by
      obtain ⟨r, hr⟩ := hp
      rw [← hr, List.take_append_of_le_length (by omega), List.take_add_one, hpk]
      rfl
    rw [htk, flt_append]
    by_cases hn : p.1 = nn
    · have e1 : flt [p] = [] := by simp [flt, hn]
      have e2 : bf T U false (k + 1) = bf T U false k := by
        rw [bf_up, hg]
        exact br_nn hn (List.mem_of_getElem? hpk) 60
      rw [e1, List.append_nil, e2]
      exact ⟨i1, i2⟩
    · have e1 : flt [p] = [p] := by simp [flt, hn]
      rw [e1, List.length_append]
      have h3 := flt_at hpk hn
      rw [i2] at h3
      refine ⟨i1.up h3 hdf, ?_⟩
      show flt (bf T U false (k + 1)) = bf T U true ((flt ((bf T U false k).take k)).length + 1)
      rw [bf_up, hg, flt_br, i2, bf_up, List.getD_eq_getElem?_getD, h3]
      rfl
theorem IsAp.of {T U : Tb} {r : Option (List Nat)} (h : IsAp T U false r) : IsAp T U true r := by
  obtain ⟨k, hk, ho⟩ := h
  obtain ⟨i1, i2⟩ := flt_bf T U k hk
  refine ⟨_, i1, ?_⟩
  rcases ho with ⟨e, h1, h2, rfl⟩ | ⟨h1, rfl⟩
  · refine .inl ⟨e, ?_, h2, rfl⟩
    rw [← i2]
    exact flt_at h1 (fun hn => by rw [hn, df_nn] at h2; cases h2)
  · refine .inr ⟨?_, rfl⟩
    rw [← i2, List.take_of_length_le (by omega)]
/-- the duos are rows of both tables or nowhere -/
def InT (n : Nat) (s : Option Nat) : Prop := ∀ i, s = some i → i < n
structure Dus (T U : Tb) (l : List Vis) : Prop where
  left : ∀ x ∈ l, InT T.n x.1.1
  right : ∀ x ∈ l, InT U.n x.1.2
  each : (l.map (·.1)).Nodup
theorem st_in {T : Tb} (h : T.Ok) {s : Option Nat} (hs : InT T.n s) (c : Nat) : InT T.n (T.st s c) := by
  intro i hi
  cases s with
  | none => cases hi
  | some j => exact h j c i (hs j rfl) hi
theorem Dus.bs {T U : Tb} {z : Bool} {p : Vis} {l : List Vis} {c : Nat} (h : Dus T U l) (hT : T.Ok) (hU : U.Ok) (hp1 : InT T.n p.1.1) (hp2 : InT U.n p.1.2) : Dus T U (bs T U z p l c) := by
  unfold Su.bs
  split
  · exact h
  · rename_i hh
    refine ⟨fun x hx => ?_, fun x hx => ?_, ?_⟩
    · rcases List.mem_append.1 hx with hx | hx
      · exact h.left x hx
      · rw [List.mem_singleton.1 hx]; exact st_in hT hp1 c
    · rcases List.mem_append.1 hx with hx | hx
      · exact h.right x hx
      · rw [List.mem_singleton.1 hx]; exact st_in hU hp2 c
    · rw [List.map_append, List.nodup_append]
      refine ⟨h.each, by simp, fun a ha b hb e => ?_⟩
      obtain ⟨x, hx, rfl⟩ := List.mem_map.1 ha
      have hb2 : b = dst T U p.1 c := by simpa using hb
      apply hh
      unfold hd
      rw [hasD_iff.2 ⟨x, hx, e.trans hb2⟩, Bool.or_true]
theorem Dus.br {T U : Tb} {z : Bool} {p : Vis} {l : List Vis} (h : Dus T U l) (hT : T.Ok) (hU : U.Ok) (hp1 : InT T.n p.1.1) (hp2 : InT U.n p.1.2) : ∀ c, Dus T U (br T U z p l c)
  | 0 => h
  | c + 1 => by rw [br_up]; exact (Dus.br h hT hU hp1 hp2 c).bs hT hU hp1 hp2
theorem bf_dus {T U : Tb} (z : Bool) (hT : T.Ok) (hU : U.Ok) (hT0 : 0 < T.n) (hU0 : 0 < U.n) : ∀ k, Dus T U (bf T U z k)
  | 0 => ⟨fun x hx => by rw [List.mem_singleton.1 hx]; intro i hi; cases hi; exact hT0, fun x hx => by rw [List.mem_singleton.1 hx]; intro i hi; cases hi; exact hU0, by simp [bf]⟩
  | k + 1 => by
    have ih := bf_dus z hT hU hT0 hU0 k
    rw [bf_up]
    refine ih.br hT hU ?_ ?_ 60
    · rw [List.getD_eq_getElem?_getD]
      cases e : (bf T U z k)[k]? with
      | none => intro i hi; cases hi; exact hT0
      | some x => exact ih.left x (List.mem_of_getElem? e)
    · rw [List.getD_eq_getElem?_getD]
      cases e : (bf T U z k)[k]? with
      | none => intro i hi; cases hi; exact hU0
      | some x => exact ih.right x (List.mem_of_getElem? e)
def on1 (s : Option Nat) : Nat := match s with | some i => i + 1 | none => 0
theorem on1_inj {s u : Option Nat} (h : on1 s = on1 u) : s = u := by
  cases s <;> cases u <;> simp_all [on1]
theorem on1_lt {n : Nat} {s : Option Nat} (h : InT n s) : on1 s < n + 1 := by
  cases s with
  | none => show 0 < n + 1; omega
  | some i => have := h i rfl; show i + 1 < n + 1; omega
/-- a duo as a number -/
def dno (m : Nat) (d : Duo) : Nat := on1 d.1 * (m + 1) + on1 d.2
theorem dno_inj {m : Nat} {d e : Duo} (hd : InT m d.2) (he : InT m e.2) (h : dno m d = dno m e) : d = e := by
  obtain ⟨a, b⟩ := d
  obtain ⟨a', b'⟩ := e
  unfold dno at h
  dsimp only at h hd he
  have hb := on1_lt hd
  have hb' := on1_lt he
  have h1 : on1 a = on1 a' ∧ on1 b = on1 b' := by
    generalize on1 a = x at *
    generalize on1 a' = x' at *
    generalize on1 b = y at *
    generalize on1 b' = y' at *
    rcases Nat.lt_trichotomy x x' with hx | rfl | hx
    · have : (x + 1) * (m + 1) ≤ x' * (m + 1) := Nat.mul_le_mul_right _ hx
      rw [Nat.add_mul, Nat.one_mul] at this
      omega
    · exact ⟨rfl, by omega⟩
    · have : (x' + 1) * (m + 1) ≤ x * (m + 1) := Nat.mul_le_mul_right _ hx
      rw [Nat.add_mul, Nat.one_mul] at this
      omega
  rw [on1_inj h1.1, on1_inj h1.2]
theorem dno_lt {n m : Nat} {d : Duo} (h1 : InT n d.1) (h2 : InT m d.2) : dno m d < (n + 1) * (m + 1) := by
  have ha := on1_lt h1
  have hb := on1_lt h2
  unfold dno
  generalize on1 d.1 = x at *
  generalize on1 d.2 = y at *
  have : (x + 1) * (m + 1) ≤ (n + 1) * (m + 1) := Nat.mul_le_mul_right _ ha
  rw [Nat.add_mul, Nat.one_mul] at this
  omega
theorem Dus.len {T U : Tb} {l : List Vis} (h : Dus T U l) : l.length ≤ (T.n + 1) * (U.n + 1) := by
  have := inj_len ((T.n + 1) * (U.n + 1)) (l.map fun x => dno U.n x.1) (by
    have h1 := h.each
    rw [List.nodup_iff_pairwise_ne, List.pairwise_map] at h1
    rw [List.nodup_iff_pairwise_ne, List.pairwise_map]
    exact List.Pairwise.imp_of_mem (fun ha hb hne e => hne (dno_inj (h.right _ ha) (h.right _ hb) e)) h1) (fun x hx => by
    obtain ⟨y, hy, rfl⟩ := List.mem_map.1 hx
    exact dno_lt (h.left y hy) (h.right y hy))
  rw [List.length_map] at this
  exact this
end Go.Proofs.YtfjocafepigijaaDoor.Su
/- Two tables that read the same have one small machine; a text that tells two tables apart is read by just one, and none is told of just such as read the same. In plain words: no program text; no conditions. -/
namespace Go.Proofs.YtfjocafepigijaaDoor.Su
open Mv

/-- the same is read from a row of one and a row of the other -/
def Lk2 (T U : Tb) (s u : Option Nat) : Prop := ∀ t, Tt t → T.acc s t = U.acc u t
theorem Lk2.step {T U : Tb} {s u : Option Nat} (h : Lk2 T U s u) {c : Nat} (hc : 1 ≤ c ∧ c ≤ 60) : Lk2 T U (T.st s c) (U.st u c) := fun t ht => h (c :: t) (ht.cons hc)
theorem Lk2.fo {T U : Tb} {s u : Option Nat} (h : Lk2 T U s u) : T.fo s = U.fo u := h [] Tt.nil
theorem Lk2.live {T U : Tb} {s u : Option Nat} (h : Lk2 T U s u) : T.Live s ↔ U.Live u := by
  constructor
  · rintro ⟨t, ht, k⟩; exact ⟨t, ht, (h t ht).symm.trans k⟩
  · rintro ⟨t, ht, k⟩; exact ⟨t, ht, (h t ht).trans k⟩
/-- what reads the same as the same is of one class -/
theorem Lk2.lk {T U : Tb} {s s' u u' : Option Nat} (h : Lk2 T U s u) (h' : Lk2 T U s' u') : T.Lk s s' ↔ U.Lk u u' := by
  constructor
  · intro k t ht; rw [← h t ht, ← h' t ht]; exact k t ht
  · intro k t ht; rw [h t ht, h' t ht]; exact k t ht
/-- rows side by side -/
def Par (T U : Tb) (l l' : List Nat) : Prop := l.length = l'.length ∧ ∀ (i x y : Nat), l[i]? = some x → l'[i]? = some y → Lk2 T U (some x) (some y)
theorem Par.nil (T U : Tb) : Par T U [] [] := ⟨rfl, fun i x y h => by simp at h⟩
theorem Par.snoc {T U : Tb} {l l' : List Nat} {x y : Nat} (h : Par T U l l') (k : Lk2 T U (some x) (some y)) : Par T U (l ++ [x]) (l' ++ [y]) := by
  refine ⟨by rw [List.length_append, List.length_append, h.1]; rfl, fun i a b ha hb => ?_⟩
  by_cases hi : i < l.length
  · rw [List.getElem?_append_left hi] at ha
    rw [List.getElem?_append_left (by rw [← h.1]; exact hi)] at hb
    exact h.2 i a b ha hb
  · rw [List.getElem?_append_right (by omega)] at ha
    rw [List.getElem?_append_right (by rw [← h.1]; omega)] at hb
    rw [← h.1] at hb
    cases e : i - l.length with
    | zero => rw [e] at ha hb; simp at ha hb; subst ha hb; exact k
    | succ n => rw [e] at ha; simp at ha
open Classical in
theorem wh_par {T U : Tb} {l l' : List Nat} {x y : Nat} (h : Par T U l l') (k : Lk2 T U (some x) (some y)) : wh T l x = wh U l' y := by
  unfold wh
  revert h
  induction l generalizing l' with
  | nil =>
    intro h
    cases l' with
    | nil => rfl
    | cons b l' => have := h.1; simp at this
  | cons a l ih =>
    intro h
    cases l' with
    | nil => have := h.1; simp at this
    | cons b l' =>
      have h0 := h.2 0 a b rfl rfl
      have h1 : Par T U l l' := ⟨by have := h.1; simpa using this, fun i x y hx hy => h.2 (i + 1) x y (by simpa using hx) (by simpa using hy)⟩
      rw [List.findIdx_cons, List.findIdx_cons, ih h1]
      have e : decide (T.Lk (some a) (some x)) = decide (U.Lk (some b) (some y)) := decide_eq_decide.2 (h0.lk k)
      rw [e]
/-- what leads on in one leads on in the other, to the same -/
theorem cut_par {T U : Tb} {r r' c : Nat} (h : Lk2 T U (some r) (some r')) (hc : 1 ≤ c ∧ c ≤ 60) : (T.cut.to r c = none ∧ U.cut.to r' c = none) ∨ ∃ x y, T.cut.to r c = some x ∧ U.cut.to r' c = some y ∧ Lk2 T U (some x) (some y) := by
  have hs : Lk2 T U (T.to r c) (U.to r' c) := h.step hc
  cases e1 : T.cut.to r c with
  | none =>
    have h1 := Tb.cut_none e1
    cases e2 : U.cut.to r' c with
    | none => exact .inl ⟨rfl, rfl⟩
    | some y =>
      obtain ⟨h2, h3⟩ := Tb.cut_some e2
      rw [← h2] at h3
      exact absurd (hs.live.2 h3) h1
  | some x =>
    obtain ⟨h1, h1'⟩ := Tb.cut_some e1
    cases e2 : U.cut.to r' c with
    | none =>
      rw [← h1] at h1'
      exact absurd (hs.live.1 h1') (Tb.cut_none e2)
    | some y =>
      obtain ⟨h2, _⟩ := Tb.cut_some e2
      rw [h1, h2] at hs
      exact .inr ⟨x, y, rfl, rfl, hs⟩
theorem js_par {T U : Tb} {p r r' c : Nat} {s s' : List Nat × List (Nat × Nat × Nat)} (h : Par T U s.1 s'.1) (ha : s.2 = s'.2) (hr : Lk2 T U (some r) (some r')) (hc : 1 ≤ c ∧ c ≤ 60) : Par T U (js T p r s c).1 (js U p r' s' c).1 ∧ (js T p r s c).2 = (js U p r' s' c).2 := by
  unfold js
  rcases cut_par hr hc with ⟨e1, e2⟩ | ⟨x, y, e1, e2, hxy⟩
  · rw [e1, e2]; exact ⟨h, ha⟩
  · rw [e1, e2]
    dsimp only
    rw [wh_par h hxy, ha, h.1]
    refine ⟨?_, rfl⟩
    split
    · exact h.snoc hxy
    · exact h
theorem jr_par {T U : Tb} {p r r' : Nat} {s s' : List Nat × List (Nat × Nat × Nat)} (h : Par T U s.1 s'.1) (ha : s.2 = s'.2) (hr : Lk2 T U (some r) (some r')) : ∀ c, c ≤ 60 → Par T U (jr T p r s c).1 (jr U p r' s' c).1 ∧ (jr T p r s c).2 = (jr U p r' s' c).2
  | 0, _ => ⟨h, ha⟩
  | c + 1, hc => by
    obtain ⟨h1, h2⟩ := jr_par h ha hr c (by omega)
    rw [jr_up, jr_up]
    exact js_par h1 h2 hr ⟨by omega, hc⟩
theorem jn_par {T U : Tb} (h0 : Lk2 T U (some 0) (some 0)) : ∀ k, Par T U (jn T k).1 (jn U k).1 ∧ (jn T k).2 = (jn U k).2
  | 0 => ⟨(Par.nil T U).snoc h0, rfl⟩
  | k + 1 => by
    obtain ⟨h1, h2⟩ := jn_par h0 k
    refine jr_par h1 h2 ?_ 60 (Nat.le_refl _)
    rw [List.getD_eq_getElem?_getD, List.getD_eq_getElem?_getD]
    cases e1 : (jn T k).1[k]? with
    | none =>
      rw [List.getElem?_eq_none (by rw [← h1.1]; exact List.getElem?_eq_none_iff.1 e1)]
      exact h0
    | some x =>
      obtain ⟨y, hy⟩ : ∃ y, (jn U k).1[k]? = some y := ⟨_, List.getElem?_eq_getElem (by rw [← h1.1]; exact (List.getElem?_eq_some_iff.1 e1).1)⟩
      rw [hy]
      exact h1.2 k x y e1 hy
/-- two tables that read the same have one small machine -/
theorem sure_same {T U : Tb} (h0 : Lk2 T U (some 0) (some 0)) {m m' : M} (h : IsSure T m) (h' : IsSure U m') : m = m' := by
  rcases h with ⟨h1, rfl⟩ | ⟨h1, k, h2, h3, rfl⟩
  · rcases h' with ⟨_, rfl⟩ | ⟨h4, _⟩
    · rfl
    · exact absurd (h0.live.2 h4) h1
  · rcases h' with ⟨h4, _⟩ | ⟨_, l, h4, h5, rfl⟩
    · exact absurd (h0.live.1 h1) h4
    · have hl : ∀ i, (jn T i).1.length = (jn U i).1.length := fun i => (jn_par h0 i).1.1
      obtain rfl := end_one (fun i => (jn T i).1) List.length (k := k) (l := l) (by omega) h2 (by show ¬ l < (jn T l).1.length; rw [hl]; omega) (fun i hi => by show i < (jn T i).1.length; rw [hl]; exact h4 i hi)
      obtain ⟨hp, ha⟩ := jn_par h0 k
      have hf : jf T (jn T k).1 k = jf U (jn U k).1 k := by
        unfold jf
        apply List.filter_congr
        intro i hi
        have hi2 := List.mem_range.1 hi
        obtain ⟨x, hx⟩ : ∃ x, (jn T k).1[i]? = some x := ⟨_, List.getElem?_eq_getElem (by omega)⟩
        obtain ⟨y, hy⟩ : ∃ y, (jn U k).1[i]? = some y := ⟨_, List.getElem?_eq_getElem (by omega)⟩
        rw [List.getD_eq_getElem?_getD, List.getD_eq_getElem?_getD, hx, hy]
        exact (hp.2 i x y hx hy).fo
      rw [ha, hf]
/-- visits are where their texts lead -/
def Fair (T U : Tb) (l : List Vis) : Prop := ∀ e ∈ l, e.1 = (T.go (some 0) e.2, U.go (some 0) e.2) ∧ Tt e.2
theorem go_snoc (T : Tb) : ∀ (t : List Nat) (s : Option Nat) (c : Nat), T.go s (t ++ [c]) = T.st (T.go s t) c
  | [], _, _ => rfl
  | _ :: t, _, c => go_snoc T t _ c
theorem tt_snoc {t : List Nat} {c : Nat} (h : Tt t) (hc : 1 ≤ c ∧ c ≤ 60) : Tt (t ++ [c]) := fun d hd => by
  rcases List.mem_append.1 hd with h1 | h1
  · exact h d h1
  · rw [List.mem_singleton.1 h1]; exact hc
theorem Fair.v0 (T U : Tb) : (v0 : Vis).1 = (T.go (some 0) (v0 : Vis).2, U.go (some 0) (v0 : Vis).2) ∧ Tt (v0 : Vis).2 := ⟨rfl, Tt.nil⟩
theorem Fair.bs {T U : Tb} {z : Bool} {p : Vis} {l : List Vis} {c : Nat} (h : Fair T U l) (hp : p.1 = (T.go (some 0) p.2, U.go (some 0) p.2) ∧ Tt p.2) (hc : 1 ≤ c ∧ c ≤ 60) : Fair T U (bs T U z p l c) := by
  unfold Su.bs
  split
  · exact h
  · intro e he
    rcases List.mem_append.1 he with he | he
    · exact h e he
    · rw [List.mem_singleton.1 he]
      refine ⟨?_, tt_snoc hp.2 hc⟩
      show dst T U p.1 c = _
      unfold dst
      rw [hp.1, go_snoc, go_snoc]
theorem Fair.br {T U : Tb} {z : Bool} {p : Vis} {l : List Vis} (h : Fair T U l) (hp : p.1 = (T.go (some 0) p.2, U.go (some 0) p.2) ∧ Tt p.2) : ∀ c, c ≤ 60 → Fair T U (br T U z p l c)
  | 0, _ => h
  | c + 1, hc => by rw [br_up]; exact (Fair.br h hp c (by omega)).bs hp ⟨by omega, hc⟩
theorem bf_fair (T U : Tb) (z : Bool) : ∀ k, Fair T U (bf T U z k)
  | 0 => fun e he => by rw [List.mem_singleton.1 he]; exact Fair.v0 T U
  | k + 1 => by
    have ih := bf_fair T U z k
    rw [bf_up]
    refine ih.br ?_ 60 (Nat.le_refl _)
    rw [List.getD_eq_getElem?_getD]
    cases e : (bf T U z k)[k]? with
    | none => exact Fair.v0 T U
    | some x => exact ih x (List.mem_of_getElem? e)
/-- a text that is told is read by just one -/
theorem ap_some {T U : Tb} {z : Bool} {t : List Nat} (h : IsAp T U z (some t)) : Tt t ∧ T.acc (some 0) t ≠ U.acc (some 0) t := by
  obtain ⟨k, hk, ⟨e, he, hd, hr⟩ | ⟨_, hr⟩⟩ := h
  · cases hr
    obtain ⟨h1, h2⟩ := bf_fair T U z k e (List.mem_of_getElem? he)
    refine ⟨h2, fun hq => ?_⟩
    unfold df at hd
    rw [h1] at hd
    have : T.fo (T.go (some 0) e.2) = U.fo (U.go (some 0) e.2) := hq
    rw [this] at hd
    simp at hd
  · cases hr
/-- a duo has been come to, or is nowhere -/
theorem hd_mono {z : Bool} {l l' : List Vis} {q : Duo} (h : l <+: l') (k : hd z l q = true) : hd z l' q = true := by
  unfold hd at k ⊢
  rcases Bool.or_eq_true_iff.1 k with k | k
  · rw [k, Bool.true_or]
  · obtain ⟨x, hx, e⟩ := hasD_iff.1 k
    rw [hasD_iff.2 ⟨x, h.mem hx, e⟩, Bool.or_true]
theorem bs_hd (T U : Tb) (z : Bool) (p : Vis) (l : List Vis) (c : Nat) : hd z (bs T U z p l c) (dst T U p.1 c) = true := by
  unfold bs
  split
  · assumption
  · unfold hd
    rw [hasD_iff.2 ⟨_, List.mem_append_right _ (List.mem_singleton.2 rfl), rfl⟩, Bool.or_true]
theorem br_hd (T U : Tb) (z : Bool) (p : Vis) (l : List Vis) {c d : Nat} (hc : 1 ≤ c) (hd' : c ≤ d) : hd z (br T U z p l d) (dst T U p.1 c) = true := by
  obtain ⟨c', rfl⟩ : ∃ c', c = c' + 1 := ⟨c - 1, by omega⟩
  refine hd_mono (br_pre T U z p l (c' + 1) d hd') ?_
  rw [br_up]
  exact bs_hd T U z p _ _
/-- none is told: both read the same -/
theorem ap_none {T U : Tb} {z : Bool} (h : IsAp T U z none) : Lk2 T U (some 0) (some 0) := by
  obtain ⟨k, hk, ⟨e, _, _, hr⟩ | ⟨hl, _⟩⟩ := h
  · cases hr
  · have key : ∀ (t : List Nat) (d : Duo), Tt t → (d = nn ∨ hasD (bf T U z k) d = true) → T.acc d.1 t = U.acc d.2 t := by
      intro t
      induction t with
      | nil =>
        intro d _ hor
        rcases hor with rfl | hh
        · rfl
        · obtain ⟨x, hx, rfl⟩ := hasD_iff.1 hh
          obtain ⟨i, hi⟩ := List.mem_iff_getElem?.1 hx
          have := hk.no i x (by rw [← hl]; exact (List.getElem?_eq_some_iff.1 hi).1) hi
          unfold df at this
          have h9 : T.fo x.1.1 = U.fo x.1.2 := by simpa using this
          exact h9
      | cons c t ih =>
        intro d ht hor
        rw [Tb.acc_cons, Tb.acc_cons]
        refine ih (dst T U d c) ht.tail ?_
        rcases hor with rfl | hh
        · exact .inl (dst_nn T U c)
        · obtain ⟨x, hx, rfl⟩ := hasD_iff.1 hh
          obtain ⟨i, hi⟩ := List.mem_iff_getElem?.1 hx
          have hik : i < k := by rw [← hl]; exact (List.getElem?_eq_some_iff.1 hi).1
          have h1 := hk.run i hik
          have h2 : (bf T U z i)[i]? = some (bf T U z i)[i] := List.getElem?_eq_getElem h1
          have h3 := pre_get (bf_pre T U z i k (Nat.le_of_lt hik)) h2
          rw [h3] at hi
          cases hi
          have h4 : hd z (bf T U z (i + 1)) (dst T U ((bf T U z i)[i]).1 c) = true := by
            rw [bf_up, List.getD_eq_getElem?_getD, h2]
            exact br_hd T U z _ _ ht.head.1 ht.head.2
          have h5 := hd_mono (bf_pre T U z (i + 1) k hik) h4
          unfold hd at h5
          rcases Bool.or_eq_true_iff.1 h5 with h6 | h6
          · rw [Bool.and_eq_true] at h6
            exact .inl (of_decide_eq_true h6.2)
          · exact .inr h6
    intro t ht
    refine key t (some 0, some 0) ht (.inr (hasD_iff.2 ⟨v0, ?_, rfl⟩))
    exact (bf_pre T U z 0 k (Nat.zero_le _)).mem (List.mem_singleton.2 rfl)
/-- both read the same: none is told -/
theorem ap_lk {T U : Tb} {z : Bool} {r : Option (List Nat)} (h : IsAp T U z r) (k : Lk2 T U (some 0) (some 0)) : r = none := by
  cases r with
  | none => rfl
  | some t =>
    obtain ⟨h1, h2⟩ := ap_some h
    exact absurd (k t h1) h2
end Go.Proofs.YtfjocafepigijaaDoor.Su
