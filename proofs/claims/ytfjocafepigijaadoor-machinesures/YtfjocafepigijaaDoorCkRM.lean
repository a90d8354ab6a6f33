/- How machines and lists of numbers lie in memory, to be read; what Check says of a machine, in plain words. No conditions. -/
import Derived.Test.YtfjocafepigijaaDoorProg
import Derived.WalkKit
import Derived.WalkSpells
import Derived.WalkLawsBesides
import Derived.BigCall
namespace Go.Proofs.YtfjocafepigijaaDoor.Bw
end Go.Proofs.YtfjocafepigijaaDoor.Bw
namespace Go.Proofs.YtfjocafepigijaaDoor.Ec
end Go.Proofs.YtfjocafepigijaaDoor.Ec
namespace Go.Proofs.YtfjocafepigijaaDoor.Jf
end Go.Proofs.YtfjocafepigijaaDoor.Jf
namespace Go.Proofs.YtfjocafepigijaaDoor.Ry
end Go.Proofs.YtfjocafepigijaaDoor.Ry
namespace Go.Proofs.YtfjocafepigijaaDoor.Th
end Go.Proofs.YtfjocafepigijaaDoor.Th
namespace Go.Proofs.YtfjocafepigijaaDoor.Zz
end Go.Proofs.YtfjocafepigijaaDoor.Zz
namespace Go.Proofs.YtfjocafepigijaaDoor.Mv
open Go.RowKit

/-- a slice that is read: n elements of so many cells each -/
def Row (w : World) (v : Value) (size n : Nat) (xs : List Value) : Prop :=
  xs.length = n * size ∧ ∃ a cap, v = .slice a n cap ∧ n ≤ 140737488355328 ∧ (n = 0 ∨ ∃ b off, a = some ⟨b, off, none⟩ ∧ b < w.heap.size ∧ ∀ j u, xs[j]? = some u → w.cell? ⟨b, off + j, none⟩ = some u)

theorem Row.below {w w' : World} {v : Value} {size n : Nat} {xs : List Value} (h : Row w v size n xs) (hb : Below w.heap.size w w') : Row w' v size n xs := by
  obtain ⟨hl, a, cap, hv, hn, h⟩ := h
  refine ⟨hl, a, cap, hv, hn, ?_⟩
  rcases h with h | ⟨b, off, ha, hlt, hc⟩
  · exact .inl h
  · exact .inr ⟨b, off, ha, Nat.lt_of_lt_of_le hlt hb.size, fun j u hu => (hb.cell (p := ⟨b, off + j, none⟩) hlt).trans (hc j u hu)⟩
/-- a machine: states; arcs (from, to, in, out, cost); finals (state, cost) -/
structure M where
  st : Int
  arcs : List (Int × Int × Int × Int × Int)
  fins : List (Int × Int)
def ac (a : Int × Int × Int × Int × Int) : List Value := [.int .i64 a.1, .int .i64 a.2.1, .int .i64 a.2.2.1, .int .i64 a.2.2.2.1, .int .i64 a.2.2.2.2]
def acs (l : List (Int × Int × Int × Int × Int)) : List Value := l.flatMap ac
def fc (a : Int × Int) : List Value := [.int .i64 a.1, .int .i64 a.2]
def fcs (l : List (Int × Int)) : List Value := l.flatMap fc

theorem acs_length (l : List (Int × Int × Int × Int × Int)) : (acs l).length = l.length * 5 := by
  induction l with
  | nil => rfl
  | cons a l ih => simp [acs, ac] at ih ⊢; omega
theorem fcs_length (l : List (Int × Int)) : (fcs l).length = l.length * 2 := by
  induction l with
  | nil => rfl
  | cons a l ih => simp [fcs, fc] at ih ⊢; omega
theorem acs_at (l : List (Int × Int × Int × Int × Int)) (k : Nat) (h : k < l.length) :
    (acs l)[k * 5]? = some (.int .i64 (l[k]).1) ∧ (acs l)[k * 5 + 1]? = some (.int .i64 (l[k]).2.1) ∧ (acs l)[k * 5 + 2]? = some (.int .i64 (l[k]).2.2.1) ∧ (acs l)[k * 5 + 3]? = some (.int .i64 (l[k]).2.2.2.1) ∧ (acs l)[k * 5 + 4]? = some (.int .i64 (l[k]).2.2.2.2) := by
  induction l generalizing k with
  | nil => simp at h
  | cons a l ih =>
    cases k with
    | zero => simp [acs, ac]
    | succ k =>
      have := ih k (by simpa using h)
      have e : ∀ j, (acs (a :: l))[(k + 1) * 5 + j]? = (acs l)[k * 5 + j]? := by
        intro j
        have : (k + 1) * 5 + j = (k * 5 + j) + 5 := by omega
        rw [this]
        simp [acs, ac]
      exact ⟨(e 0).trans this.1, (e 1).trans this.2.1, (e 2).trans this.2.2.1, (e 3).trans this.2.2.2.1, (e 4).trans this.2.2.2.2⟩
theorem fcs_at (l : List (Int × Int)) (k : Nat) (h : k < l.length) : (fcs l)[k * 2]? = some (.int .i64 (l[k]).1) ∧ (fcs l)[k * 2 + 1]? = some (.int .i64 (l[k]).2) := by
  induction l generalizing k with
  | nil => simp at h
  | cons a l ih =>
    cases k with
    | zero => simp [fcs, fc]
    | succ k =>
      have := ih k (by simpa using h)
      have e : ∀ j, (fcs (a :: l))[(k + 1) * 2 + j]? = (fcs l)[k * 2 + j]? := by
        intro j
        have : (k + 1) * 2 + j = (k * 2 + j) + 2 := by omega
        rw [this]
        simp [fcs, fc]
      exact ⟨(e 0).trans this.1, (e 1).trans this.2⟩

/-- a machine, handed in by value -/
def IsM (w : World) (v : Value) (m : M) : Prop := ∃ va vf, v = .agg #[.int .i64 m.st, va, vf] ∧ Row w va 5 m.arcs.length (acs m.arcs) ∧ Row w vf 2 m.fins.length (fcs m.fins)
theorem IsM.below {w w' : World} {v : Value} {m : M} (h : IsM w v m) (hb : Below w.heap.size w w') : IsM w' v m := by
  obtain ⟨va, vf, hv, h1, h2⟩ := h
  exact ⟨va, vf, hv, h1.below hb, h2.below hb⟩

/-- B1, in plain words -/
def arcB (st : Int) (a : Int × Int × Int × Int × Int) : Bool :=
  decide (0 ≤ a.1 ∧ a.1 < st ∧ 0 ≤ a.2.1 ∧ a.2.1 < st ∧ 0 ≤ a.2.2.1 ∧ a.2.2.1 ≤ 60 ∧ 0 ≤ a.2.2.2.1 ∧ a.2.2.2.1 ≤ 60 ∧ 0 ≤ a.2.2.2.2 ∧ a.2.2.2.2 ≤ 1000000)
def finB (st : Int) (f : Int × Int) : Bool := decide (0 ≤ f.1 ∧ f.1 < st ∧ 0 ≤ f.2 ∧ f.2 ≤ 1000000)
def sizeB (m : M) : Bool := decide (1 ≤ m.st ∧ m.st ≤ 3000 ∧ (m.arcs.length : Int) ≤ 20000 ∧ (m.fins.length : Int) ≤ m.st)
/-- no state is final twice among the first k -/
def onceK (m : M) (k : Nat) : Prop := ∀ i j (hi : i < m.fins.length) (hj : j < m.fins.length), i < j → j < k → (m.fins[i]).1 ≠ (m.fins[j]).1
def checkP (m : M) (e : Int) : Prop :=
  (sizeB m = false ∧ e = 7) ∨
  (sizeB m = true ∧ (∃ k, ∃ h : k < m.arcs.length, arcB m.st m.arcs[k] = false) ∧ e = 3) ∨
  (sizeB m = true ∧ (∀ k (h : k < m.arcs.length), arcB m.st m.arcs[k] = true) ∧ (∃ k, ∃ h : k < m.fins.length, finB m.st m.fins[k] = false) ∧ e = 3) ∨
  (sizeB m = true ∧ (∀ k (h : k < m.arcs.length), arcB m.st m.arcs[k] = true) ∧ (∀ k (h : k < m.fins.length), finB m.st m.fins[k] = true) ∧ ¬ onceK m m.fins.length ∧ e = 6) ∨
  (sizeB m = true ∧ (∀ k (h : k < m.arcs.length), arcB m.st m.arcs[k] = true) ∧ (∀ k (h : k < m.fins.length), finB m.st m.fins[k] = true) ∧ onceK m m.fins.length ∧ e = 0)
theorem checkP_one {m : M} {e e' : Int} (h : checkP m e) (h' : checkP m e') : e = e' := by
  rcases h with ⟨a, r⟩ | ⟨a, ⟨k, hk, b⟩, r⟩ | ⟨a, b, ⟨k, hk, c⟩, r⟩ | ⟨a, b, c, d, r⟩ | ⟨a, b, c, d, r⟩ <;>
  rcases h' with ⟨a', r'⟩ | ⟨a', ⟨k', hk', b'⟩, r'⟩ | ⟨a', b', ⟨k', hk', c'⟩, r'⟩ | ⟨a', b', c', d', r'⟩ | ⟨a', b', c', d', r'⟩ <;>
  first
  | omega
  | (rw [a] at a'; exact absurd a' (by decide))
  | (have q := b' k hk; rw [b] at q; exact absurd q (by decide))
  | (have q := b k' hk'; rw [b'] at q; exact absurd q (by decide))
  | (have q := c' k hk; rw [c] at q; exact absurd q (by decide))
  | (have q := c k' hk'; rw [c'] at q; exact absurd q (by decide))
  | exact absurd d' d
  | exact absurd d d'
end Go.Proofs.YtfjocafepigijaaDoor.Mv
/- Plain facts on walks of a machine and their least cost: a table of costs that no arc betters is the table of the least. No conditions beyond that the machine is right. -/
namespace Go.Proofs.YtfjocafepigijaaDoor.Wk
open Mv

/-- what an arc reads and writes at a place of both texts, and the place behind -/
def Move (inn out : List Int) (told : Bool) (a : Int × Int × Int × Int × Int) (i j i' j' : Nat) : Prop :=
  ((a.2.2.1 = 0 ∧ i' = i) ∨ (0 < a.2.2.1 ∧ inn[i]? = some a.2.2.1 ∧ i' = i + 1)) ∧
  (((a.2.2.2.1 = 0 ∨ told = false) ∧ j' = j) ∨ (0 < a.2.2.2.1 ∧ told = true ∧ out[j]? = some a.2.2.2.1 ∧ j' = j + 1))

/-- a walk of so many arcs comes to a state at a place of both texts, for so much -/
def ReachN (m : M) (inn out : List Int) (told : Bool) : Nat → Nat → Nat → Nat → Nat → Prop
  | 0, s, i, j, c => s = 0 ∧ i = 0 ∧ j = 0 ∧ c = 0
  | t + 1, s', i', j', c' => ∃ s i j c x, ∃ h : x < m.arcs.length, ReachN m inn out told t s i j c ∧ (m.arcs[x]).1 = (s : Int) ∧ (m.arcs[x]).2.1 = (s' : Int) ∧ Move inn out told m.arcs[x] i j i' j' ∧ (c' : Int) = c + (m.arcs[x]).2.2.2.2
def Reach (m : M) (inn out : List Int) (told : Bool) (s i j c : Nat) : Prop := ∃ t, ReachN m inn out told t s i j c

/-- a right machine of S states -/
def Right (m : M) (S : Nat) : Prop := m.st = (S : Int) ∧ 0 < S ∧ ∀ x (h : x < m.arcs.length), arcB m.st m.arcs[x] = true

end Go.Proofs.YtfjocafepigijaaDoor.Wk
/- The queue's entries in plain words: what is moved about stays what it was but for its order. No conditions. -/
namespace Go.Proofs.YtfjocafepigijaaDoor.Qp
open Go.RowKit Mv

theorem fcs_set (l : List (Int × Int)) (k : Nat) (a b : Int) : ((fcs l).set (k * 2) (.int .i64 a)).set (k * 2 + 1) (.int .i64 b) = fcs (l.set k (a, b)) := by
  induction l generalizing k with
  | nil => simp [fcs]
  | cons x l ih =>
    cases k with
    | zero => simp [fcs, fc]
    | succ k =>
      have e : (k + 1) * 2 = k * 2 + 1 + 1 := by omega
      have := ih k
      rw [e]
      have e2 : ∀ m : List (Int × Int), fcs (x :: m) = .int .i64 x.1 :: .int .i64 x.2 :: fcs m := fun m => rfl
      simp only [e2, List.set_cons_succ, ← this]

/-- a thing moved from one place to another, and another one laid where it was -/
theorem set_swap (l : List (Int × Int)) (i j : Nat) (e : Int × Int) (hi : i < l.length) (hj : j < l.length) (hne : i ≠ j) : ((l.set i l[j]).set j e).Perm (l.set i e) := by
  rw [List.perm_iff_count]
  intro b
  have h1 : (l.set i l[j]).count b = l.count b - (if l[i] == b then 1 else 0) + (if l[j] == b then 1 else 0) := by rw [List.count_set hi]
  have h2 : (l.set i e).count b = l.count b - (if l[i] == b then 1 else 0) + (if e == b then 1 else 0) := by rw [List.count_set hi]
  have hj' : j < (l.set i l[j]).length := by simpa using hj
  have h3 : ((l.set i l[j]).set j e).count b = (l.set i l[j]).count b - (if (l.set i l[j])[j] == b then 1 else 0) + (if e == b then 1 else 0) := by rw [List.count_set hj']
  have h4 : (l.set i l[j])[j] = l[j] := List.getElem_set_ne hne _
  rw [h3, h4, h1, h2]
  have hp : (if l[i] == b then 1 else 0) ≤ l.count b := by
    split
    · rename_i h
      have : b = l[i] := by simpa using (beq_iff_eq.1 h).symm
      exact List.count_pos_iff.2 (this ▸ List.getElem_mem hi)
    · omega
  generalize (if l[i] == b then 1 else 0) = x at *
  generalize (if l[j] == b then 1 else 0) = y at *
  generalize (if e == b then 1 else 0) = z at *
  omega
theorem wrap_idx {k n : Nat} (h : k < n) (hn : n ≤ 1000000000000) : ∃ m2 k1 k2 : Nat, k1 = 2 * k + 1 ∧ k2 = 2 * k + 2 ∧ wrap64 (2 * (k : Int)) = (m2 : Int) ∧ wrap64 ((m2 : Int) + 1) = (k1 : Int) ∧ wrap64 ((k1 : Int) + 1) = (k2 : Int) ∧ IntKind.i64.wrap ((k1 : Int) + 1) = (k2 : Int) := by
  refine ⟨2 * k, 2 * k + 1, 2 * k + 2, rfl, rfl, ?_, ?_, ?_, ?_⟩
  · unfold wrap64; omega
  · unfold wrap64; omega
  · unfold wrap64; omega
  · rw [IntKind.wrap_i64]; omega
end Go.Proofs.YtfjocafepigijaaDoor.Qp
/- Sure machines in plain words: tables, what is read from a row, rows that read the same; a run that is ended by its own length. No program text; no conditions. -/
namespace Go.Proofs.YtfjocafepigijaaDoor.Su

/-- a sure machine, not yet a small one: where each symbol leads, which rows are final -/
structure Tb where
  n : Nat
  to : Nat → Nat → Option Nat
  fin : Nat → Bool
/-- a text of symbols -/
def Tt (t : List Nat) : Prop := ∀ c ∈ t, 1 ≤ c ∧ c ≤ 60
theorem Tt.nil : Tt [] := fun c h => by cases h
theorem Tt.cons {c : Nat} {t : List Nat} (h1 : 1 ≤ c ∧ c ≤ 60) (h : Tt t) : Tt (c :: t) := fun d hd => by
  rcases List.mem_cons.1 hd with rfl | hd
  · exact h1
  · exact h d hd
theorem Tt.tail {c : Nat} {t : List Nat} (h : Tt (c :: t)) : Tt t := fun d hd => h d (List.mem_cons_of_mem _ hd)
theorem Tt.head {c : Nat} {t : List Nat} (h : Tt (c :: t)) : 1 ≤ c ∧ c ≤ 60 := h c List.mem_cons_self
namespace Tb
/-- one step: from nowhere one comes nowhere -/
def st (T : Tb) (s : Option Nat) (c : Nat) : Option Nat := s.bind fun i => T.to i c
def go (T : Tb) : Option Nat → List Nat → Option Nat
  | s, [] => s
  | s, c :: t => T.go (T.st s c) t
def fo (T : Tb) (s : Option Nat) : Bool := match s with | some i => T.fin i | none => false
/-- is the text read from there? -/
def acc (T : Tb) (s : Option Nat) (t : List Nat) : Bool := T.fo (T.go s t)
theorem acc_nil (T : Tb) (s : Option Nat) : T.acc s [] = T.fo s := rfl
theorem acc_cons (T : Tb) (s : Option Nat) (c : Nat) (t : List Nat) : T.acc s (c :: t) = T.acc (T.st s c) t := rfl
theorem go_none (T : Tb) : ∀ t, T.go none t = none
  | [] => rfl
  | _ :: t => T.go_none t
theorem acc_none (T : Tb) (t : List Nat) : T.acc none t = false := by unfold acc; rw [go_none]; rfl
/-- the same is read from both -/
def Lk (T : Tb) (s u : Option Nat) : Prop := ∀ t, Tt t → T.acc s t = T.acc u t
/-- something is read from there -/
def Live (T : Tb) (s : Option Nat) : Prop := ∃ t, Tt t ∧ T.acc s t = true
theorem Lk.refl (T : Tb) (s : Option Nat) : T.Lk s s := fun _ _ => rfl
theorem Lk.symm {T : Tb} {s u : Option Nat} (h : T.Lk s u) : T.Lk u s := fun t ht => (h t ht).symm
theorem Lk.trans {T : Tb} {s u v : Option Nat} (h : T.Lk s u) (k : T.Lk u v) : T.Lk s v := fun t ht => (h t ht).trans (k t ht)
theorem Lk.step {T : Tb} {s u : Option Nat} (h : T.Lk s u) {c : Nat} (hc : 1 ≤ c ∧ c ≤ 60) : T.Lk (T.st s c) (T.st u c) := fun t ht => h (c :: t) (ht.cons hc)
theorem Lk.fo {T : Tb} {s u : Option Nat} (h : T.Lk s u) : T.fo s = T.fo u := h [] Tt.nil
theorem live_iff (T : Tb) (s : Option Nat) : T.Live s ↔ ¬ T.Lk s none := by
  constructor
  · rintro ⟨t, ht, h⟩ he
    rw [he t ht, acc_none] at h
    cases h
  · intro h
    refine Classical.byContradiction fun hn => h fun t ht => ?_
    rw [acc_none]
    cases e : T.acc s t with
    | false => rfl
    | true => exact absurd ⟨t, ht, e⟩ hn
theorem Lk.live {T : Tb} {s u : Option Nat} (h : T.Lk s u) : T.Live s ↔ T.Live u := by
  constructor
  · rintro ⟨t, ht, k⟩; exact ⟨t, ht, (h t ht).symm.trans k⟩
  · rintro ⟨t, ht, k⟩; exact ⟨t, ht, (h t ht).trans k⟩
/-- rows lead to rows -/
def Ok (T : Tb) : Prop := ∀ i c j, i < T.n → T.to i c = some j → j < T.n
/-- a relation that keeps finals and steps, among rows and nowhere, is one of the same texts -/
theorem eq_of_sim {T : Tb} (R : Option Nat → Option Nat → Prop) (hf : ∀ s u, R s u → T.fo s = T.fo u) (hs : ∀ s u c, 1 ≤ c ∧ c ≤ 60 → R s u → R (T.st s c) (T.st u c)) : ∀ t s u, Tt t → R s u → T.acc s t = T.acc u t
  | [], s, u, _, h => hf s u h
  | c :: t, s, u, ht, h => by rw [acc_cons, acc_cons]; exact eq_of_sim R hf hs t _ _ ht.tail (hs s u c ht.head h)
open Classical in
/-- the table with what leads to dead rows taken away -/
noncomputable def cut (T : Tb) : Tb := ⟨T.n, fun i c => match T.to i c with | some j => if T.Live (some j) then some j else none | none => none, T.fin⟩
theorem cut_st (T : Tb) (s : Option Nat) (c : Nat) : (T.cut.st s c = T.st s c) ∨ (T.cut.st s c = none ∧ ¬ T.Live (T.st s c)) := by
  cases s with
  | none => exact .inl rfl
  | some i =>
    show (T.cut.to i c = T.to i c) ∨ (T.cut.to i c = none ∧ ¬ T.Live (T.to i c))
    unfold cut
    dsimp only
    cases e : T.to i c with
    | none => exact .inl rfl
    | some j =>
      by_cases h : T.Live (some j)
      · simp [h]
      · simp [h]
theorem not_live {T : Tb} {s : Option Nat} (h : ¬ T.Live s) {t : List Nat} (ht : Tt t) : T.acc s t = false := by
  cases e : T.acc s t with
  | false => rfl
  | true => exact absurd ⟨t, ht, e⟩ h
theorem cut_acc (T : Tb) : ∀ t s, Tt t → T.cut.acc s t = T.acc s t
  | [], s, _ => by cases s <;> rfl
  | c :: t, s, ht => by
    rw [acc_cons, acc_cons]
    rcases T.cut_st s c with h | ⟨h, hd⟩
    · rw [h]; exact cut_acc T t _ ht.tail
    · rw [h, acc_none, not_live hd ht.tail]
theorem cut_eq (T : Tb) (s u : Option Nat) : T.cut.Lk s u ↔ T.Lk s u := by
  constructor
  · intro h t ht; rw [← T.cut_acc t s ht, ← T.cut_acc t u ht]; exact h t ht
  · intro h t ht; rw [T.cut_acc t s ht, T.cut_acc t u ht]; exact h t ht
theorem cut_live (T : Tb) (s : Option Nat) : T.cut.Live s ↔ T.Live s := by
  rw [live_iff, live_iff, cut_eq]
/-- in the table that was cut, what leads anywhere leads to what is live -/
theorem cut_some {T : Tb} {i c j : Nat} (h : T.cut.to i c = some j) : T.to i c = some j ∧ T.Live (some j) := by
  unfold cut at h
  dsimp only at h
  cases e : T.to i c with
  | none => rw [e] at h; cases h
  | some k =>
    rw [e] at h
    dsimp only at h
    by_cases hl : T.Live (some k)
    · rw [if_pos hl] at h; cases h; exact ⟨rfl, hl⟩
    · rw [if_neg hl] at h; cases h
theorem cut_none {T : Tb} {i c : Nat} (h : T.cut.to i c = none) : ¬ T.Live (T.to i c) := by
  unfold cut at h
  dsimp only at h
  cases e : T.to i c with
  | none =>
    rw [live_iff]
    exact fun hn => hn (Lk.refl T none)
  | some k =>
    rw [e] at h
    dsimp only at h
    by_cases hl : T.Live (some k)
    · rw [if_pos hl] at h; cases h
    · exact hl
end Tb
/-- a run that goes on while its count is below its own length has one end -/
theorem end_one {α : Type} (f : Nat → α) (len : α → Nat) {k l : Nat} (hk : ¬ k < len (f k)) (hk' : ∀ i, i < k → i < len (f i)) (hl : ¬ l < len (f l)) (hl' : ∀ i, i < l → i < len (f i)) : k = l := by
  rcases Nat.lt_trichotomy k l with h | h | h
  · exact absurd (hl' k h) hk
  · exact h
  · exact absurd (hk' l h) hl
end Go.Proofs.YtfjocafepigijaaDoor.Su
/- The document's CheckMachine: what it answers of any machine. No conditions. -/
namespace Go.Proofs.YtfjocafepigijaaDoor.CkR
open Go.RowKit Mv

theorem size_no {m : M} (h : sizeB m = false) : checkP m 7 := .inl ⟨h, rfl⟩

theorem info4 : (Tryd.prog.info? 4).map (fun i => (i.zero, i.size, i.bytes)) = some (some (.bool false), 1, 1) := by kernel_rfl

/-- which states are among the first k finals -/
def Had (st : Nat) (fins : List (Int × Int)) (k : Nat) (hs : List Bool) : Prop := hs.length = st ∧ ∀ s (h : s < hs.length), hs[s] = true ↔ ∃ j, ∃ hj : j < fins.length, j < k ∧ (fins[j]).1 = (s : Int)
theorem Had.zero (st : Nat) (fins : List (Int × Int)) : Had st fins 0 (List.replicate st false) := by
  refine ⟨by simp, fun s h => ?_⟩
  simp
theorem Had.step {st : Nat} {fins : List (Int × Int)} {k : Nat} {hs : List Bool} (h : Had st fins k hs) (hk : k < fins.length) (f : Nat) (hf : (fins[k]).1 = (f : Int)) : Had st fins (k + 1) (hs.set f true) := by
  refine ⟨by simpa using h.1, fun s hl => ?_⟩
  have hl' : s < hs.length := by simpa using hl
  rw [List.getElem_set]
  by_cases e : f = s
  · subst e
    rw [if_pos rfl]
    exact ⟨fun _ => ⟨k, hk, by omega, hf⟩, fun _ => rfl⟩
  · rw [if_neg e, h.2 s hl']
    constructor
    · rintro ⟨j, hj, hjk, hjs⟩
      exact ⟨j, hj, by omega, hjs⟩
    · rintro ⟨j, hj, hjk, hjs⟩
      refine ⟨j, hj, ?_, hjs⟩
      rcases Nat.lt_or_ge j k with h | h
      · exact h
      · obtain rfl : j = k := by omega
        rw [hf] at hjs
        omega
theorem once_step {st : Int} {arcs : List (Int × Int × Int × Int × Int)} {fins : List (Int × Int)} {k n : Nat} {hs : List Bool} (h : onceK ⟨st, arcs, fins⟩ k) (hh : Had n fins k hs) (hk : k < fins.length) (f : Nat) (hf : (fins[k]).1 = (f : Int)) (hl : f < hs.length) (hn : hs[f] = false) : onceK ⟨st, arcs, fins⟩ (k + 1) := by
  intro i j hi hj hij hjk
  rcases Nat.lt_or_ge j k with h' | h'
  · exact h i j hi hj hij h'
  · obtain rfl : j = k := by omega
    intro e
    have := (hh.2 f hl).2 ⟨i, hi, hij, by show (fins[i]).1 = _; rw [show (fins[i]).1 = (fins[j]).1 from e, hf]⟩
    rw [hn] at this
    cases this
theorem once_not {st : Int} {arcs : List (Int × Int × Int × Int × Int)} {fins : List (Int × Int)} {k n : Nat} {hs : List Bool} (hh : Had n fins k hs) (hk : k < fins.length) (f : Nat) (hf : (fins[k]).1 = (f : Int)) (hl : f < hs.length) (hn : hs[f] = true) : ¬ onceK ⟨st, arcs, fins⟩ fins.length := by
  intro h
  obtain ⟨j, hj, hjk, hjs⟩ := (hh.2 f hl).1 hn
  exact h j k hj hk hjk hk (by show (fins[j]).1 = (fins[k]).1; rw [hjs, hf])

set_option maxHeartbeats 4000000 in
set_option maxRecDepth 100000 in
theorem small (st : Int) (arcs : List (Int × Int × Int × Int × Int)) (fins : List (Int × Int)) (aa af : Option Addr) (ca cf : Nat) (w : World) (h : sizeB ⟨st, arcs, fins⟩ = false) :
    Calls Tryd.prog 10 #[.agg #[.int .i64 st, .slice aa arcs.length ca, .slice af fins.length cf]] w fun e w' => e = .returned (.int .i64 7) ∧ Below w.heap.size w w' := by
  unfold sizeB at h
  simp only [decide_eq_false_iff_not] at h
  by_cases h1 : st < 1
  · go_enter Tryd.func10, Tryd.ntmps10
    go_wp2
    go_ret
    exact ⟨rfl, (Below.refl _ _).alloc (Nat.le_refl _) _⟩
  by_cases h2 : 3000 < st
  · clear h
    go_enter Tryd.func10, Tryd.ntmps10
    go_wp2
    go_ret
    exact ⟨rfl, (Below.refl _ _).alloc (Nat.le_refl _) _⟩
  by_cases h3 : (20000 : Int) < (arcs.length : Int)
  · clear h
    go_enter Tryd.func10, Tryd.ntmps10
    go_wp2
    go_ret
    exact ⟨rfl, (Below.refl _ _).alloc (Nat.le_refl _) _⟩
  have h4 : st < (fins.length : Int) := by omega
  clear h
  go_enter Tryd.func10, Tryd.ntmps10
  go_wp2
  go_ret
  exact ⟨rfl, (Below.refl _ _).alloc (Nat.le_refl _) _⟩

set_option maxHeartbeats 4000000 in
set_option maxRecDepth 100000 in
theorem big (st : Int) (arcs : List (Int × Int × Int × Int × Int)) (fins : List (Int × Int)) (aa af : Option Addr) (ca cf : Nat) (w : World) (h : sizeB ⟨st, arcs, fins⟩ = true)
    (hA : arcs.length = 0 ∨ ∃ b off, aa = some ⟨b, off, none⟩ ∧ b < w.heap.size ∧ ∀ j u, (acs arcs)[j]? = some u → w.cell? ⟨b, off + j, none⟩ = some u)
    (hF : fins.length = 0 ∨ ∃ b off, af = some ⟨b, off, none⟩ ∧ b < w.heap.size ∧ ∀ j u, (fcs fins)[j]? = some u → w.cell? ⟨b, off + j, none⟩ = some u) :
    Calls Tryd.prog 10 #[.agg #[.int .i64 st, .slice aa arcs.length ca, .slice af fins.length cf]] w fun e w' => (∃ x, e = .returned (.int .i64 x) ∧ checkP ⟨st, arcs, fins⟩ x) ∧ Below w.heap.size w w' := by
  have hsz := h
  unfold sizeB at hsz
  simp only [decide_eq_true_eq] at hsz
  obtain ⟨h1, h2, h3, h4⟩ := hsz
  have HS : Hid (sizeB ⟨st, arcs, fins⟩ = true) := h
  clear h
  have d1 : decide (st < 1) = false := decide_eq_false (by omega)
  have d2 : decide (3000 < st) = false := decide_eq_false (by omega)
  have d3 : decide ((20000 : Int) < (arcs.length : Int)) = false := decide_eq_false (by omega)
  have d4 : decide (st < (fins.length : Int)) = false := decide_eq_false (by omega)
  obtain ⟨i4, hi4, hz40, hz41, hz42⟩ := info_parts info4
  have hb0 : Below w.heap.size w (w.alloc (.cells #[.int .i64 st, .slice aa arcs.length ca, .slice af fins.length cf] 25)) := (Below.refl _ _).alloc (Nat.le_refl _) _
  go_enter Tryd.func10, Tryd.ntmps10
  go_wp2
  go_loopw [3] (fun i wr => ∃ k : Nat, i = .int .i64 k ∧ k ≤ arcs.length ∧ Below (w.heap.size + 1) (w.alloc (.cells #[.int .i64 st, .slice aa arcs.length ca, .slice af fins.length cf] 25)) wr ∧ ∀ j (hj : j < arcs.length), j < k → arcB st arcs[j] = true) (fun i _ => arcs.length - (intOf i).toNat)
  case atStart => exact ⟨0, rfl, by omega, Below.refl _ _, fun j _ h => by omega⟩
  case round =>
    obtain ⟨k, rfl, hk, hbw, hall⟩ := hrel
    have hws := hbw.size
    simp only [World.size_alloc] at hws
    have c0 : wr.cell? ⟨w.heap.size, 0, none⟩ = some (.int .i64 st) := by rw [hbw.cell (by show w.heap.size < w.heap.size + 1; omega)]; simp
    have c1 : wr.cell? ⟨w.heap.size, 1, none⟩ = some (.slice aa arcs.length ca) := by rw [hbw.cell (by show w.heap.size < w.heap.size + 1; omega)]; simp
    have c2 : wr.cell? ⟨w.heap.size, 2, none⟩ = some (.slice af fins.length cf) := by rw [hbw.cell (by show w.heap.size < w.heap.size + 1; omega)]; simp
    by_cases hlt : k < arcs.length
    · have hbx : ∃ b off, aa = some ⟨b, off, none⟩ ∧ b < w.heap.size ∧ ∀ j u, (acs arcs)[j]? = some u → wr.cell? ⟨b, off + j, none⟩ = some u := by
        rcases hA with h | ⟨b, off, e, hb, hc⟩
        · omega
        · refine ⟨b, off, e, hb, fun j u hu => ?_⟩
          rw [hbw.cell (p := ⟨b, off + j, none⟩) (by show b < _; omega), World.cell?_alloc_past _ _ _ hb]
          exact hc j u hu
      obtain ⟨b, off, rfl, hbl, hcs⟩ := hbx
      have u := acs_at arcs k hlt
      obtain ⟨f, t, i, o, x, ea⟩ : ∃ f t i o x, arcs[k] = (f, t, i, o, x) := ⟨_, _, _, _, _, rfl⟩
      rw [ea] at u
      have p0 := hcs _ _ u.1
      have p1 := hcs _ _ u.2.1
      have p2 := hcs _ _ u.2.2.1
      have p3 := hcs _ _ u.2.2.2.1
      have p4 := hcs _ _ u.2.2.2.2
      rw [← Nat.add_assoc] at p1 p2 p3 p4
      have e0 : ∀ o, (wr.alloc o).cell? ⟨w.heap.size, 0, none⟩ = some (.int .i64 st) := fun o => (World.cell?_alloc_past _ _ _ (by show w.heap.size < _; omega)).trans c0
      have hbT := hb0.trans (hbw.mono (by omega))
      clear u hcs
      cases hok : arcB st (f, t, i, o, x) with
      | true =>
        have hok2 := hok
        unfold arcB at hok2
        simp only [decide_eq_true_eq] at hok2
        obtain ⟨g0, g1, g2, g3, g4, g5, g6, g7, g8, g9⟩ := hok2
        have HE : Hid (arcs[k] = (f, t, i, o, x)) := ea
        have HK : Hid (arcB st (f, t, i, o, x) = true) := hok
        clear ea hok hbT
        go_wp2
        go_roundw
        case rel =>
          refine ⟨k + 1, by go_num, by omega, hbw.alloc (by omega) _, fun j hj hjk => ?_⟩
          by_cases hjk2 : j < k
          · exact hall j hj hjk2
          · obtain rfl : j = k := by omega
            rw [HE.out]
            exact HK.out
        case measure => simp [intOf]; omega
      | false =>
        have hno := hok
        unfold arcB at hno
        simp only [decide_eq_false_iff_not] at hno
        have HP : Hid (checkP ⟨st, arcs, fins⟩ 3) := .inr (.inl ⟨HS.out, ⟨k, hlt, by rw [ea]; exact hok⟩, rfl⟩)
        have HN : Hid _ := hno
        clear ea hok hall hF hno
        go_wp2
        all_goals first | (go_ret; exact ⟨⟨3, rfl, HP.out⟩, hbT.alloc (by omega) _⟩) | exact absurd (by simp at *; omega) HN.out | (exfalso; have q := HN.out; simp at *; omega)
    · have hallA : ∀ j (hj : j < arcs.length), arcB st arcs[j] = true := fun j hj => hall j hj (by omega)
      have HA : Hid (∀ j (hj : j < arcs.length), arcB st arcs[j] = true) := hallA
      clear hallA hall hA
      obtain ⟨wa, rfl⟩ : ∃ wa : World, wa = wr := ⟨_, rfl⟩
      go_wp2
      go_loopw [5] (fun i wr => ∃ k : Nat, i = .int .i64 k ∧ k ≤ fins.length ∧ Below wa.heap.size wa wr ∧ ∀ j (hj : j < fins.length), j < k → finB st fins[j] = true) (fun i _ => fins.length - (intOf i).toNat)
      case atStart => exact ⟨0, rfl, by omega, Below.refl _ _, fun j _ h => by omega⟩
      case round =>
        obtain ⟨m, rfl, hm, hbx, hallF⟩ := hrel
        have hwx := hbx.size
        have x0 : wr.cell? ⟨w.heap.size, 0, none⟩ = some (.int .i64 st) := by rw [hbx.cell (by show w.heap.size < _; omega)]; exact c0
        have x2 : wr.cell? ⟨w.heap.size, 2, none⟩ = some (.slice af fins.length cf) := by rw [hbx.cell (by show w.heap.size < _; omega)]; exact c2
        by_cases hml : m < fins.length
        · have hbq : ∃ b off, af = some ⟨b, off, none⟩ ∧ b < w.heap.size ∧ ∀ j u, (fcs fins)[j]? = some u → wr.cell? ⟨b, off + j, none⟩ = some u := by
            rcases hF with h | ⟨b, off, e, hb, hc⟩
            · omega
            · refine ⟨b, off, e, hb, fun j u hu => ?_⟩
              rw [hbx.cell (p := ⟨b, off + j, none⟩) (by show b < _; omega), hbw.cell (p := ⟨b, off + j, none⟩) (by show b < _; omega), World.cell?_alloc_past _ _ _ hb]
              exact hc j u hu
          obtain ⟨b, off, rfl, hbl, hcs⟩ := hbq
          have u := fcs_at fins m hml
          obtain ⟨f, x, ea⟩ : ∃ f x, fins[m] = (f, x) := ⟨_, _, rfl⟩
          rw [ea] at u
          have p0 := hcs _ _ u.1
          have p1 := hcs _ _ u.2
          rw [← Nat.add_assoc] at p1
          have e0 : ∀ o, (wr.alloc o).cell? ⟨w.heap.size, 0, none⟩ = some (.int .i64 st) := fun o => (World.cell?_alloc_past _ _ _ (by show w.heap.size < _; omega)).trans x0
          have hbT := (hb0.trans (hbw.mono (by omega))).trans (hbx.mono (by omega))
          clear u hcs
          cases hok : finB st (f, x) with
          | true =>
            have hok2 := hok
            unfold finB at hok2
            simp only [decide_eq_true_eq] at hok2
            obtain ⟨g0, g1, g2, g3⟩ := hok2
            have HE : Hid (fins[m] = (f, x)) := ea
            have HK : Hid (finB st (f, x) = true) := hok
            clear ea hok hbT
            go_wp2
            go_roundw
            case rel =>
              refine ⟨m + 1, by go_num, by omega, hbx.alloc (by omega) _, fun j hj hjk => ?_⟩
              by_cases hjk2 : j < m
              · exact hallF j hj hjk2
              · obtain rfl : j = m := by omega
                rw [HE.out]
                exact HK.out
            case measure => simp [intOf]; omega
          | false =>
            have hno := hok
            unfold finB at hno
            simp only [decide_eq_false_iff_not] at hno
            have HP : Hid (checkP ⟨st, arcs, fins⟩ 3) := .inr (.inr (.inl ⟨HS.out, HA.out, ⟨m, hml, by rw [ea]; exact hok⟩, rfl⟩))
            have HN : Hid _ := hno
            clear ea hok hallF hno
            go_wp2
            all_goals first | (go_ret; exact ⟨⟨3, rfl, HP.out⟩, hbT.alloc (by omega) _⟩) | exact absurd (by simp at *; omega) HN.out | (exfalso; have q := HN.out; simp at *; omega)
        · have hallG : ∀ j (hj : j < fins.length), finB st fins[j] = true := fun j hj => hallF j hj (by omega)
          have HG : Hid (∀ j (hj : j < fins.length), finB st fins[j] = true) := hallG
          clear hallF hallG
          obtain ⟨wb, rfl⟩ : ∃ wb : World, wb = wr := ⟨_, rfl⟩
          obtain ⟨n, rfl⟩ : ∃ n : Nat, st = (n : Int) := ⟨st.toNat, by omega⟩
          go_wp2_with (at_make; refine wpList_make_full _ rfl _ _ 67 rfl wb.heap.size 4 i4 (.bool false) 1 Tryd.underlying67 hi4 hz40 hz41 .i64 .i64 _ _ n rfl rfl rfl rfl (by rw [hz42]; omega) (by unfold maxLen; omega) (Nat.le_refl _) ?_; intro wc hown0 hgrow0)
          have hoc : wc.ownsRow wb.heap.size 4 1 (.slice (some ⟨wb.heap.size, 0, none⟩) n n) n ((List.replicate n false).map Value.bool) := by
            have e : (madeCells (Value.cells (.bool false)) (n * 1)).toList = (List.replicate n false).map Value.bool := by
              rw [Nat.mul_one]
              show (madeCells #[.bool false] n).toList = _
              rw [toList_madeCells_one]
              simp
            rw [e] at hown0
            exact hown0
          have hbc : Below wb.heap.size wb wc := (Below.refl _ wb).grown hgrow0 (Nat.le_refl _) (by simp)
          clear hown0 hgrow0
          go_loopw [8] (fun i wr => ∃ (k : Nat) (hs : List Bool), i = .int .i64 k ∧ k ≤ fins.length ∧ Below wb.heap.size wb wr ∧ wr.ownsRow wb.heap.size 4 1 (.slice (some ⟨wb.heap.size, 0, none⟩) n n) n (hs.map Value.bool) ∧ Had n fins k hs ∧ onceK ⟨(n : Int), arcs, fins⟩ k) (fun i _ => fins.length - (intOf i).toNat)
          case atStart => exact ⟨0, _, rfl, by omega, hbc, hoc, Had.zero n fins, fun i j hi hj h1 h2 => by omega⟩
          case round =>
            clear hbc hoc
            obtain ⟨q, hs, rfl, hq, hby, hown, hhad, honce⟩ := hrel
            have hwy := hby.size
            have y0 : wr.cell? ⟨w.heap.size, 0, none⟩ = some (.int .i64 (n : Int)) := by rw [hby.cell (by show w.heap.size < _; omega)]; exact x0
            have y2 : wr.cell? ⟨w.heap.size, 2, none⟩ = some (.slice af fins.length cf) := by rw [hby.cell (by show w.heap.size < _; omega)]; exact x2
            have hbT := ((hb0.trans (hbw.mono (by omega))).trans (hbx.mono (by omega))).trans (hby.mono (by omega))
            by_cases hql : q < fins.length
            · have hbq : ∃ b off, af = some ⟨b, off, none⟩ ∧ b < w.heap.size ∧ ∀ j u, (fcs fins)[j]? = some u → wr.cell? ⟨b, off + j, none⟩ = some u := by
                rcases hF with h | ⟨b, off, e, hb, hc⟩
                · omega
                · refine ⟨b, off, e, hb, fun j u hu => ?_⟩
                  rw [hby.cell (p := ⟨b, off + j, none⟩) (by show b < _; omega), hbx.cell (p := ⟨b, off + j, none⟩) (by show b < _; omega), hbw.cell (p := ⟨b, off + j, none⟩) (by show b < _; omega), World.cell?_alloc_past _ _ _ hb]
                  exact hc j u hu
              obtain ⟨b, off, rfl, hbl, hcs⟩ := hbq
              have u := fcs_at fins q hql
              have hfb := HG.out q hql
              unfold finB at hfb
              simp only [decide_eq_true_eq] at hfb
              obtain ⟨f, ef⟩ : ∃ f : Nat, fins[q].1 = (f : Int) := ⟨(fins[q].1).toNat, by omega⟩
              rw [ef] at u hfb
              have p0 := hcs _ _ u.1
              have hfl : f < hs.length := by rw [hhad.1]; omega
              have hfn : (f : Int) < (n : Int) := hfb.2.1
              have hcf : wr.cell? ⟨wb.heap.size, f, none⟩ = some (.bool hs[f]) := by
                rw [hown.cellAt f (by rw [hhad.1] at hfl; omega)]
                simp [hfl]
              have hff : wr.frozen? ⟨wb.heap.size, f, none⟩ = false := hown.frozenAt f
              have hne1 : ¬ wb.heap.size = w.heap.size := by omega
              have hne2 : ¬ b = wb.heap.size := by omega
              have HF1 : Hid (fins[q].1 = (f : Int)) := ef
              have HH : Hid _ := hhad
              have HO : Hid _ := honce
              clear u hcs ef hfb hhad honce hF
              cases hsf : hs[f] with
              | true =>
                rw [hsf] at hcf
                have HP : Hid (checkP ⟨(n : Int), arcs, fins⟩ 6) := .inr (.inr (.inr (.inl ⟨HS.out, HA.out, HG.out, once_not HH.out hql f HF1.out hfl hsf, rfl⟩)))
                go_wp2
                go_ret
                exact ⟨⟨6, rfl, HP.out⟩, hbT⟩
              | false =>
                rw [hsf] at hcf
                go_wp2
                go_roundw
                case rel =>
                  have hst := hown.stored f (.bool true)
                  refine ⟨q + 1, hs.set f true, by go_num, by omega, hby.grown hst.2 hwy (fun j hj => by cases hj; exact Nat.le_refl _), ?_, Had.step HH.out hql f HF1.out, once_step HO.out HH.out hql f HF1.out hfl hsf⟩
                  rw [List.map_set]
                  exact hst.1
                case measure => simp [intOf]; omega
            · have hon : onceK ⟨(n : Int), arcs, fins⟩ fins.length := by
                obtain rfl : q = fins.length := by omega
                exact honce
              have HP : Hid (checkP ⟨(n : Int), arcs, fins⟩ 0) := .inr (.inr (.inr (.inr ⟨HS.out, HA.out, HG.out, hon, rfl⟩)))
              clear hon
              clear hhad honce hF
              go_wp2
              go_ret
              exact ⟨⟨0, rfl, HP.out⟩, hbT⟩

/-- THE DOCUMENT's CheckMachine -/
theorem check_any (m : M) (v : Value) (w : World) (h : IsM w v m) : Calls Tryd.prog 10 #[v] w fun e w' => (∃ x, e = .returned (.int .i64 x) ∧ checkP m x) ∧ Below w.heap.size w w' := by
  obtain ⟨st, arcs, fins⟩ := m
  obtain ⟨va, vf, rfl, ⟨_, aa, ca, rfl, _, hA⟩, ⟨_, af, cf, rfl, _, hF⟩⟩ := h
  cases hs : sizeB ⟨st, arcs, fins⟩ with
  | true => exact big st arcs fins aa af ca cf w hs hA hF
  | false =>
    refine (small st arcs fins aa af ca cf w hs).mono ?_
    rintro e w' ⟨rfl, hb⟩
    exact ⟨⟨7, rfl, size_no hs⟩, hb⟩
end Go.Proofs.YtfjocafepigijaaDoor.CkR
