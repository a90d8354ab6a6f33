/- An argument that is sought: its lines and its map, in plain words and in memory. No conditions. -/
import Derived.Test.YtcnanbimpajonaaMq
import Derived.Test.YtcnanbimpajonaaNu
import Derived.Test.YtcnanbimpajonaaCp
namespace Go.Proofs.Ytcnanbimpajonaa.Ag
open Go.RowKit Cl Co Cp Mq Nu

/-- a line: by which rule, the claim, of which -/
abbrev Ln := Int × C × List Int
def zc (z : Ln × Value) : List Value := [.int .i64 z.1.1, .bool z.1.2.1.1, .int .i64 z.1.2.1.2.1, .int .i64 z.1.2.1.2.2, z.2]
def zcs (l : List (Ln × Value)) : List Value := l.flatMap zc
theorem zcs_length (l : List (Ln × Value)) : (zcs l).length = l.length * 5 := by
  induction l with
  | nil => rfl
  | cons a l ih => simp [zcs, zc] at ih ⊢; omega
theorem zcs_snoc (l : List (Ln × Value)) (a : Ln × Value) : zcs l ++ zc a = zcs (l ++ [a]) := by simp [zcs]
theorem zcs_at (l : List (Ln × Value)) (k : Nat) (h : k < l.length) :
    (zcs l)[k * 5]? = some (.int .i64 (l[k]).1.1) ∧ (zcs l)[k * 5 + 1]? = some (.bool (l[k]).1.2.1.1) ∧ (zcs l)[k * 5 + 2]? = some (.int .i64 (l[k]).1.2.1.2.1) ∧ (zcs l)[k * 5 + 3]? = some (.int .i64 (l[k]).1.2.1.2.2) ∧ (zcs l)[k * 5 + 4]? = some (l[k]).2 := by
  induction l generalizing k with
  | nil => simp at h
  | cons a l ih =>
    cases k with
    | zero => simp [zcs, zc]
    | succ k =>
      have := ih k (by simpa using h)
      have e : ∀ j, (zcs (a :: l))[(k + 1) * 5 + j]? = (zcs l)[k * 5 + j]? := by
        intro j
        have : (k + 1) * 5 + j = (k * 5 + j) + 5 := by omega
        rw [this]
        simp [zcs, zc]
      exact ⟨(e 0).trans this.1, (e 1).trans this.2.1, (e 2).trans this.2.2.1, (e 3).trans this.2.2.2.1, (e 4).trans this.2.2.2.2⟩

/-- which line has a claim -/
def idx (L : List Ln) (c : C) : Option Nat := L.findIdx? fun l => l.2.1 == c
theorem idx_snoc (L : List Ln) (l : Ln) (h : idx L l.2.1 = none) : idx (L ++ [l]) = fun d => if d = l.2.1 then some L.length else idx L d := by
  funext d
  unfold idx at h ⊢
  rw [List.findIdx?_append]
  by_cases e : d = l.2.1
  · subst e
    rw [h, if_pos rfl]
    simp
  · rw [if_neg e]
    have : (l.2.1 == d) = false := beq_eq_false_iff_ne.2 (fun h => e h.symm)
    simp [this]
/-- a line more, if none has that claim -/
def putL (L : List Ln) (r : Int) (c : C) (fr : List Int) : List Ln := if (idx L c).isSome then L else L ++ [(r, c, fr)]
def comesP (r : Int) (c : C) (of : List C) : Bool := match of with
  | [] => r == 2 && (!c.1 && c.2.1 == c.2.2)
  | [p] => comes1 r c p
  | [p, q] => comes2 r c p q
  | _ => false
/-- a line more, if it comes of those that are there -/
def comeL (L : List Ln) (r : Int) (c : C) (of : List C) : List Ln := match of.mapM (idx L) with
  | none => L
  | some fr => if comesP r c of then putL L r c (fr.map fun (n : Nat) => (n : Int)) else L

/-- nothing below base has turned, and no block but those of lines, arguments and maps -/
structure Kt (base : Nat) (w w' : World) : Prop where
  below : Below base w w'
  ty : ∀ (k : Nat) (cur : Array Value) (t : TypeId) (fz : Nat × Nat), w.heap[k]? = some (.cells cur t fz) → t ≠ 53 → t ≠ 38 → w'.heap[k]? = some (.cells cur t fz)
theorem Kt.of_below {base : Nat} {w w' : World} (h : Below w.heap.size w w') (hb : base ≤ w.heap.size) : Kt base w w' :=
  ⟨h.mono hb, fun k _ _ _ hk _ _ => (h.block k (Array.getElem?_eq_some_iff.1 hk).1).trans hk⟩
theorem Kt.refl (base : Nat) (w : World) : Kt base w w := ⟨Below.refl _ _, fun _ _ _ _ h _ _ => h⟩
theorem Kt.trans {base : Nat} {a b c : World} (h : Kt base a b) (k : Kt base b c) : Kt base a c :=
  ⟨h.below.trans k.below, fun i cur t fz hi h1 h2 => k.ty i cur t fz (h.ty i cur t fz hi h1 h2) h1 h2⟩
theorem Kt.isN {base : Nat} {w w' : World} (h : Kt base w w') {v : Value} {xs : List Int} (hn : IsN w v xs) : IsN w' v xs :=
  hn.of_kept fun k cur fz hk => h.ty k cur 3 fz hk (by decide) (by decide)
theorem own_below {w w' : World} {base e size n : Nat} {v : Value} {xs : List Value} (h : w.ownsRow base e size v n xs) (hb : Below w.heap.size w w') : w'.ownsRow base e size v n xs := by
  refine ⟨h.1, ?_⟩
  rcases h.2 with h' | ⟨g, cap, cur, hv, hbg, hg, rest⟩
  · exact .inl h'
  · exact .inr ⟨g, cap, cur, hv, hbg, (hb.block g (Array.getElem?_eq_some_iff.1 hg).1).trans hg, rest⟩
theorem own_some {w : World} {base e size n : Nat} {v : Value} {xs : List Value} (h : w.ownsRow base e size v n xs) (hn : 0 < n) : ∃ g cap, v = .slice (some ⟨g, 0, none⟩) n cap ∧ base ≤ g ∧ g < w.heap.size := by
  rcases h.2 with ⟨_, h0⟩ | ⟨g, cap, cur, hv, hb, hg, _⟩
  · omega
  · exact ⟨g, cap, hv, hb, (Array.getElem?_eq_some_iff.1 hg).1⟩
theorem own_ty {w : World} {base e size n : Nat} {v : Value} {xs : List Value} (h : w.ownsRow base e size v n xs) {k : Nat} (hk : v.ownBlock = some k) : ∃ cur, w.heap[k]? = some (.cells cur e (0, 0)) := by
  rcases h.2 with ⟨hv, _⟩ | ⟨g, cap, cur, hv, _, hg, _⟩
  · rw [hv] at hk; cases hk
  · rw [hv] at hk
    cases hk
    exact ⟨cur, hg⟩

def str (g : C) (v : Value) (mb : Nat) : Array Value := #[.bool g.1, .int .i64 g.2.1, .int .i64 g.2.2, v, .map (some mb)]
structure ArgAt (base : Nat) (w : World) (A mb : Nat) (g : C) (L : List Ln) (v : Value) (n : Nat) (Z : List (Ln × Value)) : Prop where
  fst : Z.map Prod.fst = L
  str : w.heap[A]? = some (.cells (str g v mb) 53 (0, 0))
  row : w.ownsRow base 38 5 v L.length (zcs Z)
  frm : ∀ z ∈ Z, IsN w z.2 z.1.2.2
  mp : IsMp w mb n (idx L)
  lo : base ≤ A ∧ base ≤ mb
  cnt : n ≤ L.length
def Arg (base : Nat) (w : World) (A mb : Nat) (g : C) (L : List Ln) : Prop := ∃ v n Z, ArgAt base w A mb g L v n Z
theorem ArgAt.len {base : Nat} {w : World} {A mb : Nat} {g : C} {L : List Ln} {v : Value} {n : Nat} {Z : List (Ln × Value)} (h : ArgAt base w A mb g L v n Z) : Z.length = L.length := by rw [← h.fst, List.length_map]
theorem ArgAt.lt {base : Nat} {w : World} {A mb : Nat} {g : C} {L : List Ln} {v : Value} {n : Nat} {Z : List (Ln × Value)} (h : ArgAt base w A mb g L v n Z) : A < w.heap.size := (Array.getElem?_eq_some_iff.1 h.str).1
theorem ArgAt.below {base : Nat} {w w' : World} {A mb : Nat} {g : C} {L : List Ln} {v : Value} {n : Nat} {Z : List (Ln × Value)} (h : ArgAt base w A mb g L v n Z) (hb : Below w.heap.size w w') : ArgAt base w' A mb g L v n Z :=
  ⟨h.fst, (hb.block A h.lt).trans h.str, own_below h.row hb, fun z hz => (h.frm z hz).below hb, h.mp.kept (hb.block mb h.mp.lt), h.lo, h.cnt⟩
theorem ArgAt.cell {base : Nat} {w : World} {A mb : Nat} {g : C} {L : List Ln} {v : Value} {n : Nat} {Z : List (Ln × Value)} (h : ArgAt base w A mb g L v n Z) : w.cell? ⟨A, 0, none⟩ = some (.bool g.1) ∧ w.cell? ⟨A, 1, none⟩ = some (.int .i64 g.2.1) ∧ w.cell? ⟨A, 2, none⟩ = some (.int .i64 g.2.2) ∧ w.cell? ⟨A, 3, none⟩ = some v ∧ w.cell? ⟨A, 4, none⟩ = some (.map (some mb)) :=
  ⟨cell_of_row _ _ 0 _ 53 (0, 0) h.str, cell_of_row _ _ 1 _ 53 (0, 0) h.str, cell_of_row _ _ 2 _ 53 (0, 0) h.str, cell_of_row _ _ 3 _ 53 (0, 0) h.str, cell_of_row _ _ 4 _ 53 (0, 0) h.str⟩
theorem Arg.below {base : Nat} {w w' : World} {A mb : Nat} {g : C} {L : List Ln} (h : Arg base w A mb g L) (hb : Below w.heap.size w w') : Arg base w' A mb g L := by
  obtain ⟨v, n, Z, h⟩ := h
  exact ⟨v, n, Z, h.below hb⟩
theorem Arg.le {base : Nat} {w : World} {A mb : Nat} {g : C} {L : List Ln} (h : Arg base w A mb g L) : base ≤ w.heap.size := by
  obtain ⟨v, n, Z, h⟩ := h
  exact Nat.le_of_lt (Nat.lt_of_le_of_lt h.lo.1 h.lt)

/-- while a line is laid: the map has it, the list does not yet -/
structure Mid (base : Nat) (w : World) (A mb : Nat) (g : C) (L : List Ln) (v : Value) (n : Nat) (Z : List (Ln × Value)) (c : C) : Prop where
  fst : Z.map Prod.fst = L
  str : w.heap[A]? = some (.cells (Ag.str g v mb) 53 (0, 0))
  row : w.ownsRow base 38 5 v L.length (zcs Z)
  frm : ∀ z ∈ Z, IsN w z.2 z.1.2.2
  mp : IsMp w mb n (fun d => if d = c then some L.length else idx L d)
  lo : base ≤ A ∧ base ≤ mb
  cnt : n ≤ L.length + 1
theorem Mid.lt {base : Nat} {w : World} {A mb : Nat} {g : C} {L : List Ln} {v : Value} {n : Nat} {Z : List (Ln × Value)} {c : C} (h : Mid base w A mb g L v n Z c) : A < w.heap.size := (Array.getElem?_eq_some_iff.1 h.str).1
theorem Mid.below {base : Nat} {w w' : World} {A mb : Nat} {g : C} {L : List Ln} {v : Value} {n : Nat} {Z : List (Ln × Value)} {c : C} (h : Mid base w A mb g L v n Z c) (hb : Below w.heap.size w w') : Mid base w' A mb g L v n Z c :=
  ⟨h.fst, (hb.block A h.lt).trans h.str, own_below h.row hb, fun z hz => (h.frm z hz).below hb, h.mp.kept (hb.block mb h.mp.lt), h.lo, h.cnt⟩
theorem ArgAt.mid {base : Nat} {w w' : World} {A mb : Nat} {g : C} {L : List Ln} {v : Value} {n : Nat} {Z : List (Ln × Value)} {c : C} (h : ArgAt base w A mb g L v n Z) (hm : IsMp w' mb (n + 1) (fun d => if d = c then some L.length else idx L d)) (hg : w.grownBy w' (some mb)) : Mid base w' A mb g L v (n + 1) Z c ∧ Kt base w w' := by
  obtain ⟨es, clock, hmb⟩ := h.mp.ty
  have hne : ∀ (k : Nat) (cur : Array Value) (t : TypeId) (fz : Nat × Nat), w.heap[k]? = some (Obj.cells cur t fz) → w'.heap[k]? = some (Obj.cells cur t fz) := fun k cur t fz hk => by
    rw [hg.block k (Array.getElem?_eq_some_iff.1 hk).1 (fun e => by cases e; rw [hmb] at hk; cases hk)]
    exact hk
  refine ⟨⟨h.fst, hne _ _ _ _ h.str, ?_, fun z hz => (h.frm z hz).of_kept fun k cur fz hk => hne k cur 3 fz hk, hm, h.lo, Nat.succ_le_succ h.cnt⟩, ⟨⟨hg.os, hg.tape, hg.output, hg.size, fun k hk => ?_⟩, fun k cur t fz hk _ _ => hne k cur t fz hk⟩⟩
  · refine ⟨h.row.1, ?_⟩
    rcases h.row.2 with h' | ⟨b, cap, cur, hv, hbg, hb, rest⟩
    · exact .inl h'
    · exact .inr ⟨b, cap, cur, hv, hbg, hne _ _ _ _ hb, rest⟩
  · have h1 := h.lo.2
    have h2 := h.mp.lt
    exact hg.block k (by omega) (fun e => by cases e; omega)
/-- the list has grown: behind the store of it -/
theorem Mid.done {base : Nat} {w w' : World} {A mb : Nat} {g : C} {L : List Ln} {v v' : Value} {n : Nat} {Z : List (Ln × Value)} {c : C} (h : Mid base w A mb g L v n Z c) (hc : idx L c = none) (r : Int) (fr : List Int) (fv : Value) (hf : IsN w fv fr)
    (ho : w'.ownsRow base 38 5 v' (L.length + 1) (zcs Z ++ zc ((r, c, fr), fv))) (hg : w.grownBy w' v.ownBlock) :
    (w'.cell? ⟨A, 3, none⟩ = some v ∧ w'.frozen? ⟨A, 3, none⟩ = false) ∧ Arg base (w'.setCell ⟨A, 3, none⟩ v') A mb g (putL L r c fr) ∧ Kt base w (w'.setCell ⟨A, 3, none⟩ v') := by
  have hty : ∀ b, v.ownBlock = some b → ∃ cur, w.heap[b]? = some (.cells cur 38 (0, 0)) := fun b hb => own_ty h.row hb
  have hk1 : ∀ (k : Nat) (cur : Array Value) (t : TypeId) (fz : Nat × Nat), w.heap[k]? = some (Obj.cells cur t fz) → t ≠ 38 → w'.heap[k]? = some (Obj.cells cur t fz) := fun k cur t fz hk ht => by
    rw [hg.block k (Array.getElem?_eq_some_iff.1 hk).1 (fun e => by obtain ⟨c', hc'⟩ := hty k e.symm; rw [hk] at hc'; cases hc'; exact ht rfl)]
    exact hk
  have hA : w'.heap[A]? = some (.cells (Ag.str g v mb) 53 (0, 0)) := hk1 _ _ _ _ h.str (by decide)
  have hA2 : (w'.setCell ⟨A, 3, none⟩ v').heap[A]? = some (.cells (Ag.str g v' mb) 53 (0, 0)) := heap_setCell_same w' A 3 _ 53 v' hA
  have hk2 : ∀ (k : Nat), k ≠ A → (w'.setCell ⟨A, 3, none⟩ v').heap[k]? = w'.heap[k]? := fun k hk => Below.heap_setCell _ _ _ _ hk
  have hk3 : ∀ (k : Nat) (cur : Array Value) (t : TypeId) (fz : Nat × Nat), w.heap[k]? = some (Obj.cells cur t fz) → t ≠ 53 → t ≠ 38 → (w'.setCell ⟨A, 3, none⟩ v').heap[k]? = some (Obj.cells cur t fz) := fun k cur t fz hk h1 h2 => by
    have hk' := hk1 k cur t fz hk h2
    rw [hk2 k (fun e => by subst e; rw [hA] at hk'; cases hk'; exact h1 rfl)]
    exact hk'
  obtain ⟨es, clock, hmb⟩ := h.mp.ty
  have hm' : w'.heap[mb]? = w.heap[mb]? := hg.block mb h.mp.lt (fun e => by obtain ⟨c', hc'⟩ := hty mb e.symm; rw [hmb] at hc'; cases hc')
  have hmA : mb ≠ A := fun e => by rw [e] at hmb; rw [h.str] at hmb; cases hmb
  have e1 : putL L r c fr = L ++ [(r, c, fr)] := by unfold putL; rw [hc]; rfl
  rw [e1]
  refine ⟨⟨cell_of_row _ _ 3 _ 53 (0, 0) hA, frozen_of_row _ _ 3 _ 53 hA⟩, ⟨v', n, Z ++ [((r, c, fr), fv)], ?_, hA2, ?_, ?_, ?_, h.lo, by rw [List.length_append]; exact h.cnt⟩, ⟨?_, hk3⟩⟩
  · rw [List.map_append, h.fst]; rfl
  · rw [List.length_append, ← zcs_snoc]
    refine ⟨ho.1, ?_⟩
    rcases ho.2 with h' | ⟨b, cap, cur, hv, hbg, hb, rest⟩
    · exact .inl h'
    · exact .inr ⟨b, cap, cur, hv, hbg, by rw [hk2 b (fun e => by subst e; rw [hA] at hb; cases hb)]; exact hb, rest⟩
  · intro z hz
    rcases List.mem_append.1 hz with hz | hz
    · exact (h.frm z hz).of_kept fun k cur fz hk => hk3 k cur 3 fz hk (by decide) (by decide)
    · rw [List.mem_singleton] at hz
      subst hz
      exact hf.of_kept fun k cur fz hk => hk3 k cur 3 fz hk (by decide) (by decide)
  · rw [idx_snoc L (r, c, fr) hc]
    exact h.mp.kept ((hk2 mb hmA).trans hm')
  · have h1 := h.lo.1
    have h2 := h.lt
    refine ⟨hg.os, hg.tape, hg.output, ?_, fun k hk => ?_⟩
    · simp; exact hg.size
    · rw [hk2 k (by omega)]
      exact hg.block k (by omega) (fun e => by have := (h.row.lt k e.symm).1; omega)
end Go.Proofs.Ytcnanbimpajonaa.Ag
