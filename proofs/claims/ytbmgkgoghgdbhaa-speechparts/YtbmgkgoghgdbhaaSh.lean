/- Proofs as trees, how they lie in memory; of which sequents a step is, in plain words. No conditions. -/
import Derived.Test.YtbmgkgoghgdbhaaSg
import Derived.Test.YtbmgkgoghgdbhaaSdM
namespace Go.Proofs.Ytbmgkgoghgdbhaa.Te
open Go.RowKit

theorem TyP.pos {P : Nat → Prop} {w : World} {d : Nat} {t : Ty} {a : Option Addr} {c : Nat} (h : TyP P w d t a c) : ∃ e, d = e + 1 := h.at.pos
/-- a proof -/
structure Pf where
  step : Int
  left : List Ty
  goal : Ty
  ix : Int
  n : Int
  kids : List Pf
theorem Pf.lt_kids {t x : Pf} (h : x ∈ t.kids) : SizeOf.sizeOf x < SizeOf.sizeOf t := by
  obtain ⟨_, _, _, _, _, ks⟩ := t
  have := List.sizeOf_lt_of_mem h
  simp at this ⊢
  omega
/-- where its lists lie -/
structure Pl where
  la : Option Addr
  lc : Nat
  ga : Option Addr
  gc : Nat
  ka : Option Addr
  kc : Nat
def vpf (p : Pf) (x : Pl) : Value := .agg #[.int .i64 p.step, .slice x.la p.left.length x.lc, .int .i64 p.goal.kind, .int .i64 p.goal.n, .slice x.ga p.goal.kids.length x.gc, .int .i64 p.ix, .int .i64 p.n, .slice x.ka p.kids.length x.kc]
/-- eight cells that are a proof -/
structure C8 (w : World) (g o : Nat) (p : Pf) (x : Pl) : Prop where
  c0 : w.cell? ⟨g, o, none⟩ = some (.int .i64 p.step)
  c1 : w.cell? ⟨g, o + 1, none⟩ = some (.slice x.la p.left.length x.lc)
  c2 : w.cell? ⟨g, o + 2, none⟩ = some (.int .i64 p.goal.kind)
  c3 : w.cell? ⟨g, o + 3, none⟩ = some (.int .i64 p.goal.n)
  c4 : w.cell? ⟨g, o + 4, none⟩ = some (.slice x.ga p.goal.kids.length x.gc)
  c5 : w.cell? ⟨g, o + 5, none⟩ = some (.int .i64 p.ix)
  c6 : w.cell? ⟨g, o + 6, none⟩ = some (.int .i64 p.n)
  c7 : w.cell? ⟨g, o + 7, none⟩ = some (.slice x.ka p.kids.length x.kc)
theorem C8.below {w w' : World} {g o : Nat} {p : Pf} {x : Pl} (h : C8 w g o p x) (hg : g < w.heap.size) (hb : Below w.heap.size w w') : C8 w' g o p x :=
  ⟨(hb.cell (p := ⟨g, _, none⟩) hg).trans h.c0, (hb.cell (p := ⟨g, _, none⟩) hg).trans h.c1, (hb.cell (p := ⟨g, _, none⟩) hg).trans h.c2, (hb.cell (p := ⟨g, _, none⟩) hg).trans h.c3, (hb.cell (p := ⟨g, _, none⟩) hg).trans h.c4, (hb.cell (p := ⟨g, _, none⟩) hg).trans h.c5, (hb.cell (p := ⟨g, _, none⟩) hg).trans h.c6, (hb.cell (p := ⟨g, _, none⟩) hg).trans h.c7⟩
/-- a proof lies in memory; d: the fuel of its parts -/
def PfAt (P : Nat → Prop) (w : World) (d : Nat) : Nat → Pf → Pl → Prop
  | 0, _, _ => False
  | e + 1, p, x => i64B p.step ∧ i64B p.ix ∧ i64B p.n ∧ LsAt P w d p.left x.la x.lc ∧ TyP P w d p.goal x.ga x.gc ∧ p.kids.length ≤ 140737488355328 ∧ (p.kids.length = 0 ∨ ∃ g off, x.ka = some ⟨g, off, none⟩ ∧ g < w.heap.size ∧ P g ∧ ∀ j (h : j < p.kids.length), ∃ y, C8 w g (off + j * 8) p.kids[j] y ∧ PfAt P w d e p.kids[j] y)
theorem LsAt.below {P : Nat → Prop} {w w' : World} (hb : Below w.heap.size w w') {d : Nat} {l : List Ty} {a : Option Addr} {c : Nat} (h : LsAt P w d l a c) : LsAt P w' d l a c := ⟨h.1.below hb, h.2⟩
theorem PfAt.below {P : Nat → Prop} {w w' : World} (hb : Below w.heap.size w w') {d : Nat} : ∀ {e : Nat} {p : Pf} {x : Pl}, PfAt P w d e p x → PfAt P w' d e p x := by
  intro e
  induction e with
  | zero => intro p x h; exact h.elim
  | succ e ih =>
    intro p x h
    obtain ⟨h1, h2, h3, h4, h5, h6, h⟩ := h
    refine ⟨h1, h2, h3, h4.below hb, h5.below hb, h6, ?_⟩
    rcases h with h | ⟨g, off, ha, hg, hPg, h⟩
    · exact .inl h
    · refine .inr ⟨g, off, ha, Nat.lt_of_lt_of_le hg hb.size, hPg, fun j hj => ?_⟩
      obtain ⟨y, hc, ht⟩ := h j hj
      exact ⟨y, hc.below hg hb, ih ht⟩
theorem PfAt.more {P : Nat → Prop} {w : World} {d : Nat} : ∀ {e : Nat} {p : Pf} {x : Pl}, PfAt P w d e p x → PfAt P w d (e + 1) p x := by
  intro e
  induction e with
  | zero => intro p x h; exact h.elim
  | succ e ih =>
    intro p x h
    obtain ⟨h1, h2, h3, h4, h5, h6, h⟩ := h
    refine ⟨h1, h2, h3, h4, h5, h6, ?_⟩
    rcases h with h | ⟨g, off, ha, hg, hPg, h⟩
    · exact .inl h
    · refine .inr ⟨g, off, ha, hg, hPg, fun j hj => ?_⟩
      obtain ⟨y, hc, ht⟩ := h j hj
      exact ⟨y, hc, ih ht⟩
theorem PfAt.upto {P : Nat → Prop} {w : World} {d e e' : Nat} {p : Pf} {x : Pl} (h : PfAt P w d e p x) (he : e ≤ e') : PfAt P w d e' p x := by
  induction e' with
  | zero =>
    have : e = 0 := by omega
    subst this
    exact h
  | succ m ih =>
    by_cases h' : e ≤ m
    · exact (ih h').more
    · have : e = m + 1 := by omega
      subst this
      exact h
theorem PfAt.pos {P : Nat → Prop} {w : World} {d e : Nat} {p : Pf} {x : Pl} (h : PfAt P w d e p x) : ∃ e', e = e' + 1 := by
  cases e with
  | zero => exact h.elim
  | succ e => exact ⟨e, rfl⟩
/-- of a part that wants another: what it is then; what it wants -/
def isT (t : Ty) : Ty := if t.kind = 2 then t.kids.getD 0 t else t.kids.getD 1 t
def waT (t : Ty) : Ty := if t.kind = 2 then t.kids.getD 1 t else t.kids.getD 0 t
theorem isT_ov (x y : Ty) : isT (ov x y) = x := rfl
theorem waT_ov (x y : Ty) : waT (ov x y) = y := rfl
theorem isT_un (y x : Ty) : isT (un y x) = x := rfl
theorem waT_un (y x : Ty) : waT (un y x) = y := rfl
/-- of which sequents a step is that is of two -/
def bef2 (p : Pf) : Option (List (List Ty × Ty)) :=
  if p.ix < 0 ∨ p.n < 1 ∨ (p.left.length : Int) < p.ix ∨ (p.left.length : Int) - p.ix < p.n then none else
    if p.step = 4 then match (p.left.take p.ix.toNat).getLast? with
      | some t => if t.kind = 2 then some [((p.left.drop p.ix.toNat).take p.n.toNat, waT t), ((p.left.take p.ix.toNat).dropLast ++ [isT t] ++ p.left.drop (p.ix.toNat + p.n.toNat), p.goal)] else none
      | none => none
    else if p.step = 5 then match p.left.drop (p.ix.toNat + p.n.toNat) with
      | t :: B => if t.kind = 3 then some [((p.left.drop p.ix.toNat).take p.n.toNat, waT t), (p.left.take p.ix.toNat ++ [isT t] ++ B, p.goal)] else none
      | [] => none
    else match p.kids with
      | k :: _ => some [((p.left.drop p.ix.toNat).take p.n.toNat, k.goal), (p.left.take p.ix.toNat ++ [k.goal] ++ p.left.drop (p.ix.toNat + p.n.toNat), p.goal)]
      | [] => none
/-- of which sequents a step is; none: it is no such step -/
noncomputable def bef (p : Pf) : Option (List (List Ty × Ty)) := by
  classical
  exact if p.step = 4 ∨ p.step = 5 ∨ p.step = 6 then bef2 p else if p.ix ≠ 0 ∨ p.n ≠ 0 ∨ p.left = [] then none
    else if p.step = 1 then (if p.left = [p.goal] then some [] else none)
    else if p.step = 2 ∧ p.goal.kind = 2 then some [(p.left ++ [waT p.goal] ++ [], isT p.goal)]
    else if p.step = 3 ∧ p.goal.kind = 3 then some [([] ++ [waT p.goal] ++ p.left, isT p.goal)] else none
/-- four cells that are a sequent -/
structure C4 (w : World) (g o : Nat) (l : List Ty) (a : Option Addr) (c : Nat) (t : Ty) (b : Option Addr) (e : Nat) : Prop where
  c0 : w.cell? ⟨g, o, none⟩ = some (.slice a l.length c)
  c1 : w.cell? ⟨g, o + 1, none⟩ = some (.int .i64 t.kind)
  c2 : w.cell? ⟨g, o + 2, none⟩ = some (.int .i64 t.n)
  c3 : w.cell? ⟨g, o + 3, none⟩ = some (.slice b t.kids.length e)
/-- a list of sequents as it lies -/
def SqsAt (P : Nat → Prop) (w : World) (d : Nat) (ss : List (List Ty × Ty)) (v : Value) : Prop := ∃ b, v = .slice b ss.length ss.length ∧ (ss.length = 0 ∨ ∃ g, b = some ⟨g, 0, none⟩ ∧ g < w.heap.size ∧ ∀ j (h : j < ss.length), ∃ a c x y, C4 w g (j * 4) ss[j].1 a c ss[j].2 x y ∧ LsAt P w d ss[j].1 a c ∧ TyP P w d ss[j].2 x y)
/-- a proof all of whose steps are right -/
def Rt (p : Pf) : Prop := ∃ ss, bef p = some ss ∧ p.kids.length = ss.length ∧ ∀ j (h : j < p.kids.length) (h' : j < ss.length), (p.kids[j]).left = ss[j].1 ∧ (p.kids[j]).goal = ss[j].2 ∧ Rt p.kids[j]
termination_by SizeOf.sizeOf p
decreasing_by exact Pf.lt_kids (List.getElem_mem _)
def noCut (p : Pf) : Prop := p.step ≠ 6 ∧ ∀ x : {y // y ∈ p.kids}, noCut x.1
termination_by SizeOf.sizeOf p
decreasing_by exact Pf.lt_kids x.2
/-- parts of a list, as they lie -/
theorem LsAt.take {P : Nat → Prop} {w : World} {d : Nat} {l : List Ty} {g off c : Nat} (h : LsAt P w d l (some ⟨g, off, none⟩) c) (i : Nat) : LsAt P w d (l.take i) (some ⟨g, off, none⟩) c := by
  obtain ⟨⟨h1, h2, h3, h⟩, hc⟩ := h
  dsimp only at h3 h
  refine ⟨⟨h1, h2, ?_, ?_⟩, by simp; omega⟩
  · simp; omega
  rcases h with h | ⟨g', off', ha, hg, hPg, h⟩
  · left
    show (l.take i).length = 0
    rw [List.length_take]
    omega
  · refine .inr ⟨g', off', ha, hg, hPg, fun j hj => ?_⟩
    have hj' : j < i ∧ j < l.length := by simp at hj; omega
    obtain ⟨a', c', q⟩ := h j hj'.2
    refine ⟨a', c', ?_⟩
    simp only [List.getElem_take]
    exact q
theorem LsAt.drop {P : Nat → Prop} {w : World} {d : Nat} {l : List Ty} {g off c : Nat} (h : LsAt P w d l (some ⟨g, off, none⟩) c) (i : Nat) : LsAt P w d (l.drop i) (some ⟨g, off + i * 3, none⟩) (c - i) := by
  obtain ⟨⟨h1, h2, h3, h⟩, hc⟩ := h
  dsimp only at h3 h
  refine ⟨⟨h1, h2, ?_, ?_⟩, by simp; omega⟩
  · simp; omega
  rcases h with h | ⟨g', off', ha, hg, hPg, h⟩
  · left
    show (l.drop i).length = 0
    rw [List.length_drop]
    omega
  · simp only [Option.some.injEq, Addr.mk.injEq, and_true] at ha
    obtain ⟨rfl, rfl⟩ := ha
    refine .inr ⟨g, off + i * 3, rfl, hg, hPg, fun j hj => ?_⟩
    have hj' : i + j < l.length := by simp at hj; omega
    obtain ⟨a', c', q⟩ := h (i + j) hj'
    refine ⟨a', c', ?_⟩
    simp only [List.getElem_drop]
    rw [show off + i * 3 + j * 3 = off + (i + j) * 3 by omega]
    exact q
theorem LsAt.addr {P : Nat → Prop} {w : World} {d : Nat} {l : List Ty} {a : Option Addr} {c : Nat} (h : LsAt P w d l a c) (h0 : 0 < l.length) : ∃ g off, a = some ⟨g, off, none⟩ ∧ g < w.heap.size := by
  obtain ⟨g, off, _, _, ha, hg, _, _⟩ := h.1.kid (j := 0) h0
  exact ⟨g, off, ha, hg⟩
theorem LsAt.at {P : Nat → Prop} {w : World} {d : Nat} {l : List Ty} {g off c : Nat} (h : LsAt P w d l (some ⟨g, off, none⟩) c) {j : Nat} (hj : j < l.length) : ∃ a' c', g < w.heap.size ∧ w.cell? ⟨g, off + j * 3, none⟩ = some (.int .i64 l[j].kind) ∧ w.cell? ⟨g, off + j * 3 + 1, none⟩ = some (.int .i64 l[j].n) ∧ w.cell? ⟨g, off + j * 3 + 2, none⟩ = some (.slice a' l[j].kids.length c') ∧ TyP P w d l[j] a' c' := by
  obtain ⟨g', off', a', c', ha, hg, _, q⟩ := h.1.kid (j := j) hj
  simp only [Option.some.injEq, Addr.mk.injEq, and_true] at ha
  obtain ⟨rfl, rfl⟩ := ha
  exact ⟨a', c', hg, q⟩
end Go.Proofs.Ytbmgkgoghgdbhaa.Te
