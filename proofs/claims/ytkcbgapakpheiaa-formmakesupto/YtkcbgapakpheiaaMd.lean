/- How lists of numbers, spots and changes lie in memory, to be read. No conditions. -/
import Derived.Test.YtkcbgapakpheiaaSd
import Derived.Test.YtkcbgapakpheiaaShelf
import Derived.WalkKit
import Derived.WalkSpells
import Derived.WalkLawsBesides
import Derived.BigCall
namespace Go.Proofs.Ytkcbgapakpheiaa.Md
open Go.RowKit
open Go.Proofs.Ytkcbgapakpheiaa.Sd

/-- a slice that is read: n elements of so many cells each -/
def Row (w : World) (v : Value) (size n : Nat) (xs : List Value) : Prop :=
  xs.length = n * size ∧ ∃ a cap, v = .slice a n cap ∧ n ≤ cap ∧ n ≤ 140737488355328 ∧ (a = none → cap = 0) ∧ (n = 0 ∨ ∃ b off, a = some ⟨b, off, none⟩ ∧ b < w.heap.size ∧ ∀ j u, xs[j]? = some u → w.cell? ⟨b, off + j, none⟩ = some u)

theorem Row.below {w w' : World} {v : Value} {size n : Nat} {xs : List Value} (h : Row w v size n xs) {B : Nat} (hB : w.heap.size ≤ B) (hb : Below B w w') : Row w' v size n xs := by
  obtain ⟨hl, a, cap, hv, hn, hm, hz, h⟩ := h
  refine ⟨hl, a, cap, hv, hn, hm, hz, ?_⟩
  rcases h with h | ⟨b, off, ha, hlt, hc⟩
  · exact .inl h
  · exact .inr ⟨b, off, ha, Nat.lt_of_lt_of_le hlt hb.size, fun j u hu => (hb.cell (p := ⟨b, off + j, none⟩) (Nat.lt_of_lt_of_le hlt hB)).trans (hc j u hu)⟩

def ints (l : List Int) : List Value := l.map (Value.int .i64)
def IsI (w : World) (v : Value) (l : List Int) : Prop := Row w v 1 l.length (ints l)
theorem IsI.below {w w' : World} {v : Value} {l : List Int} (h : IsI w v l) {B : Nat} (hB : w.heap.size ≤ B) (hb : Below B w w') : IsI w' v l := Row.below h hB hb

/-- a spot: the value of its Any, and the spot -/
abbrev VS := Value × Sp
def vsc (p : VS) : List Value := [p.1, .bool p.2.edge]
def vscs (l : List VS) : List Value := l.flatMap vsc
theorem vscs_length (l : List VS) : (vscs l).length = l.length * 2 := by
  induction l with
  | nil => rfl
  | cons a l ih => simp [vscs, vsc] at ih ⊢; omega
theorem vscs_at (l : List VS) (k : Nat) (h : k < l.length) : (vscs l)[k * 2]? = some (l[k]).1 ∧ (vscs l)[k * 2 + 1]? = some (.bool (l[k]).2.edge) := by
  induction l generalizing k with
  | nil => simp at h
  | cons a l ih =>
    cases k with
    | zero => simp [vscs, vsc]
    | succ k =>
      have := ih k (by simpa using h)
      have e : ∀ j, (vscs (a :: l))[(k + 1) * 2 + j]? = (vscs l)[k * 2 + j]? := by
        intro j
        have : (k + 1) * 2 + j = (k * 2 + j) + 2 := by omega
        rw [this]
        simp [vscs, vsc]
      exact ⟨(e 0).trans this.1, (e 1).trans this.2⟩
theorem vscs_append (a b : List VS) : vscs (a ++ b) = vscs a ++ vscs b := by simp [vscs]
def Each (w : World) (ls : List VS) : Prop := ∀ p, p ∈ ls → IsI w p.1 p.2.any
def IsS (w : World) (v : Value) (ls : List VS) : Prop := Row w v 2 ls.length (vscs ls) ∧ Each w ls
theorem IsS.below {w w' : World} {v : Value} {l : List VS} (h : IsS w v l) {B : Nat} (hB : w.heap.size ≤ B) (hb : Below B w w') : IsS w' v l := ⟨h.1.below hB hb, fun p hp => (h.2 p hp).below hB hb⟩
def sps (l : List VS) : List Sp := l.map Prod.snd

/-- a change, with the values of its spots' Any -/
structure VC where
  c : Ch
  vf : Value
  vt : Value
  vl : Value
  vr : Value
  ls : List VS
  rs : List VS
def VC.val (x : VC) : Value := .agg #[.int .i64 x.c.kinds, x.vf, x.vt, x.vl, x.vr]
structure IsC (w : World) (x : VC) : Prop where
  l : sps x.ls = x.c.left
  r : sps x.rs = x.c.right
  f : IsI w x.vf x.c.frm
  t : IsI w x.vt x.c.to
  hl : IsS w x.vl x.ls
  hr : IsS w x.vr x.rs
  k : (Lit.int .i64 x.c.kinds).wf = true
theorem IsC.below {w w' : World} {x : VC} (h : IsC w x) {B : Nat} (hB : w.heap.size ≤ B) (hb : Below B w w') : IsC w' x :=
  ⟨h.l, h.r, h.f.below hB hb, h.t.below hB hb, h.hl.below hB hb, h.hr.below hB hb, h.k⟩
theorem IsI.shape {w : World} {v : Value} {l : List Int} (h : IsI w v l) : (∃ a cap, v = .slice a 0 cap ∧ l = []) ∨
    ∃ b off cap, v = .slice (some ⟨b, off, none⟩) l.length cap ∧ b < w.heap.size ∧ l.length ≤ cap ∧ l.length ≤ 140737488355328 ∧ 0 < l.length ∧ ∀ j, j < l.length → w.cell? ⟨b, off + j, none⟩ = some (.int .i64 (l.getD j 0)) := by
  obtain ⟨_, a, cap, hv, hn, hm, _, h⟩ := h
  rcases Nat.eq_zero_or_pos l.length with e | e
  · exact .inl ⟨a, cap, by rw [hv, e], List.length_eq_zero_iff.1 e⟩
  · rcases h with h | ⟨b, off, ha, hb, hc⟩
    · omega
    · refine .inr ⟨b, off, cap, by rw [hv, ha], hb, hn, hm, e, fun j hj => hc j _ ?_⟩
      simp [ints, hj]
theorem IsI.len {w : World} {v : Value} {l : List Int} (h : IsI w v l) : ∃ a cap, v = .slice a l.length cap ∧ l.length ≤ cap ∧ l.length ≤ 140737488355328 := by
  obtain ⟨_, a, cap, hv, hn, hm, _, _⟩ := h
  exact ⟨a, cap, hv, hn, hm⟩
theorem IsS.shape {w : World} {v : Value} {l : List VS} (h : IsS w v l) : (∃ a cap, v = .slice a 0 cap ∧ l = []) ∨
    ∃ b off cap, v = .slice (some ⟨b, off, none⟩) l.length cap ∧ b < w.heap.size ∧ l.length ≤ cap ∧ l.length ≤ 140737488355328 ∧ 0 < l.length ∧ ∀ j u, (vscs l)[j]? = some u → w.cell? ⟨b, off + j, none⟩ = some u := by
  obtain ⟨⟨_, a, cap, hv, hn, hm, _, h⟩, _⟩ := h
  rcases Nat.eq_zero_or_pos l.length with e | e
  · exact .inl ⟨a, cap, by rw [hv, e], List.length_eq_zero_iff.1 e⟩
  · rcases h with h | ⟨b, off, ha, hb, hc⟩
    · omega
    · exact .inr ⟨b, off, cap, by rw [hv, ha], hb, hn, hm, e, hc⟩
theorem IsS.len {w : World} {v : Value} {l : List VS} (h : IsS w v l) : ∃ a cap, v = .slice a l.length cap ∧ l.length ≤ cap ∧ l.length ≤ 140737488355328 := by
  obtain ⟨⟨_, a, cap, hv, hn, hm, _, _⟩, _⟩ := h
  exact ⟨a, cap, hv, hn, hm⟩
theorem row_of_own {w : World} {base e size n : Nat} {v : Value} {xs : List Value} (h : w.ownsRow base e size v n xs) (hn : n ≤ 140737488355328) : Row w v size n xs := by
  have hl : xs.length = n * size := h.1
  have h' := h
  rcases h.2 with ⟨rfl, rfl⟩ | ⟨g, cap, cur, rfl, hb, hg, hc, hm, hs, ht⟩
  · exact ⟨hl, none, 0, rfl, by omega, by omega, fun _ => rfl, .inl rfl⟩
  · refine ⟨hl, _, cap, rfl, hc, hn, (fun h => by cases h), .inr ⟨g, 0, rfl, (Array.getElem?_eq_some_iff.1 hg).1, fun j u hu => ?_⟩⟩
    have hj : j < n * size := by rw [← hl]; exact (List.getElem?_eq_some_iff.1 hu).1
    rw [Nat.zero_add, h'.cellAt j hj]
    exact hu
theorem isI_of_own {w : World} {base e : Nat} {v : Value} {l : List Int} (h : w.ownsRow base e 1 v l.length (ints l)) (hn : l.length ≤ 140737488355328) : IsI w v l := row_of_own h hn
end Go.Proofs.Ytkcbgapakpheiaa.Md
