/- Clash's lists while they grow: how they lie in memory. No conditions. -/
import Derived.Test.YtkcbgapakpheiaaTc
namespace Go.Proofs.Ytkcbgapakpheiaa.Cl
open Go.RowKit Go.Shelf Sd Md Sc Aq Ls Lx Ly Lz Fo Mk Rf Tk Tk1 Rd Rf2 Fo2 Al2 Tk2 Tb Tc

def rdE (x : El) : List Value := [.int .i64 x.1.1, .int .i64 x.1.2.1]
def COwn (b7 b8 : Nat) (u7 u8 : Value) : Nat → Prop := fun q => q = b7 ∨ q = b8 ∨ u7.ownBlock = some q ∨ u8.ownBlock = some q
structure CI (w : World) (nV b7 b8 : Nat) (u7 u8 : Value) (pre : List El) (A : World) : Prop where
  x7 : Boxed A b7 43 u7
  x8 : Boxed A b8 64 u8
  r7 : A.ownsRow (nV + 2) 40 2 u7 pre.length (pre.flatMap rdE)
  r8 : A.ownsRow (nV + 2) 27 1 u8 pre.length (pre.map Prod.snd)
  each : ∀ x, x ∈ pre → IsI A x.2 x.1.2.2 ∧ (x.1.2.2 ≠ [] → Away (COwn b7 b8 u7 u8) x.2)
  e2 : A.heap[w.heap.size + 1]? = some (.cells #[.int .i64 0, .int .i64 0] 40 (0, 0))
  e3 : A.heap[w.heap.size + 2]? = some (.cells #[.int .i64 0, .int .i64 0] 40 (0, 0))
  bel : Below w.heap.size w A
def CInv (w : World) (nV b7 b8 : Nat) (pre : List El) (O : Nat → Prop) (A : World) : Prop := ∃ u7 u8, O = COwn b7 b8 u7 u8 ∧ CI w nV b7 b8 u7 u8 pre A
theorem CI.past {w : World} {nV b7 b8 : Nat} {u7 u8 : Value} {pre : List El} {A B : World} (h : CI w nV b7 b8 u7 u8 pre A) (hr : IsRec (nV + 1) A) (hp : Past (nV + 1) A B) (h1 : b7 < nV) (h2 : b8 < nV) (h3 : w.heap.size + 2 < nV) : CI w nV b7 b8 u7 u8 pre B :=
  ⟨(hp.block _ h.x7.lt (by omega)).trans h.x7, (hp.block _ h.x8.lt (by omega)).trans h.x8, own_past hp h.r7 (by omega), own_past hp h.r8 (by omega), fun x hx => ⟨row_past hr hp (h.each x hx).1, (h.each x hx).2⟩, (hp.block _ (Array.getElem?_eq_some_iff.1 h.e2).1 (by omega)).trans h.e2, (hp.block _ (Array.getElem?_eq_some_iff.1 h.e3).1 (by omega)).trans h.e3, below_past hp h.bel h.bel.size (by omega)⟩
theorem CInv.past {w : World} {nV b7 b8 : Nat} {pre : List El} {O : Nat → Prop} {A B : World} (h : CInv w nV b7 b8 pre O A) (hr : IsRec (nV + 1) A) (hp : Past (nV + 1) A B) (h1 : b7 < nV) (h2 : b8 < nV) (h3 : w.heap.size + 2 < nV) : CInv w nV b7 b8 pre O B := by
  obtain ⟨u7, u8, hO, h⟩ := h
  exact ⟨u7, u8, hO, (hp.block _ h.x7.lt (by omega)).trans h.x7, (hp.block _ h.x8.lt (by omega)).trans h.x8, own_past hp h.r7 (by omega), own_past hp h.r8 (by omega), fun x hx => ⟨row_past hr hp (h.each x hx).1, (h.each x hx).2⟩, (hp.block _ (Array.getElem?_eq_some_iff.1 h.e2).1 (by omega)).trans h.e2, (hp.block _ (Array.getElem?_eq_some_iff.1 h.e3).1 (by omega)).trans h.e3, below_past hp h.bel h.bel.size (by omega)⟩

/-- what stands inside a round -/
structure CG (A : World) (nV : Nat) (u7 u8 vr : Value) (nr : Nat) (xr : List Value) (vm : Value) (nm : Nat) (xm : List Value) (w : World) : Prop where
  os : w.os = A.os
  tape : w.tape = A.tape
  output : w.output = A.output
  size : A.heap.size ≤ w.heap.size
  keep : ∀ q, q < A.heap.size → u7.ownBlock ≠ some q → u8.ownBlock ≠ some q → w.heap[q]? = A.heap[q]?
  row7 : w.ownsRow (nV + 2) 40 2 vr nr xr
  row8 : w.ownsRow (nV + 2) 27 1 vm nm xm
  own7 : ∀ q, vr.ownBlock = some q → u7.ownBlock = some q ∨ A.heap.size ≤ q
  own8 : ∀ q, vm.ownBlock = some q → u8.ownBlock = some q ∨ A.heap.size ≤ q
theorem CG.start {w : World} {nV b7 b8 : Nat} {u7 u8 : Value} {pre : List El} {A : World} (h : CI w nV b7 b8 u7 u8 pre A) : CG A nV u7 u8 u7 pre.length (pre.flatMap rdE) u8 pre.length (pre.map Prod.snd) A.drew :=
  ⟨rfl, rfl, rfl, Nat.le_refl _, fun _ _ _ _ => rfl, own_below h.r7 (Below.refl _ _).drew, own_below h.r8 (Below.refl _ _).drew, fun _ h => .inl h, fun _ h => .inl h⟩
theorem CG.alloc {A : World} {nV : Nat} {u7 u8 vr : Value} {nr : Nat} {xr : List Value} {vm : Value} {nm : Nat} {xm : List Value} {w : World} (h : CG A nV u7 u8 vr nr xr vm nm xm w) (o : Obj) : CG A nV u7 u8 vr nr xr vm nm xm (w.alloc o) := by
  have hb := al w o
  exact ⟨hb.os.trans h.os, hb.tape.trans h.tape, hb.output.trans h.output, Nat.le_trans h.size hb.size, fun q hq h1 h2 => (hb.block q (Nat.lt_of_lt_of_le hq h.size)).trans (h.keep q hq h1 h2), own_below h.row7 hb, own_below h.row8 hb, h.own7, h.own8⟩
theorem rows_ne {w : World} {b1 b2 e1 e2 s1 s2 n1 n2 : Nat} {v1 v2 : Value} {x1 x2 : List Value} (h1 : w.ownsRow b1 e1 s1 v1 n1 x1) (h2 : w.ownsRow b2 e2 s2 v2 n2 x2) (hne : e1 ≠ e2) : v1.ownBlock = none ∨ v1.ownBlock ≠ v2.ownBlock := by
  cases h : v1.ownBlock with
  | none => exact .inl rfl
  | some q =>
    refine .inr fun e => ?_
    rcases h1.2 with ⟨rfl, _⟩ | ⟨g, cap, cur, rfl, _, hg, _⟩
    · simp [Value.ownBlock] at h
    · simp only [Value.ownBlock, Option.some.injEq] at h
      subst h
      exact row_ne h2 hg hne e.symm
theorem CG.app7 {A : World} {nV : Nat} {u7 u8 vr : Value} {nr : Nat} {xr : List Value} {vm : Value} {nm : Nat} {xm : List Value} {w w' : World} (h : CG A nV u7 u8 vr nr xr vm nm xm w) {g cap n' : Nat} {x' : List Value}
    (hown : w'.ownsRow (nV + 2) 40 2 (.slice (some ⟨g, 0, none⟩) n' cap) n' x') (hgrow : w.grownBy w' vr.ownBlock) (hat : vr.ownBlock = some g ∨ g = w.heap.size) : CG A nV u7 u8 (.slice (some ⟨g, 0, none⟩) n' cap) n' x' vm nm xm w' := by
  refine ⟨hgrow.os.trans h.os, hgrow.tape.trans h.tape, hgrow.output.trans h.output, Nat.le_trans h.size hgrow.size, fun q hq h1 h2 => ?_, hown, h.row8.kept hgrow (rows_ne h.row8 h.row7 (by decide)), fun q hq => ?_, h.own8⟩
  · refine (hgrow.block q (Nat.lt_of_lt_of_le hq h.size) (fun e => ?_)).trans (h.keep q hq h1 h2)
    rcases h.own7 q e.symm with e' | e'
    · exact h1 e'
    · omega
  · simp only [Value.ownBlock, Option.some.injEq] at hq
    subst hq
    rcases hat with hat | hat
    · exact h.own7 _ hat
    · have := h.size
      exact .inr (by omega)
theorem CG.app8 {A : World} {nV : Nat} {u7 u8 vr : Value} {nr : Nat} {xr : List Value} {vm : Value} {nm : Nat} {xm : List Value} {w w' : World} (h : CG A nV u7 u8 vr nr xr vm nm xm w) {g cap n' : Nat} {x' : List Value}
    (hown : w'.ownsRow (nV + 2) 27 1 (.slice (some ⟨g, 0, none⟩) n' cap) n' x') (hgrow : w.grownBy w' vm.ownBlock) (hat : vm.ownBlock = some g ∨ g = w.heap.size) : CG A nV u7 u8 vr nr xr (.slice (some ⟨g, 0, none⟩) n' cap) n' x' w' := by
  refine ⟨hgrow.os.trans h.os, hgrow.tape.trans h.tape, hgrow.output.trans h.output, Nat.le_trans h.size hgrow.size, fun q hq h1 h2 => ?_, h.row7.kept hgrow (rows_ne h.row7 h.row8 (by decide)), hown, h.own7, fun q hq => ?_⟩
  · refine (hgrow.block q (Nat.lt_of_lt_of_le hq h.size) (fun e => ?_)).trans (h.keep q hq h1 h2)
    rcases h.own8 q e.symm with e' | e'
    · exact h2 e'
    · omega
  · simp only [Value.ownBlock, Option.some.injEq] at hq
    subst hq
    rcases hat with hat | hat
    · exact h.own8 _ hat
    · have := h.size
      exact .inr (by omega)
/-- a new block of another kind than a row stays as it is while that row grows -/
theorem tmp_grown {w w' : World} {b e s n t g : Nat} {v : Value} {xs : List Value} {cs : Array Value} {fz : Nat × Nat} (hg : w.heap[g]? = some (.cells cs t fz)) (hr : w.ownsRow b e s v n xs) (hgrow : w.grownBy w' v.ownBlock) (hne : t ≠ e) : w'.heap[g]? = some (.cells cs t fz) :=
  (hgrow.block g (Array.getElem?_eq_some_iff.1 hg).1 (fun e' => row_ne hr hg hne e'.symm)).trans hg
theorem tmp_alloc {w : World} {g : Nat} {ob : Obj} (hg : w.heap[g]? = some ob) (o : Obj) : (w.alloc o).heap[g]? = some ob := ((al w o).block g (Array.getElem?_eq_some_iff.1 hg).1).trans hg

/-- how a round ends -/
theorem cend {w : World} {nV b7 b8 : Nat} {u7 u8 : Value} (pre : List El) (x : El) {A w7 F : World} {vr vm : Value} (h : CI w nV b7 b8 u7 u8 pre A) (h1 : b7 < nV) (h2 : b8 < nV) (h3 : w.heap.size + 2 < b7) (h4 : w.heap.size + 2 < b8)
    (hI : IsI A x.2 x.1.2.2) (haw : Away (fun k => COwn b7 b8 u7 u8 k ∨ k = nV + 1) x.2)
    (hg : CG A nV u7 u8 vr (pre.length + 1) (pre.flatMap rdE ++ [.int .i64 x.1.1, .int .i64 x.1.2.1]) vm (pre.length + 1) (pre.map Prod.snd ++ [x.2]) w7)
    (fo : F.os = w7.os) (ft : F.tape = w7.tape) (fp : F.output = w7.output) (fs : w7.heap.size ≤ F.heap.size) (f7 : Boxed F b7 43 vr) (f8 : Boxed F b8 64 vm) (fb : ∀ q, q < w7.heap.size → q ≠ b7 → q ≠ b8 → F.heap[q]? = w7.heap[q]?) :
    ∃ O', Kept (COwn b7 b8 u7 u8) O' A F ∧ CInv w nV b7 b8 (pre ++ [x]) O' F := by
  have hge7 := fun q (hq : u7.ownBlock = some q) => own_ge h.r7 hq
  have hge8 := fun q (hq : u8.ownBlock = some q) => own_ge h.r8 hq
  have s7 := hg.size
  have K : Kept (COwn b7 b8 u7 u8) (COwn b7 b8 vr vm) A F := by
    refine ⟨fo.trans hg.os, ft.trans hg.tape, fp.trans hg.output, by omega, fun q hq hno => ?_⟩
    simp only [COwn, not_or] at hno ⊢
    refine ⟨⟨hno.1, hno.2.1, fun e => ?_, fun e => ?_⟩, (fb q (by omega) hno.1 hno.2.1).trans (hg.keep q hq hno.2.2.1 hno.2.2.2)⟩
    · rcases hg.own7 q e with e' | e'
      · exact hno.2.2.1 e'
      · omega
    · rcases hg.own8 q e with e' | e'
      · exact hno.2.2.2 e'
      · omega
  have old : ∀ q, q < A.heap.size → q < nV → q ≠ b7 → q ≠ b8 → F.heap[q]? = A.heap[q]? := fun q hq hn n7 n8 => (K.block q hq (by
    rintro (e | e | e | e)
    · exact n7 e
    · exact n8 e
    · have := hge7 q e; omega
    · have := hge8 q e; omega)).2
  have rb : ∀ {v : Value} {e s n : Nat} {xs : List Value}, w7.ownsRow (nV + 2) e s v n xs → F.ownsRow (nV + 2) e s v n xs := by
    intro v e s n xs hr
    refine ⟨hr.1, ?_⟩
    rcases hr.2 with h' | ⟨g, cap, cur, hu, hb, hgg, hrest⟩
    · exact .inl h'
    · exact .inr ⟨g, cap, cur, hu, hb, (fb g (Array.getElem?_eq_some_iff.1 hgg).1 (by omega) (by omega)).trans hgg, hrest⟩
  have l2 := (Array.getElem?_eq_some_iff.1 h.e2).1
  have l3 := (Array.getElem?_eq_some_iff.1 h.e3).1
  refine ⟨_, K, vr, vm, rfl, f7, f8, ?_, ?_, ?_, (old _ l2 (by omega) (by omega) (by omega)).trans h.e2, (old _ l3 (by omega) (by omega) (by omega)).trans h.e3, K.below h.bel h.bel.size (fun q hq ho => ?_)⟩
  · rw [List.length_append, List.flatMap_append]
    simpa [rdE] using rb hg.row7
  · rw [List.length_append, List.map_append]
    simpa using rb hg.row8
  · intro z hz
    rcases List.mem_append.1 hz with hz | hz
    · exact isI_kept (h.each z hz).1 (h.each z hz).2 K
    · simp only [List.mem_singleton] at hz
      subst hz
      exact isI_kept hI (fun _ b o s len cap' e ho => haw b o s len cap' e (.inl ho)) K
  · rcases ho with e | e | e | e
    · omega
    · omega
    · have := hge7 q e; omega
    · have := hge8 q e; omega
theorem CI.ended {w : World} {nV b7 b8 : Nat} {u7 u8 : Value} {pre : List El} {A B : World} {d : Option (List Deferred)} (h : CI w nV b7 b8 u7 u8 pre A) (hr : A.heap[nV]? = some (.deferred d)) (hp : Past nV A B) (h1 : b7 < nV) (h2 : b8 < nV) (h3 : w.heap.size + 2 < nV) : CI w nV b7 b8 u7 u8 pre B :=
  ⟨(hp.block _ h.x7.lt (by omega)).trans h.x7, (hp.block _ h.x8.lt (by omega)).trans h.x8, own_past hp h.r7 (by omega), own_past hp h.r8 (by omega), fun x hx => ⟨row_def hr hp (h.each x hx).1, (h.each x hx).2⟩, (hp.block _ (Array.getElem?_eq_some_iff.1 h.e2).1 (by omega)).trans h.e2, (hp.block _ (Array.getElem?_eq_some_iff.1 h.e3).1 (by omega)).trans h.e3, below_past hp h.bel h.bel.size (by omega)⟩

/-- the first two that are the same -/
def clashL : List (Nat × Nat × List Int) → Option ((Nat × Nat) × (Nat × Nat))
  | [] => none
  | x :: l => match l.find? (fun z => z.2.2 == x.2.2) with
    | some z => some ((x.1, x.2.1), (z.1, z.2.1))
    | none => clashL l
def clA (o : Option ((Nat × Nat) × (Nat × Nat))) : Nat × Nat := (o.map Prod.fst).getD (0, 0)
def clB (o : Option ((Nat × Nat) × (Nat × Nat))) : Nat × Nat := (o.map Prod.snd).getD (0, 0)
end Go.Proofs.Ytkcbgapakpheiaa.Cl
