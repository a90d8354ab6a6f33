/- What tabled's lists are, in plain words and in memory. No conditions. -/
import Derived.Test.YtkcbgapakpheiaaCn
import Derived.Test.YtkcbgapakpheiaaFn
import Derived.Test.YtkcbgapakpheiaaRg
namespace Go.Proofs.Ytkcbgapakpheiaa.Td
open Go.RowKit Go.Shelf Sd Md Sc Aq Ls Lx Ly Lz Fo Mk Rf Tk Tk1 Rd Rf2 Fo2 Al2 Tk2 Tb Tc Cl

theorem cells_stem (h : List Ch) (s : St) (i : Nat) (l : List VCe) : ∀ (k : Nat) (x : Nat × Nat × List Int), x ∈ cellsX h s i k l → x.1 = i := by
  induction l with
  | nil => intro k x hx; cases hx
  | cons c l ih =>
    intro k x hx
    unfold cellsX at hx
    rcases List.mem_append.1 hx with hx | hx
    · split at hx
      · simp only [List.mem_singleton] at hx
        rw [hx]
      · cases hx
    · exact ih _ x hx
theorem stems_ge (h : List Ch) (ces : List VCe) (l : List VSt) : ∀ (j : Nat) (x : Nat × Nat × List Int), x ∈ stemsX h ces j l → j ≤ x.1 := by
  induction l with
  | nil => intro j x hx; cases hx
  | cons c l ih =>
    intro j x hx
    unfold stemsX at hx
    rcases List.mem_append.1 hx with hx | hx
    · exact Nat.le_of_eq (cells_stem _ _ _ _ _ x hx).symm
    · have := ih _ x hx
      omega
theorem stems_filter (h : List Ch) (ces : List VCe) (i : Nat) (l : List VSt) : ∀ (j : Nat) (_ : j ≤ i) (hl : i - j < l.length), (stemsX h ces j l).filter (fun x => x.1 == i) = cellsX h (l[i - j]).2 i 0 ces := by
  induction l with
  | nil => intro j _ hl; simp at hl
  | cons c l ih =>
    intro j hj hl
    unfold stemsX
    rw [List.filter_append]
    by_cases e : i = j
    · subst e
      have e1 : (cellsX h c.2 i 0 ces).filter (fun x => x.1 == i) = cellsX h c.2 i 0 ces := by
        rw [List.filter_eq_self]
        intro x hx
        simpa using cells_stem _ _ _ _ _ x hx
      have e2 : (stemsX h ces (i + 1) l).filter (fun x => x.1 == i) = [] := by
        rw [List.filter_eq_nil_iff]
        intro x hx
        have := stems_ge _ _ _ _ x hx
        simp
        omega
      rw [e1, e2, List.append_nil]
      simp
    · have e1 : (cellsX h c.2 j 0 ces).filter (fun x => x.1 == i) = [] := by
        rw [List.filter_eq_nil_iff]
        intro x hx
        have := cells_stem _ _ _ _ _ x hx
        simp
        omega
      have hs : i - j = (i - (j + 1)) + 1 := by omega
      have hl' : i - (j + 1) < l.length := by simp only [List.length_cons] at hl; omega
      rw [e1, List.nil_append, ih (j + 1) (by omega) hl']
      congr 2
      simp only [hs, List.getElem_cons_succ]
theorem told_row (y : VX) (i : Nat) (hi : i < y.sts.length) : ((toldX y).filter (fun x => x.1 == i)).map (fun x => x.2.2) = (cellsX (chs y.xs) (y.sts[i]).2 i 0 y.ces).map (fun x => x.2.2) := by
  unfold toldX
  rw [stems_filter (chs y.xs) y.ces i y.sts 0 (Nat.zero_le _) (by simpa using hi)]
  simp

def DOwn (u7 u8 : Value) : Nat → Prop := fun q => u7.ownBlock = some q ∨ u8.ownBlock = some q
structure DI (nV : Nat) (u7 u8 : Value) (pre : List El) (A : World) : Prop where
  r7 : A.ownsRow (nV + 2) 40 2 u7 pre.length (pre.flatMap rdE)
  r8 : A.ownsRow (nV + 2) 27 1 u8 pre.length (pre.map Prod.snd)
  each : ∀ x, x ∈ pre → IsI A x.2 x.1.2.2 ∧ (x.1.2.2 ≠ [] → Away (DOwn u7 u8) x.2)
theorem DI.below {nV : Nat} {u7 u8 : Value} {pre : List El} {A B : World} (h : DI nV u7 u8 pre A) (hb : Below A.heap.size A B) : DI nV u7 u8 pre B :=
  ⟨own_below h.r7 hb, own_below h.r8 hb, fun x hx => ⟨(h.each x hx).1.below (Nat.le_refl _) hb, (h.each x hx).2⟩⟩
theorem DI.cg {nV : Nat} {u7 u8 : Value} {pre : List El} {A : World} (h : DI nV u7 u8 pre A) : CG A nV u7 u8 u7 pre.length (pre.flatMap rdE) u8 pre.length (pre.map Prod.snd) A :=
  ⟨rfl, rfl, rfl, Nat.le_refl _, fun _ _ _ _ => rfl, h.r7, h.r8, fun _ h => .inl h, fun _ h => .inl h⟩
theorem DI.away {nV : Nat} {u7 u8 : Value} {pre : List El} {A : World} (h : DI nV u7 u8 pre A) {v : Value} {n : Nat} (hf : Fresh n v) (hn : A.heap.size ≤ n) : Away (DOwn u7 u8) v := by
  rintro b o s len cap e (ho | ho)
  · have := (own_ge h.r7 ho).2
    have := hf b o s len cap e
    omega
  · have := (own_ge h.r8 ho).2
    have := hf b o s len cap e
    omega
theorem dend {nV : Nat} {u7 u8 : Value} {pre : List El} (x : El) {A w7 : World} {vr vm : Value} (h : DI nV u7 u8 pre A) (hB : nV + 2 ≤ A.heap.size) (hI : IsI A x.2 x.1.2.2) (haw : Away (DOwn u7 u8) x.2)
    (hg : CG A nV u7 u8 vr (pre.length + 1) (pre.flatMap rdE ++ [.int .i64 x.1.1, .int .i64 x.1.2.1]) vm (pre.length + 1) (pre.map Prod.snd ++ [x.2]) w7) : DI nV vr vm (pre ++ [x]) w7 ∧ Below (nV + 2) A w7 := by
  have K : Kept (DOwn u7 u8) (DOwn vr vm) A w7 := by
    refine ⟨hg.os, hg.tape, hg.output, hg.size, fun q hq hno => ?_⟩
    simp only [DOwn, not_or] at hno ⊢
    refine ⟨⟨fun e => ?_, fun e => ?_⟩, hg.keep q hq hno.1 hno.2⟩
    · rcases hg.own7 q e with e' | e'
      · exact hno.1 e'
      · omega
    · rcases hg.own8 q e with e' | e'
      · exact hno.2 e'
      · omega
  refine ⟨⟨?_, ?_, ?_⟩, hg.os, hg.tape, hg.output, hg.size, fun q hq => hg.keep q (by omega) (fun e => by have := (own_ge h.r7 e).1; omega) (fun e => by have := (own_ge h.r8 e).1; omega)⟩
  · rw [List.length_append, List.flatMap_append]
    simpa [rdE] using hg.row7
  · rw [List.length_append, List.map_append]
    simpa using hg.row8
  · intro z hz
    rcases List.mem_append.1 hz with hz | hz
    · exact isI_kept (h.each z hz).1 (h.each z hz).2 K
    · simp only [List.mem_singleton] at hz
      subst hz
      exact isI_kept hI (fun _ => haw) K
end Go.Proofs.Ytkcbgapakpheiaa.Td
