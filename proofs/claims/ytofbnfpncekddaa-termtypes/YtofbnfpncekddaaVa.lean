/- A range over a function whose body returns in its first round; one over a function that never calls. No conditions. -/
import Derived.Test.YtofbnfpncekddaaProg
import Derived.RangeFuncNested
import Derived.RangeFuncBound
import Derived.RangeFuncCalls
import Derived.RangeFuncLeaves
import Derived.Below
namespace Go.Proofs.Ytofbnfpncekddaa.Va
open Go.RowKit

/-- all that lay lies as it lay, but for one block -/
structure Past (l : Nat) (A B : World) : Prop where
  os : B.os = A.os
  tape : B.tape = A.tape
  output : B.output = A.output
  size : A.heap.size ≤ B.heap.size
  block : ∀ k, k < A.heap.size → k ≠ l → B.heap[k]? = A.heap[k]?
theorem Past.put (l : Nat) (A : World) (o : Obj) : Past l A (A.putObj l o) := by
  have hg := grownBy_putObj' A l o
  have h := (Below.refl 0 A).grown hg (Nat.zero_le _) (fun _ _ => Nat.zero_le _)
  exact ⟨h.os, h.tape, h.output, h.size, fun k _ hl => World.putObj_heap_other hl⟩
theorem Past.below {l m : Nat} {A B : World} (h : Past l A B) (hm : m ≤ l) (hA : m ≤ A.heap.size) : Below m A B := ⟨h.os, h.tape, h.output, h.size, fun k hk => h.block k (by omega) (by omega)⟩

/-- how the round ends: by a return; R: what holds then -/
def Leaves (d : Nat) (A : World) (R : World → Prop) : Exit → Act → World → Prop
  | .ret, _, B => A.heap.size ≤ B.heap.size ∧ B.heap[d]? = A.heap[d]? ∧ B.heap[d + 1]? = A.heap[d + 1]? ∧ R B
  | .normal, _, _ => False
  | .exit _, _, _ => False
  | .goto _, _, _ => False
  | .panic _, _, _ => False
  | .outgrown, _, _ => False

variable {F : Fence} {n : Nat} {P : Program}

theorem range_first {g : Operand} {ps : Array Tmp} {assign body : Code} {Q : Exit → Act → World → Prop} {a : Act} {w : World}
    (hro : F.round = none) (h1 : 1 ≤ n) {gf : Nat} {lb : Array Value} (hg : a.eval g = .func (.func gf) #[] lb) (hFg : F.fn gf) (eg : ∀ args w, (callFunc gf args).run P w = .ok (.enter gf args) w)
    {x : Array Value} (hps : x.size = ps.size)
    (hseq : ∀ (l : Nat) (V : World) (Jx : World → Prop), Below w.heap.size w V → (∀ A B, Jx A → Below A.heap.size A B → Jx B) → (∀ A, Below V.heap.size V A → YieldAt F (n - 1 - 1) P l x A fun e B => e = .returned (.bool false) ∧ Jx B) → CallsIn F (n - 1) P gf (#[.func (.yield l) #[] #[]] ++ lb) V fun e B => (∃ v, e = .returned v) ∧ Jx B)
    (R : World → Prop) (hR : ∀ A B, R A → w.heap.size + 1 < A.heap.size → Past (w.heap.size + 1) A B → R B)
    (hround : ∀ A, Below w.heap.size w A → w.heap.size + 2 ≤ A.heap.size → ∃ a₁ B,
      (∀ K : Act → World → Prop, K a₁ B → assign.wpIn (F.inRound (w.heap.size + 1)) (n - 1 - 1) P (Exit.then K (fun _ _ _ => False)) { tmps := (ps.zip x).foldl (fun t (p, v) => t.setIfInBounds p v) a.tmps, defers := [] } A) ∧
      Below A.heap.size A B ∧
      ∀ r, body.wpIn (F.inRound (w.heap.size + 1)) (n - 1 - 1) P (Leaves w.heap.size (B.putObj (w.heap.size + 1) (.loop r)) R) a₁ (B.putObj (w.heap.size + 1) (.loop r)))
    (hstop : ∀ A, w.heap.size + 2 ≤ A.heap.size → R A → A.heap[w.heap.size]? = some (.deferred (some [])) → Code.ret.wpIn F n P Q { a with defers := { target := .collected w.heap.size, args := #[] } :: a.defers } A) :
    (Code.rangeFunc g ps assign body).wpIn F n P Q a w := by
  refine wpIn_rangeFunc ?_
  intro fn hfn
  rw [hro]
  obtain ⟨r0, hr0⟩ : ∃ r0 : Loop, r0 = { state := .ready, pending := none, fn, tmps := a.tmps, params := ps, assign, body, defers := w.heap.size } := ⟨_, rfl⟩
  obtain ⟨V, hV⟩ : ∃ V, (w.alloc (.deferred (some []))).alloc (.loop r0) = V := ⟨_, rfl⟩
  have hB : Below w.heap.size w V := by rw [← hV]; exact ((Below.refl _ w).alloc (Nat.le_refl _) _).alloc (by simp) _
  have hrec : V.heap[w.heap.size + 1]? = some (.loop r0) := by
    have := World.alloc_heap_new (w.alloc (.deferred (some []))) (.loop r0)
    rw [World.size_alloc] at this
    rw [← hV]
    exact this
  have hdef : V.heap[w.heap.size]? = some (.deferred (some [])) := by
    rw [← hV]
    exact (Below.heap_alloc _ _ _ (by simp)).trans (World.alloc_heap_new w _)
  have hsV : V.heap.size = w.heap.size + 2 := by rw [← hV]; simp
  have hready : r0.state = .ready := by rw [hr0]
  refine ⟨w.heap.size + 1, [{ target := .collected w.heap.size, args := #[] }], V, { target := .fn (.func gf) lb, args := #[.func (.yield (w.heap.size + 1)) #[] #[]] }, V, gf, #[.func (.yield (w.heap.size + 1)) #[] #[]] ++ lb, V, ?_, ?_, ?_, ?_, fun _ => h1, ?_⟩
  · rw [← hV, hr0]
    exact run_enterLoop_outer _ _ _ _ _
  · simp only [resolve, hg]
    simp [go_sem]
  · intro f' hf'
    simp [Target.leads] at hf'
    subst hf'
    exact hFg
  · simp [invoke, go_sem, eg]
  refine (hseq (w.heap.size + 1) V (fun B => R B ∧ (∃ r : Loop, B.heap[w.heap.size + 1]? = some (.loop r) ∧ r.state = .done ∧ r.pending = some .ret) ∧ B.heap[w.heap.size]? = some (.deferred (some []))) hB ?_ ?_).mono ?_
  · rintro A B ⟨h1, ⟨r, h2, h3, h4⟩, h5⟩ hb
    have l2 := (Array.getElem?_eq_some_iff.1 h2).1
    exact ⟨hR A B h1 l2 ⟨hb.os, hb.tape, hb.output, hb.size, fun k hk _ => hb.block k hk⟩, ⟨r, (hb.block _ l2).trans h2, h3, h4⟩, (hb.block _ (by omega)).trans h5⟩
  · intro A hA
    have hl : A.heap[w.heap.size + 1]? = some (.loop r0) := (hA.block _ (by omega)).trans hrec
    have hd : A.heap[w.heap.size]? = some (.deferred (some [])) := (hA.block _ (by omega)).trans hdef
    have hlt := (Array.getElem?_eq_some_iff.1 hl).1
    obtain ⟨a₁, B, has, hAB, hbd⟩ := hround A (hB.trans (hA.mono (by omega))) (by omega)
    have hy := run_yield (P := P) (args := x) hl (by rw [hr0]; exact hps)
    rw [show r0.fn = fn by rw [hr0], show r0.params = ps by rw [hr0], show r0.tmps = a.tmps by rw [hr0], show r0.assign = assign by rw [hr0], show r0.body = body by rw [hr0]] at hy
    refine ⟨fn, _, assign, body, hy, roundIn_of_wpIn hfn (has _ ?_)⟩
    have hlB : B.heap[w.heap.size + 1]? = some (.loop r0) := (hAB.block _ hlt).trans hl
    have hdB : B.heap[w.heap.size]? = some (.deferred (some [])) := (hAB.block _ (by omega)).trans hd
    have hltB := (Array.getElem?_eq_some_iff.1 hlB).1
    refine ⟨_, run_beginRound hlB hready, ?_⟩
    refine wpIn_mono (hbd _) ?_
    intro e a3 C hp
    cases e with
    | ret =>
      obtain ⟨hs3, e1, e2, hRC⟩ := hp
      rw [World.putObj_heap_other (by omega), hdB] at e1
      rw [World.putObj_heap_same hltB] at e2
      have hltC := (Array.getElem?_eq_some_iff.1 e2).1
      have hend := run_endRound (P := P) (some .ret) e2
      refine ⟨_, _, hend, rfl, hR C _ hRC hltC (.put _ _ _), ⟨_, World.putObj_heap_same hltC, rfl, rfl⟩, ?_⟩
      rw [World.putObj_heap_other (by omega)]
      exact e1
    | normal => exact hp.elim
    | exit id => exact hp.elim
    | goto t => exact hp.elim
    | panic ch => exact hp.elim
    | outgrown => exact hp.elim
  · rintro e B ⟨⟨v, rfl⟩, hRB, ⟨r, hl, hst, hpe⟩, hd⟩
    have hlt := (Array.getElem?_eq_some_iff.1 hl).1
    have hend := run_endLoop (P := P) hl (by rw [hst]; simp)
    rw [hpe] at hend
    refine ⟨some .ret, _, hend, hstop _ ?_ (hR B _ hRB hlt (.put _ _ _)) ?_⟩
    · exact Nat.le_trans (by omega) (Past.put (w.heap.size + 1) B _).size
    · rw [World.putObj_heap_other (by omega)]
      exact hd
theorem range_none {g : Operand} {ps : Array Tmp} {assign body : Code} {Q : Exit → Act → World → Prop} {a : Act} {w : World}
    (hro : F.round = none) (h1 : 1 ≤ n) {gf : Nat} {lb : Array Value} (hg : a.eval g = .func (.func gf) #[] lb) (hFg : F.fn gf) (eg : ∀ args w, (callFunc gf args).run P w = .ok (.enter gf args) w)
    (hseq : ∀ (l : Nat) (V : World), Below w.heap.size w V → CallsIn F (n - 1) P gf (#[.func (.yield l) #[] #[]] ++ lb) V fun e B => (∃ v, e = .returned v) ∧ Below V.heap.size V B)
    (hdone : ∀ A, Below w.heap.size w A → A.heap[w.heap.size]? = some (.deferred (some [])) → Q .normal { a with defers := { target := .collected w.heap.size, args := #[] } :: a.defers } A) :
    (Code.rangeFunc g ps assign body).wpIn F n P Q a w := by
  refine wpIn_rangeFunc ?_
  intro fn hfn
  rw [hro]
  obtain ⟨r0, hr0⟩ : ∃ r0 : Loop, r0 = { state := .ready, pending := none, fn, tmps := a.tmps, params := ps, assign, body, defers := w.heap.size } := ⟨_, rfl⟩
  obtain ⟨V, hV⟩ : ∃ V, (w.alloc (.deferred (some []))).alloc (.loop r0) = V := ⟨_, rfl⟩
  have hB : Below w.heap.size w V := by rw [← hV]; exact ((Below.refl _ w).alloc (Nat.le_refl _) _).alloc (by simp) _
  have hrec : V.heap[w.heap.size + 1]? = some (.loop r0) := by
    have := World.alloc_heap_new (w.alloc (.deferred (some []))) (.loop r0)
    rw [World.size_alloc] at this
    rw [← hV]
    exact this
  have hdef : V.heap[w.heap.size]? = some (.deferred (some [])) := by
    rw [← hV]
    exact (Below.heap_alloc _ _ _ (by simp)).trans (World.alloc_heap_new w _)
  have hsV : V.heap.size = w.heap.size + 2 := by rw [← hV]; simp
  refine ⟨w.heap.size + 1, [{ target := .collected w.heap.size, args := #[] }], V, { target := .fn (.func gf) lb, args := #[.func (.yield (w.heap.size + 1)) #[] #[]] }, V, gf, #[.func (.yield (w.heap.size + 1)) #[] #[]] ++ lb, V, ?_, ?_, ?_, ?_, fun _ => h1, ?_⟩
  · rw [← hV, hr0]
    exact run_enterLoop_outer _ _ _ _ _
  · simp only [resolve, hg]
    simp [go_sem]
  · intro f' hf'
    simp [Target.leads] at hf'
    subst hf'
    exact hFg
  · simp [invoke, go_sem, eg]
  refine (hseq (w.heap.size + 1) V hB).mono ?_
  rintro e B ⟨⟨v, rfl⟩, hVB⟩
  have hl : B.heap[w.heap.size + 1]? = some (.loop r0) := (hVB.block _ (by omega)).trans hrec
  have hd : B.heap[w.heap.size]? = some (.deferred (some [])) := (hVB.block _ (by omega)).trans hdef
  have hend := run_endLoop (P := P) hl (by rw [hr0]; simp)
  rw [show r0.pending = none by rw [hr0]] at hend
  have hBB : Below w.heap.size w B := hB.trans (hVB.mono hB.size)
  refine ⟨none, _, hend, hdone _ (hBB.trans ((Past.put (w.heap.size + 1) B _).below (by omega) hBB.size)) ?_⟩
  rw [World.putObj_heap_other (by omega)]
  exact hd
end Go.Proofs.Ytofbnfpncekddaa.Va
