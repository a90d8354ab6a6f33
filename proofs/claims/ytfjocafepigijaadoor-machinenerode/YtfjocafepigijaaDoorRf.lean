/- A range over a function whose elements lie in memory that the iterator itself lays, by a body that is never left early. -/
import Derived.RangeFuncNested
import Derived.RangeFuncBound
import Derived.RangeFuncCalls
import Derived.RangeFuncLeaves
import Derived.Below
namespace Go.Proofs.YtfjocafepigijaaDoor.Rf
open Go.RowKit

/-- all that lay lies as it lay, but for one block -/
structure Past (l : Nat) (A B : World) : Prop where
  os : B.os = A.os
  tape : B.tape = A.tape
  output : B.output = A.output
  size : A.heap.size ≤ B.heap.size
  block : ∀ k, k < A.heap.size → k ≠ l → B.heap[k]? = A.heap[k]?
theorem Past.of_below {l : Nat} {A B : World} (h : Below A.heap.size A B) : Past l A B := ⟨h.os, h.tape, h.output, h.size, fun k hk _ => h.block k hk⟩
theorem Past.put (l : Nat) (A : World) (o : Obj) : Past l A (A.putObj l o) := by
  have hg := grownBy_putObj' A l o
  have h := (Below.refl 0 A).grown hg (Nat.zero_le _) (fun _ _ => Nat.zero_le _)
  exact ⟨h.os, h.tape, h.output, h.size, fun k _ hl => World.putObj_heap_other hl⟩
def IsRec (l : Nat) (A : World) : Prop := ∃ r, A.heap[l]? = some (.loop r)

/-- all that lay lies as it lay, but for what is one's own; what was not one's own does not become so -/
structure Kept (O O' : Nat → Prop) (A B : World) : Prop where
  os : B.os = A.os
  tape : B.tape = A.tape
  output : B.output = A.output
  size : A.heap.size ≤ B.heap.size
  block : ∀ k, k < A.heap.size → ¬ O k → ¬ O' k ∧ B.heap[k]? = A.heap[k]?

/-- THE ITERATOR's WORD: it hands on, one after another, elements that lie; all that it turns itself is new. A round may turn what is its own (O), nothing else, and nothing of the iterator's (X). -/
def Tells {α : Type} (F : Fence) (n : Nat) (P : Program) (g : Nat) (lb : Array Value) (encs : α → Array Value) (L : List α → α → World → Prop) (X : Nat → Prop) (S : List α → Prop) (w : World) : Prop :=
  ∀ (l : Nat) (J : List α → (Nat → Prop) → World → Prop) (O₀ : Nat → Prop) (W : World), Below w.heap.size w W → (∀ pre O A B, J pre O A → Below A.heap.size A B → J pre O B) →
    (∀ pre O A k, J pre O A → O k → ¬ X k ∧ k < A.heap.size) →
    (∀ pre O x A, J pre O A → L pre x A → YieldAt F (n - 1) P l (encs x) A fun e B => e = .returned (.bool true) ∧ ∃ O', J (pre ++ [x]) O' B ∧ Kept O O' A B) →
    J [] O₀ W →
    CallsIn F n P g (#[.func (.yield l) #[] #[]] ++ lb) W fun e B => (∃ v, e = .returned v) ∧ ∃ xs O, S xs ∧ J xs O B

theorem Kept.below {O O' : Nat → Prop} {A B w : World} {n : Nat} (h : Kept O O' A B) (hw : Below n w A) (hn : n ≤ A.heap.size) (hO : ∀ k, k < n → ¬ O k) : Below n w B :=
  hw.trans ⟨h.os, h.tape, h.output, h.size, fun k hk => (h.block k (by omega) (hO k hk)).2⟩

/-- how a round ends -/
def Ends (O : Nat → Prop) (A : World) (p : (Nat → Prop) → World → Prop) : Exit → Act → World → Prop
  | .normal, _, B => ∃ O', Kept O O' A B ∧ p O' B
  | .ret, _, _ => False
  | .exit _, _, _ => False
  | .goto _, _, _ => False
  | .panic _, _, _ => False
  | .outgrown, _, _ => False

variable {F : Fence} {n : Nat} {P : Program}

theorem range_tells {α : Type} {g : Operand} {ps : Array Tmp} {assign body : Code} {Q : Exit → Act → World → Prop} {a : Act} {w : World}
    (hro : F.round = none) (h1 : 1 ≤ n) {gf : Nat} {lb : Array Value} (hg : a.eval g = .func (.func gf) #[] lb) (hFg : F.fn gf) (eg : ∀ args w, (callFunc gf args).run P w = .ok (.enter gf args) w)
    {encs : α → Array Value} {L : List α → α → World → Prop} {X : Nat → Prop} {S : List α → Prop} {w0 : World} (hseq : Tells F (n - 1) P gf lb encs L X S w0) (hb0 : Below w0.heap.size w0 w) (hX : ∀ k, X k → k < w.heap.size) (hps : ∀ x, (encs x).size = ps.size)
    (I : List α → (Nat → Prop) → World → Prop) (hI : ∀ pre O A B, I pre O A → IsRec (w.heap.size + 1) A → Past (w.heap.size + 1) A B → I pre O B)
    (hO : ∀ pre O A k, I pre O A → O k → ¬ X k ∧ k < A.heap.size ∧ k ≠ w.heap.size ∧ k ≠ w.heap.size + 1)
    (O₀ : Nat → Prop) (h0 : ∀ A, Below w.heap.size w A → I [] O₀ A)
    (hround : ∀ pre O x A, w.heap.size + 2 ≤ A.heap.size → IsRec (w.heap.size + 1) A → I pre O A → L pre x A → ∃ a₁ B,
      (∀ K : Act → World → Prop, K a₁ B → assign.wpIn (F.inRound (w.heap.size + 1)) (n - 1 - 1) P (Exit.then K (fun _ _ _ => False)) { tmps := (ps.zip (encs x)).foldl (fun t (p, v) => t.setIfInBounds p v) a.tmps, defers := [] } A) ∧
      Below A.heap.size A B ∧
      ∀ r, body.wpIn (F.inRound (w.heap.size + 1)) (n - 1 - 1) P (Ends O (B.putObj (w.heap.size + 1) (.loop r)) (I (pre ++ [x]))) a₁ (B.putObj (w.heap.size + 1) (.loop r)))
    (hdone : ∀ xs O A, w.heap.size + 2 ≤ A.heap.size → S xs → I xs O A → A.heap[w.heap.size]? = some (.deferred (some [])) → Q .normal { a with defers := { target := .collected w.heap.size, args := #[] } :: a.defers } A) :
    (Code.rangeFunc g ps assign body).wpIn F n P Q a w := by
  refine wpIn_rangeFunc ?_
  intro fn hfn
  rw [hro]
  obtain ⟨r0, hr0⟩ : ∃ r0 : Loop, r0 = { state := .ready, pending := none, fn, tmps := a.tmps, params := ps, assign, body, defers := w.heap.size } := ⟨_, rfl⟩
  obtain ⟨V, hV⟩ : ∃ V, (w.alloc (.deferred (some []))).alloc (.loop r0) = V := ⟨_, rfl⟩
  have hB : Below w.heap.size w V := by rw [← hV]; exact ((Below.refl _ w).alloc (Nat.le_refl _) _).alloc (by simp) _
  have hrec : V.heap[w.heap.size + 1]? = some (.loop r0) := by
    have := World.alloc_heap_new (w.alloc (.deferred (some []))) (.loop r0)
    rw [World.size_alloc] at this
    rw [← hV]
    exact this
  have hdef : V.heap[w.heap.size]? = some (.deferred (some [])) := by
    rw [← hV]
    exact (Below.heap_alloc _ _ _ (by simp)).trans (World.alloc_heap_new w _)
  have hready : r0.state = .ready := by rw [hr0]
  have hpend : r0.pending = none := by rw [hr0]
  refine ⟨w.heap.size + 1, [{ target := .collected w.heap.size, args := #[] }], V, { target := .fn (.func gf) lb, args := #[.func (.yield (w.heap.size + 1)) #[] #[]] }, V, gf, #[.func (.yield (w.heap.size + 1)) #[] #[]] ++ lb, V, ?_, ?_, ?_, ?_, fun _ => h1, ?_⟩
  · rw [← hV, hr0]
    exact run_enterLoop_outer _ _ _ _ _
  · simp only [resolve, hg]
    simp [go_sem]
  · intro f' hf'
    simp [Target.leads] at hf'
    subst hf'
    exact hFg
  · simp [invoke, go_sem, eg]
  have hst : ∀ r : Loop, r = r0 → { { r with state := LoopState.busy } with state := LoopState.ready, pending := none } = r0 := by
    rintro r rfl
    rw [hr0]
  refine (hseq (w.heap.size + 1) (fun pre O A => (∃ O1, (O = fun k => O1 k ∨ k = w.heap.size + 1) ∧ I pre O1 A) ∧ A.heap[w.heap.size + 1]? = some (.loop r0) ∧ A.heap[w.heap.size]? = some (.deferred (some []))) (fun k => O₀ k ∨ k = w.heap.size + 1) V
    (hb0.trans (hB.mono hb0.size)) ?_ ?_ ?_ ⟨⟨O₀, rfl, h0 _ hB⟩, hrec, hdef⟩).mono ?_
  · rintro pre O A B ⟨⟨O1, hO1, hi⟩, hl, hd⟩ hAB
    have hlt := (Array.getElem?_eq_some_iff.1 hl).1
    exact ⟨⟨O1, hO1, hI pre O1 A B hi ⟨_, hl⟩ (.of_below hAB)⟩, (hAB.block _ hlt).trans hl, (hAB.block _ (by omega)).trans hd⟩
  · rintro pre O A k ⟨⟨O1, rfl, hi⟩, hl, hd⟩ (hk | rfl)
    · exact ⟨(hO pre O1 A k hi hk).1, (hO pre O1 A k hi hk).2.1⟩
    · exact ⟨fun h => absurd (hX _ h) (by omega), (Array.getElem?_eq_some_iff.1 hl).1⟩
  · rintro pre O x A ⟨⟨O1, rfl, hi⟩, hl, hd⟩ hx
    have hlt := (Array.getElem?_eq_some_iff.1 hl).1
    obtain ⟨a₁, B, has, hAB, hbd⟩ := hround pre O1 x A (by omega) ⟨_, hl⟩ hi hx
    have hy := run_yield (P := P) (args := encs x) hl (by rw [hr0]; exact hps x)
    rw [show r0.fn = fn by rw [hr0], show r0.params = ps by rw [hr0], show r0.tmps = a.tmps by rw [hr0], show r0.assign = assign by rw [hr0], show r0.body = body by rw [hr0]] at hy
    refine ⟨fn, _, assign, body, hy, roundIn_of_wpIn hfn (has _ ?_)⟩
    have hlB : B.heap[w.heap.size + 1]? = some (.loop r0) := (hAB.block _ hlt).trans hl
    have hdB : B.heap[w.heap.size]? = some (.deferred (some [])) := (hAB.block _ (by omega)).trans hd
    have hltB := (Array.getElem?_eq_some_iff.1 hlB).1
    refine ⟨_, run_beginRound hlB hready, ?_⟩
    refine wpIn_mono (hbd _) ?_
    intro e a3 C hp
    cases e with
    | normal =>
      obtain ⟨O', hkp, hi3⟩ := hp
      have hP := Past.put (w.heap.size + 1) B (.loop { r0 with state := .busy })
      have hsz := hP.size
      have e1 := (hkp.block w.heap.size (by omega) (fun h => (hO _ _ _ _ hi h).2.2.1 rfl)).2
      have e2 := (hkp.block (w.heap.size + 1) (by omega) (fun h => (hO _ _ _ _ hi h).2.2.2 rfl)).2
      rw [World.putObj_heap_other (by omega), hdB] at e1
      rw [World.putObj_heap_same hltB] at e2
      have hltC := (Array.getElem?_eq_some_iff.1 e2).1
      have hend := run_endRound (P := P) none e2
      refine ⟨_, _, hend, rfl, fun k => O' k ∨ k = w.heap.size + 1, ⟨⟨O', rfl, hI _ _ C _ hi3 ⟨_, e2⟩ (.put _ _ _)⟩, ?_, ?_⟩, ?_⟩
      · rw [World.putObj_heap_same hltC]
        simp only [Option.isNone_none, if_true]
        rw [hst r0 rfl]
      · rw [World.putObj_heap_other (by omega)]
        exact e1
      · have hQ := Past.put (w.heap.size + 1) C (.loop { { r0 with state := .busy } with state := if (none : Option Code).isNone then .ready else .done, pending := none })
        have hs1 := hAB.size
        have hs2 := hkp.size
        refine ⟨hQ.os.trans (hkp.os.trans (hP.os.trans hAB.os)), hQ.tape.trans (hkp.tape.trans (hP.tape.trans hAB.tape)), hQ.output.trans (hkp.output.trans (hP.output.trans hAB.output)), Nat.le_trans hs1 (Nat.le_trans hsz (Nat.le_trans hs2 hQ.size)), fun k hk hno => ?_⟩
        simp only [not_or] at hno ⊢
        obtain ⟨h1, h2⟩ := hkp.block k (by omega) hno.1
        exact ⟨⟨h1, hno.2⟩, (hQ.block k (by omega) hno.2).trans (h2.trans ((hP.block k (by omega) hno.2).trans (hAB.block k hk)))⟩
    | ret => exact hp.elim
    | exit id => exact hp.elim
    | goto t => exact hp.elim
    | panic ch => exact hp.elim
    | outgrown => exact hp.elim
  · rintro e B ⟨⟨v, rfl⟩, xs, O, hS, ⟨O1, rfl, hi⟩, hl, hd⟩
    have hend := run_endLoop (P := P) hl (by rw [hready]; simp)
    rw [hpend] at hend
    have hlt := (Array.getElem?_eq_some_iff.1 hl).1
    refine ⟨none, _, hend, hdone xs O1 _ ?_ hS (hI _ _ B _ hi ⟨_, hl⟩ (.put _ _ _)) ?_⟩
    · exact Nat.le_trans (by omega) (Past.put (w.heap.size + 1) B _).size
    · rw [World.putObj_heap_other (by omega)]
      exact hd
end Go.Proofs.YtfjocafepigijaaDoor.Rf
