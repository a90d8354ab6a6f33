/- math/bits.TrailingZeros64: the place of the lowest bit. Condition: the library's table lies as its text lays it. -/
import Derived.Test.YtfjocafepigijaaDoorSkM
import Derived.Shelf.Spec.TrailingZeros
import Derived.RangeFuncNested
import Derived.RangeFuncBound
import Derived.RangeFuncCalls
import Derived.RangeFuncLeaves
import Derived.Below
import Derived.Test.YtfjocafepigijaaDoorHaM
import Derived.Shelf.Abstract
import Derived.Shelf.RegionOpen
import Derived.OwnWalkIn
import Derived.TacticsInMore
import Derived.LoopNIn
import Derived.LoopIn
import Derived.Test.YtfjocafepigijaaDoorHb
import Derived.OrdersHeld
import Derived.OrdersIn
namespace Go.Proofs.YtfjocafepigijaaDoor.Tz
open Go.RowKit

set_option maxHeartbeats 1000000 in
theorem core (x k idx : Nat) (w : World) (hx0 : ((x : Int) == 0) = false)
  (key : IntKind.u64.wrap (bits BinOp.and IntKind.u64 (x : Int) (IntKind.u64.wrap (-(x : Int))) * 285870213051353865) / 288230376151711744 = (idx : Int))
  (hi : idx < 64) (hk : k < 64) (hcell : w.cell? ⟨0, idx, none⟩ = some (.int .u8 k)) :
  Calls Tryd.prog 71 #[.int .u64 x] w fun e w' => e = .returned (.int .i64 k) ∧ w' = w := by
 go_enter Tryd.func71, Tryd.ntmps71
 go_wp2_with (simp only [key])
 go_ret
 exact ⟨rfl, rfl⟩
theorem tz_any (x : Nat) (hx : x < 18446744073709551616) (hx0 : x ≠ 0) (w : World) (hT : TabAt 0 Lib.deBruijn64tab w) :
  Calls Tryd.prog 71 #[.int .u64 x] w fun e w' => e = .returned (.int .i64 (Lib.ctz 64 x)) ∧ w' = w := by
 obtain ⟨hlow, hk⟩ := Lib.lowest_bit 64 x hx0 hx
 obtain ⟨hi, htab⟩ := Lib.deBruijn64_at _ hk
 have hcell := hT _ hi
 rw [htab] at hcell
 exact core x _ _ w (by simp; omega) (tz64_key x _ hx hx0 hlow) hi hk hcell
theorem tab_below {w w' : World} (h : TabAt 0 Lib.deBruijn64tab w) (h0 : 0 < w.heap.size) (hb : Below w.heap.size w w') : TabAt 0 Lib.deBruijn64tab w' := fun j hj => (hb.cell (p := ⟨0, j, none⟩) h0).trans (h j hj)
end Go.Proofs.YtfjocafepigijaaDoor.Tz
/- A range over a function whose elements lie in memory that the iterator itself lays, by a body that is never left early. -/
namespace Go.Proofs.YtfjocafepigijaaDoor.Rf
open Go.RowKit

/-- all that lay lies as it lay, but for one block -/
structure Past (l : Nat) (A B : World) : Prop where
 os : B.os = A.os
 tape : B.tape = A.tape
 output : B.output = A.output
 size : A.heap.size ≤ B.heap.size
 block : ∀ k, k < A.heap.size → k ≠ l → B.heap[k]? = A.heap[k]?
theorem Past.of_below {l : Nat} {A B : World} (h : Below A.heap.size A B) : Past l A B := ⟨h.os, h.tape, h.output, h.size, fun k hk _ => h.block k hk⟩
theorem Past.trans {l : Nat} {A B C : World} (h : Past l A B) (k : Past l B C) : Past l A C :=
 ⟨k.os.trans h.os, k.tape.trans h.tape, k.output.trans h.output, Nat.le_trans h.size k.size, fun i hi hl => (k.block i (Nat.lt_of_lt_of_le hi h.size) hl).trans (h.block i hi hl)⟩
theorem Past.put (l : Nat) (A : World) (o : Obj) : Past l A (A.putObj l o) := by
 have hg := grownBy_putObj' A l o
 have h := (Below.refl 0 A).grown hg (Nat.zero_le _) (fun _ _ => Nat.zero_le _)
 exact ⟨h.os, h.tape, h.output, h.size, fun k _ hl => World.putObj_heap_other hl⟩
def IsRec (l : Nat) (A : World) : Prop := ∃ r, A.heap[l]? = some (.loop r)

/-- all that lay lies as it lay, but for what is one's own; what was not one's own does not become so -/
structure Kept (O O' : Nat → Prop) (A B : World) : Prop where
 os : B.os = A.os
 tape : B.tape = A.tape
 output : B.output = A.output
 size : A.heap.size ≤ B.heap.size
 block : ∀ k, k < A.heap.size → ¬ O k → ¬ O' k ∧ B.heap[k]? = A.heap[k]?

/-- THE ITERATOR's WORD: it hands on, one after another, elements that lie; all that it turns itself is new. A round may turn what is its own (O), nothing else, and nothing of the iterator's (X). -/
def Tells {α : Type} (F : Fence) (n : Nat) (P : Program) (g : Nat) (lb : Array Value) (encs : α → Array Value) (L : List α → α → World → Prop) (X : Nat → Prop) (S : List α → Prop) (w : World) : Prop :=
 ∀ (l : Nat) (J : List α → (Nat → Prop) → World → Prop) (O₀ : Nat → Prop) (W : World), Below w.heap.size w W → (∀ pre O A B, J pre O A → Below A.heap.size A B → J pre O B) →
  (∀ pre O A k, J pre O A → O k → ¬ X k ∧ k < A.heap.size) →
  (∀ pre O x A, J pre O A → L pre x A → YieldAt F (n - 1) P l (encs x) A fun e B => e = .returned (.bool true) ∧ ∃ O', J (pre ++ [x]) O' B ∧ Kept O O' A B) →
  J [] O₀ W →
  CallsIn F n P g (#[.func (.yield l) #[] #[]] ++ lb) W fun e B => (∃ v, e = .returned v) ∧ ∃ xs O, S xs ∧ J xs O B

theorem Kept.below {O O' : Nat → Prop} {A B w : World} {n : Nat} (h : Kept O O' A B) (hw : Below n w A) (hn : n ≤ A.heap.size) (hO : ∀ k, k < n → ¬ O k) : Below n w B :=
 hw.trans ⟨h.os, h.tape, h.output, h.size, fun k hk => (h.block k (by omega) (hO k hk)).2⟩

/-- how a round ends -/
def Ends (O : Nat → Prop) (A : World) (p : (Nat → Prop) → World → Prop) : Exit → Act → World → Prop
 | .normal, _, B => ∃ O', Kept O O' A B ∧ p O' B
 | .ret, _, _ => False
 | .exit _, _, _ => False
 | .goto _, _, _ => False
 | .panic _, _, _ => False
 | .outgrown, _, _ => False

variable {F : Fence} {n : Nat} {P : Program}

theorem range_tells {α : Type} {g : Operand} {ps : Array Tmp} {assign body : Code} {Q : Exit → Act → World → Prop} {a : Act} {w : World}
  (hro : F.round = none) (h1 : 1 ≤ n) {gf : Nat} {lb : Array Value} (hg : a.eval g = .func (.func gf) #[] lb) (hFg : F.fn gf) (eg : ∀ args w, (callFunc gf args).run P w = .ok (.enter gf args) w)
  {encs : α → Array Value} {L : List α → α → World → Prop} {X : Nat → Prop} {S : List α → Prop} {w0 : World} (hseq : Tells F (n - 1) P gf lb encs L X S w0) (hb0 : Below w0.heap.size w0 w) (hX : ∀ k, X k → k < w.heap.size) (hps : ∀ x, (encs x).size = ps.size)
  (I : List α → (Nat → Prop) → World → Prop) (hI : ∀ pre O A B, I pre O A → IsRec (w.heap.size + 1) A → Past (w.heap.size + 1) A B → I pre O B)
  (hO : ∀ pre O A k, I pre O A → O k → ¬ X k ∧ k < A.heap.size ∧ k ≠ w.heap.size ∧ k ≠ w.heap.size + 1)
  (O₀ : Nat → Prop) (h0 : ∀ A, Below w.heap.size w A → I [] O₀ A)
  (hround : ∀ pre O x A, w.heap.size + 2 ≤ A.heap.size → IsRec (w.heap.size + 1) A → I pre O A → L pre x A → ∃ a₁ B,
   (∀ K : Act → World → Prop, K a₁ B → assign.wpIn (F.inRound (w.heap.size + 1)) (n - 1 - 1) P (Exit.then K (fun _ _ _ => False)) { tmps := (ps.zip (encs x)).foldl (fun t (p, v) => t.setIfInBounds p v) a.tmps, defers := [] } A) ∧
   Below A.heap.size A B ∧
   ∀ r, body.wpIn (F.inRound (w.heap.size + 1)) (n - 1 - 1) P (Ends O (B.putObj (w.heap.size + 1) (.loop r)) (I (pre ++ [x]))) a₁ (B.putObj (w.heap.size + 1) (.loop r)))
  (hdone : ∀ xs O A, w.heap.size + 2 ≤ A.heap.size → S xs → I xs O A → A.heap[w.heap.size]? = some (.deferred (some [])) → Q .normal { a with defers := { target := .collected w.heap.size, args := #[] } :: a.defers } A) :
  (Code.rangeFunc g ps assign body).wpIn F n P Q a w := by
 refine wpIn_rangeFunc ?_
 intro fn hfn
 rw [hro]
 obtain ⟨r0, hr0⟩ : ∃ r0 : Loop, r0 = { state := .ready, pending := none, fn, tmps := a.tmps, params := ps, assign, body, defers := w.heap.size } := ⟨_, rfl⟩
 obtain ⟨V, hV⟩ : ∃ V, (w.alloc (.deferred (some []))).alloc (.loop r0) = V := ⟨_, rfl⟩
 have hB : Below w.heap.size w V := by rw [← hV]; exact ((Below.refl _ w).alloc (Nat.le_refl _) _).alloc (by simp) _
 have hrec : V.heap[w.heap.size + 1]? = some (.loop r0) := by
  have := World.alloc_heap_new (w.alloc (.deferred (some []))) (.loop r0)
  rw [World.size_alloc] at this
  rw [← hV]
  exact this
 have hdef : V.heap[w.heap.size]? = some (.deferred (some [])) := by
  rw [← hV]
  exact (Below.heap_alloc _ _ _ (by simp)).trans (World.alloc_heap_new w _)
 have hready : r0.state = .ready := by rw [hr0]
 have hpend : r0.pending = none := by rw [hr0]
 refine ⟨w.heap.size + 1, [{ target := .collected w.heap.size, args := #[] }], V, { target := .fn (.func gf) lb, args := #[.func (.yield (w.heap.size + 1)) #[] #[]] }, V, gf, #[.func (.yield (w.heap.size + 1)) #[] #[]] ++ lb, V, ?_, ?_, ?_, ?_, fun _ => h1, ?_⟩
 ·rw [← hV, hr0]
  exact run_enterLoop_outer _ _ _ _ _
 ·simp only [resolve, hg]
  simp [go_sem]
 ·intro f' hf'
  simp [Target.leads] at hf'
  subst hf'
  exact hFg
 ·simp [invoke, go_sem, eg]
 have hst : ∀ r : Loop, r = r0 → { { r with state := LoopState.busy } with state := LoopState.ready, pending := none } = r0 := by
  rintro r rfl
  rw [hr0]
 refine (hseq (w.heap.size + 1) (fun pre O A => (∃ O1, (O = fun k => O1 k ∨ k = w.heap.size + 1) ∧ I pre O1 A) ∧ A.heap[w.heap.size + 1]? = some (.loop r0) ∧ A.heap[w.heap.size]? = some (.deferred (some []))) (fun k => O₀ k ∨ k = w.heap.size + 1) V
  (hb0.trans (hB.mono hb0.size)) ?_ ?_ ?_ ⟨⟨O₀, rfl, h0 _ hB⟩, hrec, hdef⟩).mono ?_
 ·rintro pre O A B ⟨⟨O1, hO1, hi⟩, hl, hd⟩ hAB
  have hlt := (Array.getElem?_eq_some_iff.1 hl).1
  exact ⟨⟨O1, hO1, hI pre O1 A B hi ⟨_, hl⟩ (.of_below hAB)⟩, (hAB.block _ hlt).trans hl, (hAB.block _ (by omega)).trans hd⟩
 ·rintro pre O A k ⟨⟨O1, rfl, hi⟩, hl, hd⟩ (hk | rfl)
  ·exact ⟨(hO pre O1 A k hi hk).1, (hO pre O1 A k hi hk).2.1⟩
  ·exact ⟨fun h => absurd (hX _ h) (by omega), (Array.getElem?_eq_some_iff.1 hl).1⟩
 ·rintro pre O x A ⟨⟨O1, rfl, hi⟩, hl, hd⟩ hx
  have hlt := (Array.getElem?_eq_some_iff.1 hl).1
  obtain ⟨a₁, B, has, hAB, hbd⟩ := hround pre O1 x A (by omega) ⟨_, hl⟩ hi hx
  have hy := run_yield (P := P) (args := encs x) hl (by rw [hr0]; exact hps x)
  rw [show r0.fn = fn by rw [hr0], show r0.params = ps by rw [hr0], show r0.tmps = a.tmps by rw [hr0], show r0.assign = assign by rw [hr0], show r0.body = body by rw [hr0]] at hy
  refine ⟨fn, _, assign, body, hy, roundIn_of_wpIn hfn (has _ ?_)⟩
  have hlB : B.heap[w.heap.size + 1]? = some (.loop r0) := (hAB.block _ hlt).trans hl
  have hdB : B.heap[w.heap.size]? = some (.deferred (some [])) := (hAB.block _ (by omega)).trans hd
  have hltB := (Array.getElem?_eq_some_iff.1 hlB).1
  refine ⟨_, run_beginRound hlB hready, ?_⟩
  refine wpIn_mono (hbd _) ?_
  intro e a3 C hp
  cases e with
  | normal =>
   obtain ⟨O', hkp, hi3⟩ := hp
   have hP := Past.put (w.heap.size + 1) B (.loop { r0 with state := .busy })
   have hsz := hP.size
   have e1 := (hkp.block w.heap.size (by omega) (fun h => (hO _ _ _ _ hi h).2.2.1 rfl)).2
   have e2 := (hkp.block (w.heap.size + 1) (by omega) (fun h => (hO _ _ _ _ hi h).2.2.2 rfl)).2
   rw [World.putObj_heap_other (by omega), hdB] at e1
   rw [World.putObj_heap_same hltB] at e2
   have hltC := (Array.getElem?_eq_some_iff.1 e2).1
   have hend := run_endRound (P := P) none e2
   refine ⟨_, _, hend, rfl, fun k => O' k ∨ k = w.heap.size + 1, ⟨⟨O', rfl, hI _ _ C _ hi3 ⟨_, e2⟩ (.put _ _ _)⟩, ?_, ?_⟩, ?_⟩
   ·rw [World.putObj_heap_same hltC]
    simp only [Option.isNone_none, if_true]
    rw [hst r0 rfl]
   ·rw [World.putObj_heap_other (by omega)]
    exact e1
   ·have hQ := Past.put (w.heap.size + 1) C (.loop { { r0 with state := .busy } with state := if (none : Option Code).isNone then .ready else .done, pending := none })
    have hs1 := hAB.size
    have hs2 := hkp.size
    refine ⟨hQ.os.trans (hkp.os.trans (hP.os.trans hAB.os)), hQ.tape.trans (hkp.tape.trans (hP.tape.trans hAB.tape)), hQ.output.trans (hkp.output.trans (hP.output.trans hAB.output)), Nat.le_trans hs1 (Nat.le_trans hsz (Nat.le_trans hs2 hQ.size)), fun k hk hno => ?_⟩
    simp only [not_or] at hno ⊢
    obtain ⟨h1, h2⟩ := hkp.block k (by omega) hno.1
    exact ⟨⟨h1, hno.2⟩, (hQ.block k (by omega) hno.2).trans (h2.trans ((hP.block k (by omega) hno.2).trans (hAB.block k hk)))⟩
  | ret => exact hp.elim
  | exit id => exact hp.elim
  | goto t => exact hp.elim
  | panic ch => exact hp.elim
  | outgrown => exact hp.elim
 ·rintro e B ⟨⟨v, rfl⟩, xs, O, hS, ⟨O1, rfl, hi⟩, hl, hd⟩
  have hend := run_endLoop (P := P) hl (by rw [hready]; simp)
  rw [hpend] at hend
  have hlt := (Array.getElem?_eq_some_iff.1 hl).1
  refine ⟨none, _, hend, hdone xs O1 _ ?_ hS (hI _ _ B _ hi ⟨_, hl⟩ (.put _ _ _)) ?_⟩
  ·exact Nat.le_trans (by omega) (Past.put (w.heap.size + 1) B _).size
  ·rw [World.putObj_heap_other (by omega)]
   exact hd
end Go.Proofs.YtfjocafepigijaaDoor.Rf
/- members: the members of a set, in their order. Conditions: the library's table lies as its text lays it; the set is not great. -/
namespace Go.Proofs.YtfjocafepigijaaDoor.Za
open Go.RowKit Go.Shelf Mv Set Rf Tz
attribute [local go_sem] Oper.semAt_some

/-- the places of the bits of a word -/
def bl (x : Nat) : List Nat := (List.range 64).filter (fun j => x.testBit j)
theorem fil_head (n k : Nat) (p : Nat → Bool) (hk : k < n) (hp : p k = true) (hlo : ∀ j, j < k → p j = false) : (List.range n).filter p = k :: (List.range n).filter (fun j => p j && decide (j ≠ k)) := by
 induction n with
 | zero => omega
 | succ n ih =>
  rw [List.range_succ, List.filter_append, List.filter_append]
  rcases Nat.lt_or_ge k n with h | h
  ·rw [ih h]
   have : ¬ n = k := by omega
   cases hn : p n <;> simp [hn, this]
  ·obtain rfl : k = n := by omega
   have e1 : (List.range k).filter p = [] := by
    rw [List.filter_eq_nil_iff]
    intro a ha
    rw [hlo a (List.mem_range.1 ha)]
    decide
   have e2 : (List.range k).filter (fun j => p j && decide (j ≠ k)) = [] := by
    rw [List.filter_eq_nil_iff]
    intro a ha
    rw [hlo a (List.mem_range.1 ha)]
    simp
   rw [e1, e2]
   simp [hp]
theorem low_bits (x : Nat) (h0 : x ≠ 0) (hx : x < 18446744073709551616) : (∀ j, j < Lib.ctz 64 x → x.testBit j = false) ∧ x.testBit (Lib.ctz 64 x) = true ∧ Lib.ctz 64 x < 64 ∧ ∀ j, (x &&& (x - 1)).testBit j = (x.testBit j && decide (j ≠ Lib.ctz 64 x)) := by
 obtain ⟨m, hm, hk⟩ := Lib.ctzFrom_spec 64 x (by omega) hx
 have e : Lib.ctz 64 x = Lib.ctzFrom 64 x := by simp [Lib.ctz, h0]
 rw [e]
 generalize Lib.ctzFrom 64 x = k at *
 clear e
 have hp := Nat.two_pow_pos k
 have hx1 : x - 1 = 2 ^ k * (2 * m) + (2 ^ k - 1) := by rw [hm, Nat.mul_add, Nat.mul_one]; omega
 have t1 : ∀ j, x.testBit j = if j < k then false else (2 * m + 1).testBit (j - k) := fun j => by
  have := Nat.testBit_two_pow_mul_add (2 * m + 1) (b := 0) hp j
  rw [Nat.add_zero, ← hm] at this
  rw [this]
  simp
 have t2 : ∀ j, (x - 1).testBit j = if j < k then (2 ^ k - 1).testBit j else (2 * m).testBit (j - k) := fun j => by
  rw [hx1]
  exact Nat.testBit_two_pow_mul_add (2 * m) (b := 2 ^ k - 1) (by omega) j
 refine ⟨fun j hj => by rw [t1, if_pos hj], by rw [t1, if_neg (Nat.lt_irrefl _)]; simp, hk, fun j => ?_⟩
 rw [Nat.testBit_and, t1, t2]
 by_cases hj : j < k
 ·simp [hj]
 ·rw [if_neg hj, if_neg hj]
  by_cases hjk : j = k
  ·subst hjk; simp
  ·obtain ⟨i, rfl⟩ : ∃ i, j = k + (i + 1) := ⟨j - k - 1, by omega⟩
   have e1 : k + (i + 1) - k = i + 1 := by omega
   rw [e1, Nat.testBit_succ, Nat.testBit_succ]
   have e2 : (2 * m + 1) / 2 = m := by omega
   have e3 : 2 * m / 2 = m := by omega
   rw [e2, e3]
   simp
theorem bl_step (x : Nat) (h0 : x ≠ 0) (hx : x < 18446744073709551616) : bl x = Lib.ctz 64 x :: bl (x &&& (x - 1)) := by
 obtain ⟨h1, h2, h3, h4⟩ := low_bits x h0 hx
 unfold bl
 rw [fil_head 64 _ (fun j => x.testBit j) h3 h2 h1]
 congr 1
 refine List.filter_congr fun j _ => ?_
 rw [h4]
theorem bl_zero : bl 0 = [] := by
 unfold bl
 rw [List.filter_eq_nil_iff]
 simp
/-- the members of the first words -/
def msT (ws : List Nat) (a : Nat) : List Nat := (List.range a).flatMap fun i => (bl (ws.getD i 0)).map fun j => i * 64 + j
def ms (ws : List Nat) : List Nat := msT ws ws.length
theorem msT_up (ws : List Nat) (a : Nat) : msT ws (a + 1) = msT ws a ++ (bl (ws.getD a 0)).map fun j => a * 64 + j := by
 unfold msT
 rw [List.range_succ, List.flatMap_append]
 simp
theorem range_two (n r : Nat) : List.range (n + r) = List.range n ++ (List.range r).map fun i => n + i := by
 induction r with
 | zero => simp
 | succ r ih => rw [← Nat.add_assoc, List.range_succ, ih, List.range_succ, List.map_append]; simp
theorem msT_fil (ws : List Nat) (a : Nat) : msT ws a = (List.range (a * 64)).filter (fun k => mem ws k) := by
 induction a with
 | zero => rfl
 | succ a ih =>
  rw [msT_up, ih, Nat.succ_mul, range_two, List.filter_append, List.filter_map]
  congr 1
  unfold bl
  congr 1
  refine List.filter_congr fun j hj => ?_
  have hj' := List.mem_range.1 hj
  simp only [Function.comp, mem]
  have e1 : (a * 64 + j) / 64 = a := by omega
  have e2 : (a * 64 + j) % 64 = j := by omega
  rw [e1, e2, List.getD_eq_getElem?_getD]
/-- all members of a set of numbers below n -/
theorem ms_all (ws : List Nat) (n : Nat) (hn : n ≤ 64 * ws.length) (h : ∀ k, mem ws k = true → k < n) : ms ws = (List.range n).filter (fun k => mem ws k) := by
 unfold ms
 obtain ⟨r, hr⟩ : ∃ r, ws.length * 64 = n + r := ⟨ws.length * 64 - n, by omega⟩
 rw [msT_fil, hr, range_two, List.filter_append]
 have : ((List.range r).map fun i => n + i).filter (fun k => mem ws k) = [] := by
  rw [List.filter_eq_nil_iff]
  intro k hk hm
  obtain ⟨i, _, rfl⟩ := List.mem_map.1 hk
  have := h _ hm
  omega
 rw [this, List.append_nil]
theorem and_lt (x : Nat) (h : x ≠ 0) : x &&& (x - 1) < x := Nat.lt_of_le_of_lt Nat.and_le_right (by omega)

set_option maxHeartbeats 2000000 in
set_option maxRecDepth 100000 in
theorem members_tells (ws : List Nat) (n2 base : Nat) (v : Value) (w0 w : World) (B n : Nat) (hn : 1 ≤ n) (hset : IsSet w0 base v n2 ws) (hT : TabAt 0 Lib.deBruijn64tab w0) (h00 : 0 < w0.heap.size) (hw : Below w0.heap.size w0 w) (hB : w.heap[B]? = some (.cells #[v] 77 (0, 0))) (hlen : ws.length ≤ 281474976710656) :
  Tells Fence.wide n Tryd.prog 70 #[.pointer (some ⟨B, 0, none⟩)] (fun x : Nat => #[.int .i64 (x : Int)]) (fun pre x _ => pre ++ [x] <+: ms ws) (fun k => k < w0.heap.size ∨ k = B) (fun xs => xs = ms ws) w := by
 intro l J O₀ W hW hJ hO hY h0
 have BW : Below w0.heap.size w0 W := hw.trans (hW.mono hw.size)
 have p1 := cell_of_row _ _ 0 _ _ _ ((hW.block _ (Am.lt_at hB)).trans hB)
 obtain ⟨av, cv, rfl⟩ := Am.own_slice hset.1
 have HSE : Hid (IsSet w0 base (.slice av ws.length cv) n2 ws) := hset
 have HTA : Hid (TabAt 0 Lib.deBruijn64tab w0) := hT
 have HJ : Hid (∀ pre O A B, J pre O A → Below A.heap.size A B → J pre O B) := hJ
 have HO : Hid (∀ pre O A k, J pre O A → O k → ¬ (k < w0.heap.size ∨ k = B) ∧ k < A.heap.size) := hO
 have HYY : Hid (∀ pre O (x : Nat) A, J pre O A → pre ++ [x] <+: ms ws → YieldAt Fence.wide (n - 1) Tryd.prog l #[.int .i64 (x : Int)] A fun e B => e = .returned (.bool true) ∧ ∃ O', J (pre ++ [x]) O' B ∧ Kept O O' A B) := hY
 clear hset hT hJ hO hY hB
 show CallsIn Fence.wide n Tryd.prog 70 #[.func (.yield l) #[] #[], .pointer (some ⟨B, 0, none⟩)] W _
 refine callsIn_of_wp Tryd.func70 rfl trivial ?_ rfl
 simp only [Tryd.ntmps70, List.size_toArray, List.length_cons, List.length_nil, Nat.reduceAdd, Nat.reduceSub, Array.replicate_succ, Array.replicate_zero, List.push_toArray, List.append_toArray, List.nil_append, List.cons_append]
 gi_wp2
 gi_loopw [7] (fun i wr => ∃ (a : Nat) (O : Nat → Prop), i = .int .i64 a ∧ a ≤ ws.length ∧ J (msT ws a) O wr ∧ Below w0.heap.size w0 wr) (fun i _ => ws.length - (intOf i).toNat)
 case atStart => exact ⟨0, O₀, rfl, Nat.zero_le _, h0, BW⟩
 case round =>
  clear p1 h0 BW
  obtain ⟨a, O, rfl, ha, hJs, hBr⟩ := hrel
  have HJs : Hid (J (msT ws a) O wr) := hJs
  have HBr : Hid (Below w0.heap.size w0 wr) := hBr
  by_cases hlt : a < ws.length
  ·obtain ⟨g, cap, hv, _, hgl⟩ := Ps.own_some HSE.out.1 (by omega)
   cases hv
   have c0 := (hBr.cell (p := ⟨g, a, none⟩) hgl).trans (HSE.out.1.cellAt a (by omega))
   rw [show (cellsW ws)[a]? = some (.int .u64 ((ws[a] : Nat) : Int)) by simp [cellsW, hlt]] at c0
   have hx0 := HSE.out.2.1 _ (List.getElem_mem hlt)
   have HGA : Hid (ws.getD a 0 = ws[a]) := by show _ = _; rw [List.getD_eq_getElem?_getD, List.getElem?_eq_getElem hlt]; rfl
   obtain ⟨x0, hx0e⟩ : ∃ x, ws[a] = x := ⟨_, rfl⟩
   rw [hx0e] at c0 hx0
   have HGX : Hid (msT ws (a + 1) = msT ws a ++ (bl x0).map fun j => a * 64 + j) := by show _ = _; rw [msT_up, HGA.out, hx0e]
   have HX0 : Hid (x0 < 18446744073709551616) := hx0
   have HAL : Hid (∃ t, ms ws = msT ws (a + 1) ++ t) := by
    have : ∀ k, ∃ t, msT ws (a + 1 + k) = msT ws (a + 1) ++ t := fun k => by
     induction k with
     | zero => exact ⟨[], by simp⟩
     | succ k ih => obtain ⟨t, ht⟩ := ih; exact ⟨t ++ _, by rw [← Nat.add_assoc, msT_up, ht, List.append_assoc]⟩
    obtain ⟨k, hk⟩ : ∃ k, ws.length = a + 1 + k := ⟨ws.length - (a + 1), by omega⟩
    obtain ⟨t, ht⟩ := this k
    exact ⟨t, by unfold ms; rw [hk]; exact ht⟩
   clear hx0 hx0e HGA hJs hBr
   gi_wp2
   gi_loopw [4] (fun i wr => ∃ (x : Nat) (pre : List Nat) (O : Nat → Prop), i = .int .u64 x ∧ x < 18446744073709551616 ∧ J pre O wr ∧ Below w0.heap.size w0 wr ∧ pre ++ (bl x).map (fun j => a * 64 + j) = msT ws (a + 1)) (fun i _ => (intOf i).toNat)
   case atStart => exact ⟨x0, msT ws a, O, rfl, HX0.out, HJs.out, HBr.out, HGX.out.symm⟩
   case round =>
    clear HJs HBr HX0 c0
    obtain ⟨x, pre, O, rfl, hx, hJs, hBr, hpre⟩ := hrel
    have HJs : Hid (J pre O wr) := hJs
    have HBr : Hid (Below w0.heap.size w0 wr) := hBr
    by_cases hz : x = 0
    ·subst hz
     have HP : Hid (pre = msT ws (a + 1)) := by show _ = _; rw [← hpre, bl_zero]; simp
     clear hpre hJs hBr hx
     gi_wp2
     go_roundw
     case rel => exact ⟨a + 1, O, by go_num, hlt, by rw [← HP.out]; exact HJs.out, HBr.out⟩
     case measure => simp [intOf]; omega
    ·have hne : ((x : Int) != 0) = true := by simp; omega
     have hzz : ((x : Int) == 0) = false := by simp; omega
     have hb := bl_step x hz hx
     obtain ⟨_, _, hc64, _⟩ := low_bits x hz hx
     have KT := tz_any x hx hz wr (tab_below HTA.out h00 hBr)
     obtain ⟨c, hc⟩ : ∃ c, Lib.ctz 64 x = c := ⟨_, rfl⟩
     rw [hc] at hb hc64 KT
     obtain ⟨z, hze⟩ : ∃ z, z = a * 64 + c := ⟨_, rfl⟩
     have he : (a : Int) * 64 + (c : Int) = (z : Int) := by omega
     obtain ⟨x1, hx1⟩ : ∃ x1, x - 1 = x1 := ⟨_, rfl⟩
     obtain ⟨x2, hx2⟩ : ∃ x2, x &&& x1 = x2 := ⟨_, rfl⟩
     have hs1 : IntKind.u64.wrap ((x : Int) - 1) = (x1 : Int) := by rw [IntKind.wrap_u64]; omega
     have hs2 : bits .and .u64 (x : Int) (x1 : Int) = (x2 : Int) := by rw [bits_and_u64_nat x x1 hx (by omega), hx2]
     have HX2 : Hid (x2 < x) := by show _ < _; rw [← hx2, ← hx1]; exact and_lt x hz
     have HPR : Hid (pre ++ [z] ++ (bl x2).map (fun j => a * 64 + j) = msT ws (a + 1)) := by show _ = _; rw [← hpre, hb, hx1, hx2, hze]; simp
     have hL : pre ++ [z] <+: ms ws := by
      obtain ⟨t, ht⟩ := HAL.out
      exact ⟨(bl x2).map (fun j => a * 64 + j) ++ t, by rw [← List.append_assoc, HPR.out, ht]⟩
     obtain ⟨fn, tmps, assign, body, hy, hR⟩ := HYY.out pre O z wr hJs hL
     have HR : Hid _ := hR
     have hx64 : Hid (x < 18446744073709551616) := hx
     clear hpre hJs hBr hb hc hx1 hx2 hze hL hR hx hz
     gi_wp2_with (refine ⟨trivial, ?_⟩; gi_at_call 71; refine (callsIn_wide.2 KT).mono ?_; rintro e w1 ⟨rfl, hw1⟩; subst w1)
     refine RoundIn.mono HR.out ?_
     rintro e W4 ⟨rfl, O', hJ4, hk4⟩
     have HJ4 : Hid (J (pre ++ [z]) O' W4) := hJ4
     have HB4 : Hid (Below w0.heap.size w0 W4) := hk4.below HBr.out HBr.out.size (fun q hq h => (HO.out _ _ _ _ HJs.out h).1 (.inl hq))
     clear hJ4 hk4
     gi_wp2
     go_roundw
     case rel => exact ⟨x2, pre ++ [z], O', rfl, Nat.lt_trans HX2.out hx64.out, HJ4.out, HB4.out, HPR.out⟩
     case measure => have := HX2.out; simp [intOf]; omega
  ·obtain rfl : a = ws.length := by omega
   clear hJs hBr
   gi_wp2
   go_end0
   exact ⟨⟨_, rfl⟩, ms ws, O, rfl, HJs.out⟩
end Go.Proofs.YtfjocafepigijaaDoor.Za
/- couple.arcs: a function that hands on the arcs of a pair. Conditions: few states. -/
namespace Go.Proofs.YtfjocafepigijaaDoor.Cu
open Go.RowKit Mv Set Qp Sk Po Ps Wd Se Mp St Cm Nm Nx Ra Am Pa Tc
open CR (nc)

/-- what the function has captured -/
structure Bx (w : World) (bC bp bk bq C p k q : Nat) : Prop where
 c : w.heap[bC]? = some (.cells #[.pointer (some ⟨C, 0, none⟩)] 71 (0, 0))
 p : w.heap[bp]? = some (.cells #[.int .i64 (p : Int)] 3 (0, 0))
 k : w.heap[bk]? = some (.cells #[.int .i64 (k : Int)] 3 (0, 0))
 q : w.heap[bq]? = some (.cells #[.int .i64 (q : Int)] 3 (0, 0))
theorem bxA {V : World} {i j C p k q : Nat} (x2 : V.heap[i]? = some (.cells #[.pointer (some ⟨C, 0, none⟩)] 71 (0, 0))) (x3 : V.heap[j]? = some (.cells #[.int .i64 (k : Int)] 3 (0, 0))) (o1 o2 : Obj) (e1 : o1 = .cells #[.int .i64 (p : Int)] 3) (e2 : o2 = .cells #[.int .i64 (q : Int)] 3) : Bx ((V.alloc o1).alloc o2).drew i V.heap.size j (V.heap.size + 1) C p k q := by
 have s1 : (V.alloc o1).heap.size = V.heap.size + 1 := by simp
 refine ⟨?_, ?_, ?_, ?_⟩
 ·exact (heap_alloc_old _ _ (by rw [s1]; have := lt_at x2; omega)).trans ((heap_alloc_old _ _ (lt_at x2)).trans x2)
 ·exact (heap_alloc_old _ _ (by rw [s1]; omega)).trans (by rw [← e1]; exact heap_alloc_new V o1)
 ·exact (heap_alloc_old _ _ (by rw [s1]; have := lt_at x3; omega)).trans ((heap_alloc_old _ _ (lt_at x3)).trans x3)
 ·have := heap_alloc_new (V.alloc o1) o2
  rw [s1] at this
  exact this.trans (by rw [e2])
theorem bxB {V : World} {i j C p k q : Nat} (x2 : V.heap[i]? = some (.cells #[.pointer (some ⟨C, 0, none⟩)] 71 (0, 0))) (x3 : V.heap[j]? = some (.cells #[.int .i64 (k : Int)] 3 (0, 0))) (o1 o2 : Obj) (e1 : o1 = .cells #[.int .i64 (p : Int)] 3) (e2 : o2 = .cells #[.int .i64 (q : Int)] 3) : Bx ((V.alloc o2).alloc o1).drew i (V.heap.size + 1) j V.heap.size C p k q := by
 have s1 : (V.alloc o2).heap.size = V.heap.size + 1 := by simp
 refine ⟨?_, ?_, ?_, ?_⟩
 ·exact (heap_alloc_old _ _ (by rw [s1]; have := lt_at x2; omega)).trans ((heap_alloc_old _ _ (lt_at x2)).trans x2)
 ·have := heap_alloc_new (V.alloc o2) o1
  rw [s1] at this
  exact this.trans (by rw [e1])
 ·exact (heap_alloc_old _ _ (by rw [s1]; have := lt_at x3; omega)).trans ((heap_alloc_old _ _ (lt_at x3)).trans x3)
 ·exact (heap_alloc_old _ _ (by rw [s1]; omega)).trans (by rw [← e2]; exact heap_alloc_new V o2)
theorem Bx.on {w w' : World} {bC bp bk bq C p k q : Nat} (h : Bx w bC bp bk bq C p k q) (hb : Below w.heap.size w w') : Bx w' bC bp bk bq C p k q := ⟨(hb.block _ (lt_at h.c)).trans h.c, (hb.block _ (lt_at h.p)).trans h.p, (hb.block _ (lt_at h.k)).trans h.k, (hb.block _ (lt_at h.q)).trans h.q⟩
end Go.Proofs.YtfjocafepigijaaDoor.Cu
/- A region that draws its order whose last two operations wait for all others: the others by the plain laws, the last two inside the fence (a call of a loop's yield among them). -/
namespace Go.Proofs.YtfjocafepigijaaDoor.Ry
open Go.RowKit

variable {n : Nat} {P : Program} {Q : Exit → Act → World → Prop}
/-- a region that comes to its end, and how -/
def Fin (N : Act → World → Prop) (e : Exit) (a : Act) (w : World) : Prop := e = .normal ∧ N a w
theorem upon_wide {N : Act → World → Prop} {o : Oper} {a : Act} {K K' : Act → World → Prop} {r : Result Next} (hK : ∀ a w, K a w → K' a w) (h : o.upon P a K (Fin N) r) : o.uponIn Fence.wide n P a K' Q r := by
  cases r with
  | ok x w' =>
    cases x with
    | value v => exact hK _ _ h
    | skip => exact hK _ _ h
    | defer d => exact hK _ _ h
    | enter f args =>
      refine ⟨(fun h => by cases h), callsIn_wide.2 (Calls.mono h fun e w'' he => ?_)⟩
      cases e with
      | returned v => exact hK _ _ he
      | panicked c => exact absurd he.1 (by simp)
      | outgrown => obtain ⟨_, _, he⟩ := he; exact absurd he.1 (by simp)
    | row row args =>
      refine ⟨(fun h => by cases h), fun c cs _ => ?_⟩
      obtain ⟨v, w2, r, s⟩ := h c cs
      exact ⟨v, w2, hK _ _ r, stepsIn_wide.2 s⟩
    | _ => exact h.elim
  | halt x w' => cases x <;> first | exact absurd h.1 (by simp) | exact h.elim

def aft (ops : Array Oper) (j : Nat) : List Edge := (ops[j]?.map (·.after.toList)).getD []
def rd (ops : Array Oper) (l : List Bool) (i : Nat) : Bool := !l.getD i true && ((ops[i]?).map (·.after.all fun e => !Region.binds .any e || l.getD e.on false)).getD false
theorem ready_rd (ops : Array Oper) (l : List Bool) : Region.ready .any ops l.toArray = (List.range ops.size).filter (rd ops l) := by
  unfold Region.ready rd
  congr 1
  funext i
  simp
def Good (ops : Array Oper) (l : List Bool) : Prop := ∀ i, l.getD i false = true → ∀ e ∈ aft ops i, Region.binds .any e = true → l.getD e.on false = true
/-- whoever is waited for stands ahead; each of the first m is waited for by a later one, and the last by the one ahead of him; no guards, nothing deferred -/
def low (ops : Array Oper) (m : Nat) : Bool := (List.range m).all fun i => (aft ops i).all fun e => decide (e.on < i)
def cov (ops : Array Oper) (m : Nat) : Bool := (List.range m).all fun i => (List.range (m + 1)).any fun j => decide (i < j) && (aft ops j).any fun e => Region.binds .any e && decide (e.on = i)
def last (ops : Array Oper) (m : Nat) : Bool := (aft ops (m + 1)).any fun e => Region.binds .any e && decide (e.on = m)
def mild (ops : Array Oper) (m : Nat) : Bool := (List.range m).all fun i => match ops[i]? with
  | some o => o.guard.isNone && (match o.op with
    | .defer _ => false
    | _ => true)
  | none => false
theorem rd_true {ops : Array Oper} {l : List Bool} {i : Nat} (h : rd ops l i = true) : ∀ e ∈ aft ops i, Region.binds .any e = true → l.getD e.on false = true := by
  intro e he hb
  unfold rd at h
  unfold aft at he
  cases ho : ops[i]? with
  | none => rw [ho] at he; simp at he
  | some o =>
    rw [ho] at h he
    simp only [Option.map_some, Option.getD_some, Bool.and_eq_true] at h he
    have := Array.all_eq_true'.1 h.2 e (Array.mem_toList_iff.1 he)
    rw [hb] at this
    simpa using this
theorem all_of {ops : Array Oper} {m : Nat} {l : List Bool} (hl : l.length = m) (hc : cov ops m = true) (hg : Good ops l) (hr : rd ops (l ++ [false, false]) m = true) : ∀ d i, m - i = d → i < m → l.getD i false = true := by
  have ga : ∀ i, i < m → (l ++ [false, false]).getD i false = l.getD i false := fun i hi => by rw [List.getD_eq_getElem?_getD, List.getD_eq_getElem?_getD, List.getElem?_append_left (by omega)]
  intro d
  induction d using Nat.strongRecOn with
  | _ d ih =>
    intro i hd hi
    have h1 := List.all_eq_true.1 hc i (List.mem_range.2 hi)
    obtain ⟨j, hj, h2⟩ := List.any_eq_true.1 h1
    simp only [Bool.and_eq_true, decide_eq_true_eq] at h2
    obtain ⟨hij, h3⟩ := h2
    obtain ⟨e, he, h4⟩ := List.any_eq_true.1 h3
    simp only [Bool.and_eq_true, decide_eq_true_eq] at h4
    obtain ⟨hb, heq⟩ := h4
    have hjm := List.mem_range.1 hj
    rcases Nat.lt_or_ge j m with hlt | hge
    · have := hg j (ih (m - j) (by omega) j rfl hlt) e he hb
      rw [heq] at this
      exact this
    · obtain rfl : j = m := by omega
      have := rd_true hr e he hb
      rw [heq, ga i hi] at this
      exact this
theorem take_get {ops : Array Oper} {m i : Nat} (hi : i < m) : ((ops.toList.take m).toArray)[i]? = ops[i]? := by simp [hi]
theorem take_size {ops : Array Oper} {m : Nat} (h : ops.size = m + 2) : (ops.toList.take m).toArray.size = m := by simp [h]
theorem rd_low {ops : Array Oper} {m : Nat} {l : List Bool} (hl : l.length = m) (hlow : low ops m = true) {i : Nat} (hi : i < m) : rd ops (l ++ [false, false]) i = rd (ops.toList.take m).toArray l i := by
  have ga : ∀ i b, i < m → (l ++ [false, false]).getD i b = l.getD i b := fun i b hi => by rw [List.getD_eq_getElem?_getD, List.getD_eq_getElem?_getD, List.getElem?_append_left (by omega)]
  unfold rd
  rw [take_get hi, ga i true hi]
  congr 1
  have h1 := List.all_eq_true.1 hlow i (List.mem_range.2 hi)
  unfold aft at h1
  cases ho : ops[i]? with
  | none => rfl
  | some o =>
    rw [ho] at h1
    simp only [Option.map_some, Option.getD_some] at h1 ⊢
    rw [← Array.all_toList, ← Array.all_toList]
    have h2 := List.all_eq_true.1 h1
    have key : ∀ L : List Edge, (∀ e ∈ L, decide (e.on < i) = true) → L.all (fun e => !Region.binds .any e || (l ++ [false, false]).getD e.on false) = L.all (fun e => !Region.binds .any e || l.getD e.on false) := by
      intro L
      induction L with
      | nil => intro _; rfl
      | cons e L ih =>
        intro hL
        rw [List.all_cons, List.all_cons, ih (fun e he => hL e (List.mem_cons_of_mem _ he)), ga e.on false (by have := hL e List.mem_cons_self; simp at this; omega)]
    exact key _ h2
theorem ready_eq {ops : Array Oper} {m : Nat} {l : List Bool} (hs : ops.size = m + 2) (hl : l.length = m) (hlow : low ops m = true) (hc : cov ops m = true) (hla : last ops m = true) (hg : Good ops l) (hne : l ≠ List.replicate m true) :
    Region.ready .any ops (l ++ [false, false]).toArray = Region.ready .any (ops.toList.take m).toArray l.toArray := by
  rw [ready_rd, ready_rd, hs, take_size hs, List.range_succ, List.range_succ, List.filter_append, List.filter_append]
  have e1 : rd ops (l ++ [false, false]) m = false := by
    cases h : rd ops (l ++ [false, false]) m with
    | false => rfl
    | true =>
      refine absurd ?_ hne
      refine List.ext_getElem (by simp [hl]) fun i h1 h2 => ?_
      have := all_of hl hc hg h _ i rfl (by omega)
      rw [List.getD_eq_getElem?_getD, List.getElem?_eq_getElem h1] at this
      simpa using this
  have e2 : rd ops (l ++ [false, false]) (m + 1) = false := by
    cases h : rd ops (l ++ [false, false]) (m + 1) with
    | false => rfl
    | true =>
      obtain ⟨e, he, h4⟩ := List.any_eq_true.1 hla
      simp only [Bool.and_eq_true, decide_eq_true_eq] at h4
      have := rd_true h e he h4.1
      rw [h4.2, List.getD_eq_getElem?_getD, List.getElem?_append_right (by omega), hl] at this
      simp at this
  rw [show [m].filter (rd ops (l ++ [false, false])) = [] by simp [e1], show [m + 1].filter (rd ops (l ++ [false, false])) = [] by simp [e2], List.append_nil, List.append_nil]
  exact List.filter_congr fun i hi => rd_low hl hlow (List.mem_range.1 hi)
theorem count_set {l : List Bool} {i : Nat} (h : l[i]? = some false) : (l.set i true).count false + 1 = l.count false := by
  induction l generalizing i with
  | nil => simp at h
  | cons b l ih =>
    cases i with
    | zero =>
      simp only [List.getElem?_cons_zero, Option.some.injEq] at h
      subst h
      simp
    | succ i =>
      have := ih (i := i) (by simpa using h)
      simp only [List.set_cons_succ, List.count_cons]
      omega
theorem all_true {l : List Bool} {m : Nat} (hl : l.length = m) (h : l.count false = 0) : l = List.replicate m true := by
  refine List.ext_getElem (by simp [hl]) fun i h1 h2 => ?_
  have := List.count_eq_zero.1 h
  cases hi : l[i] with
  | true => simp
  | false => exact absurd (by rw [← hi]; exact List.getElem_mem h1) this
theorem Good.put {ops : Array Oper} {m : Nat} {l : List Bool} (hl : l.length = m) (hg : Good ops l) {i : Nat} (hi : i < m) (hr : rd (ops.toList.take m).toArray l i = true) : Good ops (l.set i true) := by
  have gs : ∀ j, (l.set i true).getD j false = if j = i then true else l.getD j false := fun j => by
    simp only [List.getD_eq_getElem?_getD, List.getElem?_set]
    by_cases e : i = j
    · subst e; simp [hl, hi]
    · rw [if_neg e, if_neg (fun h => e h.symm)]
  have hrt : ∀ e ∈ aft ops i, Region.binds .any e = true → l.getD e.on false = true := fun e he => by
    refine rd_true hr e ?_
    unfold aft at he ⊢
    rw [take_get hi]
    exact he
  intro j hj e he hb
  rw [gs] at hj ⊢
  by_cases hji : j = i
  · subst hji
    have := hrt e he hb
    split
    · rfl
    · exact this
  · rw [if_neg hji] at hj
    have := hg j hj e he hb
    split
    · rfl
    · exact this
theorem split_y {N : Act → World → Prop} {ops : Array Oper} (m : Nat) (hs : ops.size = m + 2) (hlow : low ops m = true) (hc : cov ops m = true) (hla : last ops m = true) (hmi : mild ops m = true)
    (hfin : ∀ a w, N a w → wpAnyIn Fence.wide n P .any ops Q 2 (List.replicate m true ++ [false, false]).toArray a w) :
    ∀ (fuel : Nat) (l : List Bool) (a : Act) (w : World), l.length = m → Good ops l → l.count false = fuel → wpAny P .any (ops.toList.take m).toArray (Fin N) fuel l.toArray a w → wpAnyIn Fence.wide n P .any ops Q (fuel + 2) (l ++ [false, false]).toArray a w := by
  intro fuel
  induction fuel with
  | zero =>
    intro l a w hl _ hct h
    rw [all_true hl hct]
    exact hfin a w h.2.2
  | succ fuel ih =>
    intro l a w hl hgo hct h
    have hne : l ≠ List.replicate m true := fun e => by rw [e] at hct; simp [List.count_replicate] at hct
    have hr := ready_eq hs hl hlow hc hla hgo hne
    have hrn : Region.ready .any (ops.toList.take m).toArray l.toArray ≠ [] := fun e => by
      have := (h.1 e).2
      have h2 := hfin a w this
      -- not all have come up, and none can: the last ones wait
      exact absurd (h.1 e) (fun _ => by
        refine hne ?_
        refine List.ext_getElem (by simp [hl]) fun i h1 h2 => ?_
        have hk : ∀ i, i < m → l.getD i false = true := by
          intro i
          induction i using Nat.strongRecOn with
          | _ i ih2 =>
            intro hi
            cases hli : l.getD i false with
            | true => rfl
            | false =>
              have hrd : rd (ops.toList.take m).toArray l i = true := by
                unfold rd
                have hm1 := List.all_eq_true.1 hmi i (List.mem_range.2 hi)
                have hlo := List.all_eq_true.1 hlow i (List.mem_range.2 hi)
                rw [take_get hi]
                unfold aft at hlo
                cases ho : ops[i]? with
                | none => rw [ho] at hm1; cases hm1
                | some o =>
                  rw [ho] at hlo
                  simp only [Option.map_some, Option.getD_some] at hlo ⊢
                  have hlt : l.getD i true = false := by
                    rw [List.getD_eq_getElem?_getD, List.getElem?_eq_getElem (show i < l.length by omega)] at hli ⊢
                    simpa using hli
                  rw [hlt]
                  simp only [Bool.not_false, Bool.true_and]
                  rw [← Array.all_toList]
                  refine List.all_eq_true.2 fun e he => ?_
                  have := List.all_eq_true.1 hlo e he
                  rw [ih2 e.on (by simpa using this) (by have : e.on < i := by simpa using this
                                                         omega)]
                  simp
              rw [ready_rd, take_size hs] at e
              have := List.filter_eq_nil_iff.1 e i (List.mem_range.2 hi)
              exact absurd hrd this
        have := hk i (by omega)
        rw [List.getD_eq_getElem?_getD, List.getElem?_eq_getElem h1] at this
        simpa using this)
    refine ⟨fun e => absurd (hr.symm.trans e) hrn, fun i hi => ?_⟩
    rw [hr] at hi
    have hi2 := hi
    rw [ready_rd, take_size hs] at hi2
    obtain ⟨him, hrd⟩ := List.mem_filter.1 hi2
    have him := List.mem_range.1 him
    have hw := h.2 i hi
    have hm1 := List.all_eq_true.1 hmi i (List.mem_range.2 him)
    have hif : l[i]? = some false := by
      unfold rd at hrd
      simp only [Bool.and_eq_true] at hrd
      have := hrd.1
      rw [List.getD_eq_getElem?_getD, List.getElem?_eq_getElem (show i < l.length by omega)] at this
      rw [List.getElem?_eq_getElem (show i < l.length by omega)]
      simpa using this
    unfold wpOp at hw
    unfold wpOpIn
    rw [take_get him] at hw
    cases hoi : ops[i]? with
    | none => rw [hoi] at hm1; cases hm1
    | some o =>
      rw [hoi] at hm1 hw
      dsimp only at hm1 hw ⊢
      simp only [Bool.and_eq_true] at hm1
      have hgn : o.guard = none := by
        cases e : o.guard with
        | none => rfl
        | some x => rw [e] at hm1; simp at hm1
      have hnd : ∀ c, o.op ≠ .defer c := fun c e => by rw [e] at hm1; simp at hm1
      rw [if_pos (by simp [Region.wanted, hgn])] at hw ⊢
      rcases hw with hw | hw
      · refine ⟨fun _ _ => trivial, ?_⟩
        rw [Oper.semAt_plain _ _ _ hnd]
        refine upon_wide (fun a' w' h' => ?_) hw
        have e1 : l.toArray.setIfInBounds i true = (l.set i true).toArray := by simp
        have e2 : (l ++ [false, false]).toArray.setIfInBounds i true = (l.set i true ++ [false, false]).toArray := by
          rw [List.setIfInBounds_toArray, List.set_append_left _ _ (by omega)]
        rw [e2]
        rw [e1] at h'
        exact ih (l.set i true) a' w' (by simpa using hl) (hgo.put hl him hrd) (by have := count_set hif; omega) h'
      · obtain ⟨_, _, he⟩ := hw.2
        exact absurd he.1 (by simp)
/-- THE LAW: the first m operations by the plain laws; behind them the last two, inside the fence -/
theorem region_y {S : World → Prop} {ops : Array Oper} {id : Nat} {a : Act} {w : World} (m : Nat) (hf : P.follows .mixedOrders = true) (hs : ops.size = m + 2) (hlow : low ops m = true) (hc : cov ops m = true) (hla : last ops m = true) (hmi : mild ops m = true) (hS : S w.drew)
    (h : S w.drew → wpAnyH P .any (ops.toList.take m).toArray (Fin fun a w => wpAnyIn Fence.wide n P .any ops Q 2 (List.replicate m true ++ [false, false]).toArray a w) S m (List.replicate m false).toArray a w.drew) : (Code.region id ops true).wpIn Fence.wide n P Q a w := by
  refine wpIn_region_any hf ?_
  rw [hs]
  have e : Array.replicate (m + 2) false = (List.replicate m false ++ [false, false]).toArray := by
    apply Array.ext'
    rw [show [false, false] = List.replicate 2 false from rfl, List.replicate_append_replicate]
    simp
  rw [e]
  refine split_y m hs hlow hc hla hmi (fun a w h => h) m (List.replicate m false) a _ (by simp) (fun i hi => ?_) (by simp) (wpAny_of_held _ _ _ _ (h hS))
  rw [List.getD_eq_getElem?_getD, List.getElem?_replicate] at hi
  split at hi <;> cases hi
end Go.Proofs.YtfjocafepigijaaDoor.Ry
