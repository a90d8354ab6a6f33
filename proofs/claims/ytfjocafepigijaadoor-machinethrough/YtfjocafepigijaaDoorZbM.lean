/- A region that draws its order, inside a round of a range over a function: out of the plain laws on all orders. -/
import Derived.Test.YtfjocafepigijaaDoorRyM
import Derived.OrdersHeld
import Derived.OwnWalkIn
import Derived.OrdersIn
import Derived.Deep.RegionHeld3
import Derived.Maps.AppendAt
import Derived.Maps.OwnIn
namespace Go.Proofs.YtfjocafepigijaaDoor.Rii
open Go.RowKit

variable {l n : Nat} {P : Program} {ops : Array Oper} {Q : Exit → Act → World → Prop} {md : Region.Mode}

theorem upon_in {o : Oper} {a : Act} {K : Act → World → Prop} {r : Result Next} (h : o.upon P a K Q r) : o.uponIn (Fence.wide.inRound l) n P a K Q r := by
 cases r with
 | ok x w' =>
  cases x with
  | value v => exact h
  | skip => exact h
  | defer d => exact h
  | enter f args =>
   refine ⟨(fun h => by cases h), ?_⟩
   refine CallsIn.inRound l ?_
   refine callsIn_wide.2 ?_
   exact Calls.mono h fun e w'' he => by cases e <;> exact he
  | row row args =>
   refine ⟨(fun h => by cases h), fun c cs _ => ?_⟩
   obtain ⟨v, w2, r, s⟩ := h c cs
   exact ⟨v, w2, r, stepsIn_wide.2 s⟩
  | _ => exact h.elim
 | halt x w' => cases x <;> exact h

/-- operations that are no defer -/
def Mild (ops : Array Oper) : Prop := ∀ (i : Nat) (o : Oper), ops[i]? = some o → ∀ c, o.op ≠ .defer c

def noDefer (o : Oper) : Bool := match o.op with
 | .defer _ => false
 | _ => true
theorem mild_of {ops : Array Oper} (h : ops.toList.all noDefer = true) : Mild ops := by
 intro i o ho c hc
 have hm : o ∈ ops.toList := by
  rw [Array.getElem?_eq_some_iff] at ho
  obtain ⟨hi, rfl⟩ := ho
  exact Array.mem_toList_iff.2 (Array.getElem_mem hi)
 have := List.all_eq_true.1 h o hm
 unfold noDefer at this
 rw [hc] at this
 cases this

theorem op_in (hm : Mild ops) (hQ : ¬ LetsOut Q) {i : Nat} {K K' : Act → World → Prop} (hK : ∀ a w, K a w → K' a w) {a : Act} {w : World} (h : wpOp P ops Q i K a w) : wpOpIn (Fence.wide.inRound l) n P ops Q i K' a w := by
 unfold wpOp at h
 unfold wpOpIn
 cases ho : ops[i]? with
 | none => rw [ho] at h; exact hK _ _ h
 | some o =>
  rw [ho] at h
  dsimp only at h ⊢
  have m1 := hm i o ho
  split
  ·rename_i hw
   rw [if_pos hw] at h
   rcases h with h | h
   ·refine ⟨fun _ _ => trivial, ?_⟩
    rw [Oper.semAt_plain _ _ _ m1]
    exact upon_in (Oper.wp_mono hK h)
   ·exact absurd h.2 hQ
  ·rename_i hw
   rw [if_neg hw] at h
   exact ⟨fun _ _ => trivial, hK _ _ h⟩
theorem any_in (hm : Mild ops) (hQ : ¬ LetsOut Q) : ∀ (fuel : Nat) (listed : Array Bool) (a : Act) (w : World), wpAny P md ops Q fuel listed a w → wpAnyIn (Fence.wide.inRound l) n P md ops Q fuel listed a w
 | 0, _, _, _, h => h
 | fuel + 1, _, _, _, h => ⟨h.1, fun i hi => op_in hm hQ (fun a' w' h' => any_in hm hQ fuel _ a' w' h') (h.2 i hi)⟩
theorem region_in {S : World → Prop} {id : Nat} {a : Act} {w : World} (hf : P.follows .mixedOrders = true) (hm : Mild ops) (hQ : ¬ LetsOut Q) (hS : S w.drew)
  (h : S w.drew → wpAnyH P .any ops Q S ops.size (Array.replicate ops.size false) a w.drew) : (Code.region id ops true).wpIn (Fence.wide.inRound l) n P Q a w :=
 wpIn_region_any hf (any_in hm hQ _ _ _ _ (wpAny_of_held _ _ _ _ (h hS)))

/-- an operation is taken first -/
theorem take_at {S : World → Prop} (i d : Nat) (v : Value) {ts : Array Value} {ds : List Deferred} {oi : Oper} {fuel : Nat} {listed : Array Bool} {w : World} (hi : ops[i]? = some oi) (hd : oi.dst = some d) (hg : oi.guard = none)
  (hs : Region.noSelect ops = true) (hf : Region.free md ops listed i = true) (hr : (Region.ready md ops listed).contains i = true) (hQ : ∀ c a w, ¬ Q (.panic c) a w)
  (hy : ∀ w, S w → (execOp (Act.eval ⟨ts, ds⟩) oi).run P w = .ok (.value v) w) (hS : S w)
  (h : wpAnyH P md ops Q S fuel (listed.setIfInBounds i true) ⟨ts.setIfInBounds d v, ds⟩ w) : wpAnyH P md ops Q S (fuel + 1) listed ⟨ts, ds⟩ w := by
 refine wpAnyH_take (v := v) hi hs hf hr (fun c a w h => absurd h (hQ c _ w)) (Or.inl ⟨by simp [Region.wanted, hg], hy⟩) hS ?_
 rw [hd]
 exact h
/-- how an operation comes out that yields a value, or nothing -/
theorem op_value {ts : Array Value} {ds : List Deferred} {o : Oper} {w w' : World} {K : Act → World → Prop} (v : Value) (d : Nat) (hd : o.dst = some d) (hrun : (execOp (Act.eval ⟨ts, ds⟩) o).run P w = .ok (.value v) w') (h : K ⟨ts.setIfInBounds d v, ds⟩ w') : o.wp P ⟨ts, ds⟩ w K Q := by
 unfold Oper.wp
 rw [hrun]
 show K (Act.put _ o.dst v) w'
 rw [hd]
 exact h
theorem op_skip {ts : Array Value} {ds : List Deferred} {o : Oper} {w w' : World} {K : Act → World → Prop} (hd : o.dst = none) (hrun : (execOp (Act.eval ⟨ts, ds⟩) o).run P w = .ok .skip w') (h : K ⟨ts, ds⟩ w') : o.wp P ⟨ts, ds⟩ w K Q := by
 unfold Oper.wp
 rw [hrun]
 show K (Act.put _ o.dst undef) w'
 rw [hd]
 exact h
/-- one operation alone may come up -/
theorem one_at {S : World → Prop} (i : Nat) {o : Oper} {a : Act} {fuel : Nat} {listed : Array Bool} {w : World} (hr : Region.ready md ops listed = [i]) (hi : ops[i]? = some o) (hg : o.guard = none)
  (h : o.wp P a w (fun a' w' => S w' ∧ wpAnyH P md ops Q S fuel (listed.setIfInBounds i true) a' w') Q) : wpAnyH P md ops Q S (fuel + 1) listed a w := by
 refine wpAnyH_all hr (by simp) fun j hj => ?_
 simp only [List.mem_singleton] at hj
 subst hj
 unfold wpOp
 rw [hi]
 dsimp only
 rw [if_pos (by simp [Region.wanted, hg])]
 exact .inl h
end Go.Proofs.YtfjocafepigijaaDoor.Rii
/- A range over a function, as in Rf, by a body that may turn its own loop variable's box. -/
namespace Go.Proofs.YtfjocafepigijaaDoor.Rf
open Go.RowKit

/-- what lay ahead of the round lies as it lay, but for what is one's own -/
structure KeptTo (n0 : Nat) (O O' : Nat → Prop) (A B : World) : Prop where
 os : B.os = A.os
 tape : B.tape = A.tape
 output : B.output = A.output
 size : A.heap.size ≤ B.heap.size
 block : ∀ k, k < n0 → ¬ O k → ¬ O' k ∧ B.heap[k]? = A.heap[k]?
/-- how a round ends -/
def Ends3 (n0 : Nat) (O : Nat → Prop) (A : World) (p : (Nat → Prop) → World → Prop) : Exit → Act → World → Prop
 | .normal, _, B => ∃ O', KeptTo n0 O O' A B ∧ p O' B
 | .ret, _, _ => False
 | .exit _, _, _ => False
 | .goto _, _, _ => False
 | .panic _, _, _ => False
 | .outgrown, _, _ => False

variable {F : Fence} {n : Nat} {P : Program}

theorem range_tells3 {α : Type} {g : Operand} {ps : Array Tmp} {assign body : Code} {Q : Exit → Act → World → Prop} {a : Act} {w : World}
  (hro : F.round = none) (h1 : 1 ≤ n) {gf : Nat} {lb : Array Value} (hg : a.eval g = .func (.func gf) #[] lb) (hFg : F.fn gf) (eg : ∀ args w, (callFunc gf args).run P w = .ok (.enter gf args) w)
  {encs : α → Array Value} {L : List α → α → World → Prop} {X : Nat → Prop} {S : List α → Prop} {w0 : World} (hseq : Tells F (n - 1) P gf lb encs L X S w0) (hb0 : Below w0.heap.size w0 w) (hX : ∀ k, X k → k < w.heap.size) (hps : ∀ x, (encs x).size = ps.size)
  (I : List α → (Nat → Prop) → World → Prop) (hI : ∀ pre O A B, I pre O A → IsRec (w.heap.size + 1) A → Past (w.heap.size + 1) A B → I pre O B)
  (hO : ∀ pre O A k, I pre O A → O k → ¬ X k ∧ k < A.heap.size ∧ k ≠ w.heap.size ∧ k ≠ w.heap.size + 1)
  (O₀ : Nat → Prop) (h0 : ∀ A, Below w.heap.size w A → I [] O₀ A)
  (hround : ∀ pre O x A, w.heap.size + 2 ≤ A.heap.size → IsRec (w.heap.size + 1) A → I pre O A → L pre x A → ∃ a₁ B,
   (∀ K : Act → World → Prop, K a₁ B → assign.wpIn (F.inRound (w.heap.size + 1)) (n - 1 - 1) P (Exit.then K (fun _ _ _ => False)) { tmps := (ps.zip (encs x)).foldl (fun t (p, v) => t.setIfInBounds p v) a.tmps, defers := [] } A) ∧
   Below A.heap.size A B ∧
   ∀ r, body.wpIn (F.inRound (w.heap.size + 1)) (n - 1 - 1) P (Ends3 A.heap.size O (B.putObj (w.heap.size + 1) (.loop r)) (I (pre ++ [x]))) a₁ (B.putObj (w.heap.size + 1) (.loop r)))
  (hdone : ∀ xs O A, w.heap.size + 2 ≤ A.heap.size → S xs → I xs O A → A.heap[w.heap.size]? = some (.deferred (some [])) → Q .normal { a with defers := { target := .collected w.heap.size, args := #[] } :: a.defers } A) :
  (Code.rangeFunc g ps assign body).wpIn F n P Q a w := by
 refine wpIn_rangeFunc ?_
 intro fn hfn
 rw [hro]
 obtain ⟨r0, hr0⟩ : ∃ r0 : Loop, r0 = { state := .ready, pending := none, fn, tmps := a.tmps, params := ps, assign, body, defers := w.heap.size } := ⟨_, rfl⟩
 obtain ⟨V, hV⟩ : ∃ V, (w.alloc (.deferred (some []))).alloc (.loop r0) = V := ⟨_, rfl⟩
 have hB : Below w.heap.size w V := by rw [← hV]; exact ((Below.refl _ w).alloc (Nat.le_refl _) _).alloc (by simp) _
 have hrec : V.heap[w.heap.size + 1]? = some (.loop r0) := by
  have := World.alloc_heap_new (w.alloc (.deferred (some []))) (.loop r0)
  rw [World.size_alloc] at this
  rw [← hV]
  exact this
 have hdef : V.heap[w.heap.size]? = some (.deferred (some [])) := by
  rw [← hV]
  exact (Below.heap_alloc _ _ _ (by simp)).trans (World.alloc_heap_new w _)
 have hready : r0.state = .ready := by rw [hr0]
 have hpend : r0.pending = none := by rw [hr0]
 refine ⟨w.heap.size + 1, [{ target := .collected w.heap.size, args := #[] }], V, { target := .fn (.func gf) lb, args := #[.func (.yield (w.heap.size + 1)) #[] #[]] }, V, gf, #[.func (.yield (w.heap.size + 1)) #[] #[]] ++ lb, V, ?_, ?_, ?_, ?_, fun _ => h1, ?_⟩
 ·rw [← hV, hr0]
  exact run_enterLoop_outer _ _ _ _ _
 ·simp only [resolve, hg]
  simp [go_sem]
 ·intro f' hf'
  simp [Target.leads] at hf'
  subst hf'
  exact hFg
 ·simp [invoke, go_sem, eg]
 have hst : ∀ r : Loop, r = r0 → { { r with state := LoopState.busy } with state := LoopState.ready, pending := none } = r0 := by
  rintro r rfl
  rw [hr0]
 refine (hseq (w.heap.size + 1) (fun pre O A => (∃ O1, (O = fun k => O1 k ∨ k = w.heap.size + 1) ∧ I pre O1 A) ∧ A.heap[w.heap.size + 1]? = some (.loop r0) ∧ A.heap[w.heap.size]? = some (.deferred (some []))) (fun k => O₀ k ∨ k = w.heap.size + 1) V
  (hb0.trans (hB.mono hb0.size)) ?_ ?_ ?_ ⟨⟨O₀, rfl, h0 _ hB⟩, hrec, hdef⟩).mono ?_
 ·rintro pre O A B ⟨⟨O1, hO1, hi⟩, hl, hd⟩ hAB
  have hlt := (Array.getElem?_eq_some_iff.1 hl).1
  exact ⟨⟨O1, hO1, hI pre O1 A B hi ⟨_, hl⟩ (.of_below hAB)⟩, (hAB.block _ hlt).trans hl, (hAB.block _ (by omega)).trans hd⟩
 ·rintro pre O A k ⟨⟨O1, rfl, hi⟩, hl, hd⟩ (hk | rfl)
  ·exact ⟨(hO pre O1 A k hi hk).1, (hO pre O1 A k hi hk).2.1⟩
  ·exact ⟨fun h => absurd (hX _ h) (by omega), (Array.getElem?_eq_some_iff.1 hl).1⟩
 ·rintro pre O x A ⟨⟨O1, rfl, hi⟩, hl, hd⟩ hx
  have hlt := (Array.getElem?_eq_some_iff.1 hl).1
  obtain ⟨a₁, B, has, hAB, hbd⟩ := hround pre O1 x A (by omega) ⟨_, hl⟩ hi hx
  have hy := run_yield (P := P) (args := encs x) hl (by rw [hr0]; exact hps x)
  rw [show r0.fn = fn by rw [hr0], show r0.params = ps by rw [hr0], show r0.tmps = a.tmps by rw [hr0], show r0.assign = assign by rw [hr0], show r0.body = body by rw [hr0]] at hy
  refine ⟨fn, _, assign, body, hy, roundIn_of_wpIn hfn (has _ ?_)⟩
  have hlB : B.heap[w.heap.size + 1]? = some (.loop r0) := (hAB.block _ hlt).trans hl
  have hdB : B.heap[w.heap.size]? = some (.deferred (some [])) := (hAB.block _ (by omega)).trans hd
  have hltB := (Array.getElem?_eq_some_iff.1 hlB).1
  refine ⟨_, run_beginRound hlB hready, ?_⟩
  refine wpIn_mono (hbd _) ?_
  intro e a3 C hp
  cases e with
  | normal =>
   obtain ⟨O', hkp, hi3⟩ := hp
   have hP := Past.put (w.heap.size + 1) B (.loop { r0 with state := .busy })
   have hsz := hP.size
   have e1 := (hkp.block w.heap.size (by omega) (fun h => (hO _ _ _ _ hi h).2.2.1 rfl)).2
   have e2 := (hkp.block (w.heap.size + 1) (by omega) (fun h => (hO _ _ _ _ hi h).2.2.2 rfl)).2
   rw [World.putObj_heap_other (by omega), hdB] at e1
   rw [World.putObj_heap_same hltB] at e2
   have hltC := (Array.getElem?_eq_some_iff.1 e2).1
   have hend := run_endRound (P := P) none e2
   refine ⟨_, _, hend, rfl, fun k => O' k ∨ k = w.heap.size + 1, ⟨⟨O', rfl, hI _ _ C _ hi3 ⟨_, e2⟩ (.put _ _ _)⟩, ?_, ?_⟩, ?_⟩
   ·rw [World.putObj_heap_same hltC]
    simp only [Option.isNone_none, if_true]
    rw [hst r0 rfl]
   ·rw [World.putObj_heap_other (by omega)]
    exact e1
   ·have hQ := Past.put (w.heap.size + 1) C (.loop { { r0 with state := .busy } with state := if (none : Option Code).isNone then .ready else .done, pending := none })
    have hs1 := hAB.size
    have hs2 := hkp.size
    refine ⟨hQ.os.trans (hkp.os.trans (hP.os.trans hAB.os)), hQ.tape.trans (hkp.tape.trans (hP.tape.trans hAB.tape)), hQ.output.trans (hkp.output.trans (hP.output.trans hAB.output)), Nat.le_trans hs1 (Nat.le_trans hsz (Nat.le_trans hs2 hQ.size)), fun k hk hno => ?_⟩
    simp only [not_or] at hno ⊢
    obtain ⟨h1, h2⟩ := hkp.block k hk hno.1
    exact ⟨⟨h1, hno.2⟩, (hQ.block k (by omega) hno.2).trans (h2.trans ((hP.block k (by omega) hno.2).trans (hAB.block k hk)))⟩
  | ret => exact hp.elim
  | exit id => exact hp.elim
  | goto t => exact hp.elim
  | panic ch => exact hp.elim
  | outgrown => exact hp.elim
 ·rintro e B ⟨⟨v, rfl⟩, xs, O, hS, ⟨O1, rfl, hi⟩, hl, hd⟩
  have hend := run_endLoop (P := P) hl (by rw [hready]; simp)
  rw [hpend] at hend
  have hlt := (Array.getElem?_eq_some_iff.1 hl).1
  refine ⟨none, _, hend, hdone xs O1 _ ?_ hS (hI _ _ B _ hi ⟨_, hl⟩ (.put _ _ _)) ?_⟩
  ·exact Nat.le_trans (by omega) (Past.put (w.heap.size + 1) B _).size
  ·rw [World.putObj_heap_other (by omega)]
   exact hd
end Go.Proofs.YtfjocafepigijaaDoor.Rf
/- slices.Collect of a set's members. Conditions: those of members. -/
namespace Go.Proofs.YtfjocafepigijaaDoor.Za
open Go.RowKit Go.Shelf Mv Set Rf Tz Pa
attribute [local go_sem] Oper.semAt_some

theorem own_ge {A : World} {base e s n q : Nat} {u : Value} {xs : List Value} (h : A.ownsRow base e s u n xs) (hq : u.ownBlock = some q) : base ≤ q ∧ q < A.heap.size := h.lt q hq
theorem own_past {l : Nat} {A B : World} (hp : Past l A B) {base e s n : Nat} {u : Value} {xs : List Value} (h : A.ownsRow base e s u n xs) (hl : l < base) : B.ownsRow base e s u n xs := by
 refine ⟨h.1, ?_⟩
 rcases h.2 with h' | ⟨g, cap, cur, hu, hb, hg, hrest⟩
 ·exact .inl h'
 ·exact .inr ⟨g, cap, cur, hu, hb, (hp.block g (Array.getElem?_eq_some_iff.1 hg).1 (by omega)).trans hg, hrest⟩
theorem below_past {l n : Nat} {w A B : World} (hp : Past l A B) (h : Below n w A) (hn : n ≤ A.heap.size) (hl : n ≤ l) : Below n w B :=
 h.trans ⟨hp.os, hp.tape, hp.output, hp.size, fun k hk => hp.block k (by omega) (by omega)⟩
theorem al (W : World) (o : Obj) : Below W.heap.size W (W.alloc o) := (Below.refl _ _).alloc (Nat.le_refl _) _
/-- what holds between two rounds of Collect -/
def InvC (w : World) (nV : Nat) (pre : List Nat) (O : Nat → Prop) (A : World) : Prop :=
 ∃ u, Boxed A w.heap.size 26 u ∧ A.ownsRow (nV + 2) 3 1 u pre.length (ns pre) ∧ Below w.heap.size w A ∧ O = (fun q => q = w.heap.size ∨ u.ownBlock = some q)
theorem InvC.past {w : World} {nV : Nat} {pre : List Nat} {O : Nat → Prop} {A B : World} (h : InvC w nV pre O A) (hp : Past (nV + 1) A B) (h1 : w.heap.size < nV) : InvC w nV pre O B := by
 obtain ⟨u, hb, hrow, hBA, hO⟩ := h
 exact ⟨u, (hp.block _ hb.lt (by omega)).trans hb, own_past hp hrow (by omega), below_past hp hBA hBA.size (by omega), hO⟩
theorem ns_app (pre : List Nat) (x : Nat) : ns (pre ++ [x]) = ns pre ++ [.int .i64 (x : Int)] := by simp [ns]
theorem endC {w : World} {nV : Nat} (pre : List Nat) (x : Nat) {A w7 : World} {u v' : Value} {tmp : Obj} (hb7 : Boxed A w.heap.size 26 u) (hrow : A.ownsRow (nV + 2) 3 1 u pre.length (ns pre))
  (hown : w7.ownsRow (nV + 2) 3 1 v' (pre.length + 1) (ns pre ++ [.int .i64 (x : Int)])) (hgrow : (A.alloc tmp).grownBy w7 u.ownBlock) (hat : v'.ownBlock = u.ownBlock ∨ v'.ownBlock = some (A.alloc tmp).heap.size) (hBA : Below w.heap.size w A) (hn : w.heap.size < nV) :
  ∃ O', Kept (fun q => q = w.heap.size ∨ u.ownBlock = some q) O' A (w7.setCell ⟨w.heap.size, 0, none⟩ v') ∧ InvC w nV (pre ++ [x]) O' (w7.setCell ⟨w.heap.size, 0, none⟩ v') := by
 have hs := grownBy_setCell' w7 w.heap.size v'
 have g1 := al A tmp
 have hv1 : Boxed w7 w.heap.size 26 u := (hb7.alloc tmp).kept hgrow (hb7.not_row (by decide) hrow)
 have s2 := g1.size
 have s3 := hgrow.size
 have K : Kept (fun q => q = w.heap.size ∨ u.ownBlock = some q) (fun q => q = w.heap.size ∨ v'.ownBlock = some q) A (w7.setCell ⟨w.heap.size, 0, none⟩ v') := by
  refine ⟨hs.os.trans (hgrow.os.trans g1.os), hs.tape.trans (hgrow.tape.trans g1.tape), hs.output.trans (hgrow.output.trans g1.output), Nat.le_trans (by omega) hs.size, fun q hq hno => ?_⟩
  simp only [not_or] at hno ⊢
  refine ⟨⟨hno.1, fun h => ?_⟩, ?_⟩
  ·rcases hat with hat | hat
   ·exact hno.2 (hat.symm.trans h)
   ·rw [hat, Option.some.injEq, World.size_alloc] at h
    omega
  ·exact (Below.heap_setCell _ _ _ q hno.1).trans ((hgrow.block q (by omega) (fun h => hno.2 h.symm)).trans (g1.block q (by omega)))
 have hown0 : ∀ q, q < nV + 2 → u.ownBlock ≠ some q := fun q hq h => by have := (own_ge hrow h).1; omega
 refine ⟨_, K, v', hv1.set v', ?_, K.below hBA hBA.size (fun q hq h => ?_), rfl⟩
 ·rw [ns_app, List.length_append]
  exact hown.kept hs (.inr (hv1.not_row (by decide) hown).symm)
 ·rcases h with h | h
  ·omega
  ·exact hown0 q (by omega) h
set_option maxHeartbeats 2000000 in
set_option maxRecDepth 100000 in
theorem seq_any (ws : List Nat) (n2 base : Nat) (v : Value) (w0 w : World) (B : Nat) (hset : IsSet w0 base v n2 ws) (hT : TabAt 0 Lib.deBruijn64tab w0) (h00 : 0 < w0.heap.size) (hw : Below w0.heap.size w0 w) (hB : w.heap[B]? = some (.cells #[v] 77 (0, 0))) (hlen : ws.length ≤ 281474976710656) (hml : (ms ws).length ≤ 100000) :
  Calls Tryd.prog 69 #[.slice none 0 0, .func (.func 70) #[] #[.pointer (some ⟨B, 0, none⟩)]] w fun e w' => ∃ u, e = .returned u ∧ w'.ownsRow w.heap.size 3 1 u (ms ws).length (ns (ms ws)) ∧ Below w.heap.size w w' := by
 obtain ⟨i0, hi, hz0, hz1, hz2⟩ := info_parts inf3
 refine (callsIn_wide (n := 5)).1 ?_
 refine callsIn_of_wp_marks Tryd.func69 rfl trivial (wpIn_wide.2 ?_) rfl
 simp only [Tryd.ntmps69, List.size_toArray, List.length_cons, List.length_nil, Nat.reduceAdd, Nat.reduceSub, Array.replicate_succ, Array.replicate_zero, List.push_toArray, List.append_toArray, List.nil_append, List.cons_append]
 go_wp2
 have b7V : Boxed (w.alloc (.cells #[.slice none 0 0] 26)) w.heap.size 26 (.slice none 0 0) := Boxed.new _ _ _
 have BV : Below w.heap.size w (w.alloc (.cells #[.slice none 0 0] 26)) := al _ _
 have sV : (w.alloc (.cells #[.slice none 0 0] 26)).heap.size = w.heap.size + 1 := by simp
 have hBV := (heap_alloc_old w (.cells #[.slice none 0 0] 26) (Am.lt_at hB)).trans hB
 have hBl := Am.lt_at hB
 generalize hV : w.alloc (.cells #[.slice none 0 0] 26) = V at *
 clear hV
 refine wpIn_wide.1 (range_tells (n := 5) rfl (by omega) (gf := 70) (lb := #[.pointer (some ⟨B, 0, none⟩)]) rfl trivial (enters_of Tryd.func70 (by kernel_rfl) rfl)
  (members_tells ws n2 base v w0 V B (5 - 1) (by omega) hset hT h00 (hw.trans (BV.mono hw.size)) hBV hlen) (Below.refl _ _) ?hX (fun _ => rfl) (InvC w V.heap.size) ?hI ?hO (fun q => q = w.heap.size) ?h0 ?hround ?hdone)
 case hX =>
  rintro q (hq | rfl)
  ·have := hw.size
   omega
  ·omega
 case hI =>
  intro pre O A B hi hr hp
  exact hi.past hp (by omega)
 case hO =>
  rintro pre O A q ⟨u, hb7, hrow, hBA, rfl⟩ (rfl | hq)
  ·exact ⟨by have := hw.size; omega, hb7.lt, by omega, by omega⟩
  ·obtain ⟨h1, h2⟩ := own_ge hrow hq
   exact ⟨by have := hw.size; omega, h2, by omega, by omega⟩
 case h0 =>
  intro A hA
  refine ⟨.slice none 0 0, (hA.block _ (by omega)).trans b7V, World.ownsRow_nil _ _ _ _, BV.trans (hA.mono BV.size), ?_⟩
  funext q
  simp [Value.ownBlock]
 case hround =>
  rintro pre O x A hA hrec hinv hpre
  have hl : pre.length < 100000 := by
   have h2 := hpre.length_le
   rw [List.length_append, List.length_singleton] at h2
   omega
  refine ⟨{ tmps := #[.slice none 0 0, .func (.func 70) #[] #[.pointer (some ⟨B, 0, none⟩)], .pointer (some ⟨w.heap.size, 0, none⟩), undef, .slice none 0 0, .int .i64 (x : Int), .func (.func 70) #[] #[.pointer (some ⟨B, 0, none⟩)], .int .i64 (x : Int), undef, undef, undef, undef, undef], defers := [] }, A, ?_, Below.refl _ _, ?_⟩
  ·intro K hK
   gi_wp2
   exact hK
  ·intro r
   obtain ⟨A', hA'⟩ : ∃ A', A.putObj (V.heap.size + 1) (.loop r) = A' := ⟨_, rfl⟩
   have hP : Past (V.heap.size + 1) A A' := by rw [← hA']; exact Past.put _ _ _
   have hinv' := hinv.past hP (by omega)
   have hszA : V.heap.size + 2 ≤ A'.heap.size := Nat.le_trans hA hP.size
   rw [hA']
   clear hA' hP hinv hrec
   obtain ⟨u, hb7, hrow, hBA, rfl⟩ := hinv'
   have hc := hb7.cell
   have hnV : w.heap.size < V.heap.size := by omega
   obtain ⟨au, cu, rfl⟩ := Am.own_slice hrow
   clear sV
   gi_wp2_with (gi_at_builtin; refine wpListIn_append_own_at _ rfl _ _ 26 rfl (V.heap.size + 2) 3 i0 (.int .i64 0) 1 8 Tryd.underlying26 hi hz0 hz1 hz2 rfl (by decide) _ _ _ rfl (hrow.alloc _) ⟨A'.heap.size, 0, none⟩ 1 1 [.int .i64 (x : Int)] rfl rfl (cell_one_at _ _ _ rfl) (ns_one x) (by simp only [maxLen]; omega) (by omega) (by simp; omega) ?_; intro v' w7 hown' hgrow _ hat; obtain ⟨g', cap', rfl⟩ := ownsRow_succ hown'; have hv1 : Boxed w7 w.heap.size 26 (.slice au pre.length cu) := (hb7.alloc _).kept hgrow (hb7.not_row (by decide) hrow); have hc1 := hv1.cell; have hf1 := hv1.frozen)
   exact endC pre x hb7 hrow hown' hgrow hat hBA hnV
 case hdone =>
  rintro ys O A hA hS ⟨u, hb7, hrow, hBA, rfl⟩ hdf
  have hc := hb7.cell
  subst hS
  have hP := Past.put V.heap.size A (.deferred none)
  have hr2 := Cu.own_base (own_past hP hrow (by omega)) (show w.heap.size ≤ V.heap.size + 2 by omega)
  have hB2 := below_past hP hBA hBA.size (by omega)
  obtain ⟨au, cu, rfl⟩ := Am.own_slice hrow
  go_wp2
  refine ⟨by simp, .inl ⟨_, _, rfl, run_takeDeferred hdf, ?_⟩⟩
  exact ⟨_, results_tmp rfl _ _ _, .slice au (ms ws).length cu, rfl, hr2, hB2⟩
set_option maxHeartbeats 1000000 in
theorem collect_any (ws : List Nat) (n2 base : Nat) (v : Value) (w0 w : World) (B : Nat) (hset : IsSet w0 base v n2 ws) (hT : TabAt 0 Lib.deBruijn64tab w0) (h00 : 0 < w0.heap.size) (hw : Below w0.heap.size w0 w) (hB : w.heap[B]? = some (.cells #[v] 77 (0, 0))) (hlen : ws.length ≤ 281474976710656) (hml : (ms ws).length ≤ 100000) :
  Calls Tryd.prog 42 #[.func (.func 70) #[] #[.pointer (some ⟨B, 0, none⟩)]] w fun e w' => ∃ u, e = .returned u ∧ w'.ownsRow w.heap.size 3 1 u (ms ws).length (ns (ms ws)) ∧ Below w.heap.size w w' := by
 have K := seq_any ws n2 base v w0 w B hset hT h00 hw hB hlen hml
 clear hset hT hw hB hml hlen
 go_enter Tryd.func42, Tryd.ntmps42
 go_wp2_with (go_at_call 69; (with_reducible refine K.mono ?_); clear K; rintro e w1 ⟨u, rfl, h1, h2⟩; have H1 : Hid _ := h1; have H2 : Hid _ := h2; clear h1 h2)
 go_ret
 exact ⟨_, rfl, H1.out, H2.out⟩
set_option maxHeartbeats 1000000 in
theorem members_any (a : Option Addr) (n c : Nat) (w : World) : Calls Tryd.prog 43 #[.slice a n c] w fun e w' => e = .returned (.func (.func 70) #[] #[.pointer (some ⟨w.heap.size, 0, none⟩)]) ∧ w' = w.alloc (.cells #[.slice a n c] 77) := by
 go_enter Tryd.func43, Tryd.ntmps43
 go_wp2
 go_ret
 exact ⟨rfl, rfl⟩
end Go.Proofs.YtfjocafepigijaaDoor.Za
