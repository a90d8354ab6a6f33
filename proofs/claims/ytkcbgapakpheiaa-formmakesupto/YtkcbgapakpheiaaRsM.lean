/- A region that draws its order, inside a round of a range over a function: out of the plain laws on all orders. -/
import Derived.Test.YtkcbgapakpheiaaRf2M
import Derived.OrdersHeld
import Derived.OwnWalkIn
import Derived.OrdersIn
import Derived.Deep.RegionHeld3
namespace Go.Proofs.Ytkcbgapakpheiaa.Ri
open Go.RowKit

variable {l n : Nat} {P : Program} {ops : Array Oper} {Q : Exit → Act → World → Prop} {md : Region.Mode}

theorem upon_in {o : Oper} {a : Act} {K : Act → World → Prop} {r : Result Next} (h : o.upon P a K Q r) : o.uponIn (Fence.wide.inRound l) n P a K Q r := by
  cases r with
  | ok x w' =>
    cases x with
    | value v => exact h
    | skip => exact h
    | defer d => exact h
    | enter f args =>
      refine ⟨(fun h => by cases h), ?_⟩
      refine CallsIn.inRound l ?_
      refine callsIn_wide.2 ?_
      exact Calls.mono h fun e w'' he => by cases e <;> exact he
    | row row args =>
      refine ⟨(fun h => by cases h), fun c cs _ => ?_⟩
      obtain ⟨v, w2, r, s⟩ := h c cs
      exact ⟨v, w2, r, stepsIn_wide.2 s⟩
    | _ => exact h.elim
  | halt x w' => cases x <;> exact h

/-- operations that are no defer -/
def Mild (ops : Array Oper) : Prop := ∀ (i : Nat) (o : Oper), ops[i]? = some o → ∀ c, o.op ≠ .defer c

def noDefer (o : Oper) : Bool := match o.op with
  | .defer _ => false
  | _ => true
theorem mild_of {ops : Array Oper} (h : ops.toList.all noDefer = true) : Mild ops := by
  intro i o ho c hc
  have hm : o ∈ ops.toList := by
    rw [Array.getElem?_eq_some_iff] at ho
    obtain ⟨hi, rfl⟩ := ho
    exact Array.mem_toList_iff.2 (Array.getElem_mem hi)
  have := List.all_eq_true.1 h o hm
  unfold noDefer at this
  rw [hc] at this
  cases this

theorem op_in (hm : Mild ops) (hQ : ¬ LetsOut Q) {i : Nat} {K K' : Act → World → Prop} (hK : ∀ a w, K a w → K' a w) {a : Act} {w : World} (h : wpOp P ops Q i K a w) : wpOpIn (Fence.wide.inRound l) n P ops Q i K' a w := by
  unfold wpOp at h
  unfold wpOpIn
  cases ho : ops[i]? with
  | none => rw [ho] at h; exact hK _ _ h
  | some o =>
    rw [ho] at h
    dsimp only at h ⊢
    have m1 := hm i o ho
    split
    · rename_i hw
      rw [if_pos hw] at h
      rcases h with h | h
      · refine ⟨fun _ _ => trivial, ?_⟩
        rw [Oper.semAt_plain _ _ _ m1]
        exact upon_in (Oper.wp_mono hK h)
      · exact absurd h.2 hQ
    · rename_i hw
      rw [if_neg hw] at h
      exact ⟨fun _ _ => trivial, hK _ _ h⟩
theorem any_in (hm : Mild ops) (hQ : ¬ LetsOut Q) : ∀ (fuel : Nat) (listed : Array Bool) (a : Act) (w : World), wpAny P md ops Q fuel listed a w → wpAnyIn (Fence.wide.inRound l) n P md ops Q fuel listed a w
  | 0, _, _, _, h => h
  | fuel + 1, _, _, _, h => ⟨h.1, fun i hi => op_in hm hQ (fun a' w' h' => any_in hm hQ fuel _ a' w' h') (h.2 i hi)⟩
theorem region_in {S : World → Prop} {id : Nat} {a : Act} {w : World} (hf : P.follows .mixedOrders = true) (hm : Mild ops) (hQ : ¬ LetsOut Q) (hS : S w.drew)
    (h : S w.drew → wpAnyH P .any ops Q S ops.size (Array.replicate ops.size false) a w.drew) : (Code.region id ops true).wpIn (Fence.wide.inRound l) n P Q a w :=
  wpIn_region_any hf (any_in hm hQ _ _ _ _ (wpAny_of_held _ _ _ _ (h hS)))

/-- an operation is taken first -/
theorem take_at {S : World → Prop} (i d : Nat) (v : Value) {ts : Array Value} {ds : List Deferred} {oi : Oper} {fuel : Nat} {listed : Array Bool} {w : World} (hi : ops[i]? = some oi) (hd : oi.dst = some d) (hg : oi.guard = none)
    (hs : Region.noSelect ops = true) (hf : Region.free md ops listed i = true) (hr : (Region.ready md ops listed).contains i = true) (hQ : ∀ c a w, ¬ Q (.panic c) a w)
    (hy : ∀ w, S w → (execOp (Act.eval ⟨ts, ds⟩) oi).run P w = .ok (.value v) w) (hS : S w)
    (h : wpAnyH P md ops Q S fuel (listed.setIfInBounds i true) ⟨ts.setIfInBounds d v, ds⟩ w) : wpAnyH P md ops Q S (fuel + 1) listed ⟨ts, ds⟩ w := by
  refine wpAnyH_take (v := v) hi hs hf hr (fun c a w h => absurd h (hQ c _ w)) (Or.inl ⟨by simp [Region.wanted, hg], hy⟩) hS ?_
  rw [hd]
  exact h
/-- how an operation comes out that yields a value, or nothing -/
theorem op_value {ts : Array Value} {ds : List Deferred} {o : Oper} {w w' : World} {K : Act → World → Prop} (v : Value) (d : Nat) (hd : o.dst = some d) (hrun : (execOp (Act.eval ⟨ts, ds⟩) o).run P w = .ok (.value v) w') (h : K ⟨ts.setIfInBounds d v, ds⟩ w') : o.wp P ⟨ts, ds⟩ w K Q := by
  unfold Oper.wp
  rw [hrun]
  show K (Act.put _ o.dst v) w'
  rw [hd]
  exact h
theorem op_skip {ts : Array Value} {ds : List Deferred} {o : Oper} {w w' : World} {K : Act → World → Prop} (hd : o.dst = none) (hrun : (execOp (Act.eval ⟨ts, ds⟩) o).run P w = .ok .skip w') (h : K ⟨ts, ds⟩ w') : o.wp P ⟨ts, ds⟩ w K Q := by
  unfold Oper.wp
  rw [hrun]
  show K (Act.put _ o.dst undef) w'
  rw [hd]
  exact h
/-- one operation alone may come up -/
theorem one_at {S : World → Prop} (i : Nat) {o : Oper} {a : Act} {fuel : Nat} {listed : Array Bool} {w : World} (hr : Region.ready md ops listed = [i]) (hi : ops[i]? = some o) (hg : o.guard = none)
    (h : o.wp P a w (fun a' w' => S w' ∧ wpAnyH P md ops Q S fuel (listed.setIfInBounds i true) a' w') Q) : wpAnyH P md ops Q S (fuel + 1) listed a w := by
  refine wpAnyH_all hr (by simp) fun j hj => ?_
  simp only [List.mem_singleton] at hj
  subst hj
  unfold wpOp
  rw [hi]
  dsimp only
  rw [if_pos (by simp [Region.wanted, hg])]
  exact .inl h
/-- one of two may come up -/
theorem two_at {S : World → Prop} (i j : Nat) {o p : Oper} {a : Act} {fuel : Nat} {listed : Array Bool} {w : World} (hr : Region.ready md ops listed = [i, j]) (hi : ops[i]? = some o) (hg : o.guard = none) (hj : ops[j]? = some p) (hgj : p.guard = none)
    (h1 : o.wp P a w (fun a' w' => S w' ∧ wpAnyH P md ops Q S fuel (listed.setIfInBounds i true) a' w') Q)
    (h2 : p.wp P a w (fun a' w' => S w' ∧ wpAnyH P md ops Q S fuel (listed.setIfInBounds j true) a' w') Q) : wpAnyH P md ops Q S (fuel + 1) listed a w := by
  refine wpAnyH_all hr (by simp) fun x hx => ?_
  simp only [List.mem_cons, List.not_mem_nil, or_false] at hx
  rcases hx with rfl | rfl
  · unfold wpOp
    rw [hi]
    dsimp only
    rw [if_pos (by simp [Region.wanted, hg])]
    exact .inl h1
  · unfold wpOp
    rw [hj]
    dsimp only
    rw [if_pos (by simp [Region.wanted, hgj])]
    exact .inl h2
end Go.Proofs.Ytkcbgapakpheiaa.Ri
/- A region that draws its order whose last operations wait for all others: the others by themselves, then the last ones. -/
namespace Go.Proofs.Ytkcbgapakpheiaa.Rs
open Go.RowKit Ri

def allB : Nat → List (List Bool)
  | 0 => [[]]
  | n + 1 => (allB n).map (true :: ·) ++ (allB n).map (false :: ·)
theorem mem_allB : ∀ l : List Bool, l ∈ allB l.length
  | [] => by simp [allB]
  | true :: l => by simp only [List.length_cons, allB, List.mem_append, List.mem_map]; exact .inl ⟨l, mem_allB l, rfl⟩
  | false :: l => by simp only [List.length_cons, allB, List.mem_append, List.mem_map]; exact .inr ⟨l, mem_allB l, rfl⟩

variable {P : Program} {Q Q' : Exit → Act → World → Prop}

theorem upon_post {o : Oper} {a : Act} {K K' : Act → World → Prop} {r : Result Next} (hp : ∀ c a w, ¬ Q' (.panic c) a w) (ho : ¬ LetsOut Q') (hK : ∀ a w, K a w → K' a w) (h : o.upon P a K Q' r) : o.upon P a K' Q r := by
  cases r with
  | ok x w' =>
    cases x with
    | value v => exact hK _ _ h
    | skip => exact hK _ _ h
    | defer d => exact hK _ _ h
    | enter f args =>
      refine Calls.mono h fun e w'' he => ?_
      cases e with
      | returned v => exact hK _ _ he
      | panicked c => exact absurd he (hp _ _ _)
      | outgrown => exact absurd he ho
    | row row args => exact Rows.mono h fun v w'' he => hK _ _ he
    | _ => exact h.elim
  | halt x w' =>
    cases x <;> first | exact absurd h (hp _ _ _) | exact h.elim

def chk (ops ops' : Array Oper) (m : Nat) (l : List Bool) : Bool :=
  ((Region.ready .any ops' l.toArray == []) == (l == List.replicate m true)) && (Region.ready .any ops' l.toArray == [] || Region.ready .any ops (l ++ [false, false]).toArray == Region.ready .any ops' l.toArray) && (Region.ready .any ops' l.toArray).all (fun i => decide (i < m) && l[i]? == some false)
/-- whoever has come up has come up behind those for whom he waits -/
def good (ops' : Array Oper) (l : List Bool) : Bool := (List.range l.length).all fun i => !(l[i]?.getD false) || match ops'[i]? with
  | some o => o.after.toList.all (fun e => !Region.binds .any e || l[e.on]?.getD false)
  | none => false
def chks (ops ops' : Array Oper) (m : Nat) (l : List Bool) : Bool := !good ops' l || (chk ops ops' m l && (Region.ready .any ops' l.toArray).all (fun i => good ops' (l.set i true)))
def gds (ops ops' : Array Oper) (m : Nat) : Bool := (List.range m).all fun i => match ops[i]?, ops'[i]? with
  | some o, some o' => o.guard.isNone && o'.guard.isNone
  | _, _ => false

theorem count_set {l : List Bool} {i : Nat} (h : l[i]? = some false) : (l.set i true).count false + 1 = l.count false := by
  induction l generalizing i with
  | nil => simp at h
  | cons b l ih =>
    cases i with
    | zero =>
      simp only [List.getElem?_cons_zero, Option.some.injEq] at h
      subst h
      simp
    | succ i =>
      have := ih (i := i) (by simpa using h)
      simp only [List.set_cons_succ, List.count_cons]
      omega

theorem split_any {ops ops' : Array Oper} (m : Nat) (hc : (allB m).all (chks ops ops' m) = true) (hg : gds ops ops' m = true) (ho : ∀ i, i < m → ops[i]? = ops'[i]?) (hp : ∀ c a w, ¬ Q' (.panic c) a w) (hq : ¬ LetsOut Q')
    (hfin : ∀ a w, Q' .normal a w → wpAny P .any ops Q 2 (List.replicate m true ++ [false, false]).toArray a w) :
    ∀ (fuel : Nat) (l : List Bool) (a : Act) (w : World), l.length = m → good ops' l = true → l.count false = fuel → wpAny P .any ops' Q' fuel l.toArray a w → wpAny P .any ops Q (fuel + 2) (l ++ [false, false]).toArray a w := by
  intro fuel
  induction fuel with
  | zero =>
    intro l a w hl hgo _ h
    have hk := List.all_eq_true.1 hc l (by rw [← hl]; exact mem_allB l)
    unfold chks at hk
    rw [hgo] at hk
    simp only [Bool.not_true, Bool.false_or, Bool.and_eq_true] at hk
    have hk := hk.1
    unfold chk at hk
    simp only [Bool.and_eq_true, beq_iff_eq] at hk
    have h0 : l = List.replicate m true := by
      have := hk.1.1
      rw [h.1] at this
      simpa using this.symm
    rw [h0]
    exact hfin a w h.2
  | succ fuel ih =>
    intro l a w hl hgo hct h
    have hk := List.all_eq_true.1 hc l (by rw [← hl]; exact mem_allB l)
    unfold chks at hk
    rw [hgo] at hk
    simp only [Bool.not_true, Bool.false_or, Bool.and_eq_true] at hk
    obtain ⟨hk, hgs⟩ := hk
    unfold chk at hk
    simp only [Bool.and_eq_true, beq_iff_eq, Bool.or_eq_true, List.all_eq_true, decide_eq_true_eq] at hk
    obtain ⟨⟨k1, k2⟩, k3⟩ := hk
    have hne : Region.ready .any ops' l.toArray ≠ [] := by
      intro e
      have h0 : l = List.replicate m true := by
        rw [e] at k1
        simpa using k1.symm
      rw [h0] at hct
      simp [List.count_replicate] at hct
    have hr : Region.ready .any ops (l ++ [false, false]).toArray = Region.ready .any ops' l.toArray := by
      rcases k2 with k2 | k2
      · exact absurd k2 hne
      · exact k2
    refine ⟨fun e => absurd (hr.symm.trans e) hne, fun i hi => ?_⟩
    rw [hr] at hi
    obtain ⟨him, hif⟩ := k3 i hi
    have hw := h.2 i hi
    have hgi := List.all_eq_true.1 hg i (List.mem_range.2 him)
    unfold wpOp at hw ⊢
    rw [ho i him] at hgi ⊢
    cases hoi : ops'[i]? with
    | none => rw [hoi] at hgi; cases hgi
    | some o =>
      rw [hoi] at hgi hw
      dsimp only at hgi hw ⊢
      have hgn : o.guard = none := by
        cases e : o.guard with
        | none => rfl
        | some x => rw [e] at hgi; cases hgi
      rw [if_pos (by simp [Region.wanted, hgn])] at hw ⊢
      rcases hw with hw | hw
      · refine .inl (upon_post hp hq (fun a' w' h' => ?_) hw)
        have e1 : l.toArray.setIfInBounds i true = (l.set i true).toArray := by simp
        have e2 : (l ++ [false, false]).toArray.setIfInBounds i true = (l.set i true ++ [false, false]).toArray := by
          rw [List.setIfInBounds_toArray, List.set_append_left _ _ (by omega)]
        rw [e2]
        rw [e1] at h'
        exact ih (l.set i true) a' w' (by simpa using hl) (List.all_eq_true.1 hgs i hi) (by have := count_set hif; omega) h'
      · exact absurd hw.2 hq
theorem region_split {l n : Nat} {ops : Array Oper} {S : World → Prop} {id : Nat} {a : Act} {w : World} (m : Nat) (hf : P.follows .mixedOrders = true) (hm : Mild ops) (hQ : ¬ LetsOut Q) (hsz : ops.size = m + 2)
    (hc : (allB m).all (chks ops (ops.toList.take m).toArray m) = true) (h0 : good (ops.toList.take m).toArray (List.replicate m false) = true) (hg : gds ops (ops.toList.take m).toArray m = true) (hp : ∀ c a w, ¬ Q' (.panic c) a w) (hq : ¬ LetsOut Q')
    (hfin : ∀ a w, Q' .normal a w → wpAny P .any ops Q 2 (List.replicate m true ++ [false, false]).toArray a w)
    (h : wpAnyH P .any (ops.toList.take m).toArray Q' S m (List.replicate m false).toArray a w.drew) : (Code.region id ops true).wpIn (Fence.wide.inRound l) n P Q a w := by
  refine wpIn_region_any hf (any_in hm hQ _ _ _ _ ?_)
  rw [hsz]
  have e : Array.replicate (m + 2) false = (List.replicate m false ++ [false, false]).toArray := by
    apply Array.ext'
    rw [show [false, false] = List.replicate 2 false from rfl, List.replicate_append_replicate]
    simp
  rw [e]
  refine split_any (ops' := (ops.toList.take m).toArray) m hc hg (fun i hi => ?_) hp hq hfin m (List.replicate m false) a _ (by simp) h0 (by simp) (wpAny_of_held _ _ _ _ h)
  simp [hi]
end Go.Proofs.Ytkcbgapakpheiaa.Rs
