/- Lexica: in plain words, and how they lie in memory; ContainsFunc over lists of structs that lie in memory. No conditions. -/
import Derived.Test.YtkcbgapakpheiaaLs
namespace Go.Proofs.Ytkcbgapakpheiaa.Lx
open Go.RowKit Go.Shelf Sd Md Sc Aq Ls

structure St where
  form : List Int
  cls : Int
structure Ce where
  cls : Int
  bef : List Int
  beh : List Int
structure Lex where
  kinds : Int
  stems : List St
  cels : List Ce
  chg : List Ch

def badK (n : Int) : Bool := decide (n < 0) || decide (99 < n)
def stLong (s : St) : Bool := decide (s.form.length < 1) || decide (8 < s.form.length)
def ceLong (c : Ce) : Bool := decide (4 < c.bef.length) || decide (3 < c.beh.length)
def stFar (k : Int) (s : St) : Bool := badK s.cls || s.form.any (bad k)
def ceFar (k : Int) (c : Ce) : Bool := badK c.cls || c.bef.any (bad k) || c.beh.any (bad k)
def Lex.manyB (x : Lex) : Bool := decide (40 < x.stems.length) || decide (20 < x.cels.length) || decide (3 < x.chg.length) || decide (x.kinds < 1) || decide (4 < x.kinds)
def Lex.longB (x : Lex) : Bool := x.stems.any stLong || x.cels.any ceLong
def Lex.farB (x : Lex) : Bool := x.stems.any (stFar x.kinds) || x.cels.any (ceFar x.kinds)
def oneX (k : Int) (c : Ch) : Int := if check c = 0 then (if c.kinds = k then 0 else 1) else check c
def firstX (k : Int) : List Ch → Int
  | [] => 0
  | c :: l => if oneX k c = 0 then firstX k l else oneX k c
/-- D1 -/
def checkX (x : Lex) : Int := if x.manyB then 7 else if x.longB then 2 else if x.farB then 3 else firstX x.kinds x.chg

theorem firstX_drop {k0 : Int} {l : List Ch} {k : Nat} (h : ∀ j (hj : j < l.length), j < k → oneX k0 l[j] = 0) : firstX k0 l = firstX k0 (l.drop k) := by
  induction k generalizing l with
  | zero => rfl
  | succ k ih =>
    cases l with
    | nil => rfl
    | cons c l =>
      have h0 := h 0 (by simp) (by omega)
      have e : firstX k0 (c :: l) = firstX k0 l := by
        unfold firstX
        rw [if_pos (by simpa using h0)]
        cases l <;> rfl
      rw [e, List.drop_succ_cons]
      exact ih (fun j hj hjk => by have := h (j + 1) (by simpa using hj) (by omega); simpa using this)
theorem firstX_at {k0 : Int} {l : List Ch} {k : Nat} (hk : k < l.length) : firstX k0 (l.drop k) = if oneX k0 l[k] = 0 then firstX k0 (l.drop (k + 1)) else oneX k0 l[k] := by
  rw [List.drop_eq_getElem_cons hk]
  rfl

/-! rows of structs -/
theorem fm_length {α : Type} (f : α → List Value) (k : Nat) (hk : ∀ a, (f a).length = k) (l : List α) : (l.flatMap f).length = l.length * k := by
  induction l with
  | nil => simp
  | cons a l ih => rw [List.flatMap_cons, List.length_append, ih, hk, List.length_cons, Nat.add_mul]; omega
theorem fm_at {α : Type} (f : α → List Value) (k : Nat) (hk : ∀ a, (f a).length = k) (l : List α) (j : Nat) (h : j < l.length) (i : Nat) (hi : i < k) : (l.flatMap f)[j * k + i]? = (f l[j])[i]? := by
  induction l generalizing j with
  | nil => simp at h
  | cons a l ih =>
    rw [List.flatMap_cons]
    cases j with
    | zero =>
      rw [Nat.zero_mul, Nat.zero_add, List.getElem?_append_left (by rw [hk]; exact hi)]
      rfl
    | succ j =>
      have e : (j + 1) * k + i = (j * k + i) + k := by rw [Nat.add_mul]; omega
      rw [e, List.getElem?_append_right (by rw [hk]; omega), hk, Nat.add_sub_cancel]
      exact ih j (by simpa using h)

/-- a list of structs that is read: f: an element's cells; Q: how its parts lie -/
def IsR {α : Type} (f : α → List Value) (k : Nat) (Q : World → α → Prop) (w : World) (v : Value) (l : List α) : Prop := Row w v k l.length (l.flatMap f) ∧ ∀ p, p ∈ l → Q w p
theorem IsR.below {α : Type} {f : α → List Value} {k : Nat} {Q : World → α → Prop} (hQ : ∀ w w' p, Below w.heap.size w w' → Q w p → Q w' p) {w w' : World} {v : Value} {l : List α} (h : IsR f k Q w v l) (hb : Below w.heap.size w w') : IsR f k Q w' v l :=
  ⟨h.1.below (Nat.le_refl _) hb, fun p hp => hQ _ _ p hb (h.2 p hp)⟩
theorem IsR.shape {α : Type} {f : α → List Value} {k : Nat} {Q : World → α → Prop} {w : World} {v : Value} {l : List α} (h : IsR f k Q w v l) : (∃ a cap, v = .slice a 0 cap ∧ l = []) ∨
    ∃ b off cap, v = .slice (some ⟨b, off, none⟩) l.length cap ∧ b < w.heap.size ∧ l.length ≤ cap ∧ l.length ≤ 140737488355328 ∧ 0 < l.length ∧ ∀ j u, (l.flatMap f)[j]? = some u → w.cell? ⟨b, off + j, none⟩ = some u := by
  obtain ⟨⟨_, a, cap, hv, hn, hm, _, h⟩, _⟩ := h
  rcases Nat.eq_zero_or_pos l.length with e | e
  · exact .inl ⟨a, cap, by rw [hv, e], List.length_eq_zero_iff.1 e⟩
  · rcases h with h | ⟨b, off, ha, hb, hc⟩
    · omega
    · exact .inr ⟨b, off, cap, by rw [hv, ha], hb, hn, hm, e, hc⟩
theorem IsR.len {α : Type} {f : α → List Value} {k : Nat} {Q : World → α → Prop} {w : World} {v : Value} {l : List α} (h : IsR f k Q w v l) : ∃ a cap, v = .slice a l.length cap ∧ l.length ≤ cap ∧ l.length ≤ 140737488355328 := by
  obtain ⟨⟨_, a, cap, hv, hn, hm, _, _⟩, _⟩ := h
  exact ⟨a, cap, hv, hn, hm⟩

theorem pmap_val {α : Type} {P : α → Prop} (l : List α) (h : ∀ x, x ∈ l → P x) : (l.pmap (fun x hx => (⟨x, hx⟩ : { x // P x })) h).map (fun x => x.1) = l := by
  induction l with
  | nil => rfl
  | cons a l ih => simp only [List.pmap_cons, List.map_cons]; rw [ih]

/-- ContainsFunc over structs, at a function that reads them; the list is not empty -/
theorem anyR {α : Type} {ρ : Ren} (L : SlLaysH0.n8 Try.prog ρ) (k : Nat) (aE : ∀ w, (isAgg (ρ.t 23)).run Try.prog w = .ok true w) (zE : ∀ w, (Go.sizeOf (ρ.t 23)).run Try.prog w = .ok k w)
    (f : α → List Value) (hk : ∀ a, (f a).length = k) (Q : World → α → Prop) (hQ : ∀ w w' p, Below w.heap.size w w' → Q w p → Q w' p) (v : Value) (l : List α) (h0 : 0 < l.length) (p : α → Bool) (g : Nat) (lb : Array Value) (w : World) (h : IsR f k Q w v l)
    (eg : ∀ args w, (callFunc g args).run Try.prog w = .ok (.enter g args) w)
    (hp : ∀ (W : World) (x : α), Below w.heap.size w W → Q W x → Calls Try.prog g (#[.agg (f x).toArray] ++ lb) W fun e w' => e = .returned (.bool (p x)) ∧ Below W.heap.size W w') :
    Calls Try.prog (ρ.f 8) #[v, .func (.func g) #[] lb] w fun e w' => e = .returned (.bool (l.any p)) ∧ Below w.heap.size w w' := by
  rcases h.shape with ⟨a, cap, _, e⟩ | ⟨b, off, cap, rfl, hb, hn, hm, _, hc⟩
  · rw [e] at h0
    simp at h0
  · have hE := h.2
    haveI : Inhabited { x : α // Q w x } := ⟨⟨l[0], hE _ (List.getElem_mem h0)⟩⟩
    obtain ⟨zs, hzs⟩ : ∃ zs : List { x : α // Q w x }, zs.map (fun x => x.1) = l := ⟨_, pmap_val l hE⟩
    have hzl : zs.length = l.length := by rw [← hzs, List.length_map]
    have hz : ∀ j (hj : j < l.length), (zs[j]!).1 = l[j] := by
      intro j hj
      rw [List.getElem!_eq_getElem?_getD, List.getElem?_eq_getElem (by omega)]
      have : (zs.map (fun x => x.1))[j]? = l[j]? := by rw [hzs]
      rw [List.getElem?_map, List.getElem?_eq_getElem (by omega), List.getElem?_eq_getElem hj] at this
      simpa using this
    have hany : (zs.take l.length).any (fun x => p x.1) = l.any p := by
      rw [List.take_of_length_le (by omega), ← hzs, List.any_map]
      rfl
    have con := AnyQ.slices_ContainsFunc L k aE zE (fun x : { x : α // Q w x } => f x.1) (fun x => hk x.1) (fun x => p x.1) g lb eg b off l.length cap zs w
      (fun W x hb => (hp W x.1 hb (hQ _ _ _ hb x.2)).mono fun e w' ⟨he, hb'⟩ => ⟨he, hb.trans (hb'.mono hb.size)⟩) (by omega) (by omega) hb (by
        intro j hj i u hu
        rw [hzl] at hj
        rw [hz j hj] at hu
        have hi : i < k := by
          have := (List.getElem?_eq_some_iff.1 hu).1
          rwa [hk] at this
        rw [Nat.add_assoc]
        exact hc _ _ ((fm_at f k hk l j hj i hi).trans hu))
    rw [hany] at con
    exact con
end Go.Proofs.Ytkcbgapakpheiaa.Lx
