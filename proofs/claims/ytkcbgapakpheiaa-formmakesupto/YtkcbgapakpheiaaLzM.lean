/- Lexica: in plain words, and how they lie in memory; ContainsFunc over lists of structs that lie in memory. No conditions. -/
import Derived.Test.YtkcbgapakpheiaaLs
import Derived.Laws.EntriesVeiled
namespace Go.Proofs.Ytkcbgapakpheiaa.Lx
open Go.RowKit Go.Shelf Sd Md Sc Aq Ls

structure St where
  form : List Int
  cls : Int
structure Ce where
  cls : Int
  bef : List Int
  beh : List Int
structure Lex where
  kinds : Int
  stems : List St
  cels : List Ce
  chg : List Ch

def badK (n : Int) : Bool := decide (n < 0) || decide (99 < n)
def stLong (s : St) : Bool := decide (s.form.length < 1) || decide (8 < s.form.length)
def ceLong (c : Ce) : Bool := decide (4 < c.bef.length) || decide (3 < c.beh.length)
def stFar (k : Int) (s : St) : Bool := badK s.cls || s.form.any (bad k)
def ceFar (k : Int) (c : Ce) : Bool := badK c.cls || c.bef.any (bad k) || c.beh.any (bad k)
def Lex.manyB (x : Lex) : Bool := decide (40 < x.stems.length) || decide (20 < x.cels.length) || decide (3 < x.chg.length) || decide (x.kinds < 1) || decide (4 < x.kinds)
def Lex.longB (x : Lex) : Bool := x.stems.any stLong || x.cels.any ceLong
def Lex.farB (x : Lex) : Bool := x.stems.any (stFar x.kinds) || x.cels.any (ceFar x.kinds)
def oneX (k : Int) (c : Ch) : Int := if check c = 0 then (if c.kinds = k then 0 else 1) else check c
def firstX (k : Int) : List Ch → Int
  | [] => 0
  | c :: l => if oneX k c = 0 then firstX k l else oneX k c
/-- D1 -/
def checkX (x : Lex) : Int := if x.manyB then 7 else if x.longB then 2 else if x.farB then 3 else firstX x.kinds x.chg

theorem firstX_drop {k0 : Int} {l : List Ch} {k : Nat} (h : ∀ j (hj : j < l.length), j < k → oneX k0 l[j] = 0) : firstX k0 l = firstX k0 (l.drop k) := by
  induction k generalizing l with
  | zero => rfl
  | succ k ih =>
    cases l with
    | nil => rfl
    | cons c l =>
      have h0 := h 0 (by simp) (by omega)
      have e : firstX k0 (c :: l) = firstX k0 l := by
        unfold firstX
        rw [if_pos (by simpa using h0)]
        cases l <;> rfl
      rw [e, List.drop_succ_cons]
      exact ih (fun j hj hjk => by have := h (j + 1) (by simpa using hj) (by omega); simpa using this)
theorem firstX_at {k0 : Int} {l : List Ch} {k : Nat} (hk : k < l.length) : firstX k0 (l.drop k) = if oneX k0 l[k] = 0 then firstX k0 (l.drop (k + 1)) else oneX k0 l[k] := by
  rw [List.drop_eq_getElem_cons hk]
  rfl

/-! rows of structs -/
theorem fm_length {α : Type} (f : α → List Value) (k : Nat) (hk : ∀ a, (f a).length = k) (l : List α) : (l.flatMap f).length = l.length * k := by
  induction l with
  | nil => simp
  | cons a l ih => rw [List.flatMap_cons, List.length_append, ih, hk, List.length_cons, Nat.add_mul]; omega
theorem fm_at {α : Type} (f : α → List Value) (k : Nat) (hk : ∀ a, (f a).length = k) (l : List α) (j : Nat) (h : j < l.length) (i : Nat) (hi : i < k) : (l.flatMap f)[j * k + i]? = (f l[j])[i]? := by
  induction l generalizing j with
  | nil => simp at h
  | cons a l ih =>
    rw [List.flatMap_cons]
    cases j with
    | zero =>
      rw [Nat.zero_mul, Nat.zero_add, List.getElem?_append_left (by rw [hk]; exact hi)]
      rfl
    | succ j =>
      have e : (j + 1) * k + i = (j * k + i) + k := by rw [Nat.add_mul]; omega
      rw [e, List.getElem?_append_right (by rw [hk]; omega), hk, Nat.add_sub_cancel]
      exact ih j (by simpa using h)

/-- a list of structs that is read: f: an element's cells; Q: how its parts lie -/
def IsR {α : Type} (f : α → List Value) (k : Nat) (Q : World → α → Prop) (w : World) (v : Value) (l : List α) : Prop := Row w v k l.length (l.flatMap f) ∧ ∀ p, p ∈ l → Q w p
theorem IsR.below {α : Type} {f : α → List Value} {k : Nat} {Q : World → α → Prop} (hQ : ∀ w w' p, Below w.heap.size w w' → Q w p → Q w' p) {w w' : World} {v : Value} {l : List α} (h : IsR f k Q w v l) (hb : Below w.heap.size w w') : IsR f k Q w' v l :=
  ⟨h.1.below (Nat.le_refl _) hb, fun p hp => hQ _ _ p hb (h.2 p hp)⟩
theorem IsR.shape {α : Type} {f : α → List Value} {k : Nat} {Q : World → α → Prop} {w : World} {v : Value} {l : List α} (h : IsR f k Q w v l) : (∃ a cap, v = .slice a 0 cap ∧ l = []) ∨
    ∃ b off cap, v = .slice (some ⟨b, off, none⟩) l.length cap ∧ b < w.heap.size ∧ l.length ≤ cap ∧ l.length ≤ 140737488355328 ∧ 0 < l.length ∧ ∀ j u, (l.flatMap f)[j]? = some u → w.cell? ⟨b, off + j, none⟩ = some u := by
  obtain ⟨⟨_, a, cap, hv, hn, hm, _, h⟩, _⟩ := h
  rcases Nat.eq_zero_or_pos l.length with e | e
  · exact .inl ⟨a, cap, by rw [hv, e], List.length_eq_zero_iff.1 e⟩
  · rcases h with h | ⟨b, off, ha, hb, hc⟩
    · omega
    · exact .inr ⟨b, off, cap, by rw [hv, ha], hb, hn, hm, e, hc⟩
theorem IsR.len {α : Type} {f : α → List Value} {k : Nat} {Q : World → α → Prop} {w : World} {v : Value} {l : List α} (h : IsR f k Q w v l) : ∃ a cap, v = .slice a l.length cap ∧ l.length ≤ cap ∧ l.length ≤ 140737488355328 := by
  obtain ⟨⟨_, a, cap, hv, hn, hm, _, _⟩, _⟩ := h
  exact ⟨a, cap, hv, hn, hm⟩

theorem pmap_val {α : Type} {P : α → Prop} (l : List α) (h : ∀ x, x ∈ l → P x) : (l.pmap (fun x hx => (⟨x, hx⟩ : { x // P x })) h).map (fun x => x.1) = l := by
  induction l with
  | nil => rfl
  | cons a l ih => simp only [List.pmap_cons, List.map_cons]; rw [ih]

/-- ContainsFunc over structs, at a function that reads them; the list is not empty -/
theorem anyR {α : Type} {ρ : Ren} (L : SlLaysH0.n8 Try.prog ρ) (k : Nat) (aE : ∀ w, (isAgg (ρ.t 23)).run Try.prog w = .ok true w) (zE : ∀ w, (Go.sizeOf (ρ.t 23)).run Try.prog w = .ok k w)
    (f : α → List Value) (hk : ∀ a, (f a).length = k) (Q : World → α → Prop) (hQ : ∀ w w' p, Below w.heap.size w w' → Q w p → Q w' p) (v : Value) (l : List α) (h0 : 0 < l.length) (p : α → Bool) (g : Nat) (lb : Array Value) (w : World) (h : IsR f k Q w v l)
    (eg : ∀ args w, (callFunc g args).run Try.prog w = .ok (.enter g args) w)
    (hp : ∀ (W : World) (x : α), Below w.heap.size w W → Q W x → Calls Try.prog g (#[.agg (f x).toArray] ++ lb) W fun e w' => e = .returned (.bool (p x)) ∧ Below W.heap.size W w') :
    Calls Try.prog (ρ.f 8) #[v, .func (.func g) #[] lb] w fun e w' => e = .returned (.bool (l.any p)) ∧ Below w.heap.size w w' := by
  rcases h.shape with ⟨a, cap, _, e⟩ | ⟨b, off, cap, rfl, hb, hn, hm, _, hc⟩
  · rw [e] at h0
    simp at h0
  · have hE := h.2
    haveI : Inhabited { x : α // Q w x } := ⟨⟨l[0], hE _ (List.getElem_mem h0)⟩⟩
    obtain ⟨zs, hzs⟩ : ∃ zs : List { x : α // Q w x }, zs.map (fun x => x.1) = l := ⟨_, pmap_val l hE⟩
    have hzl : zs.length = l.length := by rw [← hzs, List.length_map]
    have hz : ∀ j (hj : j < l.length), (zs[j]!).1 = l[j] := by
      intro j hj
      rw [List.getElem!_eq_getElem?_getD, List.getElem?_eq_getElem (by omega)]
      have : (zs.map (fun x => x.1))[j]? = l[j]? := by rw [hzs]
      rw [List.getElem?_map, List.getElem?_eq_getElem (by omega), List.getElem?_eq_getElem hj] at this
      simpa using this
    have hany : (zs.take l.length).any (fun x => p x.1) = l.any p := by
      rw [List.take_of_length_le (by omega), ← hzs, List.any_map]
      rfl
    have con := AnyQ.slices_ContainsFunc L k aE zE (fun x : { x : α // Q w x } => f x.1) (fun x => hk x.1) (fun x => p x.1) g lb eg b off l.length cap zs w
      (fun W x hb => (hp W x.1 hb (hQ _ _ _ hb x.2)).mono fun e w' ⟨he, hb'⟩ => ⟨he, hb.trans (hb'.mono hb.size)⟩) (by omega) (by omega) hb (by
        intro j hj i u hu
        rw [hzl] at hj
        rw [hz j hj] at hu
        have hi : i < k := by
          have := (List.getElem?_eq_some_iff.1 hu).1
          rwa [hk] at this
        rw [Nat.add_assoc]
        exact hc _ _ ((fm_at f k hk l j hj i hi).trans hu))
    rw [hany] at con
    exact con
end Go.Proofs.Ytkcbgapakpheiaa.Lx
/- How stems, cells and a lexicon lie in memory; the program's predicates on them. No conditions beyond how they lie. -/
namespace Go.Proofs.Ytkcbgapakpheiaa.Ly
open Go.RowKit Go.Shelf Sd Md Sc Aq Ls Lx

abbrev VSt := Value × St
abbrev VCe := (Value × Value) × Ce
def stc (p : VSt) : List Value := [p.1, .int .i64 p.2.cls]
def cec (p : VCe) : List Value := [.int .i64 p.2.cls, p.1.1, p.1.2]
def stQ (w : World) (p : VSt) : Prop := IsI w p.1 p.2.form
def ceQ (w : World) (p : VCe) : Prop := IsI w p.1.1 p.2.bef ∧ IsI w p.1.2 p.2.beh
theorem stQ_up (w w' : World) (p : VSt) (hb : Below w.heap.size w w') (h : stQ w p) : stQ w' p := IsI.below h (Nat.le_refl _) hb
theorem ceQ_up (w w' : World) (p : VCe) (hb : Below w.heap.size w w') (h : ceQ w p) : ceQ w' p := ⟨h.1.below (Nat.le_refl _) hb, h.2.below (Nat.le_refl _) hb⟩
def IsSt (w : World) (v : Value) (l : List VSt) : Prop := IsR stc 2 stQ w v l
def IsCe (w : World) (v : Value) (l : List VCe) : Prop := IsR cec 3 ceQ w v l

theorem stLong_any (p : VSt) (w : World) (h : stQ w p) : Calls Try.prog 32 #[.agg #[p.1, .int .i64 p.2.cls]] w fun e w' => e = .returned (.bool (stLong p.2)) ∧ Below w.heap.size w w' := by
  obtain ⟨v, s⟩ := p
  obtain ⟨a, cap, hv, _, _⟩ := IsI.len h
  dsimp only at hv ⊢
  subst hv
  have hb : ∀ o, Below w.heap.size w (w.alloc o) := fun o => (Below.refl _ _).alloc (Nat.le_refl _) _
  unfold stLong
  by_cases h1 : (s.form.length : Int) < 1
  · rw [show decide (s.form.length < 1) = true from decide_eq_true (by omega), Bool.true_or]
    go_enter Try.func32, Try.ntmps32
    go_wp2
    go_ret
    exact ⟨rfl, hb _⟩
  · have d1 : decide ((s.form.length : Int) < 1) = false := decide_eq_false h1
    rw [show decide (s.form.length < 1) = false from decide_eq_false (by omega), Bool.false_or]
    by_cases h2 : (8 : Int) < (s.form.length : Int)
    · rw [show decide (8 < s.form.length) = true from decide_eq_true (by omega)]
      go_enter Try.func32, Try.ntmps32
      go_wp2
      go_ret
      exact ⟨by simp, hb _⟩
    · have d2 : decide ((8 : Int) < (s.form.length : Int)) = false := decide_eq_false h2
      rw [show decide (8 < s.form.length) = false from decide_eq_false (by omega)]
      go_enter Try.func32, Try.ntmps32
      go_wp2
      go_ret
      exact ⟨by simp, hb _⟩
theorem ceLong_any (p : VCe) (w : World) (h : ceQ w p) : Calls Try.prog 34 #[.agg #[.int .i64 p.2.cls, p.1.1, p.1.2]] w fun e w' => e = .returned (.bool (ceLong p.2)) ∧ Below w.heap.size w w' := by
  obtain ⟨⟨v, u⟩, s⟩ := p
  obtain ⟨h1, h2⟩ := h
  obtain ⟨a, cap, hv, _, _⟩ := h1.len
  obtain ⟨a2, cap2, hu, _, _⟩ := h2.len
  dsimp only at hv hu ⊢
  subst hv hu
  clear h1 h2
  have hb : ∀ o, Below w.heap.size w (w.alloc o) := fun o => (Below.refl _ _).alloc (Nat.le_refl _) _
  unfold ceLong
  by_cases h1 : (4 : Int) < (s.bef.length : Int)
  · rw [show decide (4 < s.bef.length) = true from decide_eq_true (by omega), Bool.true_or]
    go_enter Try.func34, Try.ntmps34
    go_wp2
    go_ret
    exact ⟨rfl, hb _⟩
  · have d1 : decide ((4 : Int) < (s.bef.length : Int)) = false := decide_eq_false h1
    rw [show decide (4 < s.bef.length) = false from decide_eq_false (by omega), Bool.false_or]
    by_cases h2 : (3 : Int) < (s.beh.length : Int)
    · rw [show decide (3 < s.beh.length) = true from decide_eq_true (by omega)]
      go_enter Try.func34, Try.ntmps34
      go_wp2
      go_ret
      exact ⟨by simp, hb _⟩
    · have d2 : decide ((3 : Int) < (s.beh.length : Int)) = false := decide_eq_false h2
      rw [show decide (3 < s.beh.length) = false from decide_eq_false (by omega)]
      go_enter Try.func34, Try.ntmps34
      go_wp2
      go_ret
      exact ⟨by simp, hb _⟩
theorem badK_any (n : Int) (w : World) : Calls Try.prog 35 #[.int .i64 n] w fun e w' => e = .returned (.bool (badK n)) ∧ w' = w := by
  unfold badK
  by_cases h1 : n < 0
  · go_enter Try.func35, Try.ntmps35
    go_wp2
    go_ret
    exact ⟨by simp [h1], rfl⟩
  · have d1 : decide (n < 0) = false := decide_eq_false h1
    go_enter Try.func35, Try.ntmps35
    go_wp2
    all_goals (go_ret; exact ⟨by simp_all, rfl⟩)

/-- 'symbol < 1 || symbol > kinds', as package forms says it -/
theorem outside_pred (k : Int) (B : Nat) (w : World) (hB : B < w.heap.size) (hcell : w.cell? ⟨B, 0, none⟩ = some (.int .i64 k)) :
    PredAt Try.prog 47 #[.pointer (some ⟨B, 0, none⟩)] (Value.int .i64) (bad k) w := fun W x hb => by
  have hc : W.cell? ⟨B, 0, none⟩ = some (.int .i64 k) := (hb.cell (p := ⟨B, 0, none⟩) hB).trans hcell
  show Calls Try.prog 47 #[.int .i64 x, .pointer (some ⟨B, 0, none⟩)] W _
  unfold bad
  by_cases h1 : x < 1
  · go_enter Try.func47, Try.ntmps47
    go_wp2
    go_ret
    exact ⟨by simp [h1], 0, rfl⟩
  · have d1 : decide (x < 1) = false := decide_eq_false h1
    go_enter Try.func47, Try.ntmps47
    go_wp2
    all_goals (go_ret; exact ⟨by simp_all, 0, rfl⟩)
theorem outside_any (k : Int) (w : World) : Calls Try.prog 27 #[.int .i64 k] w fun e w' => e = .returned (.func (.func 47) #[] #[.pointer (some ⟨w.heap.size, 0, none⟩)]) ∧ w' = w.alloc (.cells #[.int .i64 k] 3) := by
  go_enter Try.func27, Try.ntmps27
  go_wp2
  go_ret
  exact ⟨rfl, rfl⟩
theorem en47 : ∀ args w, (callFunc 47 args).run Try.prog w = .ok (.enter 47 args) w := enters_of Try.func47 (by kernel_rfl) rfl
theorem anyBad (v : Value) (l : List Int) (k : Int) (B : Nat) (w : World) (h : IsI w v l) (hB : B < w.heap.size) (hcell : w.cell? ⟨B, 0, none⟩ = some (.int .i64 k)) :
    Calls Try.prog 26 #[v, .func (.func 47) #[] #[.pointer (some ⟨B, 0, none⟩)]] w fun e w' => e = .returned (.bool (l.any (bad k))) ∧ Below w.heap.size w w' := by
  rcases h.shape with ⟨a, cap, rfl, rfl⟩ | ⟨b, off, cap, rfl, hb, hn, hm, h0, hc⟩
  · refine (Try.slices_ContainsFunc_empty (α := Int) a cap _ w).mono ?_
    rintro e w' ⟨rfl, rfl⟩
    exact ⟨rfl, Below.refl _ _⟩
  · have := Try.slices_ContainsFunc (Value.int .i64) (bad k) 47 #[.pointer (some ⟨B, 0, none⟩)] en47 b off l.length cap l w (outside_pred k B w hB hcell) (Nat.le_refl _) (by omega) (fun j hj => by rw [bang]; exact hc j hj)
    rw [List.take_length] at this
    refine this.mono ?_
    rintro e w' ⟨rfl, q, rfl⟩
    exact ⟨rfl, below_drewN' (Below.refl _ _) q⟩

/-- what the two captured functions are: A: class; C: symbol, over the kinds in B -/
structure Caps (A C B : Nat) (k : Int) (w : World) : Prop where
  la : A < w.heap.size
  ca : w.cell? ⟨A, 0, none⟩ = some (.func (.func 35) #[] #[])
  lc : C < w.heap.size
  cc : w.cell? ⟨C, 0, none⟩ = some (.func (.func 47) #[] #[.pointer (some ⟨B, 0, none⟩)])
  lb : B < w.heap.size
  cb : w.cell? ⟨B, 0, none⟩ = some (.int .i64 k)
theorem Caps.below {A C B : Nat} {k : Int} {w w' : World} (h : Caps A C B k w) (hb : Below w.heap.size w w') : Caps A C B k w' :=
  ⟨Nat.lt_of_lt_of_le h.la hb.size, (hb.cell h.la).trans h.ca, Nat.lt_of_lt_of_le h.lc hb.size, (hb.cell h.lc).trans h.cc, Nat.lt_of_lt_of_le h.lb hb.size, (hb.cell h.lb).trans h.cb⟩

set_option maxHeartbeats 1000000 in
theorem stFar_any (p : VSt) (A C B : Nat) (k : Int) (w : World) (h : stQ w p) (hc : Caps A C B k w) :
    Calls Try.prog 36 #[.agg #[p.1, .int .i64 p.2.cls], .pointer (some ⟨A, 0, none⟩), .pointer (some ⟨C, 0, none⟩)] w fun e w' => e = .returned (.bool (stFar k p.2)) ∧ Below w.heap.size w w' := by
  obtain ⟨v, s⟩ := p
  have hq : IsI w v s.form := h
  have hb : ∀ o, Below w.heap.size w (w.alloc o) := fun o => (Below.refl _ _).alloc (Nat.le_refl _) _
  have ca : ∀ o, (w.alloc o).cell? ⟨A, 0, none⟩ = some (.func (.func 35) #[] #[]) := fun o => (hc.below (hb o)).ca
  have cc : ∀ o, (w.alloc o).cell? ⟨C, 0, none⟩ = some (.func (.func 47) #[] #[.pointer (some ⟨B, 0, none⟩)]) := fun o => (hc.below (hb o)).cc
  have con := fun o => anyBad v s.form k B (w.alloc o) (hq.below (Nat.le_refl _) (hb o)) (hc.below (hb o)).lb (hc.below (hb o)).cb
  have conK := fun W => badK_any s.cls W
  unfold stFar
  dsimp only
  generalize badK s.cls = r1 at conK ⊢
  generalize s.form.any (bad k) = r2 at con ⊢
  obtain ⟨a, cap, hv, _, _⟩ := hq.len
  subst hv
  clear h hq hc
  cases r1 with
  | true =>
    go_enter Try.func36, Try.ntmps36
    go_wp2_with (go_at_call 35; refine (conK _).mono ?_; rintro e w' ⟨rfl, hw⟩; obtain rfl := hw.symm; clear hw)
    go_ret
    exact ⟨rfl, hb _⟩
  | false =>
    go_enter Try.func36, Try.ntmps36
    go_wp2_with (first | (go_at_call 35; refine (conK _).mono ?_; rintro e w' ⟨rfl, hw⟩; obtain rfl := hw.symm; clear hw) | (go_at_call 26; refine (con _).mono ?_; rintro e w2 ⟨rfl, hb2⟩))
    go_ret
    exact ⟨by simp, (hb _).trans (hb2.mono (by simp))⟩
set_option maxHeartbeats 1000000 in
theorem ceFar_any (p : VCe) (A C B : Nat) (k : Int) (w : World) (h : ceQ w p) (hc : Caps A C B k w) :
    Calls Try.prog 37 #[.agg #[.int .i64 p.2.cls, p.1.1, p.1.2], .pointer (some ⟨A, 0, none⟩), .pointer (some ⟨C, 0, none⟩)] w fun e w' => e = .returned (.bool (ceFar k p.2)) ∧ Below w.heap.size w w' := by
  obtain ⟨⟨v, u⟩, s⟩ := p
  have hq : IsI w v s.bef := h.1
  have hq2 : IsI w u s.beh := h.2
  have hb : ∀ o, Below w.heap.size w (w.alloc o) := fun o => (Below.refl _ _).alloc (Nat.le_refl _) _
  have ca : ∀ o, (w.alloc o).cell? ⟨A, 0, none⟩ = some (.func (.func 35) #[] #[]) := fun o => (hc.below (hb o)).ca
  have cc : ∀ o, (w.alloc o).cell? ⟨C, 0, none⟩ = some (.func (.func 47) #[] #[.pointer (some ⟨B, 0, none⟩)]) := fun o => (hc.below (hb o)).cc
  have con := fun W (hW : Below w.heap.size w W) => anyBad v s.bef k B W (hq.below (Nat.le_refl _) hW) (hc.below hW).lb (hc.below hW).cb
  have con2 := fun W (hW : Below w.heap.size w W) => anyBad u s.beh k B W (hq2.below (Nat.le_refl _) hW) (hc.below hW).lb (hc.below hW).cb
  have conK := fun W => badK_any s.cls W
  have hcc := hc.lc
  have hcx := hc.cc
  unfold ceFar
  dsimp only
  generalize badK s.cls = r1 at conK ⊢
  generalize s.bef.any (bad k) = r2 at con ⊢
  generalize s.beh.any (bad k) = r3 at con2 ⊢
  obtain ⟨a, cap, hv, _, _⟩ := hq.len
  subst hv
  obtain ⟨a2, cap2, hv, _, _⟩ := hq2.len
  subst hv
  clear h hq hq2 hc
  cases r1 with
  | true =>
    go_enter Try.func37, Try.ntmps37
    go_wp2_with (go_at_call 35; refine (conK _).mono ?_; rintro e w' ⟨rfl, hw⟩; obtain rfl := hw.symm; clear hw)
    go_ret
    exact ⟨rfl, hb _⟩
  | false =>
    cases r2 with
    | true =>
      go_enter Try.func37, Try.ntmps37
      go_wp2_with (first | (go_at_call 35; refine (conK _).mono ?_; rintro e w' ⟨rfl, hw⟩; obtain rfl := hw.symm; clear hw) | (go_at_call 26; with_reducible refine (con _ (hb _)).mono ?_; rintro e w2 ⟨rfl, hb2⟩))
      go_ret
      exact ⟨rfl, (hb _).trans (hb2.mono (by simp))⟩
    | false =>
      go_enter Try.func37, Try.ntmps37
      go_wp2_with (first | (go_at_call 35; refine (conK _).mono ?_; rintro e w' ⟨rfl, hw⟩; obtain rfl := hw.symm; clear hw) | (go_at_call 26; with_reducible refine (con _ (hb _)).mono ?_; rintro e w2 ⟨rfl, hb2⟩; have B2 := (hb _).trans (hb2.mono (hb _).size); have k2 : w2.cell? ⟨w.heap.size, 2, none⟩ = some (.slice a2 s.beh.length cap2) := (by (rw [hb2.cell (by simp)]; simp)); have kc : w2.cell? ⟨C, 0, none⟩ = some (.func (.func 47) #[] #[.pointer (some ⟨B, 0, none⟩)]) := (B2.cell (p := ⟨C, 0, none⟩) hcc).trans hcx) | (go_at_call 26; with_reducible refine (con2 _ B2).mono ?_; rintro e w3 ⟨rfl, hb3⟩))
      go_ret
      exact ⟨by simp, B2.trans (hb3.mono B2.size)⟩
end Go.Proofs.Ytkcbgapakpheiaa.Ly
/- How a lexicon lies in memory; the program's tooLong and outOfRange of it. No conditions beyond how it lies. -/
namespace Go.Proofs.Ytkcbgapakpheiaa.Lz
open Go.RowKit Go.Shelf Sd Md Sc Aq Ls Lx Ly

structure VX where
  k : Int
  vs : Value
  vc : Value
  vh : Value
  sts : List VSt
  ces : List VCe
  xs : List VC
def VX.lex (y : VX) : Lex := ⟨y.k, y.sts.map Prod.snd, y.ces.map Prod.snd, chs y.xs⟩
def VX.val (y : VX) : Value := .agg #[.int .i64 y.k, y.vs, y.vc, y.vh]
structure IsX (w : World) (y : VX) : Prop where
  s : IsSt w y.vs y.sts
  c : IsCe w y.vc y.ces
  h : IsL w y.vh y.xs
theorem IsX.below {w w' : World} {y : VX} (h : IsX w y) (hb : Below w.heap.size w w') : IsX w' y :=
  ⟨IsR.below stQ_up h.s hb, IsR.below ceQ_up h.c hb, h.h.below (Nat.le_refl _) hb⟩

theorem none54 (a : Option Addr) (cap : Nat) (fv : Value) (w : World) : Calls Try.prog 54 #[.slice a 0 cap, fv] w fun e w' => e = .returned (.int .i64 (-1)) ∧ w' = w := by
  go_enter Try.func54, Try.ntmps54
  go_wp2
  refine wp_loop_rounds 1 ?_
  rw [rounds_succ]
  go_wp2
  go_ret
  exact ⟨rfl, rfl⟩
theorem none31 (a : Option Addr) (cap : Nat) (fv : Value) (w : World) : Calls Try.prog 31 #[.slice a 0 cap, fv] w fun e w' => e = .returned (.bool false) ∧ w' = w := by
  go_enter Try.func31, Try.ntmps31
  go_wp2_with (go_at_call 54; refine (none54 a cap fv _).mono ?_; rintro e w' ⟨rfl, rfl⟩)
  go_ret
  exact ⟨rfl, rfl⟩
theorem none55 (a : Option Addr) (cap : Nat) (fv : Value) (w : World) : Calls Try.prog 55 #[.slice a 0 cap, fv] w fun e w' => e = .returned (.int .i64 (-1)) ∧ w' = w := by
  go_enter Try.func55, Try.ntmps55
  go_wp2
  refine wp_loop_rounds 1 ?_
  rw [rounds_succ]
  go_wp2
  go_ret
  exact ⟨rfl, rfl⟩
theorem none33 (a : Option Addr) (cap : Nat) (fv : Value) (w : World) : Calls Try.prog 33 #[.slice a 0 cap, fv] w fun e w' => e = .returned (.bool false) ∧ w' = w := by
  go_enter Try.func33, Try.ntmps33
  go_wp2_with (go_at_call 55; refine (none55 a cap fv _).mono ?_; rintro e w' ⟨rfl, rfl⟩)
  go_ret
  exact ⟨rfl, rfl⟩

theorem anySt (v : Value) (l : List VSt) (p : St → Bool) (g : Nat) (lb : Array Value) (w : World) (h : IsSt w v l) (eg : ∀ args w, (callFunc g args).run Try.prog w = .ok (.enter g args) w)
    (hp : ∀ (W : World) (x : VSt), Below w.heap.size w W → stQ W x → Calls Try.prog g (#[.agg #[x.1, .int .i64 x.2.cls]] ++ lb) W fun e w' => e = .returned (.bool (p x.2)) ∧ Below W.heap.size W w') :
    Calls Try.prog 31 #[v, .func (.func g) #[] lb] w fun e w' => e = .returned (.bool ((l.map Prod.snd).any p)) ∧ Below w.heap.size w w' := by
  rcases Nat.eq_zero_or_pos l.length with e0 | h0
  · have e := List.length_eq_zero_iff.1 e0
    subst e
    obtain ⟨a, cap, rfl, _, _⟩ := IsR.len h
    refine (none31 a cap _ w).mono ?_
    rintro e w' ⟨rfl, rfl⟩
    exact ⟨rfl, Below.refl _ _⟩
  · have := anyR Try.laysQ8_stem 2 Try.isAgg51 Try.sizeOf51 stc (fun _ => rfl) stQ stQ_up v l h0 (fun x => p x.2) g lb w h eg hp
    rw [List.any_map]
    exact this
theorem anyCe (v : Value) (l : List VCe) (p : Ce → Bool) (g : Nat) (lb : Array Value) (w : World) (h : IsCe w v l) (eg : ∀ args w, (callFunc g args).run Try.prog w = .ok (.enter g args) w)
    (hp : ∀ (W : World) (x : VCe), Below w.heap.size w W → ceQ W x → Calls Try.prog g (#[.agg #[.int .i64 x.2.cls, x.1.1, x.1.2]] ++ lb) W fun e w' => e = .returned (.bool (p x.2)) ∧ Below W.heap.size W w') :
    Calls Try.prog 33 #[v, .func (.func g) #[] lb] w fun e w' => e = .returned (.bool ((l.map Prod.snd).any p)) ∧ Below w.heap.size w w' := by
  rcases Nat.eq_zero_or_pos l.length with e0 | h0
  · have e := List.length_eq_zero_iff.1 e0
    subst e
    obtain ⟨a, cap, rfl, _, _⟩ := IsR.len h
    refine (none33 a cap _ w).mono ?_
    rintro e w' ⟨rfl, rfl⟩
    exact ⟨rfl, Below.refl _ _⟩
  · have := anyR Try.laysQ8_cell 3 Try.isAgg53 Try.sizeOf53 cec (fun _ => rfl) ceQ ceQ_up v l h0 (fun x => p x.2) g lb w h eg hp
    rw [List.any_map]
    exact this
theorem en32 : ∀ args w, (callFunc 32 args).run Try.prog w = .ok (.enter 32 args) w := enters_of Try.func32 (by kernel_rfl) rfl
theorem en34 : ∀ args w, (callFunc 34 args).run Try.prog w = .ok (.enter 34 args) w := enters_of Try.func34 (by kernel_rfl) rfl
theorem en36 : ∀ args w, (callFunc 36 args).run Try.prog w = .ok (.enter 36 args) w := enters_of Try.func36 (by kernel_rfl) rfl
theorem en37 : ∀ args w, (callFunc 37 args).run Try.prog w = .ok (.enter 37 args) w := enters_of Try.func37 (by kernel_rfl) rfl

set_option maxHeartbeats 1000000 in
theorem tooLong_any (y : VX) (w : World) (h : IsX w y) : Calls Try.prog 21 #[y.val] w fun e w' => e = .returned (.bool y.lex.longB) ∧ Below w.heap.size w w' := by
  obtain ⟨k, vs, vc, vh, sts, ces, xs⟩ := y
  have hb : ∀ o, Below w.heap.size w (w.alloc o) := fun o => (Below.refl _ _).alloc (Nat.le_refl _) _
  have c31 := fun W (hW : Below w.heap.size w W) => anySt vs sts stLong 32 #[] W (h.below hW).s en32 (fun W' x _ hx => stLong_any x W' hx)
  have c33 := fun W (hW : Below w.heap.size w W) => anyCe vc ces ceLong 34 #[] W (h.below hW).c en34 (fun W' x _ hx => ceLong_any x W' hx)
  simp only [VX.val, VX.lex, Lex.longB]
  generalize (sts.map Prod.snd).any stLong = r1 at c31 ⊢
  generalize (ces.map Prod.snd).any ceLong = r2 at c33 ⊢
  clear h
  cases r1 with
  | true =>
    go_enter Try.func21, Try.ntmps21
    go_wp2_with (go_at_call 31; refine (c31 _ (hb _)).mono ?_; rintro e w1 ⟨rfl, hb1⟩)
    go_ret
    exact ⟨rfl, (hb _).trans (hb1.mono (hb _).size)⟩
  | false =>
    go_enter Try.func21, Try.ntmps21
    go_wp2_with (first | (go_at_call 31; refine (c31 _ (hb _)).mono ?_; rintro e w1 ⟨rfl, hb1⟩; have B1 := (hb _).trans (hb1.mono (hb _).size); have k2 : w1.cell? ⟨w.heap.size, 2, none⟩ = some vc := (by (rw [hb1.cell (by simp)]; simp))) | (go_at_call 33; refine (c33 _ B1).mono ?_; rintro e w2 ⟨rfl, hb2⟩))
    go_ret
    exact ⟨by simp, B1.trans (hb2.mono B1.size)⟩
end Go.Proofs.Ytkcbgapakpheiaa.Lz
