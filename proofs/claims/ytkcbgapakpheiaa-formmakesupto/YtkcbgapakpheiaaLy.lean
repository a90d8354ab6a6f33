/- How stems, cells and a lexicon lie in memory; the program's predicates on them. No conditions beyond how they lie. -/
import Derived.Test.YtkcbgapakpheiaaLx
import Derived.Laws.EntriesVeiled
namespace Go.Proofs.Ytkcbgapakpheiaa.Ly
open Go.RowKit Go.Shelf Sd Md Sc Aq Ls Lx

abbrev VSt := Value × St
abbrev VCe := (Value × Value) × Ce
def stc (p : VSt) : List Value := [p.1, .int .i64 p.2.cls]
def cec (p : VCe) : List Value := [.int .i64 p.2.cls, p.1.1, p.1.2]
def stQ (w : World) (p : VSt) : Prop := IsI w p.1 p.2.form
def ceQ (w : World) (p : VCe) : Prop := IsI w p.1.1 p.2.bef ∧ IsI w p.1.2 p.2.beh
theorem stQ_up (w w' : World) (p : VSt) (hb : Below w.heap.size w w') (h : stQ w p) : stQ w' p := IsI.below h (Nat.le_refl _) hb
theorem ceQ_up (w w' : World) (p : VCe) (hb : Below w.heap.size w w') (h : ceQ w p) : ceQ w' p := ⟨h.1.below (Nat.le_refl _) hb, h.2.below (Nat.le_refl _) hb⟩
def IsSt (w : World) (v : Value) (l : List VSt) : Prop := IsR stc 2 stQ w v l
def IsCe (w : World) (v : Value) (l : List VCe) : Prop := IsR cec 3 ceQ w v l

theorem stLong_any (p : VSt) (w : World) (h : stQ w p) : Calls Try.prog 32 #[.agg #[p.1, .int .i64 p.2.cls]] w fun e w' => e = .returned (.bool (stLong p.2)) ∧ Below w.heap.size w w' := by
  obtain ⟨v, s⟩ := p
  obtain ⟨a, cap, hv, _, _⟩ := IsI.len h
  dsimp only at hv ⊢
  subst hv
  have hb : ∀ o, Below w.heap.size w (w.alloc o) := fun o => (Below.refl _ _).alloc (Nat.le_refl _) _
  unfold stLong
  by_cases h1 : (s.form.length : Int) < 1
  · rw [show decide (s.form.length < 1) = true from decide_eq_true (by omega), Bool.true_or]
    go_enter Try.func32, Try.ntmps32
    go_wp2
    go_ret
    exact ⟨rfl, hb _⟩
  · have d1 : decide ((s.form.length : Int) < 1) = false := decide_eq_false h1
    rw [show decide (s.form.length < 1) = false from decide_eq_false (by omega), Bool.false_or]
    by_cases h2 : (8 : Int) < (s.form.length : Int)
    · rw [show decide (8 < s.form.length) = true from decide_eq_true (by omega)]
      go_enter Try.func32, Try.ntmps32
      go_wp2
      go_ret
      exact ⟨by simp, hb _⟩
    · have d2 : decide ((8 : Int) < (s.form.length : Int)) = false := decide_eq_false h2
      rw [show decide (8 < s.form.length) = false from decide_eq_false (by omega)]
      go_enter Try.func32, Try.ntmps32
      go_wp2
      go_ret
      exact ⟨by simp, hb _⟩
theorem ceLong_any (p : VCe) (w : World) (h : ceQ w p) : Calls Try.prog 34 #[.agg #[.int .i64 p.2.cls, p.1.1, p.1.2]] w fun e w' => e = .returned (.bool (ceLong p.2)) ∧ Below w.heap.size w w' := by
  obtain ⟨⟨v, u⟩, s⟩ := p
  obtain ⟨h1, h2⟩ := h
  obtain ⟨a, cap, hv, _, _⟩ := h1.len
  obtain ⟨a2, cap2, hu, _, _⟩ := h2.len
  dsimp only at hv hu ⊢
  subst hv hu
  clear h1 h2
  have hb : ∀ o, Below w.heap.size w (w.alloc o) := fun o => (Below.refl _ _).alloc (Nat.le_refl _) _
  unfold ceLong
  by_cases h1 : (4 : Int) < (s.bef.length : Int)
  · rw [show decide (4 < s.bef.length) = true from decide_eq_true (by omega), Bool.true_or]
    go_enter Try.func34, Try.ntmps34
    go_wp2
    go_ret
    exact ⟨rfl, hb _⟩
  · have d1 : decide ((4 : Int) < (s.bef.length : Int)) = false := decide_eq_false h1
    rw [show decide (4 < s.bef.length) = false from decide_eq_false (by omega), Bool.false_or]
    by_cases h2 : (3 : Int) < (s.beh.length : Int)
    · rw [show decide (3 < s.beh.length) = true from decide_eq_true (by omega)]
      go_enter Try.func34, Try.ntmps34
      go_wp2
      go_ret
      exact ⟨by simp, hb _⟩
    · have d2 : decide ((3 : Int) < (s.beh.length : Int)) = false := decide_eq_false h2
      rw [show decide (3 < s.beh.length) = false from decide_eq_false (by omega)]
      go_enter Try.func34, Try.ntmps34
      go_wp2
      go_ret
      exact ⟨by simp, hb _⟩
theorem badK_any (n : Int) (w : World) : Calls Try.prog 35 #[.int .i64 n] w fun e w' => e = .returned (.bool (badK n)) ∧ w' = w := by
  unfold badK
  by_cases h1 : n < 0
  · go_enter Try.func35, Try.ntmps35
    go_wp2
    go_ret
    exact ⟨by simp [h1], rfl⟩
  · have d1 : decide (n < 0) = false := decide_eq_false h1
    go_enter Try.func35, Try.ntmps35
    go_wp2
    all_goals (go_ret; exact ⟨by simp_all, rfl⟩)

/-- 'symbol < 1 || symbol > kinds', as package forms says it -/
theorem outside_pred (k : Int) (B : Nat) (w : World) (hB : B < w.heap.size) (hcell : w.cell? ⟨B, 0, none⟩ = some (.int .i64 k)) :
    PredAt Try.prog 47 #[.pointer (some ⟨B, 0, none⟩)] (Value.int .i64) (bad k) w := fun W x hb => by
  have hc : W.cell? ⟨B, 0, none⟩ = some (.int .i64 k) := (hb.cell (p := ⟨B, 0, none⟩) hB).trans hcell
  show Calls Try.prog 47 #[.int .i64 x, .pointer (some ⟨B, 0, none⟩)] W _
  unfold bad
  by_cases h1 : x < 1
  · go_enter Try.func47, Try.ntmps47
    go_wp2
    go_ret
    exact ⟨by simp [h1], 0, rfl⟩
  · have d1 : decide (x < 1) = false := decide_eq_false h1
    go_enter Try.func47, Try.ntmps47
    go_wp2
    all_goals (go_ret; exact ⟨by simp_all, 0, rfl⟩)
theorem outside_any (k : Int) (w : World) : Calls Try.prog 27 #[.int .i64 k] w fun e w' => e = .returned (.func (.func 47) #[] #[.pointer (some ⟨w.heap.size, 0, none⟩)]) ∧ w' = w.alloc (.cells #[.int .i64 k] 3) := by
  go_enter Try.func27, Try.ntmps27
  go_wp2
  go_ret
  exact ⟨rfl, rfl⟩
theorem en47 : ∀ args w, (callFunc 47 args).run Try.prog w = .ok (.enter 47 args) w := enters_of Try.func47 (by kernel_rfl) rfl
theorem anyBad (v : Value) (l : List Int) (k : Int) (B : Nat) (w : World) (h : IsI w v l) (hB : B < w.heap.size) (hcell : w.cell? ⟨B, 0, none⟩ = some (.int .i64 k)) :
    Calls Try.prog 26 #[v, .func (.func 47) #[] #[.pointer (some ⟨B, 0, none⟩)]] w fun e w' => e = .returned (.bool (l.any (bad k))) ∧ Below w.heap.size w w' := by
  rcases h.shape with ⟨a, cap, rfl, rfl⟩ | ⟨b, off, cap, rfl, hb, hn, hm, h0, hc⟩
  · refine (Try.slices_ContainsFunc_empty (α := Int) a cap _ w).mono ?_
    rintro e w' ⟨rfl, rfl⟩
    exact ⟨rfl, Below.refl _ _⟩
  · have := Try.slices_ContainsFunc (Value.int .i64) (bad k) 47 #[.pointer (some ⟨B, 0, none⟩)] en47 b off l.length cap l w (outside_pred k B w hB hcell) (Nat.le_refl _) (by omega) (fun j hj => by rw [bang]; exact hc j hj)
    rw [List.take_length] at this
    refine this.mono ?_
    rintro e w' ⟨rfl, q, rfl⟩
    exact ⟨rfl, below_drewN' (Below.refl _ _) q⟩

/-- what the two captured functions are: A: class; C: symbol, over the kinds in B -/
structure Caps (A C B : Nat) (k : Int) (w : World) : Prop where
  la : A < w.heap.size
  ca : w.cell? ⟨A, 0, none⟩ = some (.func (.func 35) #[] #[])
  lc : C < w.heap.size
  cc : w.cell? ⟨C, 0, none⟩ = some (.func (.func 47) #[] #[.pointer (some ⟨B, 0, none⟩)])
  lb : B < w.heap.size
  cb : w.cell? ⟨B, 0, none⟩ = some (.int .i64 k)
theorem Caps.below {A C B : Nat} {k : Int} {w w' : World} (h : Caps A C B k w) (hb : Below w.heap.size w w') : Caps A C B k w' :=
  ⟨Nat.lt_of_lt_of_le h.la hb.size, (hb.cell h.la).trans h.ca, Nat.lt_of_lt_of_le h.lc hb.size, (hb.cell h.lc).trans h.cc, Nat.lt_of_lt_of_le h.lb hb.size, (hb.cell h.lb).trans h.cb⟩

set_option maxHeartbeats 1000000 in
theorem stFar_any (p : VSt) (A C B : Nat) (k : Int) (w : World) (h : stQ w p) (hc : Caps A C B k w) :
    Calls Try.prog 36 #[.agg #[p.1, .int .i64 p.2.cls], .pointer (some ⟨A, 0, none⟩), .pointer (some ⟨C, 0, none⟩)] w fun e w' => e = .returned (.bool (stFar k p.2)) ∧ Below w.heap.size w w' := by
  obtain ⟨v, s⟩ := p
  have hq : IsI w v s.form := h
  have hb : ∀ o, Below w.heap.size w (w.alloc o) := fun o => (Below.refl _ _).alloc (Nat.le_refl _) _
  have ca : ∀ o, (w.alloc o).cell? ⟨A, 0, none⟩ = some (.func (.func 35) #[] #[]) := fun o => (hc.below (hb o)).ca
  have cc : ∀ o, (w.alloc o).cell? ⟨C, 0, none⟩ = some (.func (.func 47) #[] #[.pointer (some ⟨B, 0, none⟩)]) := fun o => (hc.below (hb o)).cc
  have con := fun o => anyBad v s.form k B (w.alloc o) (hq.below (Nat.le_refl _) (hb o)) (hc.below (hb o)).lb (hc.below (hb o)).cb
  have conK := fun W => badK_any s.cls W
  unfold stFar
  dsimp only
  generalize badK s.cls = r1 at conK ⊢
  generalize s.form.any (bad k) = r2 at con ⊢
  obtain ⟨a, cap, hv, _, _⟩ := hq.len
  subst hv
  clear h hq hc
  cases r1 with
  | true =>
    go_enter Try.func36, Try.ntmps36
    go_wp2_with (go_at_call 35; refine (conK _).mono ?_; rintro e w' ⟨rfl, hw⟩; obtain rfl := hw.symm; clear hw)
    go_ret
    exact ⟨rfl, hb _⟩
  | false =>
    go_enter Try.func36, Try.ntmps36
    go_wp2_with (first | (go_at_call 35; refine (conK _).mono ?_; rintro e w' ⟨rfl, hw⟩; obtain rfl := hw.symm; clear hw) | (go_at_call 26; refine (con _).mono ?_; rintro e w2 ⟨rfl, hb2⟩))
    go_ret
    exact ⟨by simp, (hb _).trans (hb2.mono (by simp))⟩
set_option maxHeartbeats 1000000 in
theorem ceFar_any (p : VCe) (A C B : Nat) (k : Int) (w : World) (h : ceQ w p) (hc : Caps A C B k w) :
    Calls Try.prog 37 #[.agg #[.int .i64 p.2.cls, p.1.1, p.1.2], .pointer (some ⟨A, 0, none⟩), .pointer (some ⟨C, 0, none⟩)] w fun e w' => e = .returned (.bool (ceFar k p.2)) ∧ Below w.heap.size w w' := by
  obtain ⟨⟨v, u⟩, s⟩ := p
  have hq : IsI w v s.bef := h.1
  have hq2 : IsI w u s.beh := h.2
  have hb : ∀ o, Below w.heap.size w (w.alloc o) := fun o => (Below.refl _ _).alloc (Nat.le_refl _) _
  have ca : ∀ o, (w.alloc o).cell? ⟨A, 0, none⟩ = some (.func (.func 35) #[] #[]) := fun o => (hc.below (hb o)).ca
  have cc : ∀ o, (w.alloc o).cell? ⟨C, 0, none⟩ = some (.func (.func 47) #[] #[.pointer (some ⟨B, 0, none⟩)]) := fun o => (hc.below (hb o)).cc
  have con := fun W (hW : Below w.heap.size w W) => anyBad v s.bef k B W (hq.below (Nat.le_refl _) hW) (hc.below hW).lb (hc.below hW).cb
  have con2 := fun W (hW : Below w.heap.size w W) => anyBad u s.beh k B W (hq2.below (Nat.le_refl _) hW) (hc.below hW).lb (hc.below hW).cb
  have conK := fun W => badK_any s.cls W
  have hcc := hc.lc
  have hcx := hc.cc
  unfold ceFar
  dsimp only
  generalize badK s.cls = r1 at conK ⊢
  generalize s.bef.any (bad k) = r2 at con ⊢
  generalize s.beh.any (bad k) = r3 at con2 ⊢
  obtain ⟨a, cap, hv, _, _⟩ := hq.len
  subst hv
  obtain ⟨a2, cap2, hv, _, _⟩ := hq2.len
  subst hv
  clear h hq hq2 hc
  cases r1 with
  | true =>
    go_enter Try.func37, Try.ntmps37
    go_wp2_with (go_at_call 35; refine (conK _).mono ?_; rintro e w' ⟨rfl, hw⟩; obtain rfl := hw.symm; clear hw)
    go_ret
    exact ⟨rfl, hb _⟩
  | false =>
    cases r2 with
    | true =>
      go_enter Try.func37, Try.ntmps37
      go_wp2_with (first | (go_at_call 35; refine (conK _).mono ?_; rintro e w' ⟨rfl, hw⟩; obtain rfl := hw.symm; clear hw) | (go_at_call 26; with_reducible refine (con _ (hb _)).mono ?_; rintro e w2 ⟨rfl, hb2⟩))
      go_ret
      exact ⟨rfl, (hb _).trans (hb2.mono (by simp))⟩
    | false =>
      go_enter Try.func37, Try.ntmps37
      go_wp2_with (first | (go_at_call 35; refine (conK _).mono ?_; rintro e w' ⟨rfl, hw⟩; obtain rfl := hw.symm; clear hw) | (go_at_call 26; with_reducible refine (con _ (hb _)).mono ?_; rintro e w2 ⟨rfl, hb2⟩; have B2 := (hb _).trans (hb2.mono (hb _).size); have k2 : w2.cell? ⟨w.heap.size, 2, none⟩ = some (.slice a2 s.beh.length cap2) := (by (rw [hb2.cell (by simp)]; simp)); have kc : w2.cell? ⟨C, 0, none⟩ = some (.func (.func 47) #[] #[.pointer (some ⟨B, 0, none⟩)]) := (B2.cell (p := ⟨C, 0, none⟩) hcc).trans hcx) | (go_at_call 26; with_reducible refine (con2 _ B2).mono ?_; rintro e w3 ⟨rfl, hb3⟩))
      go_ret
      exact ⟨by simp, B2.trans (hb3.mono B2.size)⟩
end Go.Proofs.Ytkcbgapakpheiaa.Ly
