/- form, hasSlot, check and Say of a talker. Conditions: the talker lies in memory and has at most twenty slots; no version is below 0 or above 1000000. -/
import Derived.Test.YtmhgoddlbklbfaaTc
namespace Go.Proofs.Ytmhgoddlbklbfaa.Tb
open Go.RowKit Ta

theorem wrap_id {x : Int} (h1 : -9223372036854775808 ≤ x) (h2 : x ≤ 9223372036854775807) : IntKind.i64.wrap x = x := by
  rw [IntKind.wrap_i64]
  omega
theorem below_drewN {n : Nat} {w w' : World} (h : Below n w w') (d : Nat) : Below n w (w'.drewN d) := by
  induction d with
  | zero => exact h
  | succ d ih => exact ih.drew
theorem form_any {w : World} {b N : Nat} {W : Int} {es : List Sl} (h : Tk w b W (N : Int) es) (hN : N ≤ 20) : Calls Try.prog 21 #[.pointer (some ⟨b, 0, none⟩)] w fun e w' => e = .returned (.slice (some ⟨b, 2, none⟩) N 20) ∧ Below w.heap.size w w' := by
  obtain ⟨h0, h1⟩ := h.head
  have hN1 : (N : Int) ≤ 20 := by omega
  clear h
  go_enter Try.func21, Try.ntmps21
  go_wp2_with fail
  go_quiet (fail)
  go_wp2
  go_ret
  exact ⟨rfl, by first | exact Below.refl _ _ | exact below_drewN (Below.refl _ _) _⟩
def hasB (N : Nat) (x : Int) : Bool := decide (0 ≤ x ∧ x < (N : Int))
theorem has_any {w : World} {b N : Nat} {W : Int} {es : List Sl} (h : Tk w b W (N : Int) es) (x : Int) : Calls Try.prog 22 #[.pointer (some ⟨b, 0, none⟩), .int .i64 x] w fun e w' => e = .returned (.bool (hasB N x)) ∧ Below w.heap.size w w' := by
  obtain ⟨h0, h1⟩ := h.head
  clear h
  unfold hasB
  by_cases h2 : 0 ≤ x
  · have e : decide (0 ≤ x ∧ x < (N : Int)) = decide (x < (N : Int)) := by simp [h2]
    rw [e]
    go_enter Try.func22, Try.ntmps22
    go_wp2
    go_ret
    exact ⟨rfl, Below.refl _ _⟩
  · rw [decide_eq_false (fun h => h2 h.1)]
    go_enter Try.func22, Try.ntmps22
    go_wp2
    go_ret
    exact ⟨rfl, Below.refl _ _⟩
/-- what is wrong with what was told -/
def wrongT (N : Nat) (t : To) : Int := if hasB N t.sl = false then 5 else if t.ver < 1 ∨ 1000000 < t.ver ∨ whoB t.who = false then 3 else if 100 < t.val.size then 2 else 0

set_option maxHeartbeats 1000000 in
theorem check_any {w : World} {b N : Nat} {W : Int} {es : List Sl} (h : Tk w b W (N : Int) es) (t : To) : Calls Try.prog 24 #[.pointer (some ⟨b, 0, none⟩), vt t] w fun e w' => e = .returned (.int .i64 (wrongT N t)) ∧ Below w.heap.size w w' := by
  obtain ⟨t0, t1, t2, t3, t4⟩ := t
  unfold vt wrongT
  dsimp only
  have hb := fun o => (Below.refl w.heap.size w).alloc (Nat.le_refl _) o
  have K22 := fun o => has_any (h.below (hb o)) t0
  have K20 := fun w' => who_any t2 w'
  have BX : ∀ w', Below (w.alloc (.cells #[.int .i64 t0, .int .i64 t1, .int .i64 t2, .string t3, .bool t4] 44)).heap.size (w.alloc (.cells #[.int .i64 t0, .int .i64 t1, .int .i64 t2, .string t3, .bool t4] 44)) w' → w'.cell? ⟨w.heap.size, 1, none⟩ = some (.int .i64 t1) ∧ w'.cell? ⟨w.heap.size, 2, none⟩ = some (.int .i64 t2) ∧ w'.cell? ⟨w.heap.size, 3, none⟩ = some (.string t3) ∧ Below w.heap.size w w' := fun w' hw => by
    have g := (hw.block w.heap.size (by simp)).trans (heap_alloc_new w _)
    exact ⟨cell_of_row _ _ 1 _ 44 (0, 0) g, cell_of_row _ _ 2 _ 44 (0, 0) g, cell_of_row _ _ 3 _ 44 (0, 0) g, (hb _).trans (hw.mono (by simp))⟩
  obtain ⟨x, hx⟩ : ∃ x, hasB N t0 = x := ⟨_, rfl⟩
  obtain ⟨y, hy⟩ : ∃ y, whoB t2 = y := ⟨_, rfl⟩
  rw [hx] at K22 ⊢
  rw [hy] at K20 ⊢
  clear hx hy h
  cases x
  · rw [if_pos rfl]
    go_enter Try.func24, Try.ntmps24
    go_wp2_with (go_at_call 22; (with_reducible refine (K22 _).mono ?_); rintro e w1 ⟨rfl, hb1⟩; have g := BX _ hb1; obtain ⟨g1, g2, g3, hb2⟩ := g)
    go_ret
    exact ⟨rfl, hb2⟩
  · rw [if_neg (by decide)]
    by_cases h1 : t1 < 1
    · rw [if_pos (.inl h1)]
      go_enter Try.func24, Try.ntmps24
      go_wp2_with (go_at_call 22; (with_reducible refine (K22 _).mono ?_); rintro e w1 ⟨rfl, hb1⟩; have g := BX _ hb1; obtain ⟨g1, g2, g3, hb2⟩ := g)
      go_ret
      exact ⟨rfl, hb2⟩
    · by_cases h2 : 1000000 < t1
      · rw [if_pos (.inr (.inl h2))]
        go_enter Try.func24, Try.ntmps24
        go_wp2_with (go_at_call 22; (with_reducible refine (K22 _).mono ?_); rintro e w1 ⟨rfl, hb1⟩; have g := BX _ hb1; obtain ⟨g1, g2, g3, hb2⟩ := g)
        go_ret
        exact ⟨rfl, hb2⟩
      · cases y
        · rw [if_pos (.inr (.inr rfl))]
          go_enter Try.func24, Try.ntmps24
          go_wp2_with (first | (go_at_call 22; (with_reducible refine (K22 _).mono ?_); rintro e w1 ⟨rfl, hb1⟩; have g := BX _ hb1; obtain ⟨g1, g2, g3, hb2⟩ := g) | (go_at_call 20; (with_reducible refine (K20 _).mono ?_); rintro e w2 ⟨rfl, rfl⟩))
          go_ret
          exact ⟨rfl, hb2⟩
        · rw [if_neg (by rintro (h | h | h); exact h1 h; exact h2 h; cases h)]
          by_cases h3 : 100 < t3.size
          · have h4 : (100 : Int) < (t3.size : Int) := by omega
            rw [if_pos h3]
            go_enter Try.func24, Try.ntmps24
            go_wp2_with (first | (go_at_call 22; (with_reducible refine (K22 _).mono ?_); rintro e w1 ⟨rfl, hb1⟩; have g := BX _ hb1; obtain ⟨g1, g2, g3, hb2⟩ := g) | (go_at_call 20; (with_reducible refine (K20 _).mono ?_); rintro e w2 ⟨rfl, rfl⟩))
            go_ret
            exact ⟨rfl, hb2⟩
          · have h4 : ¬ (100 : Int) < (t3.size : Int) := by omega
            rw [if_neg h3]
            go_enter Try.func24, Try.ntmps24
            go_wp2_with (first | (go_at_call 22; (with_reducible refine (K22 _).mono ?_); rintro e w1 ⟨rfl, hb1⟩; have g := BX _ hb1; obtain ⟨g1, g2, g3, hb2⟩ := g) | (go_at_call 20; (with_reducible refine (K20 _).mono ?_); rintro e w2 ⟨rfl, rfl⟩))
            go_ret
            exact ⟨rfl, hb2⟩

/-- what Say answers, and what becomes of the slots -/
def sayR (W : Int) (N : Nat) (es : List Sl) (x : Int) (v : ByteArray) : Int × List Sl :=
  if hasB N x = false then (5, es)
  else if 100 < v.size then (2, es)
  else match es[x.toNat]? with
    | some e => if 1000000 ≤ e.ver then (7, es) else (0, es.set x.toNat (putS e (e.ver + 1) W v))
    | none => (5, es)
def Vers (es : List Sl) : Prop := ∀ e ∈ es, 0 ≤ e.ver ∧ e.ver ≤ 1000000

set_option maxHeartbeats 1000000 in
theorem say_any {w : World} {b N : Nat} {W : Int} {es : List Sl} (h : Tk w b W (N : Int) es) (hN : N ≤ 20) (hv : Vers es) (x : Int) (v : ByteArray) : Calls Try.prog 9 #[.pointer (some ⟨b, 0, none⟩), .int .i64 x, .string v] w fun e w' => e = .returned (.int .i64 (sayR W N es x v).1) ∧ Tk w' b W (N : Int) (sayR W N es x v).2 ∧ Ko w w' b := by
  have K22 := has_any h x
  unfold sayR
  cases hx : hasB N x
  · rw [if_pos rfl]
    rw [hx] at K22
    go_enter Try.func9, Try.ntmps9
    go_wp2_with (go_at_call 22; (with_reducible refine K22.mono ?_); rintro e w1 ⟨rfl, hb1⟩)
    go_ret
    exact ⟨rfl, h.below hb1, ko_below hb1⟩
  · rw [if_neg (by decide)]
    rw [hx] at K22
    by_cases h3 : 100 < v.size
    · have h4 : (100 : Int) < (v.size : Int) := by omega
      rw [if_pos h3]
      go_enter Try.func9, Try.ntmps9
      go_wp2_with (go_at_call 22; (with_reducible refine K22.mono ?_); rintro e w1 ⟨rfl, hb1⟩)
      go_ret
      exact ⟨rfl, h.below hb1, ko_below hb1⟩
    · have h4 : ¬ (100 : Int) < (v.size : Int) := by omega
      rw [if_neg h3]
      have hxx := of_decide_eq_true hx
      obtain ⟨i, rfl⟩ : ∃ i : Nat, x = (i : Int) := ⟨x.toNat, by omega⟩
      have hi : i < es.length := by rw [h.2]; omega
      rw [show ((i : Int)).toNat = i from rfl, List.getElem?_eq_getElem hi]
      dsimp only
      have hi20 : (i : Int) < 20 := by omega
      have HT : Hid (∀ w', Below w.heap.size w w' → Tk w' b W (N : Int) es) := fun w' hw => h.below hw
      have HS : Hid (∀ w', Below w.heap.size w w' → w'.cell? ⟨b, 0, none⟩ = some (.int .i64 W) ∧ w'.cell? ⟨b, 2 + i * 6 + 1, none⟩ = some (.int .i64 es[i].ver)) := fun w' hw => ⟨(h.below hw).head.1, ((h.below hw).slot hi).2.1⟩
      have HP : Hid (∀ w', Below w.heap.size w w' → Calls Try.prog 23 #[.pointer (some ⟨b, 2 + i * 6, none⟩), .int .i64 (es[i].ver + 1), .int .i64 W, .string v] w' fun e w'' => e = .returned (.tuple #[]) ∧ Tk w'' b W (N : Int) (es.set i (putS es[i] (es[i].ver + 1) W v)) ∧ Ko w' w'' b) := fun w' hw => put_any (h.below hw) hi (es[i].ver + 1) W v (by omega)
      have hve := hv es[i] (List.getElem_mem hi)
      obtain ⟨z, hz⟩ : ∃ z, es[i].ver = z := ⟨_, rfl⟩
      rw [hz] at HS HP hve ⊢
      obtain ⟨l, hl⟩ : ∃ l, es.set i (putS es[i] (z + 1) W v) = l := ⟨_, rfl⟩
      rw [hl] at HP ⊢
      obtain ⟨z1, hz1⟩ : ∃ z1, z + 1 = z1 := ⟨_, rfl⟩
      have wz : IntKind.i64.wrap (z + 1) = z1 := by rw [hz1]; exact wrap_id (by omega) (by omega)
      rw [hz1] at HP
      clear hxx hx hv hl hz h hz1
      by_cases h7 : 1000000 ≤ z
      · rw [if_pos h7]
        go_enter Try.func9, Try.ntmps9
        go_wp2_with (go_at_call 22; (with_reducible refine K22.mono ?_); rintro e w1 ⟨rfl, hb1⟩; have g := HS.out _ hb1; obtain ⟨g1, g2⟩ := g)
        go_ret
        exact ⟨rfl, HT.out _ hb1, ko_below hb1⟩
      · rw [if_neg h7]
        go_enter Try.func9, Try.ntmps9
        go_wp2_with (go_at_call 22; (with_reducible refine K22.mono ?_); rintro e w1 ⟨rfl, hb1⟩; have g := HS.out _ hb1; obtain ⟨g1, g2⟩ := g)
        go_region_with (first | (go_at_call 23; (with_reducible refine (HP.out _ (hb1.drew)).mono ?_); rintro e w2 ⟨rfl, T2, k2⟩))
        all_goals
          go_wp2
          go_ret
          exact ⟨rfl, T2, (ko_below hb1.drew).trans k2⟩
end Go.Proofs.Ytmhgoddlbklbfaa.Tb
