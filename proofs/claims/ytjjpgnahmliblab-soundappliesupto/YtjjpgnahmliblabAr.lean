/- The document's Apply: what it answers. Condition: the change's spots together are at most 2097152. -/
import Derived.Test.YtjjpgnahmliblabCs
import Derived.Test.YtjjpgnahmliblabCr
import Derived.Test.YtjjpgnahmliblabAq
namespace Go.Proofs.Ytjjpgnahmliblab.Ar
open Go.RowKit Go.Shelf Sd Md Sc Bx Aq

set_option maxHeartbeats 2000000 in
theorem apply_any (x : VC) (vx : Value) (text : List Int) (w : World) (h : IsC w x) (hx : IsI w vx text) (hs : x.ls.length + x.rs.length ≤ 2097152) :
    Calls Try.prog 6 #[x.val, vx] w fun e w' => ∃ v, e = .returned (.tuple #[v, .int .i64 (applyN x.c text)]) ∧ IsI w' v (applied x.c text) ∧ Below w.heap.size w w' := by
  obtain ⟨⟨kk, frm, tt, left, right⟩, vf, vt, vl, vr, ls, rs⟩ := x
  have hb : ∀ o, Below w.heap.size w (w.alloc o) := fun o => (Below.refl _ _).alloc (Nat.le_refl _) _
  have con9 := fun o => Cr.check_any _ (w.alloc o) (h.below (Nat.le_refl _) (hb o)) hs
  simp only [VC.val] at con9 ⊢
  have bx0 := Box.new w kk vf vt vl vr
  by_cases hc : check ⟨kk, frm, tt, left, right⟩ = 0
  · have hg := good_of hc
    rw [hc] at con9
    have con15 : ∀ W, Below w.heap.size w W → Calls Try.prog 15 #[vx, .int .i64 kk] W fun e w' => e = .returned (.bool (okAll text kk)) ∧ w' = W :=
      fun W hb => Wi.within_any vx text kk W (hx.below (Nat.le_refl _) hb)
    rw [show applyN ⟨kk, frm, tt, left, right⟩ text = textE kk text from if_pos hc]
    obtain ⟨ax, cx, hv, _, _⟩ := hx.len
    subst hv
    by_cases h60 : (60 : Int) < (text.length : Int)
    · have hE : textE kk text = 2 := by unfold textE; rw [if_pos (by omega)]
      rw [show applied ⟨kk, frm, tt, left, right⟩ text = [] from if_neg (fun h => by have := h.2; dsimp only at this; rw [hE] at this; omega), hE]
      clear h hx hs hg hc hE con15
      go_enter Try.func6, Try.ntmps6
      go_wp2_with (go_at_call 9; refine (con9 _).mono ?_; rintro e w1 ⟨rfl, hb1⟩; have B1 := (hb _).trans (hb1.mono (hb _).size); have x1 := bx0.below hb1; have p0 := x1.g0)
      go_ret2
      exact ⟨_, rfl, isI_nil _, B1⟩
    · have htl : text.length ≤ 60 := by omega
      have d60 : decide ((60 : Int) < (text.length : Int)) = false := decide_eq_false h60
      have con16 : ∀ W, Below w.heap.size w W → Calls Try.prog 16 #[.agg #[.int .i64 kk, vf, vt, vl, vr], .slice ax text.length cx] W fun e w' => ∃ v, e = .returned v ∧ IsI w' v (change ⟨kk, frm, tt, left, right⟩ text) ∧ Below W.heap.size W w' :=
        fun W hb => (Cs.change_any _ _ text W (h.below (Nat.le_refl _) hb) hg (hx.below (Nat.le_refl _) hb) htl).mono fun e w' ⟨v, h1, h2, _, h3⟩ => ⟨v, h1, h2, h3⟩
      have hE : textE kk text = if text.any (bad kk) then 3 else 0 := by unfold textE; rw [if_neg (by omega)]
      unfold okAll at con15
      cases hr : text.any (bad kk) with
      | true =>
        rw [hr] at hE con15
        have hE3 : textE kk text = 3 := hE
        rw [show applied ⟨kk, frm, tt, left, right⟩ text = [] from if_neg (fun h => by have := h.2; dsimp only at this; rw [hE3] at this; omega), hE3]
        clear h hx hs hg hc hE hE3 hr con16 htl
        go_enter Try.func6, Try.ntmps6
        go_wp2_with (first
          | (go_at_call 9; refine (con9 _).mono ?_; rintro e w1 ⟨rfl, hb1⟩; have B1 := (hb _).trans (hb1.mono (hb _).size); have x1 := bx0.below hb1; have p0 := x1.g0)
          | (go_at_call 15; refine (con15 _ B1).mono ?_; rintro e w2 ⟨rfl, hw⟩; obtain rfl := hw.symm; clear hw))
        go_ret2
        exact ⟨_, rfl, isI_nil _, B1⟩
      | false =>
        rw [hr] at hE con15
        have hE0 : textE kk text = 0 := hE
        rw [show applied ⟨kk, frm, tt, left, right⟩ text = change ⟨kk, frm, tt, left, right⟩ text from if_pos ⟨hc, hE0⟩, hE0]
        clear h hx hs hg hc hE hE0 hr htl
        go_enter Try.func6, Try.ntmps6
        go_wp2_with (first
          | (go_at_call 9; refine (con9 _).mono ?_; rintro e w1 ⟨rfl, hb1⟩; have B1 := (hb _).trans (hb1.mono (hb _).size); have x1 := bx0.below hb1; have p0 := x1.g0; have p1 := x1.g1; have p2 := x1.g2; have p3 := x1.g3; have p4 := x1.g4)
          | (go_at_call 15; refine (con15 _ B1).mono ?_; rintro e w2 ⟨rfl, hw⟩; obtain rfl := hw.symm; clear hw)
          | (go_at_call 16; refine (con16 _ B1).mono ?_; rintro e w3 ⟨v, rfl, hI, hb3⟩))
        go_ret2
        exact ⟨_, rfl, hI, B1.trans (hb3.mono B1.size)⟩
  · have hne : (check ⟨kk, frm, tt, left, right⟩ == 0) = false := by simpa using hc
    rw [show applied ⟨kk, frm, tt, left, right⟩ text = [] from if_neg (fun h => hc h.1), show applyN ⟨kk, frm, tt, left, right⟩ text = check ⟨kk, frm, tt, left, right⟩ from if_neg hc]
    generalize check ⟨kk, frm, tt, left, right⟩ = r at con9 hne ⊢
    clear h hx hs hc
    go_enter Try.func6, Try.ntmps6
    go_wp2_with (go_at_call 9; refine (con9 _).mono ?_; rintro e w1 ⟨rfl, hb1⟩; have B1 := (hb _).trans (hb1.mono (hb _).size); have x1 := bx0.below hb1; have p0 := x1.g0)
    go_ret2
    exact ⟨_, rfl, isI_nil _, B1⟩
end Go.Proofs.Ytjjpgnahmliblab.Ar
