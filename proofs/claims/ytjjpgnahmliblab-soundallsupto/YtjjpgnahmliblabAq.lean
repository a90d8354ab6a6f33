/- The program's checkText and Apply: what the document says. Condition: the change's spots together are at most 2097152. -/
import Derived.Test.YtjjpgnahmliblabCh
import Derived.Test.YtjjpgnahmliblabCk2
import Derived.Test.YtjjpgnahmliblabBx
namespace Go.Proofs.Ytjjpgnahmliblab.Aq
open Go.RowKit Go.Shelf Sd Md Sc Ck2 Ch Bx

def textE (k : Int) (text : List Int) : Int := if 60 < text.length then 2 else if text.any (bad k) then 3 else 0

set_option maxHeartbeats 1000000 in
theorem checkText_any (v : Value) (text : List Int) (k : Int) (w : World) (h : IsI w v text) :
    Calls Try.prog 13 #[v, .int .i64 k] w fun e w' => e = .returned (.int .i64 (textE k text)) ∧ Below w.heap.size w w' := by
  have hb : ∀ o, Below w.heap.size w (w.alloc o) := fun o => (Below.refl _ _).alloc (Nat.le_refl _) _
  obtain ⟨a, c, hv, _, _⟩ := h.len
  subst hv
  by_cases h1 : (60 : Int) < (text.length : Int)
  · rw [show textE k text = 2 from by unfold textE; rw [if_pos (by omega)]]
    clear h
    go_enter Try.func13, Try.ntmps13
    go_wp2
    go_ret
    exact ⟨rfl, Below.refl _ _⟩
  · have con := anyBad (.slice a text.length c) text k w.heap.size (w.alloc (.cells #[.int .i64 k] 3)) (h.below (Nat.le_refl _) (hb _)) (by simp) (by simp)
    rw [show textE k text = if text.any (bad k) then 3 else 0 from by unfold textE; rw [if_neg (by omega)]]
    generalize text.any (bad k) = r at con ⊢
    clear h
    cases r with
    | true =>
      go_enter Try.func13, Try.ntmps13
      go_wp2_with (first | (go_at_call 18; refine (outside_any _ _).mono ?_; rintro e w1 ⟨rfl, rfl⟩) | (go_at_call 22; refine con.mono ?_; rintro e w2 ⟨rfl, q, rfl⟩))
      go_ret
      exact ⟨rfl, below_drewN' (hb _) q⟩
    | false =>
      go_enter Try.func13, Try.ntmps13
      go_wp2_with (first | (go_at_call 18; refine (outside_any _ _).mono ?_; rintro e w1 ⟨rfl, rfl⟩) | (go_at_call 22; refine con.mono ?_; rintro e w2 ⟨rfl, q, rfl⟩))
      go_ret
      exact ⟨rfl, below_drewN' (hb _) q⟩

theorem isI_nil (w : World) : IsI w (.slice none 0 0) [] := ⟨rfl, none, 0, rfl, Nat.le_refl _, Nat.zero_le _, fun _ => rfl, .inl rfl⟩
/-- what Apply answers beside its error -/
def applied (c : Ch) (text : List Int) : List Int := if check c = 0 ∧ textE c.kinds text = 0 then change c text else []
def applyN (c : Ch) (text : List Int) : Int := if check c = 0 then textE c.kinds text else check c

set_option maxHeartbeats 1000000 in
theorem apply_any (x : VC) (vx : Value) (text : List Int) (w : World) (h : IsC w x) (hx : IsI w vx text) (hs : x.ls.length + x.rs.length ≤ 2097152) :
    Calls Try.prog 5 #[x.val, vx] w fun e w' => ∃ v, e = .returned (.tuple #[v, .int .i64 (applyN x.c text)]) ∧ IsI w' v (applied x.c text) ∧ Below w.heap.size w w' := by
  obtain ⟨⟨kk, frm, to, left, right⟩, vf, vt, vl, vr, ls, rs⟩ := x
  have hb : ∀ o, Below w.heap.size w (w.alloc o) := fun o => (Below.refl _ _).alloc (Nat.le_refl _) _
  have con8 := fun o => check_any _ (w.alloc o) (h.below (Nat.le_refl _) (hb o)) hs
  simp only [VC.val] at con8 ⊢
  by_cases hc : check ⟨kk, frm, to, left, right⟩ = 0
  · have hg := good_of hc
    rw [hc] at con8
    have con13 : ∀ W, Below w.heap.size w W → Calls Try.prog 13 #[vx, .int .i64 kk] W fun e w' => e = .returned (.int .i64 (textE kk text)) ∧ Below W.heap.size W w' :=
      fun W hb => checkText_any vx text kk W (hx.below (Nat.le_refl _) hb)
    rw [show applyN ⟨kk, frm, to, left, right⟩ text = textE kk text from if_pos hc]
    by_cases hE : textE kk text = 0
    · rw [hE] at con13 ⊢
      have htl : text.length ≤ 60 := by
        unfold textE at hE
        split at hE
        · omega
        · omega
      rw [show applied ⟨kk, frm, to, left, right⟩ text = change ⟨kk, frm, to, left, right⟩ text from if_pos ⟨hc, hE⟩]
      have con14 : ∀ W, Below w.heap.size w W → Calls Try.prog 14 #[.agg #[.int .i64 kk, vf, vt, vl, vr], vx] W fun e w' => ∃ v, e = .returned v ∧ IsI w' v (change ⟨kk, frm, to, left, right⟩ text) ∧ Below W.heap.size W w' :=
        fun W hb => (change_any _ vx text W (h.below (Nat.le_refl _) hb) hg (hx.below (Nat.le_refl _) hb) htl).mono fun e w' ⟨v, h1, h2, _, h3⟩ => ⟨v, h1, h2, h3⟩
      clear h hx hs hg hc hE htl
      go_enter Try.func5, Try.ntmps5
      go_wp2_with (first
        | (go_at_call 8; refine (con8 _).mono ?_; rintro e w1 ⟨rfl, hb1⟩; have B1 := (hb _).trans (hb1.mono (hb _).size); have x1 := (Box.new w kk vf vt vl vr).below hb1; have p0 := x1.g0)
        | (go_at_call 13; refine (con13 _ B1).mono ?_; rintro e w2 ⟨rfl, hb2⟩; have B2 := B1.trans (hb2.mono B1.size); have x2 := x1.below hb2; have q0 := x2.g0; have q1 := x2.g1; have q2 := x2.g2; have q3 := x2.g3; have q4 := x2.g4)
        | (go_at_call 14; refine (con14 _ B2).mono ?_; rintro e w3 ⟨v, rfl, hI, hb3⟩))
      go_ret2
      exact ⟨_, rfl, hI, B2.trans (hb3.mono B2.size)⟩
    · have hne : (textE kk text == 0) = false := by simpa using hE
      rw [show applied ⟨kk, frm, to, left, right⟩ text = [] from if_neg (fun h => hE h.2)]
      generalize textE kk text = r at con13 hne ⊢
      clear h hx hs hg hc hE
      go_enter Try.func5, Try.ntmps5
      go_wp2_with (first
        | (go_at_call 8; refine (con8 _).mono ?_; rintro e w1 ⟨rfl, hb1⟩; have B1 := (hb _).trans (hb1.mono (hb _).size); have x1 := (Box.new w kk vf vt vl vr).below hb1; have p0 := x1.g0)
        | (go_at_call 13; refine (con13 _ B1).mono ?_; rintro e w2 ⟨rfl, hb2⟩; have B2 := B1.trans (hb2.mono B1.size); have x2 := x1.below hb2; have q0 := x2.g0; have q1 := x2.g1; have q2 := x2.g2; have q3 := x2.g3; have q4 := x2.g4))
      go_ret2
      exact ⟨_, rfl, isI_nil _, B2⟩
  · have hne : (check ⟨kk, frm, to, left, right⟩ == 0) = false := by simpa using hc
    rw [show applied ⟨kk, frm, to, left, right⟩ text = [] from if_neg (fun h => hc h.1), show applyN ⟨kk, frm, to, left, right⟩ text = check ⟨kk, frm, to, left, right⟩ from if_neg hc]
    generalize check ⟨kk, frm, to, left, right⟩ = r at con8 hne ⊢
    clear h hx hs hc
    go_enter Try.func5, Try.ntmps5
    go_wp2_with (first
        | (go_at_call 8; refine (con8 _).mono ?_; rintro e w1 ⟨rfl, hb1⟩; have B1 := (hb _).trans (hb1.mono (hb _).size); have x1 := (Box.new w kk vf vt vl vr).below hb1; have p0 := x1.g0))
    go_ret2
    exact ⟨_, rfl, isI_nil _, B1⟩
end Go.Proofs.Ytjjpgnahmliblab.Aq
