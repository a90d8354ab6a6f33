/- ProveComplete: at all premises, claims and worlds as they lie in memory the law returns true. No conditions. -/
import Derived.Test.YtcnanbimpajonaaBa
import Derived.Test.YtcnanbimpajonaaPb
import Derived.Test.YtcnanbimpajonaaCc
namespace Go.Proofs.Ytcnanbimpajonaa.Lc
open Go.RowKit Cl Cf Cs Ce Nu Hd He Ag Kp Nd Au Ri Sn Pm Pn Po Pq Pk Az Ba

/-- both claims lie in their boxes -/
structure Bx (w : World) (c mo : C) (W : World) : Prop where
  bel : Below w.heap.size w W
  b1 : W.heap[w.heap.size]? = some (.cells #[.bool c.1, .int .i64 c.2.1, .int .i64 c.2.2] 24 (0, 0))
  b2 : W.heap[w.heap.size + 1]? = some (.cells #[.bool mo.1, .int .i64 mo.2.1, .int .i64 mo.2.2] 24 (0, 0))
theorem Bx.next {w : World} {c mo : C} {W W' : World} (h : Bx w c mo W) (hb : Below W.heap.size W W') : Bx w c mo W' :=
  ⟨h.bel.trans (hb.mono h.bel.size), (hb.block _ (Array.getElem?_eq_some_iff.1 h.b1).1).trans h.b1, (hb.block _ (Array.getElem?_eq_some_iff.1 h.b2).1).trans h.b2⟩
section
variable {w : World} {c0 : Bool} {c1 c2 : Int} {m0 : Bool} {m1 m2 : Int} {W : World}
theorem Bx.a (h : Bx w (c0, c1, c2) (m0, m1, m2) W) : W.cell? ⟨w.heap.size, 0, none⟩ = some (.bool c0) := cell_of_row _ _ 0 _ 24 (0, 0) h.b1
theorem Bx.b (h : Bx w (c0, c1, c2) (m0, m1, m2) W) : W.cell? ⟨w.heap.size, 1, none⟩ = some (.int .i64 c1) := cell_of_row _ _ 1 _ 24 (0, 0) h.b1
theorem Bx.c (h : Bx w (c0, c1, c2) (m0, m1, m2) W) : W.cell? ⟨w.heap.size, 2, none⟩ = some (.int .i64 c2) := cell_of_row _ _ 2 _ 24 (0, 0) h.b1
theorem Bx.d (h : Bx w (c0, c1, c2) (m0, m1, m2) W) : W.cell? ⟨w.heap.size + 1, 0, none⟩ = some (.bool m0) := cell_of_row _ _ 0 _ 24 (0, 0) h.b2
theorem Bx.e (h : Bx w (c0, c1, c2) (m0, m1, m2) W) : W.cell? ⟨w.heap.size + 1, 1, none⟩ = some (.int .i64 m1) := cell_of_row _ _ 1 _ 24 (0, 0) h.b2
theorem Bx.f (h : Bx w (c0, c1, c2) (m0, m1, m2) W) : W.cell? ⟨w.heap.size + 1, 2, none⟩ = some (.int .i64 m2) := cell_of_row _ _ 2 _ 24 (0, 0) h.b2
end

set_option maxHeartbeats 4000000 in
set_option maxRecDepth 100000 in
theorem walk_bad (ps : List C) (c : C) (xs : List Int) (mo : C) (vp vw : Value) (w : World) (hp : IsC w vp ps) (hw : IsI w vw xs) (h : checkAllP ps c ≠ 0) :
    Calls Try.prog 4 #[vp, vc c, vw, vc mo] w fun e w' => e = .returned (.bool true) ∧ Below w.heap.size w w' := by
  have k5 := fun W (hW : Below w.heap.size w W) => argue_bad ps c vp W (IsC.below hp hW) h
  have k6 := fun W (hW : Below w.heap.size w W) => against_bad ps c vp W (IsC.below hp hW) h
  obtain ⟨x, hx⟩ : ∃ x, checkAllP ps c = x := ⟨_, rfl⟩
  rw [hx] at h k5 k6
  have d : (x != 0) = true := by simpa using h
  have d2 : (x == x) = true := by simp
  obtain ⟨_, ap, kp, hv, _, _⟩ := id hp
  subst hv
  obtain ⟨_, aw, kw, hv, _, _⟩ := id hw
  subst hv
  obtain ⟨c0, c1, c2⟩ := c
  obtain ⟨m0, m1, m2⟩ := mo
  have t2 := Co.two w (.cells #[.bool c0, .int .i64 c1, .int .i64 c2] 24) (.cells #[.bool m0, .int .i64 m1, .int .i64 m2] 24)
  have H0 : Hid (Bx w (c0, c1, c2) (m0, m1, m2) ((w.alloc (.cells #[.bool c0, .int .i64 c1, .int .i64 c2] 24)).alloc (.cells #[.bool m0, .int .i64 m1, .int .i64 m2] 24))) := ⟨t2.2.2, t2.1, t2.2.1⟩
  unfold vc at k5 k6 ⊢
  dsimp only at k5 k6 ⊢
  clear hx h t2 hp hw
  go_enter Try.func4, Try.ntmps4
  go_wp2_with (first | (go_at_call 8; refine (Pb.begun_true _).mono ?_; rintro e W2 ⟨rfl, hb2⟩; have h2 := H0.out.next hb2; have H2 : Hid (Bx w (c0, c1, c2) (m0, m1, m2) W2) := h2; have r2a := h2.a; have r2b := h2.b; have r2c := h2.c; have s2a := h2.d; have s2b := h2.e; have s2c := h2.f; clear h2 hb2) | (go_at_call 5; refine (k5 _ H2.out.bel).mono ?_; rintro e W3 ⟨rfl, hb3⟩; have h3 := H2.out.next hb3; have H3 : Hid (Bx w (c0, c1, c2) (m0, m1, m2) W3) := h3; have r3a := h3.a; have r3b := h3.b; have r3c := h3.c; have s3a := h3.d; have s3b := h3.e; have s3c := h3.f; clear h3 hb3 k5) | (go_at_call 6; refine (k6 _ H3.out.bel).mono ?_; rintro e W4 ⟨rfl, hb4⟩; have h4 := H3.out.next hb4; have H4 : Hid (Bx w (c0, c1, c2) (m0, m1, m2) W4) := h4; have r4a := h4.a; have r4b := h4.b; have r4c := h4.c; have s4a := h4.d; have s4b := h4.e; have s4c := h4.f; clear h4 hb4 k6))
  go_ret
  exact ⟨rfl, H4.out.bel⟩

theorem worldE_low {ps : List C} {c : C} : worldE (worldL ps c) = 0 := by
  unfold worldE
  have h1 : (worldL ps c).length ≤ 64 := by rw [← Ax.upto_end]; exact Ax.upto_le _ _ _
  rw [if_neg (by omega), if_neg]
  intro h
  obtain ⟨x, hx, hn⟩ := List.any_eq_true.1 h
  have := (mem_world.1 hx).1
  unfold nobodyB at hn
  simp at hn
  omega
theorem holds_ok {xs : List Int} {c : C} (hw : worldE xs = 0) (hc : okC c = true) : holdsE xs c = 0 ∧ holdsR xs c = holdsP xs c := by
  have e : holdsE xs c = 0 := by
    unfold holdsE ckC
    rw [if_pos hw, if_pos hc]
  refine ⟨e, ?_⟩
  unfold holdsR
  rw [e]
  rfl
theorem against_all {ps : List C} {c : C} (h : againstB ps c = true) : (∀ p ∈ ps, holdsP (worldL ps c) p = true) ∧ holdsP (worldL ps c) c = false := by
  unfold againstB at h
  rw [Bool.and_eq_true, Bool.not_eq_true', Bool.not_eq_true', List.any_eq_false] at h
  exact ⟨fun p hp => by simpa using h.1 p hp, h.2⟩
/-- more premises take nothing away -/
theorem again_none {ps : List C} {g mo : C} {L : List Ln} (hG : GoodL ps L) (hin : In L g) (hps : ∀ p ∈ ps, okC p = true) : againstB (ps ++ [mo]) g = false := by
  cases h : againstB (ps ++ [mo]) g with
  | false => rfl
  | true =>
    obtain ⟨h1, h2⟩ := against_all h
    have := good_holds hG hps (xs := worldL (ps ++ [mo]) g) (fun p hp => h1 p (List.mem_append_left _ hp)) hin
    rw [this] at h2
    cases h2
/-- Argue, whatever is asked: it answers; where the claims are right, as no world is against it -/
theorem argue_any2 (qs : List C) (g : C) (v : Value) (w : World) (hp : IsC w v qs) : Calls Try.prog 5 #[v, vc g] w fun e w' => ∃ a n k b x, e = .returned (.tuple #[.slice a n k, .bool b, .int .i64 x]) ∧ (x = 0 → b = !againstB qs g) ∧ Below w.heap.size w w' := by
  by_cases h : checkAllP qs g = 0
  · refine (argue_ok qs g v w hp h).mono fun e w' ⟨ht, hb⟩ => ?_
    rcases ht with ⟨h1, rfl⟩ | ⟨h1, _, v', rfl, hl⟩
    · exact ⟨none, 0, 0, false, 0, rfl, fun _ => by rw [h1]; rfl, hb⟩
    · obtain ⟨Z, a, k, rfl, _⟩ := hl
      exact ⟨a, _, k, true, 0, rfl, fun _ => by rw [h1]; rfl, hb⟩
  · refine (argue_bad qs g v w hp h).mono fun e w' ⟨h1, hb⟩ => ?_
    exact ⟨none, 0, 0, false, _, h1, fun h0 => absurd h0 h, hb⟩
end Go.Proofs.Ytcnanbimpajonaa.Lc
