/- mayBe: whether somebody may be in a world against a claim. Conditions: the claims are of literals, the individual is one of 64. -/
import Derived.Test.YtcnanbimpajonaaMy
namespace Go.Proofs.Ytcnanbimpajonaa.Mz
open Go.RowKit Cl Cf Cs Ce Hd He Pq My

theorem three_at (w : World) (a b c : Obj) : (((w.alloc a).alloc b).alloc c).heap[w.heap.size]? = some a ∧ (((w.alloc a).alloc b).alloc c).heap[w.heap.size + 1]? = some b ∧ (((w.alloc a).alloc b).alloc c).heap[w.heap.size + 1 + 1]? = some c ∧ Below w.heap.size w (((w.alloc a).alloc b).alloc c) ∧ (((w.alloc a).alloc b).alloc c).heap.size = w.heap.size + 3 := by
  have e1 : (w.alloc a).heap.size = w.heap.size + 1 := by simp
  have e2 : ((w.alloc a).alloc b).heap.size = w.heap.size + 1 + 1 := by simp
  refine ⟨?_, ?_, ?_, (((Below.refl _ w).alloc (Nat.le_refl _) a).alloc (by omega) b).alloc (by omega) c, by simp⟩
  · rw [heap_alloc_old _ _ (by omega), heap_alloc_old _ _ (by omega)]
    exact heap_alloc_new w a
  · rw [heap_alloc_old _ _ (by omega), ← e1]
    exact heap_alloc_new _ b
  · rw [← e2]
    exact heap_alloc_new _ c

set_option maxHeartbeats 4000000 in
set_option maxRecDepth 100000 in
theorem may_any (x : Int) (hx : 0 ≤ x ∧ x < 64) (ps : List C) (c : C) (vp : Value) (w : World) (hp : IsC w vp ps) (hps : ∀ p ∈ ps, okC p = true) (hc : okC c = true) (hl : ps.length ≤ 20) :
    Calls Try.prog 35 #[.int .i64 x, vp, vc c] w fun e w' => e = .returned (.bool (mayB ps c x)) ∧ Below w.heap.size w w' := by
  have k27 := fun W (hI : IsI W (.slice (some ⟨w.heap.size + 1, 0, none⟩) 1 1) [x]) => holds_any [x] c (.slice (some ⟨w.heap.size + 1, 0, none⟩) 1 1) W hI (by simp) (fun y hy => by rw [List.mem_singleton.1 hy]; exact hx) hc
  obtain ⟨c0, c1, c2⟩ := c
  have t3 := three_at w (.cells #[.bool c0, .int .i64 c1, .int .i64 c2] 24) (.cells #[.int .i64 x] 3) (.cells #[.slice (some ⟨w.heap.size + 1, 0, none⟩) 1 1] 29)
  obtain ⟨W3, hW3⟩ : ∃ W, ((w.alloc (.cells #[.bool c0, .int .i64 c1, .int .i64 c2] 24)).alloc (.cells #[.int .i64 x] 3)).alloc (.cells #[.slice (some ⟨w.heap.size + 1, 0, none⟩) 1 1] 29) = W := ⟨_, rfl⟩
  have T3 : Hid _ := t3
  rw [hW3] at t3
  obtain ⟨b1, b2, b3, hB, hsz⟩ := t3
  have k37 := Cg.contains_any 49 #[.pointer (some ⟨w.heap.size + 1 + 1, 0, none⟩)] (offP x) vp ps W3 (IsC.below hp hB) (by omega) ⟨enters_of Try.func49 (by kernel_rfl) rfl, fun W p hW hm => off1_any x hx p (hps p hm) (w.heap.size + 1 + 1) (w.heap.size + 1) W ((hW.block _ (by omega)).trans b3) ((hW.block _ (by omega)).trans b2)⟩
  have after : ∀ W, Below W3.heap.size W3 W → Below w.heap.size w W ∧ W.cell? ⟨w.heap.size, 0, none⟩ = some (.bool c0) ∧ W.cell? ⟨w.heap.size, 1, none⟩ = some (.int .i64 c1) ∧ W.cell? ⟨w.heap.size, 2, none⟩ = some (.int .i64 c2) ∧ W.cell? ⟨w.heap.size + 1 + 1, 0, none⟩ = some (.slice (some ⟨w.heap.size + 1, 0, none⟩) 1 1) ∧ IsI W (.slice (some ⟨w.heap.size + 1, 0, none⟩) 1 1) [x] := fun W hW => by
    have g1 := (hW.block w.heap.size (by omega)).trans b1
    have g2 := (hW.block (w.heap.size + 1) (by omega)).trans b2
    have g3 := (hW.block (w.heap.size + 1 + 1) (by omega)).trans b3
    exact ⟨hB.trans (hW.mono hB.size), cell_of_row _ _ 0 _ 24 (0, 0) g1, cell_of_row _ _ 1 _ 24 (0, 0) g1, cell_of_row _ _ 2 _ 24 (0, 0) g1, cell_of_row _ _ 0 _ 29 (0, 0) g3, isI_one W x _ g2⟩
  obtain ⟨_, ap, kp, hv, _, _⟩ := hp
  subst hv
  have em : mayB ps (c0, c1, c2) x = (!(ps.any (offP x)) && !(c0 && holdsP [x] (c0, c1, c2))) := rfl
  rw [em]
  rw [← hW3] at k37 after
  unfold vc at k27 ⊢
  dsimp only at k27 ⊢
  clear hW3 b1 b2 b3 hB hsz T3 hx hps hc em
  cases ha : ps.any (offP x) with
  | true =>
    rw [ha] at k37
    clear ha k27
    go_enter Try.func35, Try.ntmps35
    go_wp2_with (go_at_call 37; refine k37.mono ?_; rintro e w2 ⟨rfl, hb2⟩; have H2 : Hid _ := (after _ hb2).1; clear hb2 k37 after)
    go_ret
    exact ⟨rfl, H2.out⟩
  | false =>
    rw [ha] at k37
    clear ha
    cases c0 with
    | false =>
      clear k27
      go_enter Try.func35, Try.ntmps35
      go_wp2_with (go_at_call 37; refine k37.mono ?_; rintro e w2 ⟨rfl, hb2⟩; have H2 : Hid _ := (after _ hb2).1; have q0 := (after _ hb2).2.1; clear hb2 k37 after)
      go_ret
      exact ⟨rfl, H2.out⟩
    | true =>
      cases hh : holdsP [x] (true, c1, c2) <;> rw [hh] at k27 <;> clear hh
      all_goals
        go_enter Try.func35, Try.ntmps35
        go_wp2_with (first | (go_at_call 37; refine k37.mono ?_; rintro e w2 ⟨rfl, hb2⟩; have hA := after _ hb2; have H2 : Hid _ := hA.1; have q0 := hA.2.1; have q1 := hA.2.2.1; have q2 := hA.2.2.2.1; have q3 := hA.2.2.2.2.1; have k27' := k27 _ hA.2.2.2.2.2; clear hb2 k37 after hA k27) | (go_at_call 27; refine k27'.mono ?_; rintro e w3 ⟨rfl, hb3⟩; clear k27'))
        go_ret
        exact ⟨rfl, H2.out.trans (hb3.mono H2.out.size)⟩
end Go.Proofs.Ytcnanbimpajonaa.Mz
