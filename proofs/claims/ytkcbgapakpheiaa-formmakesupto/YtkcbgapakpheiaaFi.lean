/- The program's fits (one spot against a side): what the document's words say. No conditions beyond how they lie. -/
import Derived.Test.YtkcbgapakpheiaaSc
import Derived.Deep.QuietTactic
import Derived.BigQuiet
namespace Go.Proofs.Ytkcbgapakpheiaa.Fi
open Go.RowKit Go.Shelf Sd Md Sc

set_option maxHeartbeats 1000000 in
theorem fits_any (p : VS) (v : Value) (side : List Int) (k : Int) (w : World) (hp : IsI w p.1 p.2.any) (h : IsI w v side) :
    Calls Try.prog 64 #[.agg #[p.1, .bool p.2.edge], v, .int .i64 k] w fun e w' => e = .returned (.bool (fits p.2 side k)) ∧ Below w.heap.size w w' := by
  obtain ⟨u, s⟩ := p
  dsimp only at hp ⊢
  have hb : ∀ o, Below w.heap.size w (w.alloc o) := fun o => (Below.refl _ _).alloc (Nat.le_refl _) _
  by_cases h1 : k < 0
  · rw [show fits s side k = s.edge from by simp [fits, h1]]
    obtain ⟨a, c, hv, _, _⟩ := h.len
    subst hv
    obtain ⟨a, c, hv, _, _⟩ := hp.len
    subst hv
    clear h hp
    go_enter Try.func64, Try.ntmps64
    go_wp2
    go_ret
    exact ⟨rfl, hb _⟩
  have d1 : decide (k < 0) = false := decide_eq_false h1
  by_cases h2 : (side.length : Int) ≤ k
  · rw [show fits s side k = s.edge from by simp [fits, h2]]
    obtain ⟨a, c, hv, _, _⟩ := h.len
    subst hv
    obtain ⟨a, c, hv, _, _⟩ := hp.len
    subst hv
    clear h hp
    go_enter Try.func64, Try.ntmps64
    go_wp2
    go_ret
    exact ⟨rfl, hb _⟩
  have d2 : decide ((side.length : Int) ≤ k) = false := decide_eq_false h2
  obtain ⟨j, rfl⟩ : ∃ j : Nat, k = j := ⟨k.toNat, by omega⟩
  have hj : j < side.length := by omega
  rw [show fits s side (j : Int) = s.any.contains (side.getD j 0) from by unfold fits; rw [if_neg (by omega), Int.toNat_natCast]]
  have con := fun o n x => contains_any u s.any x ((w.alloc o).drewN n) (hp.below (Nat.le_refl _) (below_drewN' (hb o) n))
  rcases h.shape with ⟨a, cap, _, e⟩ | ⟨b, off, cap, hv, hlt, hn, hm, h0, hc⟩
  · rw [e] at hj
    simp at hj
  · subst hv
    have cj : ∀ o, (w.alloc o).cell? ⟨b, off + j, none⟩ = some (.int .i64 (side.getD j 0)) := fun o => ((hb o).cell (p := ⟨b, off + j, none⟩) hlt).trans (hc j hj)
    generalize side.getD j 0 = y at cj ⊢
    have con' := fun o n => con o n y
    generalize s.any.contains y = r at con' ⊢
    obtain ⟨a, c, hv, _, _⟩ := hp.len
    subst hv
    clear con hc h hp
    go_enter Try.func64, Try.ntmps64
    go_wp2
    go_quiet ((go_at_call 65; refine Calls.quiet_of_same (con' _ _)))
    go_wp2
    go_ret
    exact ⟨rfl, below_drewN' (hb _) _⟩
end Go.Proofs.Ytkcbgapakpheiaa.Fi
