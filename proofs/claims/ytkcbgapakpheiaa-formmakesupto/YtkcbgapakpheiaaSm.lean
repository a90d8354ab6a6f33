/- The document's Same at two lists that are the same: true. No conditions beyond how they lie. -/
import Derived.Test.YtkcbgapakpheiaaMd
import Derived.Deep.QuietTactic
import Derived.BigQuiet
namespace Go.Proofs.Ytkcbgapakpheiaa.Sm
open Go.RowKit Go.Shelf Sd Md

theorem isI_drewN {w : World} {v : Value} {l : List Int} (h : IsI w v l) (q : Nat) : IsI (w.drewN q) v l := h.below (Nat.le_refl _) (below_drewN' (Below.refl _ _) q)

set_option maxHeartbeats 1000000 in
theorem same_any (v1 v2 : Value) (l : List Int) (w : World) (h1 : IsI w v1 l) (h2 : IsI w v2 l) : Calls Try.prog 11 #[v1, v2] w fun e w' => e = .returned (.bool true) ∧ ∃ q, w' = w.drewN q := by
  rcases h1.shape with ⟨a, cap, rfl, rfl⟩ | ⟨b, off, cap, rfl, hb, hn, hm, h0, hc⟩
  · obtain ⟨a2, cap2, hv2, _, _⟩ := h2.len
    subst hv2
    clear h1 h2
    go_enter Try.func11, Try.ntmps11
    go_wp2
    refine wp_loop_rounds 1 ?_
    rw [rounds_succ]
    go_wp2
    go_ret
    exact ⟨rfl, 0, rfl⟩
  · rcases h2.shape with ⟨a, cap, rfl, rfl⟩ | ⟨b2, off2, cap2, rfl, hb2, hn2, hm2, h02, hc2⟩
    · simp at h0
    · clear h1 h2
      have HB : Hid (l.length ≤ 140737488355328) := hm
      clear hm hn hm2 hn2 h02
      go_enter Try.func11, Try.ntmps11
      go_wp2
      go_loopw [5] (fun i wr => ∃ k q : Nat, i = .int .i64 k ∧ k ≤ l.length ∧ wr = w.drewN q) (fun i _ => l.length - (intOf i).toNat)
      case atStart => exact ⟨0, 0, rfl, by omega, rfl⟩
      case round =>
        obtain ⟨k, q, rfl, hk, rfl⟩ := hrel
        have hbb := HB.out
        by_cases hlt : k < l.length
        · have c1 := hc k hlt
          have c2 := hc2 k hlt
          generalize l.getD k 0 = y at c1 c2
          have d1 : (y == y) = true := by simp
          clear hc hc2
          go_wp2
          go_quiet (fail)
          go_wp2
          go_roundw
          case rel => exact ⟨k + 1, q + nq, by go_num, by omega, by simp [World.drewN]⟩
          case measure => simp [intOf]; omega
        · have : k = l.length := by omega
          subst this
          clear hc hc2
          go_wp2
          go_ret
          exact ⟨rfl, q, rfl⟩
end Go.Proofs.Ytkcbgapakpheiaa.Sm
