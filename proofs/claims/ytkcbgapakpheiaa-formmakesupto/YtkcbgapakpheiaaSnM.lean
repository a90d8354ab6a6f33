/- The document's Same at two lists that are the same: true. No conditions beyond how they lie. -/
import Derived.Test.YtkcbgapakpheiaaMd
import Derived.Deep.QuietTactic
import Derived.BigQuiet
namespace Go.Proofs.Ytkcbgapakpheiaa.Sm
open Go.RowKit Go.Shelf Sd Md

theorem isI_drewN {w : World} {v : Value} {l : List Int} (h : IsI w v l) (q : Nat) : IsI (w.drewN q) v l := h.below (Nat.le_refl _) (below_drewN' (Below.refl _ _) q)

set_option maxHeartbeats 1000000 in
theorem same_any (v1 v2 : Value) (l : List Int) (w : World) (h1 : IsI w v1 l) (h2 : IsI w v2 l) : Calls Try.prog 11 #[v1, v2] w fun e w' => e = .returned (.bool true) ∧ ∃ q, w' = w.drewN q := by
  rcases h1.shape with ⟨a, cap, rfl, rfl⟩ | ⟨b, off, cap, rfl, hb, hn, hm, h0, hc⟩
  · obtain ⟨a2, cap2, hv2, _, _⟩ := h2.len
    subst hv2
    clear h1 h2
    go_enter Try.func11, Try.ntmps11
    go_wp2
    refine wp_loop_rounds 1 ?_
    rw [rounds_succ]
    go_wp2
    go_ret
    exact ⟨rfl, 0, rfl⟩
  · rcases h2.shape with ⟨a, cap, rfl, rfl⟩ | ⟨b2, off2, cap2, rfl, hb2, hn2, hm2, h02, hc2⟩
    · simp at h0
    · clear h1 h2
      have HB : Hid (l.length ≤ 140737488355328) := hm
      clear hm hn hm2 hn2 h02
      go_enter Try.func11, Try.ntmps11
      go_wp2
      go_loopw [5] (fun i wr => ∃ k q : Nat, i = .int .i64 k ∧ k ≤ l.length ∧ wr = w.drewN q) (fun i _ => l.length - (intOf i).toNat)
      case atStart => exact ⟨0, 0, rfl, by omega, rfl⟩
      case round =>
        obtain ⟨k, q, rfl, hk, rfl⟩ := hrel
        have hbb := HB.out
        by_cases hlt : k < l.length
        · have c1 := hc k hlt
          have c2 := hc2 k hlt
          generalize l.getD k 0 = y at c1 c2
          have d1 : (y == y) = true := by simp
          clear hc hc2
          go_wp2
          go_quiet (fail)
          go_wp2
          go_roundw
          case rel => exact ⟨k + 1, q + nq, by go_num, by omega, by simp [World.drewN]⟩
          case measure => simp [intOf]; omega
        · have : k = l.length := by omega
          subst this
          clear hc hc2
          go_wp2
          go_ret
          exact ⟨rfl, q, rfl⟩
end Go.Proofs.Ytkcbgapakpheiaa.Sm
/- The document's Same at any two lists. No conditions beyond how they lie. -/
namespace Go.Proofs.Ytkcbgapakpheiaa.Sn
open Go.RowKit Go.Shelf Sd Md Sm

theorem take_eq {l1 l2 : List Int} {k : Nat} (hl : l1.length = l2.length) (hk : k < l1.length) (h : l1.take k = l2.take k) (e : l1.getD k 0 = l2.getD k 0) : l1.take (k + 1) = l2.take (k + 1) := by
  rw [List.take_add_one, List.take_add_one, h, List.getElem?_eq_getElem hk, List.getElem?_eq_getElem (show k < l2.length by omega)]
  simp only [List.getD_eq_getElem?_getD, List.getElem?_eq_getElem hk, List.getElem?_eq_getElem (show k < l2.length by omega), Option.getD_some] at e
  rw [e]

set_option maxHeartbeats 2000000 in
theorem same_all (v1 v2 : Value) (l1 l2 : List Int) (w : World) (h1 : IsI w v1 l1) (h2 : IsI w v2 l2) : Calls Try.prog 11 #[v1, v2] w fun e w' => e = .returned (.bool (l1 == l2)) ∧ ∃ q, w' = w.drewN q := by
  by_cases he : l1 = l2
  · subst he
    rw [show (l1 == l1) = true by simp]
    exact same_any v1 v2 l1 w h1 h2
  rw [show (l1 == l2) = false by simpa using he]
  by_cases hl : l1.length = l2.length
  · rcases h1.shape with ⟨a, cap, rfl, rfl⟩ | ⟨b, off, cap, rfl, hb, hn, hm, h0, hc⟩
    · exact absurd (List.length_eq_zero_iff.1 hl.symm).symm he
    · rcases h2.shape with ⟨a, cap, rfl, rfl⟩ | ⟨b2, off2, cap2, rfl, hb2, hn2, hm2, h02, hc2⟩
      · exact absurd (List.length_eq_zero_iff.1 hl) he
      · have HB : Hid (l1.length ≤ 140737488355328) := hm
        have HE : Hid (¬ l1 = l2) := he
        have HLe : Hid (l1.length = l2.length) := hl
        rw [← hl]
        rw [← hl] at hc2
        clear h1 h2 hm hn hm2 hn2 h02 he hl
        go_enter Try.func11, Try.ntmps11
        go_wp2
        go_loopw [5] (fun i wr => ∃ k q : Nat, i = .int .i64 k ∧ k ≤ l1.length ∧ wr = w.drewN q ∧ Hid (l1.take k = l2.take k)) (fun i _ => l1.length - (intOf i).toNat)
        case atStart => exact ⟨0, 0, rfl, by omega, rfl, rfl⟩
        case round =>
          obtain ⟨k, q, rfl, hk, rfl, hT⟩ := hrel
          have hbb := HB.out
          by_cases hlt : k < l1.length
          · have c1 := hc k hlt
            have c2 := hc2 k hlt
            have HN : Hid (l1.getD k 0 = l2.getD k 0 → l1.take (k + 1) = l2.take (k + 1)) := fun e => take_eq HLe.out hlt hT.out e
            generalize l1.getD k 0 = y at c1 HN
            generalize l2.getD k 0 = z at c2 HN
            clear hc hc2
            by_cases hyz : y = z
            · have d1 : (y == z) = true := by simpa using hyz
              go_wp2
              go_quiet (fail)
              go_wp2
              go_roundw
              case rel => exact ⟨k + 1, q + nq, by go_num, by omega, by simp [World.drewN], HN.out hyz⟩
              case measure => simp [intOf]; omega
            · have d1 : (y == z) = false := by simpa using hyz
              go_wp2
              go_quiet (fail)
              go_wp2
              go_ret
              exact ⟨rfl, q + nq, by simp [World.drewN, Nat.add_assoc]⟩
          · have : k = l1.length := by omega
            subst this
            have := hT.out
            rw [List.take_length, HLe.out, List.take_length] at this
            exact absurd this HE.out
  · obtain ⟨a, cap, rfl, _, _⟩ := h1.len
    obtain ⟨a2, cap2, rfl, _, _⟩ := h2.len
    clear h1 h2 he
    generalize l1.length = n at hl
    generalize l2.length = m at hl
    have d1 : ((n : Int) == (m : Int)) = false := by simp; omega
    have d2 : ((n : Int) != (m : Int)) = true := by simp; omega
    go_enter Try.func11, Try.ntmps11
    go_wp2
    go_ret
    exact ⟨rfl, 0, rfl⟩
end Go.Proofs.Ytkcbgapakpheiaa.Sn
