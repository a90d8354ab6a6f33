/- The document's Within, among and Same at lists of numbers as they lie in memory. No conditions beyond how they lie. -/
import Derived.Test.YtkcbgapakpheiaaMd
import Derived.Deep.QuietTactic
import Derived.BigQuiet
namespace Go.Proofs.Ytkcbgapakpheiaa.Wi
open Go.RowKit Go.Shelf Sd Md

theorem take_any {l : List Int} {p : Int → Bool} {k : Nat} (hk : k < l.length) : (l.take (k + 1)).any p = ((l.take k).any p || p (l.getD k 0)) := by
  rw [List.take_succ_eq_append_getElem hk, List.any_append]
  simp [hk]
theorem any_of {l : List Int} {p : Int → Bool} {k : Nat} (hk : k < l.length) (h : p (l.getD k 0) = true) : l.any p = true := by
  rw [List.any_eq_true]
  refine ⟨l[k], List.getElem_mem hk, ?_⟩
  simpa [hk] using h

set_option maxHeartbeats 1000000 in
theorem within_any (v : Value) (l : List Int) (m : Int) (w : World) (h : IsI w v l) : Calls Try.prog 16 #[v, .int .i64 m] w fun e w' => e = .returned (.bool (okAll l m)) ∧ w' = w := by
  rcases h.shape with ⟨a, cap, rfl, rfl⟩ | ⟨b, off, cap, rfl, hb, hn, hm, h0, hc⟩
  · go_enter Try.func16, Try.ntmps16
    go_wp2
    refine wp_loop_rounds 1 ?_
    rw [rounds_succ]
    go_wp2
    go_ret
    exact ⟨rfl, rfl⟩
  · clear h
    have HB : Hid (l.length ≤ 140737488355328) := hm
    clear hm hn
    go_enter Try.func16, Try.ntmps16
    go_wp2
    go_loopw [5] (fun i wr => ∃ k : Nat, i = .int .i64 k ∧ k ≤ l.length ∧ wr = w ∧ (l.take k).any (bad m) = false) (fun i _ => l.length - (intOf i).toNat)
    case atStart => exact ⟨0, rfl, by omega, rfl, rfl⟩
    case round =>
      obtain ⟨k, rfl, hk, rfl, hall⟩ := hrel
      by_cases hlt : k < l.length
      · have ck := hc k hlt
        have hst := take_any (p := bad m) hlt
        rw [hall, Bool.false_or] at hst
        have hno := any_of (p := bad m) hlt
        generalize l.getD k 0 = x at ck hst hno
        have HA : Hid (((l.take (k + 1)).any (bad m) = bad m x) ∧ (bad m x = true → l.any (bad m) = true)) := ⟨hst, hno⟩
        clear hst hno hall hc
        have hb2 := HB.out
        by_cases h1 : x < 1
        · go_wp2
          go_ret
          exact ⟨by rw [okAll, HA.out.2 (by simp [bad, h1])]; rfl, rfl⟩
        · have d1 : decide (x < 1) = false := decide_eq_false h1
          by_cases h2 : m < x
          · go_wp2
            go_ret
            exact ⟨by rw [okAll, HA.out.2 (by simp [bad, h2])]; rfl, rfl⟩
          · have d2 : decide (m < x) = false := decide_eq_false h2
            go_wp2
            go_roundw
            case rel => exact ⟨k + 1, by go_num, by omega, by trivial, by rw [HA.out.1]; simp [bad, d1, d2]⟩
            case measure => simp [intOf]; omega
      · have : k = l.length := by omega
        subst this
        rw [List.take_length] at hall
        go_wp2
        go_ret
        exact ⟨by simp [okAll, hall], rfl⟩

theorem contains_of {l : List Int} {x : Int} {k : Nat} (hk : k < l.length) (h : l.getD k 0 = x) : l.contains x = true := by
  rw [List.contains_iff_mem, ← h]
  simp [hk]
theorem take_mem {l : List Int} {x : Int} {k : Nat} (hk : k < l.length) (h : (l.take k).contains x = false) (hx : l.getD k 0 ≠ x) : (l.take (k + 1)).contains x = false := by
  rw [Bool.eq_false_iff] at h ⊢
  rw [ne_eq, List.contains_iff_mem] at h ⊢
  rw [List.take_succ_eq_append_getElem hk, List.mem_append]
  rintro (h' | h')
  · exact h h'
  · simp only [List.mem_singleton] at h'
    exact hx (by simp [hk, h'])

set_option maxHeartbeats 1000000 in
theorem among_any (v : Value) (l : List Int) (x : Int) (w : World) (h : IsI w v l) : Calls Try.prog 53 #[v, .int .i64 x] w fun e w' => e = .returned (.bool (l.contains x)) ∧ w' = w := by
  rcases h.shape with ⟨a, cap, rfl, rfl⟩ | ⟨b, off, cap, rfl, hb, hn, hm, h0, hc⟩
  · go_enter Try.func53, Try.ntmps53
    go_wp2
    refine wp_loop_rounds 1 ?_
    rw [rounds_succ]
    go_wp2
    go_ret
    exact ⟨rfl, rfl⟩
  · clear h
    have HB : Hid (l.length ≤ 140737488355328) := hm
    clear hm hn
    obtain ⟨r, hr⟩ : ∃ r, l.contains x = r := ⟨_, rfl⟩
    rw [hr]
    have HR : Hid (l.contains x = r) := hr
    clear hr
    go_enter Try.func53, Try.ntmps53
    go_wp2
    go_loopw [5] (fun i wr => ∃ k : Nat, i = .int .i64 k ∧ k ≤ l.length ∧ wr = w ∧ Hid ((l.take k).contains x = false)) (fun i _ => l.length - (intOf i).toNat)
    case atStart => exact ⟨0, rfl, by omega, rfl, rfl⟩
    case round =>
      obtain ⟨k, rfl, hk, rfl, hall⟩ := hrel
      have hb2 := HB.out
      by_cases hlt : k < l.length
      · have ck := hc k hlt
        obtain ⟨y, hy⟩ : ∃ y, l.getD k 0 = y := ⟨_, rfl⟩
        rw [hy] at ck
        have HY : Hid (l.getD k 0 = y) := hy
        clear hy hc
        by_cases h1 : y = x
        · have d1 : (y == x) = true := by simpa using h1
          have hr : r = true := by rw [← HR.out]; exact contains_of hlt (HY.out.trans h1)
          subst hr
          go_wp2
          go_ret
          exact ⟨rfl, rfl⟩
        · have d1 : (y == x) = false := by simpa using h1
          go_wp2
          go_roundw
          case rel => exact ⟨k + 1, by go_num, by omega, by trivial, take_mem hlt hall.out (by rw [HY.out]; exact h1)⟩
          case measure => simp [intOf]; omega
      · have : k = l.length := by omega
        subst this
        have := hall.out
        rw [List.take_length, HR.out] at this
        subst this
        clear hall
        go_wp2
        go_ret
        exact ⟨rfl, rfl⟩
end Go.Proofs.Ytkcbgapakpheiaa.Wi
