/- The program's tooLong and innerEdge of a change as it lies in memory. No conditions beyond how it lies. -/
import Derived.Test.YtkcbgapakpheiaaSp
import Derived.Deep.QuietTactic
import Derived.BigQuiet
namespace Go.Proofs.Ytkcbgapakpheiaa.Tl
open Go.RowKit Go.Shelf Sd Md Sc Sp

set_option maxHeartbeats 1000000 in
theorem tooLong_any (x : VC) (w : World) (h : IsC w x) : Calls Try.prog 40 #[x.val] w fun e w' => e = .returned (.bool x.c.sizeB) ∧ Below w.heap.size w w' := by
  obtain ⟨⟨k, frm, to, left, right⟩, vf, vt, vl, vr, ls, rs⟩ := x
  obtain ⟨hl, hr, hf, ht, hls, hrs, _⟩ := h
  dsimp only at hl hr hf ht hls hrs
  subst hl hr
  obtain ⟨af, cf, hv, _, _⟩ := hf.len
  subst hv
  obtain ⟨at', ct, hv, _, _⟩ := ht.len
  subst hv
  obtain ⟨al, cl, hv, _, _⟩ := hls.len
  subst hv
  obtain ⟨ar, cr, hv, _, _⟩ := hrs.len
  subst hv
  have el : (sps ls).length = ls.length := List.length_map ..
  have er : (sps rs).length = rs.length := List.length_map ..
  simp only [VC.val, Ch.sizeB, el, er]
  clear el er hf ht hls hrs
  have hb : ∀ o, Below w.heap.size w (w.alloc o) := fun o => (Below.refl _ _).alloc (Nat.le_refl _) _
  by_cases h1 : (frm.length : Int) < 1
  · have e1 : decide (frm.length < 1) = true := decide_eq_true (by omega)
    rw [e1]
    clear e1
    go_enter Try.func40, Try.ntmps40
    go_wp2
    go_ret
    exact ⟨by simp, hb _⟩
  · have e1 : decide (frm.length < 1) = false := decide_eq_false (by omega)
    have d1 : decide ((frm.length : Int) < 1) = false := decide_eq_false h1
    rw [e1]
    clear e1
    by_cases h2 : (2 : Int) < (frm.length : Int)
    · have e2 : decide (2 < frm.length) = true := decide_eq_true (by omega)
      rw [e2]
      clear e2
      go_enter Try.func40, Try.ntmps40
      go_wp2
      go_ret
      exact ⟨by simp, hb _⟩
    · have e2 : decide (2 < frm.length) = false := decide_eq_false (by omega)
      have d2 : decide ((2 : Int) < (frm.length : Int)) = false := decide_eq_false h2
      rw [e2]
      clear e2
      by_cases h3 : (2 : Int) < (to.length : Int)
      · have e3 : decide (2 < to.length) = true := decide_eq_true (by omega)
        rw [e3]
        clear e3
        go_enter Try.func40, Try.ntmps40
        go_wp2
        go_ret
        exact ⟨by simp, hb _⟩
      · have e3 : decide (2 < to.length) = false := decide_eq_false (by omega)
        have d3 : decide ((2 : Int) < (to.length : Int)) = false := decide_eq_false h3
        rw [e3]
        clear e3
        by_cases h4 : (2 : Int) < (ls.length : Int)
        · have e4 : decide (2 < ls.length) = true := decide_eq_true (by omega)
          rw [e4]
          clear e4
          go_enter Try.func40, Try.ntmps40
          go_wp2
          go_ret
          exact ⟨by simp, hb _⟩
        · have e4 : decide (2 < ls.length) = false := decide_eq_false (by omega)
          have d4 : decide ((2 : Int) < (ls.length : Int)) = false := decide_eq_false h4
          rw [e4]
          clear e4
          by_cases h5 : (1 : Int) < (rs.length : Int)
          · have e5 : decide (1 < rs.length) = true := decide_eq_true (by omega)
            rw [e5]
            clear e5
            go_enter Try.func40, Try.ntmps40
            go_wp2
            go_ret
            exact ⟨by simp, hb _⟩
          · have e5 : decide (1 < rs.length) = false := decide_eq_false (by omega)
            have d5 : decide ((1 : Int) < (rs.length : Int)) = false := decide_eq_false h5
            rw [e5]
            clear e5
            go_enter Try.func40, Try.ntmps40
            go_wp2
            go_ret
            exact ⟨by simp, hb _⟩
end Go.Proofs.Ytkcbgapakpheiaa.Tl
