/- The library's Contains, Equal, ContainsFunc at lists of numbers and of spots as they lie in memory. No conditions beyond how they lie. -/
import Derived.Test.YtkcbgapakpheiaaMd
namespace Go.Proofs.Ytkcbgapakpheiaa.Sc
open Go.RowKit Go.Shelf Sd Md

theorem bang (l : List Int) (j : Nat) : l[j]! = l.getD j 0 := by simp [List.getElem!_eq_getElem?_getD, List.getD_eq_getElem?_getD]

theorem contains_any (v : Value) (l : List Int) (x : Int) (w : World) (h : IsI w v l) :
    Calls Try.prog 65 #[v, .int .i64 x] w fun e w' => e = .returned (.bool (l.contains x)) ∧ w' = w := by
  rcases h.shape with ⟨a, cap, rfl, rfl⟩ | ⟨b, off, cap, rfl, hb, hn, hm, h0, hc⟩
  · exact Try.slices_Contains_int_empty a cap x w
  · have := Try.slices_Contains_int b off l.length cap l x w (Nat.le_refl _) (by omega) hc
    rwa [List.take_length] at this

theorem equal_any (v1 v2 : Value) (l1 l2 : List Int) (w : World) (h1 : IsI w v1 l1) (h2 : IsI w v2 l2) (e1 : 0 < l1.length) (e2 : 0 < l2.length) :
    Calls Try.prog 25 #[v1, v2] w fun e w' => e = .returned (.bool (l1 == l2)) ∧ ∃ q, w' = w.drewN q := by
  rcases h1.shape with ⟨a, cap, rfl, rfl⟩ | ⟨b, off, cap, rfl, hb, hn, hm, h0, hc⟩
  · simp at e1
  · rcases h2.shape with ⟨a, cap, rfl, rfl⟩ | ⟨b2, off2, cap2, rfl, hb2, hn2, hm2, h02, hc2⟩
    · simp at e2
    · have := Try.slices_Equal_int b off l1.length cap b2 off2 l2.length cap2 l1 l2 w (Nat.le_refl _) (Nat.le_refl _) (by omega) (by omega) hc hc2
      rwa [List.take_length, List.take_length] at this

/-- 'symbol < 1 || symbol > kinds' -/
theorem outside_pred (k : Int) (B : Nat) (w : World) (hB : B < w.heap.size) (hcell : w.cell? ⟨B, 0, none⟩ = some (.int .i64 k)) :
    PredAt Try.prog 57 #[.pointer (some ⟨B, 0, none⟩)] (Value.int .i64) (bad k) w := fun W x hb => by
  have hc : W.cell? ⟨B, 0, none⟩ = some (.int .i64 k) := (hb.cell (p := ⟨B, 0, none⟩) hB).trans hcell
  show Calls Try.prog 57 #[.int .i64 x, .pointer (some ⟨B, 0, none⟩)] W _
  unfold bad
  by_cases h1 : x < 1
  · go_enter Try.func57, Try.ntmps57
    go_wp2
    go_ret
    exact ⟨by simp [h1], 0, rfl⟩
  · have d1 : decide (x < 1) = false := decide_eq_false h1
    go_enter Try.func57, Try.ntmps57
    go_wp2
    all_goals (go_ret; exact ⟨by simp_all, 0, rfl⟩)
theorem outside_any (k : Int) (w : World) : Calls Try.prog 39 #[.int .i64 k] w fun e w' => e = .returned (.func (.func 57) #[] #[.pointer (some ⟨w.heap.size, 0, none⟩)]) ∧ w' = w.alloc (.cells #[.int .i64 k] 3) := by
  go_enter Try.func39, Try.ntmps39
  go_wp2
  go_ret
  exact ⟨rfl, rfl⟩
theorem en31 : ∀ args w, (callFunc 57 args).run Try.prog w = .ok (.enter 57 args) w := enters_of Try.func57 (by kernel_rfl) rfl
theorem anyBad (v : Value) (l : List Int) (k : Int) (B : Nat) (w : World) (h : IsI w v l) (hB : B < w.heap.size) (hcell : w.cell? ⟨B, 0, none⟩ = some (.int .i64 k)) :
    Calls Try.prog 26 #[v, .func (.func 57) #[] #[.pointer (some ⟨B, 0, none⟩)]] w fun e w' => e = .returned (.bool (l.any (bad k))) ∧ ∃ q, w' = w.drewN q := by
  rcases h.shape with ⟨a, cap, rfl, rfl⟩ | ⟨b, off, cap, rfl, hb, hn, hm, h0, hc⟩
  · refine (Try.slices_ContainsFunc_empty (α := Int) a cap _ w).mono ?_
    rintro e w' ⟨rfl, rfl⟩
    exact ⟨rfl, 0, rfl⟩
  · have := Try.slices_ContainsFunc (Value.int .i64) (bad k) 57 #[.pointer (some ⟨B, 0, none⟩)] en31 b off l.length cap l w (outside_pred k B w hB hcell) (Nat.le_refl _) (by omega) (fun j hj => by rw [bang]; exact hc j hj)
    rwa [List.take_length] at this
end Go.Proofs.Ytkcbgapakpheiaa.Sc
