/- The library's Equal of two lists of numbers that lie in memory, empty or not. No conditions. -/
import Derived.Test.YtkcbgapakpheiaaTk1M
namespace Go.Proofs.Ytkcbgapakpheiaa.Eq
open Go.RowKit Go.Shelf Sd Md Sc

set_option maxHeartbeats 4000000 in
set_option maxRecDepth 100000 in
theorem eq_all (v1 v2 : Value) (l1 l2 : List Int) (w : World) (h1 : IsI w v1 l1) (h2 : IsI w v2 l2) :
    Calls Try.prog 25 #[v1, v2] w fun e w' => e = .returned (.bool (l1 == l2)) ∧ ∃ q, w' = w.drewN q := by
  by_cases e1 : 0 < l1.length
  · by_cases e2 : 0 < l2.length
    · exact equal_any v1 v2 l1 l2 w h1 h2 e1 e2
    · have e : l2 = [] := List.length_eq_zero_iff.1 (by omega)
      subst e
      obtain ⟨a, c, rfl, _, _⟩ := h1.len
      obtain ⟨a2, c2, rfl, _, _⟩ := h2.len
      have hb : (l1 == []) = false := by
        cases l1 with
        | nil => simp at e1
        | cons a l => rfl
      rw [hb]
      clear h1 h2 e2 hb
      simp only [List.length_nil]
      generalize l1.length = n at *
      have d1 : ((n : Int) != 0) = true := by simp; omega
      go_enter Try.func25, Try.ntmps25
      go_wp2
      go_ret
      exact ⟨rfl, 0, rfl⟩
  · have e : l1 = [] := List.length_eq_zero_iff.1 (by omega)
    subst e
    obtain ⟨a, c, rfl, _, _⟩ := h1.len
    obtain ⟨a2, c2, rfl, _, hm⟩ := h2.len
    refine (Try.slices_Equal_int_empty a a2 c l2.length c2 w (by omega)).mono ?_
    rintro e w' ⟨rfl, h⟩
    refine ⟨?_, ?_⟩
    · cases l2 <;> simp
    · exact ⟨0, h⟩
end Go.Proofs.Ytkcbgapakpheiaa.Eq
