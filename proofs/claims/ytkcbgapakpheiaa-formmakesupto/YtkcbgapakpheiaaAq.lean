/- The program's checkText and Apply: what the document says. Condition: the change's spots together are at most 2097152. -/
import Derived.Test.YtkcbgapakpheiaaCh
import Derived.Test.YtkcbgapakpheiaaCk2
import Derived.Test.YtkcbgapakpheiaaBx
namespace Go.Proofs.Ytkcbgapakpheiaa.Aq
open Go.RowKit Go.Shelf Sd Md Sc Ck2 Ch Bx

def textE (k : Int) (text : List Int) : Int := if 60 < text.length then 2 else if text.any (bad k) then 3 else 0

set_option maxHeartbeats 1000000 in
theorem checkText_any (v : Value) (text : List Int) (k : Int) (w : World) (h : IsI w v text) :
    Calls Try.prog 49 #[v, .int .i64 k] w fun e w' => e = .returned (.int .i64 (textE k text)) ∧ Below w.heap.size w w' := by
  have hb : ∀ o, Below w.heap.size w (w.alloc o) := fun o => (Below.refl _ _).alloc (Nat.le_refl _) _
  obtain ⟨a, c, hv, _, _⟩ := h.len
  subst hv
  by_cases h1 : (60 : Int) < (text.length : Int)
  · rw [show textE k text = 2 from by unfold textE; rw [if_pos (by omega)]]
    clear h
    go_enter Try.func49, Try.ntmps49
    go_wp2
    go_ret
    exact ⟨rfl, Below.refl _ _⟩
  · have con := anyBad (.slice a text.length c) text k w.heap.size (w.alloc (.cells #[.int .i64 k] 3)) (h.below (Nat.le_refl _) (hb _)) (by simp) (by simp)
    rw [show textE k text = if text.any (bad k) then 3 else 0 from by unfold textE; rw [if_neg (by omega)]]
    generalize text.any (bad k) = r at con ⊢
    clear h
    cases r with
    | true =>
      go_enter Try.func49, Try.ntmps49
      go_wp2_with (first | (go_at_call 39; refine (outside_any _ _).mono ?_; rintro e w1 ⟨rfl, rfl⟩) | (go_at_call 26; refine con.mono ?_; rintro e w2 ⟨rfl, q, rfl⟩))
      go_ret
      exact ⟨rfl, below_drewN' (hb _) q⟩
    | false =>
      go_enter Try.func49, Try.ntmps49
      go_wp2_with (first | (go_at_call 39; refine (outside_any _ _).mono ?_; rintro e w1 ⟨rfl, rfl⟩) | (go_at_call 26; refine con.mono ?_; rintro e w2 ⟨rfl, q, rfl⟩))
      go_ret
      exact ⟨rfl, below_drewN' (hb _) q⟩

theorem isI_nil (w : World) : IsI w (.slice none 0 0) [] := ⟨rfl, none, 0, rfl, Nat.le_refl _, Nat.zero_le _, fun _ => rfl, .inl rfl⟩
/-- what Apply answers beside its error -/
def applied (c : Ch) (text : List Int) : List Int := if check c = 0 ∧ textE c.kinds text = 0 then change c text else []
def applyN (c : Ch) (text : List Int) : Int := if check c = 0 then textE c.kinds text else check c
end Go.Proofs.Ytkcbgapakpheiaa.Aq
