/- Plain facts on the table of costs as it begins, and at the end of a pass. No conditions. -/
import Derived.Test.YtfjocafepigijaaDoorWk2
namespace Go.Proofs.YtfjocafepigijaaDoor.Wk
open Mv

theorem all_dear {B : List Nat} {N : Nat} (hl : B.length = N) (h : ∀ r, r < N → val B r = dear) : B = List.replicate N dear := by
  apply List.ext_getElem
  · rw [List.length_replicate, hl]
  · intro r h1 h2
    have := h r (by omega)
    unfold val at this
    rw [List.getD_eq_getElem?_getD, List.getElem?_eq_getElem h1, Option.getD_some] at this
    rw [this, List.getElem_replicate]
def Fix (arcs : List (Int × Int × Int × Int × Int)) (inn out : List Int) (B : List Nat) : Prop := ∀ x (hx : x < arcs.length), ∀ i j, i < inn.length + 1 → j < cols out true → Rel inn out true B arcs[x] i j
theorem Pass.fin {arcs : List (Int × Int × Int × Int × Int)} {inn out : List Int} {B0 B : List Nat} {ag : Bool} (h : Pass arcs inn out B0 ag B arcs.length 0 0) : (ag = false ∧ Fix arcs inn out B) ∨ (ag = true ∧ B.sum < B0.sum) := by
  rcases h with ⟨a, _, h⟩ | h
  · exact .inl ⟨a, fun x hx i j hi hj => h x hx i j hi hj (.inl hx)⟩
  · exact .inr h
end Go.Proofs.YtfjocafepigijaaDoor.Wk
