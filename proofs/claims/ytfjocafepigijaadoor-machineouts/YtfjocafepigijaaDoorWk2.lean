/- Plain facts on a pass over all arcs and places: what is bettered lowers the sum; what is not is at its least. No conditions. -/
import Derived.Test.YtfjocafepigijaaDoorWk
namespace Go.Proofs.YtfjocafepigijaaDoor.Wk
open Mv

/-- a place of a pass is behind another one -/
def Ahead (x' i' j' x i j : Nat) : Prop := x' < x ∨ (x' = x ∧ (i' < i ∨ (i' = i ∧ j' < j)))
def Pass (arcs : List (Int × Int × Int × Int × Int)) (inn out : List Int) (B0 : List Nat) (ag : Bool) (B : List Nat) (x i j : Nat) : Prop :=
  (ag = false ∧ B = B0 ∧ ∀ x' (h : x' < arcs.length), ∀ i' j', i' < inn.length + 1 → j' < cols out true → Ahead x' i' j' x i j → Rel inn out true B arcs[x'] i' j') ∨ (ag = true ∧ B.sum < B0.sum)
theorem Pass.start (arcs : List (Int × Int × Int × Int × Int)) (inn out : List Int) (B : List Nat) : Pass arcs inn out B false B 0 0 0 :=
  .inl ⟨rfl, rfl, fun x' _ i' j' _ _ h => by unfold Ahead at h; omega⟩
theorem Pass.nextI {arcs : List (Int × Int × Int × Int × Int)} {inn out : List Int} {B0 B : List Nat} {ag : Bool} {x i : Nat} (h : Pass arcs inn out B0 ag B x i (cols out true)) : Pass arcs inn out B0 ag B x (i + 1) 0 := by
  rcases h with ⟨a, b, h⟩ | h
  · exact .inl ⟨a, b, fun x' hx i' j' hi hj hA => h x' hx i' j' hi hj (by unfold Ahead at hA ⊢; omega)⟩
  · exact .inr h
theorem Pass.nextX {arcs : List (Int × Int × Int × Int × Int)} {inn out : List Int} {B0 B : List Nat} {ag : Bool} {x : Nat} (h : Pass arcs inn out B0 ag B x (inn.length + 1) 0) : Pass arcs inn out B0 ag B (x + 1) 0 0 := by
  rcases h with ⟨a, b, h⟩ | h
  · exact .inl ⟨a, b, fun x' hx i' j' hi hj hA => h x' hx i' j' hi hj (by unfold Ahead at hA ⊢; omega)⟩
  · exact .inr h
theorem Pass.skip {arcs : List (Int × Int × Int × Int × Int)} {inn out : List Int} {B0 B : List Nat} {ag : Bool} {x i j : Nat} (h : Pass arcs inn out B0 ag B x i j) (hx : x < arcs.length) (hr : Rel inn out true B arcs[x] i j) : Pass arcs inn out B0 ag B x i (j + 1) := by
  rcases h with ⟨a, b, h⟩ | h
  · refine .inl ⟨a, b, fun x' hx' i' j' hi hj hA => ?_⟩
    by_cases e : x' = x ∧ i' = i ∧ j' = j
    · obtain ⟨rfl, rfl, rfl⟩ := e
      exact hr
    · exact h x' hx' i' j' hi hj (by unfold Ahead at hA ⊢; omega)
  · exact .inr h
theorem Pass.took {arcs : List (Int × Int × Int × Int × Int)} {inn out : List Int} {B0 B B' : List Nat} {ag : Bool} {x i j x2 i2 j2 : Nat} (h : Pass arcs inn out B0 ag B x i j) (hs : B'.sum < B.sum) : Pass arcs inn out B0 true B' x2 i2 j2 := by
  rcases h with ⟨_, rfl, _⟩ | ⟨_, h⟩
  · exact .inr ⟨rfl, hs⟩
  · exact .inr ⟨rfl, by omega⟩

/-- the table as it begins -/
def first (N : Nat) : List Nat := (List.replicate N dear).set 0 0
theorem first_inv (m : M) (inn out : List Int) (told : Bool) (S : Nat) (hS : 0 < S) : Inv m inn out told S (first (S * (inn.length + 1) * cols out told)) := by
  have hc : 0 < cols out told := by unfold cols; split <;> omega
  have hN : 0 < S * (inn.length + 1) * cols out told := Nat.mul_pos (Nat.mul_pos hS (by omega)) hc
  have hv : ∀ q, val (first (S * (inn.length + 1) * cols out told)) q = if 0 = q then 0 else dear := by
    intro q
    unfold first
    rw [val_set _ _ _ _ (by simpa using hN)]
    split
    · rfl
    · unfold val
      rw [List.getD_eq_getElem?_getD, List.getElem?_replicate]
      split <;> rfl
  refine ⟨by simp [first], ?_, ?_, ?_, ?_⟩
  · intro q; rw [hv]; split <;> simp [dear]
  · rw [hv]; rfl
  · intro s i j hs hi hj
    rw [hv]
    split
    · rename_i h
      intro _
      have e : idx (inn.length + 1) (cols out told) 0 0 0 = 0 := by unfold idx; simp
      obtain ⟨rfl, rfl, rfl⟩ := idx_inj (by omega) hc hi hj (e.trans h)
      exact ⟨0, rfl, rfl, rfl, rfl⟩
    · intro h; omega
  · intro q
    rw [hv]
    split
    · intro _; omega
    · intro h; omega

/-- no move at all -/
theorem rel_none {inn out : List Int} {B : List Nat} {a : Int × Int × Int × Int × Int} {i j : Nat} (h : ∀ i' j', ¬ Move inn out true a i j i' j') : Rel inn out true B a i j :=
  fun _ _ i' j' _ _ hm => absurd hm (h i' j')
theorem rel_dear {inn out : List Int} {B : List Nat} {a : Int × Int × Int × Int × Int} {i j f : Nat} (hf : a.1 = (f : Int)) (h : val B (idx (inn.length + 1) (cols out true) f i j) = dear) : Rel inn out true B a i j := by
  intro s s' i' j' e _ _ hd
  obtain rfl : s = f := by omega
  omega
theorem move_one {inn out : List Int} {a : Int × Int × Int × Int × Int} {i j i1 j1 i2 j2 : Nat} (h1 : Move inn out true a i j i1 j1) (h2 : Move inn out true a i j i2 j2) : i1 = i2 ∧ j1 = j2 := by
  obtain ⟨a1, b1⟩ := h1
  obtain ⟨a2, b2⟩ := h2
  constructor
  · rcases a1 with ⟨_, rfl⟩ | ⟨_, _, rfl⟩ <;> rcases a2 with ⟨_, rfl⟩ | ⟨_, _, rfl⟩ <;> omega
  · rcases b1 with ⟨h, rfl⟩ | ⟨_, _, _, rfl⟩ <;> rcases b2 with ⟨h', rfl⟩ | ⟨_, _, _, rfl⟩
    · rfl
    · rcases h with h | h
      · omega
      · cases h
    · rcases h' with h | h
      · omega
      · cases h
    · rfl
theorem rel_kept {inn out : List Int} {B : List Nat} {a : Int × Int × Int × Int × Int} {i j i1 j1 f t W : Nat} (hf : a.1 = (f : Int)) (ht : a.2.1 = (t : Int)) (hW : a.2.2.2.2 = (W : Int)) (hm : Move inn out true a i j i1 j1)
    (h : ¬ val B (idx (inn.length + 1) (cols out true) f i j) + W < val B (idx (inn.length + 1) (cols out true) t i1 j1)) : Rel inn out true B a i j := by
  intro s s' i' j' e1 e2 hm2 _
  obtain rfl : s = f := by omega
  obtain rfl : s' = t := by omega
  obtain ⟨rfl, rfl⟩ := move_one hm hm2
  omega
end Go.Proofs.YtfjocafepigijaaDoor.Wk
