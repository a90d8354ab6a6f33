/- Edits reversed in place. Condition: at most 400 of them. -/
import Derived.Test.YtiiheaopamjijaaLg
import Derived.Test.YtiiheaopamjijaaShelf2
import Derived.Test.YtiiheaopamjijaaUn
namespace Go.Proofs.Ytiiheaopamjijaa.Rv
open Go.RowKit Go.Shelf Go.Lib Go.Sort Rw
/-- the cells of edits -/
def ecs (L : List (Int × ByteArray)) : List Value := L.flatMap fun e => [.int .i64 e.1, .string e.2]
theorem ecs_snoc (L : List (Int × ByteArray)) (e : Int × ByteArray) : ecs (L ++ [e]) = ecs L ++ [.int .i64 e.1, .string e.2] := by simp [ecs]
def enc (e : Int × ByteArray) : List Value := [.int .i64 e.1, .string e.2]
theorem ecs_len (L : List (Int × ByteArray)) : (ecs L).length = L.length * 2 := by
  induction L with
  | nil => rfl
  | cons e L ih =>
    have : ecs (e :: L) = [.int .i64 e.1, .string e.2] ++ ecs L := by simp [ecs]
    rw [this, List.length_append, ih]
    simp
    omega
theorem ecs_get : ∀ (L : List (Int × ByteArray)) (j : Nat), j < L.length * 2 → (ecs L)[j]? = some ((enc L[j / 2]!)[j % 2]!)
  | [], j, h => by simp at h
  | e :: L, 0, _ => by simp [ecs, enc]
  | e :: L, 1, _ => by simp [ecs, enc]
  | e :: L, j + 2, h => by
    have e1 : ecs (e :: L) = [.int .i64 e.1, .string e.2] ++ ecs L := by simp [ecs]
    have ih := ecs_get L j (by simp at h; omega)
    rw [e1, List.getElem?_append_right (by simp)]
    have e2 : (j + 2) / 2 = j / 2 + 1 := by omega
    have e3 : (j + 2) % 2 = j % 2 := by omega
    rw [e2, e3]
    simpa using ih
theorem flat_get (L : List (Int × ByteArray)) (j : Nat) (h : j < L.length * 2) : (ecs L)[j]? = some ((flatK enc 2 L.toArray)[j]!) := by
  rw [get_flatK enc 2 L.toArray j (by simpa using h), ecs_get L j h]
  simp

theorem rev_any {wr : World} {base : Nat} {v : Value} (L : List (Int × ByteArray)) (hown : wr.ownsRow base 34 2 v L.length (ecs L)) (hn : L.length ≤ 400) :
    Calls Try.prog 24 #[v] wr fun e w' => e = .returned (.tuple #[]) ∧ Row w' v 2 L.length (ecs L.reverse) ∧ Below base wr w' := by
  by_cases h0 : 0 < L.length
  · obtain ⟨g, cap, rfl, hbg, hgl, hcap, hcs⟩ := Un.own_open hown h0
    have hfz := fun j => hown.frozenAt j
    have hH : HoldsK enc 2 wr g 0 L.toArray := by
      intro j hj
      have hj' : j < L.length * 2 := by simpa using hj
      exact ⟨by rw [Nat.zero_add]; exact hcs j _ (flat_get L j hj'), hfz _⟩
    have c := AnyQ.slices_Reverse Try.reverseEdit 2 Try.isAgg34 Try.sizeOf34 enc (fun _ => rfl) (fun x v hv => by simp [enc] at hv; rcases hv with rfl | rfl <;> rfl) g 0 cap L.toArray wr hH (by simp; omega)
    refine Calls.mono c ?_
    rintro e w' ⟨rfl, n, rfl⟩
    have hH2 : HoldsK enc 2 (Sort.ahead wr n) g 0 L.toArray := hH
    have hH3 := holdsK_putRowK (enc := enc) (k := 2) (Sort.ahead wr n) g 0 L.toArray L.toArray.reverse hH2 (by simp)
    refine ⟨rfl, ⟨by rw [ecs_len]; simp, some ⟨g, 0, none⟩, cap, rfl, hcap, by omega, (fun h => by cases h), .inr ⟨g, 0, rfl, by simpa [putRowK] using hgl, ?_⟩⟩, ⟨rfl, rfl, rfl, by simp [putRowK], ?_⟩⟩
    · intro j u hu
      have hj : j < L.reverse.length * 2 := by rw [← ecs_len]; exact (List.getElem?_eq_some_iff.1 hu).1
      have e2 := flat_get L.reverse j hj
      rw [hu] at e2
      have := (hH3 j (by simpa using hj)).1
      rw [this]
      simp only [id_eq, List.reverse_toArray]
      exact e2.symm
    · intro k hk
      have hne : ¬ g = k := by omega
      simp [putRowK, putRow, mapBlock, Array.getElem?_modify, hne]
  · obtain ⟨a, cap, rfl⟩ := Un.own_none hown
    have e0 : L = [] := List.eq_nil_of_length_eq_zero (by omega)
    subst e0
    refine Calls.mono (AnyQ.slices_Reverse_empty Try.reverseEdit a cap wr) ?_
    rintro e w' ⟨rfl, rfl⟩
    exact ⟨rfl, row_of_own hown (by simp), Below.refl _ _⟩
end Go.Proofs.Ytiiheaopamjijaa.Rv
