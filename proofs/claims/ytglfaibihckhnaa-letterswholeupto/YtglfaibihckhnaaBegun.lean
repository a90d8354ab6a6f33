/- What must be in any case: Units of one letter, Fold of one letter. No conditions. -/
import Derived.Test.YtglfaibihckhnaaUnitsP
import Derived.Test.YtglfaibihckhnaaFoldP2
namespace Go.Proofs.Ytglfaibihckhnaa.Begun
open Go.RowKit Uni

theorem own_open {w : World} {base : Nat} {e : TypeId} {size : Nat} {v : Value} {n : Nat} {xs : List Value} (h : w.ownsRow base e size v n xs) (hn : 0 < n) :
    ∃ g cap, v = .slice (some ⟨g, 0, none⟩) n cap ∧ base ≤ g ∧ g < w.heap.size ∧ n ≤ cap ∧ ∀ j u, xs[j]? = some u → w.cell? ⟨g, j, none⟩ = some u := by
  rcases h.2 with ⟨rfl, rfl⟩ | ⟨g, cap, cur, rfl, hb, hg, hnc, _⟩
  · omega
  · refine ⟨g, cap, rfl, hb, (Array.getElem?_eq_some_iff.1 hg).1, hnc, ?_⟩
    intro j u hu
    have := h.cells (g := g) rfl j u hu
    have e : (⟨g, 0, none⟩ : Addr).add j = ⟨g, j, none⟩ := by unfold Addr.add; split <;> simp_all
    rwa [e] at this

theorem units_one : units { data := #[97] } = [(0, 1, 97)] := by decide
theorem fold_one : FoldP.fold { data := #[65] } = [97] := by decide

theorem units_a (w : World) : Calls Try.prog 8 #[.string { data := #[97] }] w fun e w' => ∃ g cap, e = .returned (.slice (some ⟨g, 0, none⟩) 1 cap) ∧ w'.cell? ⟨g, 2, none⟩ = some (.int .i64 97) ∧ Below w.heap.size w w' := by
  refine (UnitsP.units_any _ w (by decide)).mono ?_
  rintro e w' ⟨v, he, hown, hb⟩
  rw [units_one] at hown
  obtain ⟨g, cap, hv, _, _, _, hc⟩ := own_open hown (by decide)
  exact ⟨g, cap, by rw [he, hv]; rfl, hc 2 _ rfl, hb⟩

theorem fold_A (w : World) : Calls Try.prog 15 #[.string { data := #[65] }] w fun e w' => e = .returned (.string { data := #[97] }) ∧ Below w.heap.size w w' := by
  refine (FoldP.fold_any _ w (by decide)).mono ?_
  rintro e w' ⟨he, hb⟩
  rw [fold_one] at he
  exact ⟨he, hb⟩

theorem begun_any (w : World) : Calls Try.prog 10 #[] w fun e w' => e = .returned (.bool true) ∧ Below w.heap.size w w' := by
  go_enter Try.func10, Try.ntmps10
  go_wp2_with (first | (go_at_call 8; refine (units_a _).mono ?_; rintro e w1 ⟨g, cap, rfl, hc, hb⟩) | (go_at_call 15; refine (fold_A _).mono ?_; rintro e w2 ⟨rfl, hb2⟩))
  go_ret
  exact ⟨rfl, hb.trans (hb2.mono hb.size)⟩
end Go.Proofs.Ytglfaibihckhnaa.Begun
