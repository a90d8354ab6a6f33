/- The document's Texts at any text of at most 1048576 bytes. -/
import Derived.Test.YtiiheaopamjijaaTx
namespace Go.Proofs.Ytiiheaopamjijaa.Ty
open Go.RowKit Uni UnitsP Rw Un

set_option maxHeartbeats 1000000 in
set_option maxRecDepth 100000 in
theorem texts_none (s : ByteArray) (w : World) (hs : s.size ≤ 1048576) (hn : (units s).length = 0) :
    Calls Try.prog 6 #[.string s] w fun e w' => ∃ v, e = .returned v ∧ IsZ w' v (tx s) ∧ Below w.heap.size w w' := by
  have c := fun W => UnitsR.units_any s W hs
  have ht : tx s = [] := List.eq_nil_of_length_eq_zero (by rw [tx_length]; exact hn)
  rw [ht]
  simp only [hn] at c
  go_enter Try.func6, Try.ntmps6
  go_wp2_with (go_at_call 15; refine (c _).mono ?_; rintro e w1 ⟨v, rfl, hown, hb⟩; obtain ⟨a, cap, rfl⟩ := own_none hown)
  refine wp_loop_rounds 1 ?_
  rw [rounds_succ]
  go_wp2
  go_ret
  exact ⟨_, rfl, isZ_nil _, hb⟩
theorem texts_any (s : ByteArray) (w : World) (hs : s.size ≤ 1048576) :
    Calls Try.prog 6 #[.string s] w fun e w' => ∃ v, e = .returned v ∧ IsZ w' v (tx s) ∧ Below w.heap.size w w' := by
  by_cases h : 0 < (units s).length
  · exact Tx.texts_few s w hs h
  · exact texts_none s w hs (by omega)
end Go.Proofs.Ytiiheaopamjijaa.Ty
