/- The program's Way. No conditions. -/
import Derived.Test.YtiiheaopamjijaaBk
import Derived.Test.YtiiheaopamjijaaFa
namespace Go.Proofs.Ytiiheaopamjijaa.Wy
open Go.RowKit Uni UnitsP Rw Ay Fi Nx Ap Bo Ro Lg Rv Bk

/-- the edits of a cheapest way -/
def wayE (a b : ByteArray) : List (Int × ByteArray) := (backs (tx a) (tx b) ((tx a).length + (tx b).length) (tx a).length (tx b).length).reverse
theorem tx_few (b : ByteArray) : ∀ s ∈ tx b, s.size ≤ 1048576 := by
  intro s hs
  obtain ⟨u, hu, rfl⟩ := List.mem_map.1 hs
  obtain ⟨k, hk, rfl⟩ := List.mem_iff_getElem.1 hu
  have := units_in b k hk
  simp only [sub, ByteArray.size_extract]
  omega

set_option maxHeartbeats 1000000 in
set_option maxRecDepth 100000 in
theorem way_any (a b : ByteArray) (w : World) :
    Calls Try.prog 5 #[.string a, .string b] w fun e w' => ∃ v, e = .returned (.tuple #[v, .int .i64 (if fits a b then 0 else 2)]) ∧ (fits a b = true → Row w' v 2 (wayE a b).length (ecs (wayE a b))) ∧ (fits a b = false → v = .slice none 0 0) ∧ Below w.heap.size w w' := by
  have c1 := both_any a b w
  by_cases hf : fits a b = true
  · rw [hf] at c1 ⊢
    have hl : (tx a).length ≤ 200 ∧ (tx b).length ≤ 200 := by simpa [fits] using hf
    have c2 := fun v v' W h h' => rows_any v v' (tx a) (tx b) W h h' hl.1 hl.2
    have hfew := tx_few b
    go_enter Try.func5, Try.ntmps5
    go_wp2_with (first
      | (go_at_call 11; refine c1.mono ?_; rintro e w1 ⟨u, v, rfl, hz, hb1⟩; have hz1 := hz rfl; clear hz; obtain ⟨pa, pc, rfl, _⟩ := hz1.1.len; obtain ⟨qa, qc, rfl, _⟩ := hz1.2.len)
      | (go_at_call 14; refine (c2 _ _ _ hz1.1 hz1.2).mono ?_; rintro e w2 ⟨r, rfl, hr, hb2⟩; have hLies : Lies w2 pa pc qa qc r (tx a) (tx b) := ⟨hz1.1.below hb2, hz1.2.below hb2, hr, hl.1, hl.2, hfew⟩)
      | (go_at_call 13; refine (back_any hLies).mono ?_; rintro e w3 ⟨x, rfl, hx, hb3⟩))
    go_ret2
    refine ⟨_, rfl, ?_, (hb1.trans (hb2.mono hb1.size)).trans (hb3.mono (Nat.le_trans hb1.size hb2.size))⟩
    unfold wayE
    rw [List.length_reverse]
    exact hx
  · have hf' : fits a b = false := by simpa using hf
    rw [hf'] at c1 ⊢
    go_enter Try.func5, Try.ntmps5
    go_wp2_with (go_at_call 11; refine c1.mono ?_; rintro e w1 ⟨u, v, rfl, -, hb1⟩)
    go_ret2
    exact ⟨_, rfl, rfl, hb1⟩
end Go.Proofs.Ytiiheaopamjijaa.Wy
