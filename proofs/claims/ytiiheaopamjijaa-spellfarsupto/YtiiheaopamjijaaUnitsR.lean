/- The document's Units: a new slice that holds the text's units. Condition: the text has at most 1048576 bytes. -/
import Derived.Test.YtiiheaopamjijaaLetAt2
namespace Go.Proofs.Ytiiheaopamjijaa.UnitsR
open Go.RowKit Uni UnitsP

set_option maxHeartbeats 1000000 in
set_option maxRecDepth 100000 in
theorem units_any (s : ByteArray) (w : World) (hs : s.size ≤ 1048576) :
    Calls Try.prog 15 #[.string s] w fun e w' => ∃ v, e = .returned v ∧ w'.ownsRow w.heap.size 45 3 v (units s).length (ucs (units s)) ∧ Below w.heap.size w w' := by
  obtain ⟨i0, hi, hz0, hz1, hz2⟩ := info_parts info26
  go_enter Try.func15, Try.ntmps15
  go_wp2
  go_loopw [3, 4] (fun v k wr => ∃ (pos fuel : Nat) (acc : List (Nat × Nat × Int)), k = .int .i64 pos ∧ pos ≤ s.size ∧ wr.ownsRow w.heap.size 45 3 v acc.length (ucs acc) ∧ Below w.heap.size w wr ∧ acc ++ unitsFrom s fuel pos = units s ∧ s.size ≤ pos + fuel) (fun _ k _ => s.size - (intOf k).toNat)
  case atStart =>
    exact ⟨0, s.size, [], rfl, by omega, World.ownsRow_nil _ _ _ _, Below.refl _ _, rfl, by omega⟩
  case round =>
    obtain ⟨pos, fuel, acc, rfl, hps, hown, hbw, hacc, hfu⟩ := hrel
    by_cases hp : pos < s.size
    · obtain ⟨f, rfl⟩ : ∃ f, fuel = f + 1 := ⟨fuel - 1, by omega⟩
      have hf := ua_facts s pos hp
      have hlen : acc.length + 1 ≤ s.size := by
        have := units_length s
        rw [← hacc, unitsFrom_step s f pos hp] at this
        simp at this
        omega
      have hsz := hbw.size
      have hf1 := hf.1
      have hf2 := hf.2.1
      clear hf
      go_wp2_with (first | (go_at_call 25; refine (LetAt.letterAt_any s pos _ hp (by omega)).mono ?_; rintro e w' ⟨rfl, rfl⟩) | (at_builtin; refine wpList_append_own _ rfl (.tmp 17) (.tmp 22) 42 rfl w.heap.size 45 i0 (.agg #[.int .i64 0, .int .i64 0, .int .i64 0]) 3 24 Try.underlying42 hi hz0 hz1 hz2 rfl (by decide) _ _ _ rfl (hown.alloc _) ⟨_, 0, none⟩ 1 1 (uc (pos, (ua s pos).2, (ua s pos).1)) rfl rfl (cell_three_new _ _ _ _ _) (uc_one _) (by unfold maxLen; omega) (by omega) (by simp; omega) ?_; intro v' W2 hown3 hgrow3 _))
      go_roundw
      case rel =>
        refine ⟨pos + (ua s pos).2, f, acc ++ [(pos, (ua s pos).2, (ua s pos).1)], by go_num, hf2, ?_, ?_, ?_, by omega⟩
        · rw [ucs_snoc, List.length_append]
          exact hown3
        · refine (hbw.alloc hsz _).grown hgrow3 (by simp; omega) ?_
          intro j hj
          exact (hown.lt j hj).1
        · rw [← hacc, unitsFrom_step s f pos hp]
          simp
      case measure => simp [intOf]; omega
    · go_wp2
      go_ret
      rw [unitsFrom_end s fuel pos hp, List.append_nil] at hacc
      subst hacc
      exact ⟨_, rfl, hown, hbw⟩
end Go.Proofs.Ytiiheaopamjijaa.UnitsR
