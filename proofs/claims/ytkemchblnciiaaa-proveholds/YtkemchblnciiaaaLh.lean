/- ProveHolds: at every world and every claim as they lie in memory the law returns true. No conditions. -/
import Derived.Test.YtkemchblnciiaaaHe
import Derived.Test.YtkemchblnciiaaaPb
namespace Go.Proofs.Ytkemchblnciiaaa.Lh
open Go.RowKit Cl Cf Co Hd He

theorem holdsE_ok {xs : List Int} {c : C} (h : holdsE xs c = 0) : worldE xs = 0 ∧ okC c = true ∧ xs.length ≤ 64 ∧ Low xs := by
  unfold holdsE at h
  by_cases hw : worldE xs = 0
  · rw [if_pos hw] at h
    have hk : okC c = true := by
      unfold ckC at h
      by_cases ho : okC c = true
      · exact ho
      · rw [if_neg ho] at h
        cases h
    have hw' := hw
    unfold worldE at hw'
    by_cases hl : 64 < xs.length
    · rw [if_pos hl] at hw'; cases hw'
    · rw [if_neg hl] at hw'
      cases hn : xs.any nobodyB with
      | true => rw [hn, if_pos rfl] at hw'; cases hw'
      | false => exact ⟨hw, hk, by omega, low_of hn⟩
  · rw [if_neg hw] at h
    exact absurd h hw

set_option maxHeartbeats 4000000 in
set_option maxRecDepth 100000 in
theorem walk (xs : List Int) (c : C) (v : Value) (w : World) (h : IsI w v xs) : Calls Try.prog 3 #[v, vc c] w fun e w' => e = .returned (.bool true) ∧ Below w.heap.size w w' := by
  have hb0 : ∀ o, Below w.heap.size w (w.alloc o) := fun o => (Below.refl _ w).alloc (Nat.le_refl _) o
  have k5 := fun W (hW : Below w.heap.size w W) => Holds_any xs c v W (IsI.below h hW)
  have k6 := fun W (hW : Below w.heap.size w W) => world_any xs v W (IsI.below h hW)
  have k7 := fun W => ref_any c W
  have k10 := fun (he : holdsE xs c = 0) W (hW : Below w.heap.size w W) => ref_holds xs c v W (IsI.below h hW) (by have := (holdsE_ok he).2.2.1; omega) (holdsE_ok he).2.2.2 (holdsE_ok he).2.1
  have k9 := fun W => check_any c W
  have hR : holdsR xs c = (decide (holdsE xs c = 0) && holdsP xs c) := rfl
  have hE : holdsE xs c = if worldE xs = 0 then ckC c else worldE xs := rfl
  obtain ⟨x, hx⟩ : ∃ x, holdsE xs c = x := ⟨_, rfl⟩
  obtain ⟨y, hy⟩ : ∃ y, worldE xs = y := ⟨_, rfl⟩
  obtain ⟨z, hz⟩ : ∃ z, ckC c = z := ⟨_, rfl⟩
  obtain ⟨r, hr⟩ : ∃ r, holdsR xs c = r := ⟨_, rfl⟩
  obtain ⟨q, hq⟩ : ∃ q, holdsP xs c = q := ⟨_, rfl⟩
  rw [hr, hx, hq] at hR
  rw [hx, hy, hz] at hE
  rw [hx, hr] at k5
  rw [hy] at k6
  rw [hz] at k7 k9
  rw [hx, hq] at k10
  clear hx hy hz hr hq
  obtain ⟨_, a, cc, rfl, _, _⟩ := h
  obtain ⟨c0, c1, c2⟩ := c
  unfold vc at k5 k7 k9 k10 ⊢
  dsimp only at k5 k7 k9 k10 ⊢
  have HR : Hid _ := hR
  have HE : Hid _ := hE
  have dz : (z == z) = true := by simp
  have dx : (x == x) = true := by simp
  have dr : (r == r) = true := by simp
  clear hR hE
  by_cases hy0 : y = 0
  · have hxz : x = z := by rw [HE.out, if_pos hy0]
    subst hy0
    subst hxz
    go_enter Try.func3, Try.ntmps3
    go_wp2_with (first | (go_at_call 5; refine (k5 _ (hb0 _)).mono ?_; rintro e w2 ⟨rfl, hb2⟩; have hw2 : Below w.heap.size w w2 := (hb0 _).trans (hb2.mono (hb0 _).size); have gb : w2.heap[w.heap.size]? = some (.cells #[.bool c0, .int .i64 c1, .int .i64 c2] 24 (0, 0)) := (hb2.block _ (by simp)).trans (heap_alloc_new w _); have HG : Hid (w2.heap[w.heap.size]? = some (.cells #[.bool c0, .int .i64 c1, .int .i64 c2] 24 (0, 0))) := gb; have g0 := cell_of_row _ _ 0 _ 24 (0, 0) gb; have g1 := cell_of_row _ _ 1 _ 24 (0, 0) gb; have g2 := cell_of_row _ _ 2 _ 24 (0, 0) gb; dsimp at g0 g1 g2; clear gb hb2) | (go_at_call 6; refine (k6 _ hw2).mono ?_; rintro e w3 ⟨rfl, rfl⟩) | (go_at_call 7; refine (k7 _).mono ?_; rintro e w3 ⟨rfl, hb3⟩; have hw3 : Below w.heap.size w w3 := hw2.trans (hb3.mono hw2.size); have gb3 : w3.heap[w.heap.size]? = some (.cells #[.bool c0, .int .i64 c1, .int .i64 c2] 24 (0, 0)) := (hb3.block _ (Array.getElem?_eq_some_iff.1 HG.out).1).trans HG.out; clear hb3))
    have r1 := box_read gb3
    have k8' := fun p : After w3 => Pb.begun_true p.W
    have k9' := fun p : After w3 => k9 p.W
    have k7' := fun p : After w3 => k7 p.W
    have k10' := fun (hx : x = 0) (p : After w3) => k10 hx p.W (hw3.trans (p.h.mono hw3.size))
    haveI : Inhabited (After w3) := ⟨⟨_, Below.refl _ _⟩⟩
    clear k5 k6 k7 k9 k10 g0 g1 g2 gb3
    by_cases hx0 : x = 0
    · have hrq : r = q := by rw [HR.out, hx0]; rfl
      subst hx0
      subst hrq
      have k10'' := k10' rfl
      clear k10'
      refine wp_region_after (by kernel_rfl) (by kernel_rfl) ?_
      repeat (go_big_quiet_step (first | (go_at_call 8; refine after_of (k8' _)) | (go_at_call 9; refine after_of (k9' _)) | (go_at_call 7; refine after_of (k7' _)) | (go_at_call 10; refine after_of (k10'' _))))
      refine wpQuiet_nil ?_
      intro W hw'
      obtain ⟨⟨W, hW⟩, rfl⟩ := hw'
      clear r1 k7' k8' k9' k10''
      go_wp2
      go_ret
      exact ⟨by first | rfl | simp, hw3.trans (hW.mono hw3.size)⟩
    · have hrf : r = false := by rw [HR.out, decide_eq_false hx0]; rfl
      subst hrf
      have dx0 : (x == 0) = false := by simpa using hx0
      clear k10'
      refine wp_region_after (by kernel_rfl) (by kernel_rfl) ?_
      repeat (go_big_quiet_step (first | (go_at_call 8; refine after_of (k8' _)) | (go_at_call 9; refine after_of (k9' _)) | (go_at_call 7; refine after_of (k7' _))))
      refine wpQuiet_nil ?_
      intro W hw'
      obtain ⟨⟨W, hW⟩, rfl⟩ := hw'
      clear r1 k7' k8' k9'
      go_wp2
      go_ret
      exact ⟨by first | rfl | simp, hw3.trans (hW.mono hw3.size)⟩
  · have hxy : x = y := by rw [HE.out, if_neg hy0]
    subst hxy
    have hrf : r = false := by rw [HR.out, decide_eq_false hy0]; rfl
    subst hrf
    have dx0 : (x == 0) = false := by simpa using hy0
    clear k10
    go_enter Try.func3, Try.ntmps3
    go_wp2_with (first | (go_at_call 5; refine (k5 _ (hb0 _)).mono ?_; rintro e w2 ⟨rfl, hb2⟩; have hw2 : Below w.heap.size w w2 := (hb0 _).trans (hb2.mono (hb0 _).size); have gb : w2.heap[w.heap.size]? = some (.cells #[.bool c0, .int .i64 c1, .int .i64 c2] 24 (0, 0)) := (hb2.block _ (by simp)).trans (heap_alloc_new w _); clear hb2) | (go_at_call 6; refine (k6 _ hw2).mono ?_; rintro e w3 ⟨rfl, rfl⟩))
    have r1 := box_read gb
    have k8' := fun p : After w3 => Pb.begun_true p.W
    have k9' := fun p : After w3 => k9 p.W
    have k7' := fun p : After w3 => k7 p.W
    haveI : Inhabited (After w3) := ⟨⟨_, Below.refl _ _⟩⟩
    clear k5 k6 k7 k9 gb
    refine wp_region_after (by kernel_rfl) (by kernel_rfl) ?_
    repeat (go_big_quiet_step (first | (go_at_call 8; refine after_of (k8' _)) | (go_at_call 9; refine after_of (k9' _)) | (go_at_call 7; refine after_of (k7' _))))
    refine wpQuiet_nil ?_
    intro W hw'
    obtain ⟨⟨W, hW⟩, rfl⟩ := hw'
    clear r1 k7' k8' k9'
    go_wp2
    go_ret
    exact ⟨by first | rfl | simp, hw2.trans (hW.mono hw2.size)⟩
end Go.Proofs.Ytkemchblnciiaaa.Lh
