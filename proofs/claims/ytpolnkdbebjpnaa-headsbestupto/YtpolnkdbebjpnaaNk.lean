/- headsBegun (5): true. No conditions. -/
import Derived.Test.YtpolnkdbebjpnaaNj
namespace Go.Proofs.Ytpolnkdbebjpnaa.Hd
open Go.RowKit

def bgR : List (List Int) := [[1, 5], [0, 9], [3, 0]]
theorem bg_chk : chk bgR = 0 := by decide
theorem bg_fit : Fit bgR 2 := by
  obtain ⟨n, h⟩ := fit_of bg_chk
  have e : n = 2 := by have := h.len; have h2 : bgR.length = 3 := rfl; omega
  rw [e] at h
  exact h
theorem bg_opt {u : Nat → Nat} (h : Opt 2 (sr bgR) u) : u 1 = 0 ∧ u 2 = 1 ∧ wo (sr bgR) 2 u = 10 := by
  have hb := h.best star (star_tr (by decide))
  have e1 : wo (sr bgR) 2 star = 10 := by decide
  have e2 : wo (sr bgR) 2 u = sr bgR (u 1) 1 + (sr bgR (u 2) 2 + 0) := rfl
  rw [e1, e2] at hb
  rw [e2]
  have h1 := h.tr.le 1 (by decide) (by decide)
  have h2 := h.tr.le 2 (by decide) (by decide)
  have n1 := h.tr.ne (w := 1) (by decide) (by decide)
  have n2 := h.tr.ne (w := 2) (by decide) (by decide)
  have c1 : u 1 = 0 ∨ u 1 = 2 := by omega
  have c2 : u 2 = 0 ∨ u 2 = 1 := by omega
  rcases c1 with c1 | c1 <;> rcases c2 with c2 | c2
  · rw [c1, c2] at hb; exact absurd hb (by decide)
  · rw [c1, c2]; exact ⟨rfl, rfl, by decide⟩
  · rw [c1, c2] at hb; exact absurd hb (by decide)
  · exfalso
    obtain ⟨k, hk⟩ := h.tr.r 1 (by decide) (by decide)
    have key : ∀ k, it u k 1 = 1 ∨ it u k 1 = 2 := fun k => by
      induction k with
      | zero => exact .inl rfl
      | succ k ih =>
        rw [it_succ]
        rcases ih with e | e
        · rw [e]; exact .inr c1
        · rw [e]; exact .inl c2
    rcases key k with e | e <;> omega
theorem bg_laid (w : World) (W : World) (hW : (((w.alloc (.cells #[.int .i64 1, .int .i64 5] 3)).alloc (.cells #[.int .i64 0, .int .i64 9] 3)).alloc (.cells #[.int .i64 3, .int .i64 0] 3)).alloc (.cells #[.slice (some ⟨w.heap.size, 0, none⟩) 2 2, .slice (some ⟨w.heap.size + 1, 0, none⟩) 2 2, .slice (some ⟨w.heap.size + 1 + 1, 0, none⟩) 2 2] 26) = W) :
    Rw W (some ⟨w.heap.size + 1 + 1 + 1, 0, none⟩) (w.heap.size + 1 + 1 + 1) 0 (fun h => some ⟨w.heap.size + h, 0, none⟩) (fun _ => 2) bgR ∧ Below w.heap.size w W := by
  have s1 : (w.alloc (.cells #[.int .i64 1, .int .i64 5] 3)).heap.size = w.heap.size + 1 := by simp
  have s2 : ((w.alloc (.cells #[.int .i64 1, .int .i64 5] 3)).alloc (.cells #[.int .i64 0, .int .i64 9] 3)).heap.size = w.heap.size + 1 + 1 := by simp
  have s3 : (((w.alloc (.cells #[.int .i64 1, .int .i64 5] 3)).alloc (.cells #[.int .i64 0, .int .i64 9] 3)).alloc (.cells #[.int .i64 3, .int .i64 0] 3)).heap.size = w.heap.size + 1 + 1 + 1 := by simp
  have s4 : W.heap.size = w.heap.size + 1 + 1 + 1 + 1 := by rw [← hW]; simp
  have b0 : W.heap[w.heap.size]? = some (.cells #[.int .i64 1, .int .i64 5] 3 (0, 0)) := by
    rw [← hW, heap_alloc_old _ _ (by omega), heap_alloc_old _ _ (by omega), heap_alloc_old _ _ (by omega)]; exact heap_alloc_new _ _
  have b1 : W.heap[w.heap.size + 1]? = some (.cells #[.int .i64 0, .int .i64 9] 3 (0, 0)) := by
    rw [← hW, heap_alloc_old _ _ (by omega), heap_alloc_old _ _ (by omega), ← s1]; exact heap_alloc_new _ _
  have b2 : W.heap[w.heap.size + 2]? = some (.cells #[.int .i64 3, .int .i64 0] 3 (0, 0)) := by
    rw [show w.heap.size + 2 = w.heap.size + 1 + 1 from rfl, ← hW, heap_alloc_old _ _ (by omega), ← s2]; exact heap_alloc_new _ _
  have b3 : W.heap[w.heap.size + 1 + 1 + 1]? = some (.cells #[.slice (some ⟨w.heap.size, 0, none⟩) 2 2, .slice (some ⟨w.heap.size + 1, 0, none⟩) 2 2, .slice (some ⟨w.heap.size + 1 + 1, 0, none⟩) 2 2] 26 (0, 0)) := by
    rw [← hW, ← s3]; exact heap_alloc_new _ _
  refine ⟨⟨fun _ => ⟨rfl, by omega⟩, fun h hh => ?_, fun h hh => ?_⟩, ?_⟩
  · rw [Nat.zero_add, cell_of_row _ _ h _ _ _ b3]
    have hh : h < 3 := hh
    match h, hh with
    | 0, _ => rfl
    | 1, _ => rfl
    | 2, _ => rfl
  · have hh : h < 3 := hh
    intro _
    match h, hh with
    | 0, _ =>
      refine ⟨w.heap.size, 0, rfl, by omega, fun i hi => ?_⟩
      have hi : i < 2 := hi
      rw [Nat.zero_add, cell_of_row _ _ i _ _ _ b0]
      match i, hi with
      | 0, _ => rfl
      | 1, _ => rfl
    | 1, _ =>
      refine ⟨w.heap.size + 1, 0, rfl, by omega, fun i hi => ?_⟩
      have hi : i < 2 := hi
      rw [Nat.zero_add, cell_of_row _ _ i _ _ _ b1]
      match i, hi with
      | 0, _ => rfl
      | 1, _ => rfl
    | 2, _ =>
      refine ⟨w.heap.size + 2, 0, rfl, by omega, fun i hi => ?_⟩
      have hi : i < 2 := hi
      rw [Nat.zero_add, cell_of_row _ _ i _ _ _ b2]
      match i, hi with
      | 0, _ => rfl
      | 1, _ => rfl
  · rw [← hW]
    exact ((((Below.refl w.heap.size w).alloc (Nat.le_refl _) _).alloc (by omega) _).alloc (by omega) _).alloc (by omega) _
set_option maxHeartbeats 2000000 in
set_option maxRecDepth 100000 in
theorem begun_any (w : World) : Calls Try.prog 5 #[] w fun e w' => e = .returned (.bool true) ∧ Below w.heap.size w w' := by
  obtain ⟨hR, hB⟩ := bg_laid w _ rfl
  have K := best7_ok bgR 2 (w.heap.size + 1 + 1 + 1) 0 3 _ _ _ hR bg_chk bg_fit
  have HB : Hid (Below w.heap.size w _) := hB
  rw [show (2 + 1 : Nat) = 3 from rfl] at K
  clear hR hB
  go_enter Try.func5, Try.ntmps5
  go_upto_region 2 with (go_at_call 7; (with_reducible refine K.mono ?_); clear K; rintro e w1 ⟨g, ul, rfl, hu, ho⟩; have HU : Hid (Ul _ w1 g 2 ul ∧ Opt 2 (sr bgR) (uv ul)) := ⟨hu, ho⟩; clear hu ho)
  have ho := bg_opt HU.out.2
  rw [ho.2.2]
  have hb1 : Below w.heap.size w w1 := HB.out.trans (HU.out.1.below.mono HB.out.size)
  have K := same_any g w1.heap.size 2 2 2 (w1.alloc (.cells #[.int .i64 0, .int .i64 1] 3)) (by decide) (fun j hj => by
    have hg := (HU.out.1.row.lt g rfl).2
    have hc := (HU.out.1.row.cellAt j (by omega)).trans (ns_uv (by rw [HU.out.1.len]; exact hj))
    have h1 : (w1.alloc (.cells #[.int .i64 0, .int .i64 1] 3)).cell? ⟨g, j, none⟩ = some (.int .i64 (uv ul (j + 1) : Int)) := ((below_al w1 _).cell (p := ⟨g, j, none⟩) hg).trans hc
    have h2 := cell_of_row _ _ j _ _ _ (heap_alloc_new w1 (.cells #[.int .i64 0, .int .i64 1] 3))
    match j, hj with
    | 0, _ => exact ⟨0, by rw [h1]; show some (Value.int .i64 ((uv ul 1 : Nat) : Int)) = _; rw [ho.1]; rfl, h2⟩
    | 1, _ => exact ⟨1, by rw [h1]; show some (Value.int .i64 ((uv ul 2 : Nat) : Int)) = _; rw [ho.2.1]; rfl, h2⟩)
  have HB1 : Hid (Below w.heap.size w w1) := hb1
  clear ho hb1 HU HB
  go_wp2_with (go_at_call 20; (with_reducible refine K.mono ?_); clear K; rintro e w2 ⟨rfl, q, rfl⟩)
  go_ret
  exact ⟨rfl, below_drewN (HB1.out.alloc HB1.out.size _) q⟩
end Go.Proofs.Ytpolnkdbebjpnaa.Hd
