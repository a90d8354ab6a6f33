/- The document's Fits: whether a stem is in a cell's class. No conditions beyond how the lexicon lies. -/
import Derived.Test.YtkcbgapakpheiaaMk
namespace Go.Proofs.Ytkcbgapakpheiaa.Fs
open Go.RowKit Go.Shelf Sd Md Sc Aq Ls Lx Ly Lz Fo Mk

set_option maxHeartbeats 4000000 in
set_option maxRecDepth 100000 in
theorem fits_any (y : VX) (s c : Int) (w : World) (h : IsX w y) :
    Calls Try.prog 7 #[y.val, .int .i64 s, .int .i64 c] w fun e w' => e = .returned (.bool (fitX y s c).isSome) ∧ Below w.heap.size w w' := by
  have hb : ∀ o, Below w.heap.size w (w.alloc o) := fun o => (Below.refl _ _).alloc (Nat.le_refl _) _
  obtain ⟨k, vs, vc, vh, sts, ces, xs⟩ := y
  have hS := h.s
  have hCe := h.c
  dsimp only at hS hCe
  obtain ⟨aS, cs, hv, _, _⟩ := IsR.len hS
  subst hv
  obtain ⟨aC, cc, hv, _, _⟩ := IsR.len hCe
  subst hv
  simp only [VX.val]
  clear h
  by_cases h1 : s < 0
  · rw [show fitX ⟨k, .slice aS sts.length cs, .slice aC ces.length cc, vh, sts, ces, xs⟩ s c = none from if_pos (.inl h1)]
    have d1 : decide (0 ≤ s) = false := decide_eq_false (by omega)
    clear hS hCe
    go_enter Try.func7, Try.ntmps7
    go_wp2
    go_quiet (fail)
    go_wp2
    go_ret
    exact ⟨rfl, below_drewN' (hb _) _⟩
  have d1 : decide (0 ≤ s) = true := decide_eq_true (by omega)
  by_cases h2 : (sts.length : Int) ≤ s
  · rw [show fitX ⟨k, .slice aS sts.length cs, .slice aC ces.length cc, vh, sts, ces, xs⟩ s c = none from if_pos (.inr (.inl h2))]
    have d2 : decide (s < (sts.length : Int)) = false := decide_eq_false (by omega)
    clear hS hCe
    go_enter Try.func7, Try.ntmps7
    go_wp2
    go_quiet (fail)
    go_wp2
    go_ret
    exact ⟨rfl, below_drewN' (hb _) _⟩
  have d2 : decide (s < (sts.length : Int)) = true := decide_eq_true (by omega)
  by_cases h3 : c < 0
  · rw [show fitX ⟨k, .slice aS sts.length cs, .slice aC ces.length cc, vh, sts, ces, xs⟩ s c = none from if_pos (.inr (.inr (.inl h3)))]
    have d3 : decide (0 ≤ c) = false := decide_eq_false (by omega)
    clear hS hCe
    go_enter Try.func7, Try.ntmps7
    go_wp2
    go_quiet (fail)
    go_wp2
    go_ret
    exact ⟨rfl, below_drewN' (hb _) _⟩
  have d3 : decide (0 ≤ c) = true := decide_eq_true (by omega)
  by_cases h4 : (ces.length : Int) ≤ c
  · rw [show fitX ⟨k, .slice aS sts.length cs, .slice aC ces.length cc, vh, sts, ces, xs⟩ s c = none from if_pos (.inr (.inr (.inr h4)))]
    have d4 : decide (c < (ces.length : Int)) = false := decide_eq_false (by omega)
    clear hS hCe
    go_enter Try.func7, Try.ntmps7
    go_wp2
    go_quiet (fail)
    go_wp2
    go_ret
    exact ⟨rfl, below_drewN' (hb _) _⟩
  have d4 : decide (c < (ces.length : Int)) = true := decide_eq_true (by omega)
  obtain ⟨i, rfl⟩ : ∃ i : Nat, s = i := ⟨s.toNat, by omega⟩
  obtain ⟨j, rfl⟩ : ∃ j : Nat, c = j := ⟨c.toNat, by omega⟩
  have hi : i < sts.length := by omega
  have hj : j < ces.length := by omega
  have hfit : (fitX ⟨k, .slice aS sts.length cs, .slice aC ces.length cc, vh, sts, ces, xs⟩ (i : Int) (j : Int)).isSome = ((sts[i]).2.cls == (ces[j]).2.cls) := by
    unfold fitX
    dsimp only
    rw [if_neg (by omega), Int.toNat_natCast, Int.toNat_natCast, List.getElem?_eq_getElem hi, List.getElem?_eq_getElem hj]
    dsimp only
    by_cases e : (sts[i]).2.cls = (ces[j]).2.cls
    · rw [if_pos e, e]; simp
    · rw [if_neg e]; simp [e]
  rw [hfit]
  clear hfit
  obtain ⟨bS, oS, rfl⟩ := row_some hS (by omega)
  obtain ⟨bC, oC, rfl⟩ := row_some hCe (by omega)
  have RS := fun W (hW : Below w.heap.size w W) => row_cells (f := stc) (k := 2) (fun _ => rfl) (IsR.below stQ_up hS hW) i hi
  have RC := fun W (hW : Below w.heap.size w W) => row_cells (f := cec) (k := 3) (fun _ => rfl) (IsR.below ceQ_up hCe hW) j hj
  obtain ⟨a, ha⟩ : ∃ a, sts[i] = a := ⟨_, rfl⟩
  obtain ⟨b, hbb⟩ : ∃ b, ces[j] = b := ⟨_, rfl⟩
  rw [ha] at RS ⊢
  rw [hbb] at RC ⊢
  obtain ⟨vf, st⟩ := a
  obtain ⟨⟨vb, ve⟩, ce⟩ := b
  dsimp only
  have r1 : ∀ o, (w.alloc o).cell? ⟨bS, oS + i * 2 + 1, none⟩ = some (.int .i64 st.cls) := fun o => (RS _ (hb o)).2.1 1 _ (by omega) rfl
  have r2 : ∀ o, (w.alloc o).cell? ⟨bC, oC + j * 3, none⟩ = some (.int .i64 ce.cls) := fun o => (RC _ (hb o)).2.1 0 _ (by omega) rfl
  clear RS RC ha hbb hS hCe
  generalize st.cls = x1 at r1 ⊢
  generalize ce.cls = x2 at r2 ⊢
  generalize hq : (x1 == x2) = t
  go_enter Try.func7, Try.ntmps7
  go_wp2
  have q1 := r1 (.cells #[.int .i64 k, .slice (some ⟨bS, oS, none⟩) sts.length cs, .slice (some ⟨bC, oC, none⟩) ces.length cc, vh] 26)
  have q2 := r2 (.cells #[.int .i64 k, .slice (some ⟨bS, oS, none⟩) sts.length cs, .slice (some ⟨bC, oC, none⟩) ces.length cc, vh] 26)
  go_quiet (fail)
  go_wp2
  go_ret
  exact ⟨rfl, below_drewN' (hb _) _⟩
end Go.Proofs.Ytkcbgapakpheiaa.Fs
