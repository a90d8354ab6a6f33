/- What is on the way is set anew; lists that are copied; lists that are written over. Conditions: lists have at most twenty. -/
import Derived.Test.YtmhgoddlbklbfaaLb
namespace Go.Proofs.Ytmhgoddlbklbfaa.Lb
open Go.RowKit Ta Tb Ra
variable {w wr W1 : World} {N : Nat} {Wh : Nat → Int} {F : Fix} {es : Nat → List Sl} {rs : Nat → List En} {LL : Nat → List (List To)} {A B : Nat → Prop}

theorem St.setWay (h : St w N Wh F es rs LL A wr) {k : Nat} (hk : k < 2) (hlow : Below F.b2 wr W1) {x' : Option Addr} {n' m' : Nat} {L' : List (List To)}
    (hoth : ∀ j, j < 2 → j ≠ k → ∀ x n m, wr.cell? ⟨F.Y, j, none⟩ = some (.slice x n m) → Way wr F.b2 A (.slice x n m) (LL j) → Way W1 F.b2 B (.slice x n m) (LL j)) (hnew : Way W1 F.b2 B (.slice x' n' m') L')
    (hsep : ∀ j, j < 2 → j ≠ k → ∀ v, wr.cell? ⟨F.Y, j, none⟩ = some v → ∀ g, (Value.slice x' n' m').ownBlock = some g → v.ownBlock ≠ some g) :
    St w N Wh F es rs (Lb.upd LL k L') B (W1.setCell ⟨F.Y, k, none⟩ (.slice x' n' m')) := by
  have l := h.lo
  have hY : F.Y < F.b2 := by omega
  have keep : ∀ c, c < F.b2 → c ≠ F.Y → (W1.setCell ⟨F.Y, k, none⟩ (.slice x' n' m')).heap[c]? = wr.heap[c]? := fun c hc hne => (heap_setCell_other _ _ _ _ hne).trans (hlow.block c hc)
  have os : ∀ k, k < 2 → F.p k < F.Y ∧ F.q k < F.Y ∧ F.s k < F.Y := fun k hk => by have := h.ords hk; omega
  have hYc : ∀ j, W1.cell? ⟨F.Y, j, none⟩ = wr.cell? ⟨F.Y, j, none⟩ := fun j => cell_same (hlow.block _ hY)
  have hYk : (W1.setCell ⟨F.Y, k, none⟩ (.slice x' n' m')).cell? ⟨F.Y, k, none⟩ = some (.slice x' n' m') := by
    obtain ⟨x, n, m, h1, _⟩ := h.wy k hk
    exact World.cell?_setCell_same _ _ _ ((hYc k).trans h1)
  have hYj : ∀ j, j ≠ k → (W1.setCell ⟨F.Y, k, none⟩ (.slice x' n' m')).cell? ⟨F.Y, j, none⟩ = wr.cell? ⟨F.Y, j, none⟩ := fun j hne => (World.cell?_setCell_other _ _ _ _ (fun e => by cases e; exact hne rfl)).trans (hYc j)
  have wkeep : ∀ {v : Value} {L : List (List To)}, Way W1 F.b2 B v L → Way (W1.setCell ⟨F.Y, k, none⟩ (.slice x' n' m')) F.b2 B v L := fun hw => hw.keep (fun g o hg _ => heap_setCell_other _ _ _ _ (by show g ≠ F.Y; omega))
  have hbel : Below w.heap.size w (W1.setCell ⟨F.Y, k, none⟩ (.slice x' n' m')) := (h.bel.trans (hlow.mono (by omega))).setCell (p := ⟨F.Y, k, none⟩) (by show w.heap.size ≤ F.Y; omega) _
  refine ⟨hbel, ⟨l.1, l.2.1, l.2.2.1, l.2.2.2.1, l.2.2.2.2.1, l.2.2.2.2.2.1, l.2.2.2.2.2.2.1, l.2.2.2.2.2.2.2.1, l.2.2.2.2.2.2.2.2.1, l.2.2.2.2.2.2.2.2.2.1, by have := hlow.size; simp; omega⟩, fun j hj => (cell_same (keep _ (by omega) (by omega))).trans (h.pb j hj), fun j hj => (cell_same (keep _ (by omega) (by omega))).trans (h.qb j hj), fun j hj => ?_, fun j hj => ?_, h.sim, fun j hj => ?_, fun g v0 v1 h0 h1 => ?_, fun j => ?_⟩
  · have o := os j hj
    have t := h.tk j hj
    exact ⟨(keep (F.p j) (by omega) (by omega)).trans t.1, t.2⟩
  · have o := os j hj
    have t := h.rk j hj
    refine ⟨(keep (F.q j) (by omega) (by omega)).trans t.1, own_keep t.2.1 (fun g cur hg _ hh => ?_), t.2.2⟩
    cases hg
    exact keep (F.s j) (by omega) (by omega)
  · by_cases e : j = k
    · subst e
      rw [upd_same]
      exact ⟨x', n', m', hYk, wkeep hnew⟩
    · rw [upd_other _ _ e]
      obtain ⟨x, n, m, h1, h2⟩ := h.wy j hj
      exact ⟨x, n, m, (hYj j e).trans h1, wkeep (hoth j hj e x n m h1 h2)⟩
  · rcases k with _ | _ | k
    · rw [hYk] at h0
      rw [hYj 1 (by omega)] at h1
      cases h0
      exact hsep 1 (by omega) (by omega) v1 h1 g
    · simp only [Nat.zero_add] at hYk hYj h0 h1 hsep
      rw [hYk] at h1
      rw [hYj 0 (by omega)] at h0
      cases h1
      exact fun e1 e2 => hsep 0 (by omega) (by omega) v0 h0 g e2 e1
    · omega
  · rw [World.frozen?_setCell]
    exact (frozen_same (hlow.block _ hY)).trans (h.yf j)
end Go.Proofs.Ytmhgoddlbklbfaa.Lb
