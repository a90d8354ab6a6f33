/- mayBe: whether somebody may be in a world against a claim. Conditions: the claims are of literals, the individual is one of 64. -/
import Derived.Test.YtcnanbimpajonaaCg
import Derived.Test.YtcnanbimpajonaaHe
import Derived.Test.YtcnanbimpajonaaPq
namespace Go.Proofs.Ytcnanbimpajonaa.My
open Go.RowKit Cl Cf Cs Ce Hd He Pq

theorem isI_one (w : World) (x : Int) (g : Nat) (h : w.heap[g]? = some (.cells #[.int .i64 x] 3 (0, 0))) : IsI w (.slice (some ⟨g, 0, none⟩) 1 1) [x] := by
  refine ⟨rfl, _, 1, rfl, by simp, .inr ⟨g, 0, rfl, (Array.getElem?_eq_some_iff.1 h).1, fun j u hu => ?_⟩⟩
  match j, hu with
  | 0, hu =>
    simp [nv] at hu
    subst hu
    exact cell_of_row _ _ 0 _ 3 (0, 0) h

def offP (x : Int) (p : C) : Bool := !p.1 && !holdsP [x] p
set_option maxHeartbeats 2000000 in
theorem off1_any (x : Int) (hx : 0 ≤ x ∧ x < 64) (p : C) (hp : okC p = true) (b g : Nat) (w : World) (hb : w.heap[b]? = some (.cells #[.slice (some ⟨g, 0, none⟩) 1 1] 29 (0, 0))) (hg : w.heap[g]? = some (.cells #[.int .i64 x] 3 (0, 0))) :
    Calls Try.prog 49 #[vc p, .pointer (some ⟨b, 0, none⟩)] w fun e w' => e = .returned (.bool (offP x p)) ∧ Below w.heap.size w w' := by
  have hb0 : ∀ o, Below w.heap.size w (w.alloc o) := fun o => (Below.refl _ w).alloc (Nat.le_refl _) o
  have hI := isI_one w x g hg
  have hlow : Low [x] := fun y hy => by rw [List.mem_singleton.1 hy]; exact hx
  have k27 := fun W (hW : Below w.heap.size w W) => holds_any [x] p (.slice (some ⟨g, 0, none⟩) 1 1) W (He.IsI.below hI hW) (by simp) hlow hp
  have q : ∀ o, (w.alloc o).cell? ⟨b, 0, none⟩ = some (.slice (some ⟨g, 0, none⟩) 1 1) := fun o => (World.cell?_alloc_past _ _ _ (Array.getElem?_eq_some_iff.1 hb).1).trans (cell_of_row _ _ 0 _ 29 (0, 0) hb)
  have q' : w.cell? ⟨b, 0, none⟩ = some (.slice (some ⟨g, 0, none⟩) 1 1) := cell_of_row _ _ 0 _ 29 (0, 0) hb
  obtain ⟨p0, p1, p2⟩ := p
  unfold vc at k27 ⊢
  unfold offP
  dsimp only at k27 ⊢
  clear hI hlow hb hg hp hx
  cases p0 with
  | true =>
    go_enter Try.func49, Try.ntmps49
    go_wp2
    go_ret
    exact ⟨rfl, hb0 _⟩
  | false =>
    cases hh : holdsP [x] (false, p1, p2) <;> rw [hh] at k27 <;> clear hh
    all_goals
      go_enter Try.func49, Try.ntmps49
      go_wp2_with (go_at_call 27; refine (k27 _ (hb0 _)).mono ?_; rintro e w2 ⟨rfl, hb2⟩)
      go_ret
      exact ⟨rfl, (hb0 _).trans (hb2.mono (hb0 _).size)⟩
end Go.Proofs.Ytcnanbimpajonaa.My
