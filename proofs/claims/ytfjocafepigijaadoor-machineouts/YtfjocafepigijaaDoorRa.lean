/- Rows of arcs, one for each state: how they lie, an arc more. No conditions. -/
import Derived.Test.YtfjocafepigijaaDoorNx
namespace Go.Proofs.YtfjocafepigijaaDoor.Ra
open Go.RowKit Mv Qp Sk Po Ps Wd Se Mp St Cm Nm Nx

def upn (V : Nat → Value) (k0 : Nat) (v : Value) : Nat → Value := fun k => if k = k0 then v else V k
def adn (R : Nat → List Arc) (k0 : Nat) (a : Arc) : Nat → List Arc := fun k => if k = k0 then R k ++ [a] else R k
structure Rt (w wr : World) (sb S : Nat) (R : Nat → List Arc) (V : Nat → Value) (vs : List Value) : Prop where
  heads : wr.ownsRow w.heap.size 22 1 (.slice (some ⟨sb, 0, none⟩) S S) S vs
  len : vs.length = S
  head : ∀ f, f < S → vs[f]? = some (V f)
  rows : ∀ k, wr.ownsRow w.heap.size 64 5 (V k) (R k).length (acs (R k))
  apart : ∀ k k', k ≠ k' → ∀ b, (V k).ownBlock = some b → (V k').ownBlock ≠ some b
  below : Below w.heap.size w wr
theorem Rt.alloc {w wr : World} {sb S : Nat} {R : Nat → List Arc} {V : Nat → Value} {vs : List Value} (h : Rt w wr sb S R V vs) (o : Obj) : Rt w (wr.alloc o) sb S R V vs :=
  ⟨h.heads.alloc o, h.len, h.head, fun k => (h.rows k).alloc o, h.apart, h.below.alloc h.below.size o⟩
theorem Rt.drew {w wr : World} {sb S : Nat} {R : Nat → List Arc} {V : Nat → Value} {vs : List Value} (h : Rt w wr sb S R V vs) : Rt w wr.drew sb S R V vs :=
  ⟨h.heads, h.len, h.head, h.rows, h.apart, h.below.drew⟩
theorem Rt.begun {w W : World} {S : Nat} (hb : Below w.heap.size w W) (hS : S ≤ 40) : Rt w (W.alloc (.cells (mc S) 22)) W.heap.size S (fun _ => []) (fun _ => nilS) (List.replicate S nilS) := by
  refine ⟨⟨by simp, .inr ⟨W.heap.size, S, mc S, rfl, hb.size, heap_alloc_new _ _, Nat.le_refl _, by unfold maxLen; omega, ?_, ?_⟩⟩, by simp, fun f hf => by simp [hf], fun k => ⟨rfl, .inl ⟨rfl, rfl⟩⟩, fun k k' _ b hb => (by cases hb), hb.alloc hb.size _⟩
  · rw [← Array.length_toList, mc_list]
    simp
  · rw [mc_list]
    simp
theorem Rt.cell {w wr : World} {sb S f : Nat} {R : Nat → List Arc} {V : Nat → Value} {vs : List Value} (h : Rt w wr sb S R V vs) (hf : f < S) : wr.cell? ⟨sb, f, none⟩ = some (V f) := by
  rw [h.heads.cellAt f (by omega)]
  exact h.head f hf
theorem apart_upn {V : Nat → Value} {k0 : Nat} {v1 : Value} {sz : Nat} (hap : ∀ k k', k ≠ k' → ∀ b, (V k).ownBlock = some b → (V k').ownBlock ≠ some b) (hlt : ∀ k b, (V k).ownBlock = some b → b < sz) (hl : v1.ownBlock = (V k0).ownBlock ∨ ∃ g, v1.ownBlock = some g ∧ sz ≤ g) :
    ∀ k k', k ≠ k' → ∀ b, (upn V k0 v1 k).ownBlock = some b → (upn V k0 v1 k').ownBlock ≠ some b := by
  intro k k' hne b hb hb'
  unfold upn at hb hb'
  by_cases e1 : k = k0
  · have e2 : ¬ k' = k0 := fun e => hne (e1.trans e.symm)
    rw [if_pos e1] at hb
    rw [if_neg e2] at hb'
    rcases hl with hl | ⟨g, hl, hg⟩
    · rw [hl] at hb
      exact hap k0 k' (fun e => e2 e.symm) b hb hb'
    · rw [hl] at hb
      cases hb
      exact absurd (hlt k' _ hb') (Nat.not_lt.2 hg)
  · rw [if_neg e1] at hb
    by_cases e2 : k' = k0
    · rw [if_pos e2] at hb'
      rcases hl with hl | ⟨g, hl, hg⟩
      · rw [hl] at hb'
        exact hap k k0 e1 b hb hb'
      · rw [hl] at hb'
        cases hb'
        exact absurd (hlt k _ hb) (Nat.not_lt.2 hg)
    · rw [if_neg e2] at hb'
      exact hap k k' hne b hb hb'
/-- an arc more in the row of a state -/
theorem Rt.add {w wr w1 : World} {sb S f : Nat} {R : Nat → List Arc} {V : Nat → Value} {vs : List Value} {a : Arc} {v1 : Value} (h : Rt w wr sb S R V vs) (hf : f < S)
    (ho : w1.ownsRow w.heap.size 64 5 v1 ((R f).length + 1) (acs (R f) ++ ac a)) (hg : wr.grownBy w1 (V f).ownBlock) (hl : v1.ownBlock = (V f).ownBlock ∨ ∃ g, v1.ownBlock = some g ∧ wr.heap.size ≤ g) :
    (w1.cell? ⟨sb, f, none⟩ = some (V f) ∧ w1.frozen? ⟨sb, f, none⟩ = false) ∧ Rt w (w1.setCell ⟨sb, f, none⟩ v1) sb S (adn R f a) (upn V f v1) (vs.set f v1) := by
  have hty : ∀ b, (V f).ownBlock = some b → ∃ cur, wr.heap[b]? = some (.cells cur 64 (0, 0)) := fun b hb => own_ty (h.rows _) hb
  have hk1 : Kp (fun b => (V f).ownBlock = some b) wr w1 := (Kp.refl _ wr).grown hg (fun b hb _ => hb)
  obtain ⟨cs, hcs⟩ := own_ty h.heads (k := sb) rfl
  have nS : ¬ (V f).ownBlock = some sb := fun e => by obtain ⟨c, hc⟩ := hty sb e; exact ty_ne hc hcs (by decide)
  have heads1 := own_kp h.heads hk1 nS
  obtain ⟨cs1, hcs1⟩ := own_ty heads1 (k := sb) rfl
  have hlt : ∀ k b, (V k).ownBlock = some b → b < wr.heap.size := fun k b hb => ((h.rows k).lt b hb).2
  have hsl : w.heap.size ≤ sb := (h.heads.lt sb rfl).1
  have hk2 : Kp (fun b => b = sb) w1 (w1.setCell ⟨sb, f, none⟩ v1) := (Kp.refl _ w1).setCell _ _ _ (fun _ => rfl)
  have rows1 : ∀ k, k ≠ f → w1.ownsRow w.heap.size 64 5 (V k) (R k).length (acs (R k)) := fun k hne => own_kp2 (h.rows k) hk1 (fun b hb e => h.apart k _ hne b hb e)
  have nsb : ∀ {v : Value} {m : Nat} {xs : List Value}, w1.ownsRow w.heap.size 64 5 v m xs → ∀ b, v.ownBlock = some b → ¬ b = sb := fun {v m xs} hr b hb e => by
    obtain ⟨c, hc⟩ := own_ty hr hb
    subst e
    exact ty_ne hc hcs1 (by decide)
  refine ⟨⟨?_, heads1.frozenAt f⟩, (heads1.stored f v1).1, by rw [List.length_set]; exact h.len, fun g hg' => ?_, fun k => ?_, apart_upn h.apart hlt hl, ?_⟩
  · rw [heads1.cellAt f (by omega)]
    exact h.head f hf
  · rw [List.getElem?_set]
    unfold upn
    by_cases e : f = g
    · subst e
      simp [h.len, hf]
    · rw [if_neg e, if_neg (fun e2 => e e2.symm)]
      exact h.head g hg'
  · unfold upn adn
    by_cases e : k = f
    · rw [if_pos e, if_pos e]
      subst e
      rw [← acs_snoc, List.length_append]
      exact own_kp2 ho hk2 (nsb ho)
    · rw [if_neg e, if_neg e]
      exact own_kp2 (rows1 k e) hk2 (nsb (rows1 k e))
  · exact (h.below.grown hg h.below.size (fun b hb => ((h.rows _).lt b hb).1)).setCell hsl _
/-- the arcs that are put at a state -/
def rws (g : Arc → Arc) (L : List Arc) : Nat → List Arc := fun k => (L.map g).filter fun a => a.1 == (k : Int)
theorem rws_up (g : Arc → Arc) (L : List Arc) (a : Arc) (f : Nat) (hf : (g a).1 = (f : Int)) : rws g (L ++ [a]) = adn (rws g L) f (g a) := by
  funext k
  unfold rws adn
  rw [List.map_append, List.filter_append]
  by_cases e : k = f
  · subst e
    simp [hf]
  · have : ¬ (f : Int) = (k : Int) := by omega
    simp [hf, this, e]
theorem rws_len (g : Arc → Arc) (L : List Arc) (k : Nat) : (rws g L k).length ≤ L.length := by
  unfold rws
  exact Nat.le_trans (List.length_filter_le _ _) (by simp)
end Go.Proofs.YtfjocafepigijaaDoor.Ra
