/- The calls of two talkers, as they lie in memory while they talk. No conditions. -/
import Derived.Test.YtmhgoddlbklbfaaLc
namespace Go.Proofs.Ytmhgoddlbklbfaa.Lb
open Go.RowKit Ta Tb Ra
variable {w wr W1 : World} {N : Nat} {Wh : Nat → Int} {F : Fix} {es : Nat → List Sl} {rs : Nat → List En} {LL : Nat → List (List To)} {A B : Nat → Prop} {k : Nat}

theorem isT_own {b : Nat} {v : Value} {l : List To} (h : wr.ownsRow b 44 5 v l.length (tls l)) (hl : l.length ≤ 140737488355328) : ∃ a c, v = .slice a l.length c ∧ IsT wr a l ∧ ∀ p, a = some p → b ≤ p.block ∧ p.block < wr.heap.size ∧ p.off = 0 ∧ p.spot = none := by
  obtain ⟨h1, ⟨hv, hn⟩ | ⟨g, cap, cur, hv, hg, hh, h2, h3, h4, h5⟩⟩ := h
  · exact ⟨none, 0, by rw [hn]; exact hv, ⟨hl, .inl hn⟩, fun p hp => by cases hp⟩
  · have hlt := (Array.getElem?_eq_some_iff.1 hh).1
    refine ⟨some ⟨g, 0, none⟩, cap, hv, ⟨hl, .inr ⟨g, 0, rfl, hlt, fun j u hu => ?_⟩⟩, fun p hp => by cases hp; exact ⟨hg, hlt, rfl, rfl⟩⟩
    have hj : j < l.length * 5 := by rw [← h1]; exact (List.getElem?_eq_some_iff.1 hu).1
    rw [Nat.zero_add, cell_of_row _ _ j _ 44 (0, 0) hh, ← hu, ← h5, List.getElem?_take, if_pos hj, Array.getElem?_toList]
theorem len20 {l : List Sl} (h : l.length = 20) (n : Nat) : (l.take n).length ≤ 20 := by simp; omega
theorem tell_st (h : St w N Wh F es rs LL A wr) (hk : k < 2) (hN : N ≤ 20) : Calls Try.prog 16 #[.pointer (some ⟨F.p k, 0, none⟩)] wr fun e w' => ∃ a c, e = .returned (.slice a (tellQ (rs k)).length c) ∧ IsT w' a (tellQ (rs k)) ∧ Below wr.heap.size wr w' :=
  (tell_any (h.tk k hk) hN).mono fun e w' ⟨v, he, ho, hb⟩ => by
    rw [sim_tell (h.sim k hk)] at ho
    have := tellQ_le (rs k)
    have hl := (h.sim k hk).len
    obtain ⟨a, c, hv, hi, _⟩ := isT_own ho (by omega)
    exact ⟨a, c, by rw [he, hv], hi, hb⟩
theorem tellD_st (h : St w N Wh F es rs LL A wr) (hk : k < 2) (hN : N ≤ 20) : Calls Try.prog 17 #[.pointer (some ⟨F.q k, 0, none⟩)] wr fun e w' => ∃ a c, e = .returned (.slice a (tellQ (rs k)).length c) ∧ IsT w' a (tellQ (rs k)) ∧ Below wr.heap.size wr w' := by
  have hl := (h.sim k hk).len
  exact (tell_doc (h.rk k hk) (by omega)).mono fun e w' ⟨v, he, ho, hb⟩ => by
    have := tellQ_le (rs k)
    obtain ⟨a, c, hv, hi, _⟩ := isT_own ho (by omega)
    exact ⟨a, c, by rw [he, hv], hi, hb⟩
end Go.Proofs.Ytmhgoddlbklbfaa.Lb
