/- One list less is on the way: the way is made anew. Conditions: those of the law of append. -/
import Derived.Test.YtmhgoddlbklbfaaLh
namespace Go.Proofs.Ytmhgoddlbklbfaa.Lb
open Go.RowKit Ta Tb Ra
variable {w w3 W6 : World} {N : Nat} {Wh : Nat → Int} {F : Fix} {es : Nat → List Sl} {rs : Nat → List En} {LL : Nat → List (List To)} {A : Nat → Prop}

theorem own_empty36 (w : World) (base : Nat) (hb : base ≤ w.heap.size) : (w.alloc (.cells #[] 36)).ownsRow base 36 1 (.slice (some ⟨w.heap.size, 0, none⟩) 0 0) 0 [] := World.ownsRow_made w #[] 0 hb (Nat.zero_le _) rfl
theorem St.drop (h : St w N Wh F es rs LL A w3) {k : Nat} (hk : k < 2) {vs : List Value} (hwl : vs.length = (LL k).length) (hwi : ∀ j (h : j < (LL k).length) (h' : j < vs.length), w3.ownsRow F.b2 44 5 vs[j] (LL k)[j].length (tls (LL k)[j]) ∧ ∀ g, vs[j].ownBlock = some g → ¬ A g) {pk : Nat} (hpk : pk < (LL k).length) (hb : Below w3.heap.size w3 W6) {x : Option Addr} {n m : Nat} (ho : W6.ownsRow w3.heap.size 36 1 (.slice x n m) ((LL k).length - 1) (vs.take pk ++ vs.drop (pk + 1))) :
    St w N Wh F es rs (Lb.upd LL k ((LL k).eraseIdx pk)) A (W6.setCell ⟨F.Y, k, none⟩ (.slice x n m)) := by
  have l := h.lo
  rw [← List.eraseIdx_eq_take_drop_succ] at ho
  refine h.setWay hk (hb.mono (by omega)) (fun j hj hne x n m hcj hw => hw.keep (fun g o _ hh => hb.block g (Array.getElem?_eq_some_iff.1 hh).1)) ?_ (fun j hj hne v hv g hg e => ?_)
  · refine ⟨vs.eraseIdx pk, by rw [List.length_eraseIdx_of_lt hpk]; exact own_base' ho (by omega), by rw [List.length_eraseIdx_of_lt hpk, List.length_eraseIdx_of_lt (by omega), hwl], fun j hj hj' => ?_⟩
    rw [List.length_eraseIdx_of_lt hpk] at hj
    simp only [List.getElem_eraseIdx]
    split
    · have := hwi j (by omega) (by omega)
      exact ⟨own_below this.1 hb, this.2⟩
    · have := hwi (j + 1) (by omega) (by omega)
      exact ⟨own_below this.1 hb, this.2⟩
  · have h1 := (ho.lt g hg).1
    obtain ⟨x', n', m', hcj, vs2, hw2, _⟩ := h.wy j hj
    rw [hv] at hcj
    cases hcj
    have := (hw2.lt g e).2
    omega
end Go.Proofs.Ytmhgoddlbklbfaa.Lb
