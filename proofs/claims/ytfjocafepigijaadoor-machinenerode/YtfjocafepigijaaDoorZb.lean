/- slices.Collect of a set's members. Conditions: those of members. -/
import Derived.Test.YtfjocafepigijaaDoorZa
import Derived.Maps.AppendAt
import Derived.Maps.OwnIn
namespace Go.Proofs.YtfjocafepigijaaDoor.Za
open Go.RowKit Go.Shelf Mv Set Rf Tz Pa
attribute [local go_sem] Oper.semAt_some

theorem own_ge {A : World} {base e s n q : Nat} {u : Value} {xs : List Value} (h : A.ownsRow base e s u n xs) (hq : u.ownBlock = some q) : base ≤ q ∧ q < A.heap.size := h.lt q hq
theorem own_past {l : Nat} {A B : World} (hp : Past l A B) {base e s n : Nat} {u : Value} {xs : List Value} (h : A.ownsRow base e s u n xs) (hl : l < base) : B.ownsRow base e s u n xs := by
  refine ⟨h.1, ?_⟩
  rcases h.2 with h' | ⟨g, cap, cur, hu, hb, hg, hrest⟩
  · exact .inl h'
  · exact .inr ⟨g, cap, cur, hu, hb, (hp.block g (Array.getElem?_eq_some_iff.1 hg).1 (by omega)).trans hg, hrest⟩
theorem below_past {l n : Nat} {w A B : World} (hp : Past l A B) (h : Below n w A) (hn : n ≤ A.heap.size) (hl : n ≤ l) : Below n w B :=
  h.trans ⟨hp.os, hp.tape, hp.output, hp.size, fun k hk => hp.block k (by omega) (by omega)⟩
theorem al (W : World) (o : Obj) : Below W.heap.size W (W.alloc o) := (Below.refl _ _).alloc (Nat.le_refl _) _
/-- what holds between two rounds of Collect -/
def InvC (w : World) (nV : Nat) (pre : List Nat) (O : Nat → Prop) (A : World) : Prop :=
  ∃ u, Boxed A w.heap.size 26 u ∧ A.ownsRow (nV + 2) 3 1 u pre.length (ns pre) ∧ Below w.heap.size w A ∧ O = (fun q => q = w.heap.size ∨ u.ownBlock = some q)
theorem InvC.past {w : World} {nV : Nat} {pre : List Nat} {O : Nat → Prop} {A B : World} (h : InvC w nV pre O A) (hp : Past (nV + 1) A B) (h1 : w.heap.size < nV) : InvC w nV pre O B := by
  obtain ⟨u, hb, hrow, hBA, hO⟩ := h
  exact ⟨u, (hp.block _ hb.lt (by omega)).trans hb, own_past hp hrow (by omega), below_past hp hBA hBA.size (by omega), hO⟩
theorem ns_app (pre : List Nat) (x : Nat) : ns (pre ++ [x]) = ns pre ++ [.int .i64 (x : Int)] := by simp [ns]
theorem endC {w : World} {nV : Nat} (pre : List Nat) (x : Nat) {A w7 : World} {u v' : Value} {tmp : Obj} (hb7 : Boxed A w.heap.size 26 u) (hrow : A.ownsRow (nV + 2) 3 1 u pre.length (ns pre))
    (hown : w7.ownsRow (nV + 2) 3 1 v' (pre.length + 1) (ns pre ++ [.int .i64 (x : Int)])) (hgrow : (A.alloc tmp).grownBy w7 u.ownBlock) (hat : v'.ownBlock = u.ownBlock ∨ v'.ownBlock = some (A.alloc tmp).heap.size) (hBA : Below w.heap.size w A) (hn : w.heap.size < nV) :
    ∃ O', Kept (fun q => q = w.heap.size ∨ u.ownBlock = some q) O' A (w7.setCell ⟨w.heap.size, 0, none⟩ v') ∧ InvC w nV (pre ++ [x]) O' (w7.setCell ⟨w.heap.size, 0, none⟩ v') := by
  have hs := grownBy_setCell' w7 w.heap.size v'
  have g1 := al A tmp
  have hv1 : Boxed w7 w.heap.size 26 u := (hb7.alloc tmp).kept hgrow (hb7.not_row (by decide) hrow)
  have s2 := g1.size
  have s3 := hgrow.size
  have K : Kept (fun q => q = w.heap.size ∨ u.ownBlock = some q) (fun q => q = w.heap.size ∨ v'.ownBlock = some q) A (w7.setCell ⟨w.heap.size, 0, none⟩ v') := by
    refine ⟨hs.os.trans (hgrow.os.trans g1.os), hs.tape.trans (hgrow.tape.trans g1.tape), hs.output.trans (hgrow.output.trans g1.output), Nat.le_trans (by omega) hs.size, fun q hq hno => ?_⟩
    simp only [not_or] at hno ⊢
    refine ⟨⟨hno.1, fun h => ?_⟩, ?_⟩
    · rcases hat with hat | hat
      · exact hno.2 (hat.symm.trans h)
      · rw [hat, Option.some.injEq, World.size_alloc] at h
        omega
    · exact (Below.heap_setCell _ _ _ q hno.1).trans ((hgrow.block q (by omega) (fun h => hno.2 h.symm)).trans (g1.block q (by omega)))
  have hown0 : ∀ q, q < nV + 2 → u.ownBlock ≠ some q := fun q hq h => by have := (own_ge hrow h).1; omega
  refine ⟨_, K, v', hv1.set v', ?_, K.below hBA hBA.size (fun q hq h => ?_), rfl⟩
  · rw [ns_app, List.length_append]
    exact hown.kept hs (.inr (hv1.not_row (by decide) hown).symm)
  · rcases h with h | h
    · omega
    · exact hown0 q (by omega) h
set_option maxHeartbeats 1000000 in
theorem members_any (a : Option Addr) (n c : Nat) (w : World) : Calls Tryd.prog 43 #[.slice a n c] w fun e w' => e = .returned (.func (.func 70) #[] #[.pointer (some ⟨w.heap.size, 0, none⟩)]) ∧ w' = w.alloc (.cells #[.slice a n c] 77) := by
  go_enter Tryd.func43, Tryd.ntmps43
  go_wp2
  go_ret
  exact ⟨rfl, rfl⟩
end Go.Proofs.YtfjocafepigijaaDoor.Za
