/- told (14): the level at hand and the next one: how they lie, a text more. No conditions. -/
import Derived.Test.YtfjocafepigijaaDoorVb
namespace Go.Proofs.YtfjocafepigijaaDoor.Ot
open Go.RowKit Mv Sy Po Ps Cm Pa Am Wd St Ra Set

/-- the symbols, the texts of the level at hand, those of the next one so far -/
structure Lq (w wr : World) (bx : Nat) (mb : Array Value) (vs vl vn : Value) (u : List Int) (lev nx : List (List Int)) (lvs nvs : List Value) : Prop where
  box : wr.heap[bx]? = some (.cells mb 25 (0, 0))
  syms : wr.ownsRow w.heap.size 3 1 vs u.length (ints u)
  lrow : wr.ownsRow w.heap.size 26 1 vl lev.length lvs
  ltl : Tls wr lvs lev
  nrow : wr.ownsRow w.heap.size 26 1 vn nx.length nvs
  ntl : Tls wr nvs nx
  apart : ∀ b, vn.ownBlock = some b → vl.ownBlock ≠ some b
  below : Below w.heap.size w wr
theorem Lq.laid {w wr w1 : World} {bx : Nat} {mb : Array Value} {vs vl vn : Value} {u : List Int} {lev nx : List (List Int)} {lvs nvs : List Value} (h : Lq w wr bx mb vs vl vn u lev nx lvs nvs) (hb : Below wr.heap.size wr w1) : Lq w w1 bx mb vs vl vn u lev nx lvs nvs :=
  ⟨(hb.block _ (lt_at h.box)).trans h.box, own_kp2 h.syms (kp_below hb (fun _ => False)) (fun _ _ => id), own_kp2 h.lrow (kp_below hb (fun _ => False)) (fun _ _ => id), h.ltl.kept (kp_below hb (fun _ => False)) (fun _ _ _ => id), own_kp2 h.nrow (kp_below hb (fun _ => False)) (fun _ _ => id), h.ntl.kept (kp_below hb (fun _ => False)) (fun _ _ _ => id), h.apart, h.below.trans (hb.mono h.below.size)⟩
/-- a text more in the next level -/
theorem Lq.more {w wr w1 : World} {bx : Nat} {mb : Array Value} {vs vl vn v1 tv : Value} {u t : List Int} {lev nx : List (List Int)} {lvs nvs : List Value} (h : Lq w wr bx mb vs vl vn u lev nx lvs nvs) (ho : w1.ownsRow w.heap.size 26 1 v1 (nx.length + 1) (nvs ++ [tv])) (hg : wr.grownBy w1 vn.ownBlock) (hl : v1.ownBlock = vn.ownBlock ∨ v1.ownBlock = some wr.heap.size) (ht : Tx wr tv t) : Lq w w1 bx mb vs vl v1 u lev (nx ++ [t]) lvs (nvs ++ [tv]) := by
  have hk : Kp (fun b => vn.ownBlock = some b) wr w1 := (Kp.refl _ wr).grown hg (fun b hb _ => hb)
  have nt : ∀ {b : Nat} {c : Array Value} {ty : TypeId}, wr.heap[b]? = some (.cells c ty (0, 0)) → ty ≠ 26 → ¬ vn.ownBlock = some b := fun {b c ty} hb hne e => by
    obtain ⟨d, hd⟩ := own_ty h.nrow e; exact ty_ne hb hd hne
  refine ⟨(hk.block _ (lt_at h.box) (nt h.box (by decide))).trans h.box, own_kp2 h.syms hk (fun b hb => by obtain ⟨d, hd⟩ := own_ty h.syms hb; exact nt hd (by decide)), own_kp2 h.lrow hk (fun b hb e => h.apart b e hb), h.ltl.kept hk (fun b cs hb => nt hb (by decide)), by rw [List.length_append]; exact ho, (h.ntl.kept hk (fun b cs hb => nt hb (by decide))).add (ht.kept hk (fun b cs hb => nt hb (by decide))), fun b hb => ?_, h.below.grown hg h.below.size (fun b hb => (h.nrow.lt _ hb).1)⟩
  rcases hl with hl | hl
  · rw [hl] at hb; exact h.apart b hb
  · rw [hl] at hb
    cases hb
    intro e
    have := (h.lrow.lt _ e).2
    omega
/-- the next level becomes the one at hand -/
theorem Lq.turn {w wr : World} {bx : Nat} {mb : Array Value} {vs vl vn : Value} {u : List Int} {lev nx : List (List Int)} {lvs nvs : List Value} (h : Lq w wr bx mb vs vl vn u lev nx lvs nvs) : Lq w wr bx mb vs vn (.slice none 0 0) u nx [] nvs [] :=
  ⟨h.box, h.syms, h.nrow, h.ntl, World.ownsRow_nil _ _ _ _, Tls.nil _, fun b hb => (by cases hb), h.below⟩
end Go.Proofs.YtfjocafepigijaaDoor.Ot
