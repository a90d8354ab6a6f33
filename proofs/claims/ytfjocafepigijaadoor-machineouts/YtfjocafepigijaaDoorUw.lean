/- tell (34) walked: all answers, or that there are too many. Conditions: as in longer; at most 8 symbols are written. -/
import Derived.Test.YtfjocafepigijaaDoorUu
import Derived.Test.YtfjocafepigijaaDoorUv
namespace Go.Proofs.YtfjocafepigijaaDoor.Ot
open Go.RowKit Mv Sy Po Ps Cm Pa Am Wd St Ra Set

theorem inf26 : (Tryd.prog.info? 26).map (fun i => (i.zero, i.size, i.bytes)) = some (some (.slice none 0 0), 1, 24) := by kernel_rfl
/-- how all lies between two lengths -/
structure Tw (b1 : Nat) (w wr : World) (f M left : Nat) (vs vk ve vt : Value) (sts : List (Value × Nat)) (ks : List (Value × List Nat)) (es : List Bool) (stT : List (List Int × Nat)) (told : List (List Int)) (vals : List Value) (E : Int → Nat → Nat → Prop) (N : Nat → Nat) : Prop where
  fr : Fr b1 wr f vs vk ve sts ks es M
  bge : w.heap.size ≤ b1
  es : es = ks.map fun p => en N p.2
  tx : Txs wr sts stT
  sem : Sem E N left stT ks
  trow : wr.ownsRow w.heap.size 26 1 vt told.length vals
  tls : Tls wr vals told
  below : Below w.heap.size w wr
section
variable {b1 : Nat} {w wr w1 : World} {f M left : Nat} {vs vk ve vt : Value} {sts : List (Value × Nat)} {ks : List (Value × List Nat)} {es : List Bool} {stT : List (List Int × Nat)} {told : List (List Int)} {vals : List Value} {E : Int → Nat → Nat → Prop} {N : Nat → Nat}
theorem Tw.laid (h : Tw b1 w wr f M left vs vk ve vt sts ks es stT told vals E N) (hb : Below wr.heap.size wr w1) : Tw b1 w w1 f M left vs vk ve vt sts ks es stT told vals E N :=
  ⟨h.fr.below hb, h.bge, h.es, h.tx.kept (kp_below hb (fun _ => False)) (fun _ _ _ => id), h.sem, own_kp2 h.trow (kp_below hb (fun _ => False)) (fun _ _ => id), h.tls.kept (kp_below hb (fun _ => False)) (fun _ _ _ => id), h.below.trans (hb.mono h.below.size)⟩
/-- an answer more -/
theorem Tw.more {v1 tv : Value} {t : List Int} (h : Tw b1 w wr f M left vs vk ve vt sts ks es stT told vals E N) (ho : w1.ownsRow w.heap.size 26 1 v1 (told.length + 1) (vals ++ [tv])) (hg : wr.grownBy w1 vt.ownBlock) (ht : Tx wr tv t) : Tw b1 w w1 f M left vs vk ve v1 sts ks es stT (told ++ [t]) (vals ++ [tv]) E N := by
  have hk : Kp (fun b => vt.ownBlock = some b) wr w1 := (Kp.refl _ wr).grown hg (fun b hb _ => hb)
  have nt : ∀ {b : Nat} {c : Array Value} {ty : TypeId}, wr.heap[b]? = some (.cells c ty (0, 0)) → ty ≠ 26 → ¬ vt.ownBlock = some b := fun {b c ty} hb hne e => by
    obtain ⟨d, hd⟩ := own_ty h.trow e; exact ty_ne hb hd hne
  refine ⟨h.fr.kept hk (fun b e1 e2 => ?_), h.bge, h.es, h.tx.kept hk (fun b cs hb => nt hb (by decide)), h.sem, by rw [List.length_append]; exact ho, (h.tls.kept hk (fun b cs hb => nt hb (by decide))).add (ht.kept hk (fun b cs hb => nt hb (by decide))), h.below.grown hg h.below.size (fun b hb => (h.trow.lt _ hb).1)⟩
  obtain ⟨_, d, ty, hd, ht⟩ := h.fr.X e2
  refine nt hd ?_ e1
  rcases ht with rfl | rfl | rfl | rfl | rfl <;> decide
/-- the next front -/
theorem Tw.next {l f' : Nat} {vs' vk' ve' : Value} {sts' : List (Value × Nat)} {ks' : List (Value × List Nat)} {es' : List Bool} {stT' : List (List Int × Nat)} (h : Tw b1 w wr f M (l + 1) vs vk ve vt sts ks es stT told vals E N) (hk : Kp (fun b => ∃ p ∈ ks, p.1.ownBlock = some b) wr w1) (hf : Fr wr.heap.size w1 f' vs' vk' ve' sts' ks' es' M) (he : es' = ks'.map fun p => en N p.2) (hx : Txs w1 sts' stT') (hs : Sem E N l stT' ks') : Tw wr.heap.size w w1 f' M l vs' vk' ve' vt sts' ks' es' stT' told vals E N := by
  have nt : ∀ {b : Nat} {c : Array Value} {ty : TypeId}, wr.heap[b]? = some (.cells c ty (0, 0)) → ty ≠ 136 → ¬ ∃ p ∈ ks, p.1.ownBlock = some b := fun {b c ty} hb hne ⟨p, hp, e⟩ => by
    obtain ⟨d, hd⟩ := own_ty (h.fr.each p hp).1.1 e; exact ty_ne hb hd hne
  refine ⟨hf, h.below.size, he, hx, hs, own_kp2 h.trow hk (fun b hb => by obtain ⟨d, hd⟩ := own_ty h.trow hb; exact nt hd (by decide)), h.tls.kept hk (fun b cs hb => nt hb (by decide)), ⟨hk.os.trans h.below.os, hk.tape.trans h.below.tape, hk.output.trans h.below.output, Nat.le_trans h.below.size hk.size, fun k hlt => (hk.block k (Nat.lt_of_lt_of_le hlt h.below.size) (fun ⟨p, hp, e⟩ => ?_)).trans (h.below.block k hlt)⟩⟩
  have := ((h.fr.each p hp).1.1.lt _ e).1
  have := h.bge
  omega
end
/-- what tell hands back -/
def TeQ (E : Int → Nat → Nat → Prop) (F : List Nat) (L : Nat) (w : World) (e : Ending) (w' : World) : Prop :=
  Below w.heap.size w w' ∧ ((∃ vt told vals, e = .returned (.tuple #[vt, .int .i64 0]) ∧ w'.ownsRow w.heap.size 26 1 vt told.length vals ∧ Tls w' vals told ∧ OutP E F L false told) ∨ (e = .returned (.tuple #[.slice none 0 0, .int .i64 7]) ∧ OutP E F L true []))
theorem out_of {E : Int → Nat → Nat → Prop} {F : List Nat} {L : Nat} {l : List (List Int)} (h : Tp E F (L + 1) l) (hl : l.length ≤ 500) : OutP E F L false l := .inl ⟨rfl, h.ord, hl, fun t => by rw [h.mem t]; exact ⟨fun h => ⟨by omega, h.2⟩, fun h => ⟨by omega, h.2⟩⟩⟩
theorem out_many {E : Int → Nat → Nat → Prop} {F : List Nat} {L j : Nat} {l T : List (List Int)} (h : Tp E F (j + 1) l) (hT : Fp E F L (j + 1) T) (hj : j + 1 ≤ L) (hk : 500 < l.length + T.length) : OutP E F L true [] := by
  obtain ⟨B, h1, h2, h3⟩ := many h hT hj hk
  exact .inr ⟨rfl, rfl, B, h1, h2, h3⟩
theorem fp_next {S : Nat} {tx : List Int} {A : List Arc} {F : List Nat} {N : Nat → Nat} {M L l j : Nat} {T : List (List Int × Nat)} (hN : Nd (Eg S tx A) F M L N) (hA : ∀ a ∈ A, a.2.2.2.1 ≤ 60) (h0 : ∀ a ∈ A, 0 ≤ a.2.2.2.1) (hl : j + (l + 1) = L) (hT : Fp (Eg S tx A) F L j (T.map Prod.fst)) : Fp (Eg S tx A) F L (j + 1) (nxT (Eg S tx A) N l T) := by
  have h := hT.next (fun t => (Bt (Eg S tx A) N l t).map fun (c : Nat) => (c : Int)) (fun t _ => bs_bt hN hA h0 hl)
  have e : nxt (fun t => (Bt (Eg S tx A) N l t).map fun (c : Nat) => (c : Int)) (T.map Prod.fst) = nxT (Eg S tx A) N l T := by
    unfold nxt nxT
    rw [List.flatMap_map]
    congr 1
    funext p
    rw [List.map_map]
    rfl
  rw [e] at h
  exact h
end Go.Proofs.YtfjocafepigijaaDoor.Ot
