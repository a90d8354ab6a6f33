/- branch (91): by which symbols it goes on from a set, and to which sets of the next front. Conditions: as in spread. -/
import Derived.Test.YtfjocafepigijaaDoorUp
namespace Go.Proofs.YtfjocafepigijaaDoor.Ot
open Go.RowKit Mv Sy Po Ps Cm Pa Am Wd St Ra Set

theorem inf178 : (Tryd.prog.info? 178).map (fun i => (i.zero, i.size, i.bytes)) = some (some (.agg #[.int .i64 0, .int .i64 0]), 2, 16) := by kernel_rfl
def brc (l : List (Nat × Nat)) : List Value := l.flatMap fun p => [.int .i64 ((p.1 : Nat) : Int), .int .i64 ((p.2 : Nat) : Int)]
/-- what branch is on its way to: bl its list so far, c the next symbol -/
structure Bq (G : Gt) (ks0 ks : List (Value × List Nat)) (bl : List (Nat × Nat)) (c : Nat) : Prop where
  pre : ks0 <+: ks
  few : ks.length ≤ ks0.length + bl.length
  cs : bl.map Prod.fst = (List.range c).filter fun d => (G d).isSome
  at_ : ∀ p ∈ bl, ∃ q q', ks[p.2]? = some q ∧ G p.1 = some q' ∧ q.2 = q'.2
theorem Bq.begin (G : Gt) (ks : List (Value × List Nat)) : Bq G ks ks [] 0 := ⟨List.prefix_refl _, Nat.le_refl _, rfl, fun p h => by cases h⟩
theorem Bq.skip {G : Gt} {ks0 ks : List (Value × List Nat)} {bl : List (Nat × Nat)} {c : Nat} (h : Bq G ks0 ks bl c) (hn : G c = none) : Bq G ks0 ks bl (c + 1) :=
  ⟨h.pre, h.few, by rw [h.cs, List.range_succ, List.filter_append]; simp [hn], h.at_⟩
theorem Bq.old {G : Gt} {ks0 ks : List (Value × List Nat)} {bl : List (Nat × Nat)} {c i : Nat} {q p : Value × List Nat} (h : Bq G ks0 ks bl c) (hp : G c = some p) (hi : ks[i]? = some q) (he : q.2 = p.2) : Bq G ks0 ks (bl ++ [(c, i)]) (c + 1) := by
  refine ⟨h.pre, by rw [List.length_append]; have := h.few; omega, by rw [List.map_append, h.cs, List.range_succ, List.filter_append]; simp [hp], fun r hr => ?_⟩
  rcases List.mem_append.1 hr with hr | hr
  · exact h.at_ r hr
  · rw [List.mem_singleton.1 hr]; exact ⟨q, p, hi, hp, he⟩
theorem Bq.new {G : Gt} {ks0 ks : List (Value × List Nat)} {bl : List (Nat × Nat)} {c : Nat} {p : Value × List Nat} (h : Bq G ks0 ks bl c) (hp : G c = some p) : Bq G ks0 (ks ++ [p]) (bl ++ [(c, ks.length)]) (c + 1) := by
  refine ⟨h.pre.trans (List.prefix_append _ _), by rw [List.length_append, List.length_append]; have := h.few; simp; omega, by rw [List.map_append, h.cs, List.range_succ, List.filter_append]; simp [hp], fun r hr => ?_⟩
  rcases List.mem_append.1 hr with hr | hr
  · obtain ⟨q, q', h1, h2, h3⟩ := h.at_ r hr
    exact ⟨q, q', by rw [List.getElem?_append_left (List.getElem?_eq_some_iff.1 h1).1]; exact h1, h2, h3⟩
  · rw [List.mem_singleton.1 hr]; exact ⟨p, p, by simp, hp, rfl⟩
/-- how all lies between two symbols: w the world in which branch began -/
structure Bw (base : Nat) (w wr : World) (f mb nm M c : Nat) (vS vs vk ve vk0 ve0 : Value) (sts : List (Value × Nat)) (ks : List (Value × List Nat)) (es : List Bool) (Gm : ByteArray → Option Nat) (G : Gt) (N : Nat → Nat) (bl : List (Nat × Nat)) (vb : Value) : Prop where
  fr : Fr base wr f vs vk ve sts ks es M
  es : es = ks.map fun p => en N p.2
  mp : IsSm wr mb nm Gm
  met : Met ks Gm
  gs : Gs w.heap.size wr M G
  apart : ∀ p ∈ ks, (∀ b, p.1.ownBlock = some b → b < w.heap.size) ∨ ∃ d, d < c ∧ G d = some p
  row : wr.ownsRow w.heap.size 178 2 vb bl.length (brc bl)
  nn : ∃ a n k, vb = .slice (some a) n k
  kp : Kp (fun b => vS.ownBlock = some b ∨ b = f ∨ b = mb ∨ vk0.ownBlock = some b ∨ ve0.ownBlock = some b) w wr
  vk1 : ∀ b, vk.ownBlock = some b → b < w.heap.size → vk0.ownBlock = some b
  ve1 : ∀ b, ve.ownBlock = some b → b < w.heap.size → ve0.ownBlock = some b
  flt : f < w.heap.size
  mlt : mb < w.heap.size
section
variable {base : Nat} {w wr w1 w2 : World} {f mb nm M c : Nat} {vS vs vk ve vk0 ve0 : Value} {sts : List (Value × Nat)} {ks : List (Value × List Nat)} {es : List Bool} {Gm : ByteArray → Option Nat} {G : Gt} {N : Nat → Nat} {bl : List (Nat × Nat)} {vb : Value}
theorem Gs.kept {X : Nat → Prop} {H : Nat} (h : Gs H wr M G) (hk : Kp X wr w1) (hX : ∀ d p, G d = some p → ∀ b, p.1.ownBlock = some b → ¬ X b) : Gs H w1 M G :=
  ⟨fun d p hp => ⟨⟨own_kp2 (h.set d p hp).1.1 hk (fun b hb => hX d p hp b hb), (h.set d p hp).1.2⟩, (h.set d p hp).2⟩, h.apart⟩
theorem Bw.below (h : Bw base w wr f mb nm M c vS vs vk ve vk0 ve0 sts ks es Gm G N bl vb) (hb : Below wr.heap.size wr w1) : Bw base w w1 f mb nm M c vS vs vk ve vk0 ve0 sts ks es Gm G N bl vb :=
  ⟨h.fr.below hb, h.es, h.mp.kept (hb.block _ h.mp.lt), h.met, h.gs.kept (kp_below hb (fun _ => False)) (fun _ _ _ _ _ => id), h.apart, own_kp2 h.row (kp_below hb (fun _ => False)) (fun _ _ => id), h.nn, h.kp.trans (kp_below hb _), h.vk1, h.ve1, h.flt, h.mlt⟩
theorem Bw.next (h : Bw base w wr f mb nm M c vS vs vk ve vk0 ve0 sts ks es Gm G N bl vb) : Bw base w wr f mb nm M (c + 1) vS vs vk ve vk0 ve0 sts ks es Gm G N bl vb :=
  ⟨h.fr, h.es, h.mp, h.met, h.gs, fun p hp => (h.apart p hp).imp id (fun ⟨d, hd, e⟩ => ⟨d, Nat.lt_succ_of_lt hd, e⟩), h.row, h.nn, h.kp, h.vk1, h.ve1, h.flt, h.mlt⟩
theorem Bw.ap (h : Bw base w wr f mb nm M c vS vs vk ve vk0 ve0 sts ks es Gm G N bl vb) {p : Value × List Nat} (hp : G c = some p) : ∀ q ∈ ks, ∀ b, q.1.ownBlock = some b → p.1.ownBlock ≠ some b := fun q hq b hb e => by
  rcases h.apart q hq with h1 | ⟨d, hd, h1⟩
  · have := h1 b hb
    have := ((h.gs.set c p hp).1.1.lt _ e).1
    omega
  · exact h.gs.apart d c q p (by omega) h1 hp b hb e
/-- a set of a symbol is put into the front, and into the map -/
theorem Bw.put {p : Value × List Nat} {vk' ve' : Value} (h : Bw base w wr f mb nm M c vS vs vk ve vk0 ve0 sts ks es Gm G N bl vb) (hp : G c = some p) (hn : Gm (kst p.2) = none)
    (hf : Fr base w1 f vs vk' ve' sts (ks ++ [(p.1, p.2)]) (es ++ [en N p.2]) M) (hk : Kp (fun b => b = f ∨ vk.ownBlock = some b ∨ ve.ownBlock = some b) wr w1) (h1 : ∀ b, vk'.ownBlock = some b → vk.ownBlock = some b ∨ wr.heap.size ≤ b) (h2 : ∀ b, ve'.ownBlock = some b → ve.ownBlock = some b ∨ wr.heap.size ≤ b)
    (hm : IsSm w2 mb (nm + 1) (fun s' => if s' = kst p.2 then some ks.length else Gm s')) (hg : w1.grownBy w2 (some mb)) :
    Bw base w w2 f mb (nm + 1) M (c + 1) vS vs vk' ve' vk0 ve0 sts (ks ++ [p]) (es ++ [en N p.2]) (fun s' => if s' = kst p.2 then some ks.length else Gm s') G N bl vb := by
  have hk2 : Kp (fun b => b = mb) w1 w2 := (Kp.refl _ w1).grown hg (fun b hb _ => (by injection hb with hb; exact hb.symm))
  obtain ⟨me, mc, hmb⟩ := h.mp.ty
  have nm1 : ∀ {b : Nat} {d : Array Value} {ty : TypeId}, wr.heap[b]? = some (.cells d ty (0, 0)) → b ≠ mb := fun hb e => by subst e; rw [hmb] at hb; cases hb
  have n1 : ¬ (mb = f ∨ vk.ownBlock = some mb ∨ ve.ownBlock = some mb) := fun e => by
    rcases e with e | e | e
    · exact nm1 h.fr.row e.symm
    · obtain ⟨d, hd⟩ := own_ty h.fr.sets e; exact nm1 hd rfl
    · obtain ⟨d, hd⟩ := own_ty h.fr.ends e; exact nm1 hd rfl
  have hmb1 : w1.heap[mb]? = some (.map me mc) := (hk.block mb (lt_at hmb) n1).trans hmb
  have nm2 : ∀ {b : Nat} {d : Array Value} {ty : TypeId}, w1.heap[b]? = some (.cells d ty (0, 0)) → b ≠ mb := fun hb e => by subst e; rw [hmb1] at hb; cases hb
  have nt : ∀ {b : Nat} {d : Array Value} {ty : TypeId}, wr.heap[b]? = some (.cells d ty (0, 0)) → ty ≠ 122 → ty ≠ 77 → ty ≠ 4 → ¬ (b = f ∨ vk.ownBlock = some b ∨ ve.ownBlock = some b) := fun {b d ty} hb e1 e2 e3 e => by
    rcases e with e | e | e
    · subst e; exact ty_ne hb h.fr.row e1
    · obtain ⟨d', hd⟩ := own_ty h.fr.sets e; exact ty_ne hb hd e2
    · obtain ⟨d', hd⟩ := own_ty h.fr.ends e; exact ty_ne hb hd e3
  have gs1 : Gs w.heap.size w1 M G := h.gs.kept hk (fun d q hq b hb => by obtain ⟨d', hd⟩ := own_ty (h.gs.set d q hq).1.1 hb; exact nt hd (by decide) (by decide) (by decide))
  have row1 : w1.ownsRow w.heap.size 178 2 vb bl.length (brc bl) := own_kp2 h.row hk (fun b hb => by obtain ⟨d', hd⟩ := own_ty h.row hb; exact nt hd (by decide) (by decide) (by decide))
  refine ⟨hf.kept hk2 (fun b e1 e2 => ?_), by rw [h.es, List.map_append]; rfl, hm, h.met.add hn, gs1.kept hk2 (fun d q hq b hb e => ?_), fun q hq => ?_, own_kp2 row1 hk2 (fun b hb e => ?_), h.nn, kp_then (kp_then h.kp hk (fun i hi e => ?_)) hk2 (fun i _ e => .inr (.inr (.inl e))), fun b hb hlt => ?_, fun b hb hlt => ?_, h.flt, h.mlt⟩
  · obtain ⟨_, d, ty, hd, _⟩ := hf.X e2
    exact nm2 hd e1
  · obtain ⟨d', hd⟩ := own_ty (gs1.set d q hq).1.1 hb
    exact nm2 hd e
  · rcases List.mem_append.1 hq with hq | hq
    · exact (h.apart q hq).imp id (fun ⟨d, hd, e⟩ => ⟨d, Nat.lt_succ_of_lt hd, e⟩)
    · rw [List.mem_singleton.1 hq]; exact .inr ⟨c, Nat.lt_succ_self _, hp⟩
  · obtain ⟨d', hd⟩ := own_ty row1 hb
    exact nm2 hd e
  · rcases e with e | e | e
    · exact .inr (.inl e)
    · exact .inr (.inr (.inr (.inl (h.vk1 i e hi))))
    · exact .inr (.inr (.inr (.inr (h.ve1 i e hi))))
  · rcases h1 b hb with e | e
    · exact h.vk1 b e hlt
    · have := h.kp.size; omega
  · rcases h2 b hb with e | e
    · exact h.ve1 b e hlt
    · have := h.kp.size; omega
/-- a branch more -/
theorem Bw.push {v1 : Value} {d i : Nat} (h : Bw base w wr f mb nm M c vS vs vk ve vk0 ve0 sts ks es Gm G N bl vb) (ho : w1.ownsRow w.heap.size 178 2 v1 (bl.length + 1) (brc bl ++ [.int .i64 ((d : Nat) : Int), .int .i64 ((i : Nat) : Int)])) (hg : wr.grownBy w1 vb.ownBlock) : Bw base w w1 f mb nm M c vS vs vk ve vk0 ve0 sts ks es Gm G N (bl ++ [(d, i)]) v1 := by
  have hk : Kp (fun b => vb.ownBlock = some b) wr w1 := (Kp.refl _ wr).grown hg (fun b hb _ => hb)
  have nt : ∀ {b : Nat} {e : Array Value} {ty : TypeId}, wr.heap[b]? = some (.cells e ty (0, 0)) → ty ≠ 178 → ¬ vb.ownBlock = some b := fun {b e ty} hb h1 e1 => by
    obtain ⟨d', hd⟩ := own_ty h.row e1; exact ty_ne hb hd h1
  have ge : ∀ b, vb.ownBlock = some b → w.heap.size ≤ b := fun b hb => (h.row.lt _ hb).1
  obtain ⟨g1, c1, hv1, _, _⟩ := own_some ho (Nat.succ_pos _)
  refine ⟨h.fr.kept hk (fun b e1 e2 => ?_), h.es, h.mp.kept (hk.block mb h.mp.lt (fun e => by have := ge _ e; have := h.mlt; omega)), h.met, h.gs.kept hk (fun d q hq b hb => by obtain ⟨d', hd⟩ := own_ty (h.gs.set d q hq).1.1 hb; exact nt hd (by decide)), h.apart, ?_, ⟨_, _, _, hv1⟩, kp_then h.kp hk (fun i hi e => absurd (ge i e) (Nat.not_le.2 hi)), h.vk1, h.ve1, h.flt, h.mlt⟩
  · obtain ⟨_, d', ty, hd, ht⟩ := h.fr.X e2
    refine nt hd ?_ e1
    rcases ht with rfl | rfl | rfl | rfl | rfl <;> decide
  · rw [List.length_append, show brc (bl ++ [(d, i)]) = brc bl ++ [.int .i64 ((d : Nat) : Int), .int .i64 ((i : Nat) : Int)] by simp [brc]]
    exact ho
end
end Go.Proofs.YtfjocafepigijaaDoor.Ot
