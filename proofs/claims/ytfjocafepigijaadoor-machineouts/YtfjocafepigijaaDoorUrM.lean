/- The map from keys to numbers of sets: how it lies, what is at a key, one more; which sets it knows. Condition: keys of at most 100,000 bytes. -/
import Derived.Test.YtfjocafepigijaaDoorUo
import Derived.StringKeys
namespace Go.Proofs.YtfjocafepigijaaDoor.Ot
open Go.RowKit Mv Po Se Wd Mp
open Go.WideMaps Go.WideElems
open Go.ChangeMaps (setBlock heap_setBlock_same heap_setBlock_other)
open Go.Maps (Keyed)

theorem keyed9 : Keyed Tryd.prog 9 := Maps.string_keyed Tryd.underlying9
theorem keyOf_str9 (s : ByteArray) (hs : s.size ≤ maxLen) : keyOf Tryd.prog 9 (.string s) = some (.string s.data.toList) := WideMaps.keyOf_string_mk Tryd.underlying9 hs
theorem zero3' (w : World) : (zeroValue 3).run Tryd.prog w = .ok (.int .i64 0) w := by kernel_rfl
/-- block b is a map that has G at each key -/
def IsSm (w : World) (b n : Nat) (G : ByteArray → Option Nat) : Prop :=
  ∃ D : DataW Value, w.ownsMap Tryd.prog 9 El b n D ∧ ∀ s : ByteArray, s.size ≤ maxLen → ∀ z, D.atKey (.string s.data.toList) z = (match G s with | some c => .held (.int .i64 (c : Int)) | none => z)
theorem IsSm.lt {w : World} {b n : Nat} {G : ByteArray → Option Nat} (h : IsSm w b n G) : b < w.heap.size := by
  obtain ⟨D, h, _⟩ := h
  exact h.lt
theorem IsSm.kept {w w' : World} {b n : Nat} {G : ByteArray → Option Nat} (h : IsSm w b n G) (hb : w'.heap[b]? = w.heap[b]?) : IsSm w' b n G := by
  obtain ⟨D, ⟨es, clock, h1, h2⟩, h3⟩ := h
  exact ⟨D, ⟨es, clock, hb.trans h1, h2⟩, h3⟩
theorem IsSm.ty {w : World} {b n : Nat} {G : ByteArray → Option Nat} (h : IsSm w b n G) : ∃ es clock, w.heap[b]? = some (.map es clock) := by
  obtain ⟨D, ⟨es, clock, h1, _⟩, _⟩ := h
  exact ⟨es, clock, h1⟩
theorem sm_made (w : World) : IsSm (w.alloc (.map #[] 0)) w.heap.size 0 (fun _ => none) :=
  ⟨_, World.ownsMap_made w Tryd.prog 9 El, fun _ _ _ => rfl⟩
theorem IsSm.look {w : World} {b n : Nat} {G : ByteArray → Option Nat} (h : IsSm w b n G) {s : ByteArray} (hs : s.size ≤ maxLen) : (Instr.lookup 145 (.map (some b)) (.string s) true).run Tryd.prog w = .ok (match G s with | some c => .tuple #[.int .i64 (c : Int), .bool true] | none => .tuple #[.int .i64 0, .bool false]) w := by
  obtain ⟨D, ⟨es, clock, hb, F, hsz, hD⟩, hG⟩ := h
  have hg := hG s hs
  rw [hD] at hg
  rcases Maps.fit_look true keyed9 Tryd.underlying145 (zero3' w) hb F (keyOf_str9 s hs) with ⟨hr, _, hno⟩ | ⟨e0, y, _, _, hr, hy, hat, _⟩
  · rw [hr]
    cases e : G s with
    | none => rfl
    | some c =>
      have h1 := hg .nil
      rw [hno, e] at h1
      cases h1
  · rw [hr]
    cases e : G s with
    | none =>
      have h1 := hg .nil
      have h2 := hg (.held undef)
      rw [hat, e] at h1 h2
      rw [h1] at h2
      cases h2
    | some c =>
      have h1 := hg .nil
      rw [hat, e] at h1
      have h2 : y.1 = .held e0.val := by
        unfold El at hy
        simp only [Option.some.injEq] at hy
        rw [← hy]
      rw [h2] at h1
      simp only [DataW.held.injEq] at h1
      rw [if_pos rfl, h1]
theorem str_inj {s t : ByteArray} (h : Lit.string s.data.toList = Lit.string t.data.toList) : s = t := by
  injection h with h
  obtain ⟨⟨l⟩⟩ := s
  obtain ⟨⟨m⟩⟩ := t
  simp only at h
  rw [h]
theorem IsSm.store {w : World} {b n c : Nat} {G : ByteArray → Option Nat} (h : IsSm w b n G) (hn : n < maxLen) {s : ByteArray} (hs : s.size ≤ maxLen) :
    ∃ w', (Instr.mapUpdate 145 (.map (some b)) (.string s) (.int .i64 (c : Int))).run Tryd.prog w = .ok () w' ∧ IsSm w' b (n + 1) (fun s' => if s' = s then some c else G s') ∧ w.grownBy w' (some b) := by
  obtain ⟨D, hown, hG⟩ := h
  obtain ⟨w', hr, ho, hg⟩ := hown.update keyed9 Tryd.underlying145 hn (keyOf_str9 s hs) (val := .int .i64 (c : Int)) (d := .held (.int .i64 (c : Int))) (ps := []) rfl
  refine ⟨w', hr, ⟨_, ho, fun a' ha' z => ?_⟩, hg⟩
  obtain ⟨es, clock, _, _, _, hD⟩ := hown
  by_cases e : a' = s
  · subst e
    simp only [if_true]
    exact Maps.atKey_put_same (by rw [hD]; exact ⟨_, rfl⟩) (keyed9.key (keyOf_str9 a' hs)) _ _
  · simp only [if_neg e]
    rw [Maps.atKey_put_other (fun h => e (str_inj h))]
    exact hG a' ha' z
/-- a set's key -/
def kst (ws : List Nat) : ByteArray := strOfNums ((kb ws).map fun (x : Nat) => (x : Int))
theorem kst_size (ws : List Nat) : (kst ws).size = ws.length * 8 := by unfold kst; rw [strOfNums_size, List.length_map, kb_len]
theorem kst_inj {ws vs : List Nat} (h1 : ∀ a ∈ ws, a < 18446744073709551616) (h2 : ∀ a ∈ vs, a < 18446744073709551616) (h : kst ws = kst vs) : ws = vs := by
  refine kb_inj h1 h2 ?_
  have hd := congrArg (fun b : ByteArray => b.data.toList) h
  unfold kst at hd
  rw [strOfNums_data, strOfNums_data, List.map_map, List.map_map] at hd
  have key : ∀ l m : List Nat, (∀ x ∈ l, x < 256) → (∀ x ∈ m, x < 256) → l.map ((fun n : Int => UInt8.ofNat n.toNat) ∘ fun (x : Nat) => (x : Int)) = m.map ((fun n : Int => UInt8.ofNat n.toNat) ∘ fun (x : Nat) => (x : Int)) → l = m := by
    intro l
    induction l with
    | nil => intro m _ _ h; cases m with
      | nil => rfl
      | cons b m => simp at h
    | cons a l ih =>
      intro m hl hm h
      cases m with
      | nil => simp at h
      | cons b m =>
        rw [List.map_cons, List.map_cons, List.cons.injEq] at h
        have ha := hl a (by simp)
        have hb := hm b (by simp)
        have e : a = b := by
          have h3 := congrArg UInt8.toNat h.1
          simp only [Function.comp_apply, Int.toNat_natCast, UInt8.toNat_ofNat'] at h3
          omega
        rw [e, ih m (fun x hx => hl x (by simp [hx])) (fun x hx => hm x (by simp [hx])) h.2]
  exact key _ _ (kb_byte ws) (kb_byte vs) hd
/-- which sets a map knows -/
structure Met (ks : List (Value × List Nat)) (G : ByteArray → Option Nat) : Prop where
  has : ∀ i p, ks[i]? = some p → G (kst p.2) = some i
  only : ∀ s i, G s = some i → ∃ p, ks[i]? = some p ∧ s = kst p.2
theorem Met.nil : Met [] (fun _ => none) := ⟨fun i p h => by simp at h, fun s i h => by cases h⟩
theorem Met.add {ks : List (Value × List Nat)} {G : ByteArray → Option Nat} (h : Met ks G) {p : Value × List Nat} (hn : G (kst p.2) = none) : Met (ks ++ [p]) (fun s => if s = kst p.2 then some ks.length else G s) := by
  refine ⟨fun i q hq => ?_, fun s i hs => ?_⟩
  · rcases Nat.lt_or_ge i ks.length with hi | hi
    · rw [List.getElem?_append_left hi] at hq
      have := h.has i q hq
      rw [if_neg (fun e => by rw [e, hn] at this; cases this)]
      exact this
    · have hlt := (List.getElem?_eq_some_iff.1 hq).1
      simp at hlt
      obtain rfl : i = ks.length := by omega
      rw [List.getElem?_append_right (Nat.le_refl _)] at hq
      simp at hq
      subst hq
      rw [if_pos rfl]
  · by_cases e : s = kst p.2
    · rw [if_pos e] at hs
      cases hs
      exact ⟨p, by simp, e⟩
    · rw [if_neg e] at hs
      obtain ⟨q, hq, he⟩ := h.only s i hs
      exact ⟨q, by rw [List.getElem?_append_left (List.getElem?_eq_some_iff.1 hq).1]; exact hq, he⟩
end Go.Proofs.YtfjocafepigijaaDoor.Ot
/- branch (91): by which symbols it goes on from a set, and to which sets of the next front. Conditions: as in spread. -/
namespace Go.Proofs.YtfjocafepigijaaDoor.Ot
open Go.RowKit Mv Sy Po Ps Cm Pa Am Wd St Ra Set

theorem inf178 : (Tryd.prog.info? 178).map (fun i => (i.zero, i.size, i.bytes)) = some (some (.agg #[.int .i64 0, .int .i64 0]), 2, 16) := by kernel_rfl
def brc (l : List (Nat × Nat)) : List Value := l.flatMap fun p => [.int .i64 ((p.1 : Nat) : Int), .int .i64 ((p.2 : Nat) : Int)]
/-- what branch is on its way to: bl its list so far, c the next symbol -/
structure Bq (G : Gt) (ks0 ks : List (Value × List Nat)) (bl : List (Nat × Nat)) (c : Nat) : Prop where
  pre : ks0 <+: ks
  few : ks.length ≤ ks0.length + bl.length
  cs : bl.map Prod.fst = (List.range c).filter fun d => (G d).isSome
  at_ : ∀ p ∈ bl, ∃ q q', ks[p.2]? = some q ∧ G p.1 = some q' ∧ q.2 = q'.2
theorem Bq.begin (G : Gt) (ks : List (Value × List Nat)) : Bq G ks ks [] 0 := ⟨List.prefix_refl _, Nat.le_refl _, rfl, fun p h => by cases h⟩
theorem Bq.skip {G : Gt} {ks0 ks : List (Value × List Nat)} {bl : List (Nat × Nat)} {c : Nat} (h : Bq G ks0 ks bl c) (hn : G c = none) : Bq G ks0 ks bl (c + 1) :=
  ⟨h.pre, h.few, by rw [h.cs, List.range_succ, List.filter_append]; simp [hn], h.at_⟩
theorem Bq.old {G : Gt} {ks0 ks : List (Value × List Nat)} {bl : List (Nat × Nat)} {c i : Nat} {q p : Value × List Nat} (h : Bq G ks0 ks bl c) (hp : G c = some p) (hi : ks[i]? = some q) (he : q.2 = p.2) : Bq G ks0 ks (bl ++ [(c, i)]) (c + 1) := by
  refine ⟨h.pre, by rw [List.length_append]; have := h.few; omega, by rw [List.map_append, h.cs, List.range_succ, List.filter_append]; simp [hp], fun r hr => ?_⟩
  rcases List.mem_append.1 hr with hr | hr
  · exact h.at_ r hr
  · rw [List.mem_singleton.1 hr]; exact ⟨q, p, hi, hp, he⟩
theorem Bq.new {G : Gt} {ks0 ks : List (Value × List Nat)} {bl : List (Nat × Nat)} {c : Nat} {p : Value × List Nat} (h : Bq G ks0 ks bl c) (hp : G c = some p) : Bq G ks0 (ks ++ [p]) (bl ++ [(c, ks.length)]) (c + 1) := by
  refine ⟨h.pre.trans (List.prefix_append _ _), by rw [List.length_append, List.length_append]; have := h.few; simp; omega, by rw [List.map_append, h.cs, List.range_succ, List.filter_append]; simp [hp], fun r hr => ?_⟩
  rcases List.mem_append.1 hr with hr | hr
  · obtain ⟨q, q', h1, h2, h3⟩ := h.at_ r hr
    exact ⟨q, q', by rw [List.getElem?_append_left (List.getElem?_eq_some_iff.1 h1).1]; exact h1, h2, h3⟩
  · rw [List.mem_singleton.1 hr]; exact ⟨p, p, by simp, hp, rfl⟩
/-- how all lies between two symbols: w the world in which branch began -/
structure Bw (base : Nat) (w wr : World) (f mb nm M c : Nat) (vS vs vk ve vk0 ve0 : Value) (sts : List (Value × Nat)) (ks : List (Value × List Nat)) (es : List Bool) (Gm : ByteArray → Option Nat) (G : Gt) (N : Nat → Nat) (bl : List (Nat × Nat)) (vb : Value) : Prop where
  fr : Fr base wr f vs vk ve sts ks es M
  es : es = ks.map fun p => en N p.2
  mp : IsSm wr mb nm Gm
  met : Met ks Gm
  gs : Gs w.heap.size wr M G
  apart : ∀ p ∈ ks, (∀ b, p.1.ownBlock = some b → b < w.heap.size) ∨ ∃ d, d < c ∧ G d = some p
  row : wr.ownsRow w.heap.size 178 2 vb bl.length (brc bl)
  nn : ∃ a n k, vb = .slice (some a) n k
  kp : Kp (fun b => vS.ownBlock = some b ∨ b = f ∨ b = mb ∨ vk0.ownBlock = some b ∨ ve0.ownBlock = some b) w wr
  vk1 : ∀ b, vk.ownBlock = some b → b < w.heap.size → vk0.ownBlock = some b
  ve1 : ∀ b, ve.ownBlock = some b → b < w.heap.size → ve0.ownBlock = some b
  flt : f < w.heap.size
  mlt : mb < w.heap.size
section
variable {base : Nat} {w wr w1 w2 : World} {f mb nm M c : Nat} {vS vs vk ve vk0 ve0 : Value} {sts : List (Value × Nat)} {ks : List (Value × List Nat)} {es : List Bool} {Gm : ByteArray → Option Nat} {G : Gt} {N : Nat → Nat} {bl : List (Nat × Nat)} {vb : Value}
theorem Gs.kept {X : Nat → Prop} {H : Nat} (h : Gs H wr M G) (hk : Kp X wr w1) (hX : ∀ d p, G d = some p → ∀ b, p.1.ownBlock = some b → ¬ X b) : Gs H w1 M G :=
  ⟨fun d p hp => ⟨⟨own_kp2 (h.set d p hp).1.1 hk (fun b hb => hX d p hp b hb), (h.set d p hp).1.2⟩, (h.set d p hp).2⟩, h.apart⟩
theorem Bw.below (h : Bw base w wr f mb nm M c vS vs vk ve vk0 ve0 sts ks es Gm G N bl vb) (hb : Below wr.heap.size wr w1) : Bw base w w1 f mb nm M c vS vs vk ve vk0 ve0 sts ks es Gm G N bl vb :=
  ⟨h.fr.below hb, h.es, h.mp.kept (hb.block _ h.mp.lt), h.met, h.gs.kept (kp_below hb (fun _ => False)) (fun _ _ _ _ _ => id), h.apart, own_kp2 h.row (kp_below hb (fun _ => False)) (fun _ _ => id), h.nn, h.kp.trans (kp_below hb _), h.vk1, h.ve1, h.flt, h.mlt⟩
theorem Bw.next (h : Bw base w wr f mb nm M c vS vs vk ve vk0 ve0 sts ks es Gm G N bl vb) : Bw base w wr f mb nm M (c + 1) vS vs vk ve vk0 ve0 sts ks es Gm G N bl vb :=
  ⟨h.fr, h.es, h.mp, h.met, h.gs, fun p hp => (h.apart p hp).imp id (fun ⟨d, hd, e⟩ => ⟨d, Nat.lt_succ_of_lt hd, e⟩), h.row, h.nn, h.kp, h.vk1, h.ve1, h.flt, h.mlt⟩
theorem Bw.ap (h : Bw base w wr f mb nm M c vS vs vk ve vk0 ve0 sts ks es Gm G N bl vb) {p : Value × List Nat} (hp : G c = some p) : ∀ q ∈ ks, ∀ b, q.1.ownBlock = some b → p.1.ownBlock ≠ some b := fun q hq b hb e => by
  rcases h.apart q hq with h1 | ⟨d, hd, h1⟩
  · have := h1 b hb
    have := ((h.gs.set c p hp).1.1.lt _ e).1
    omega
  · exact h.gs.apart d c q p (by omega) h1 hp b hb e
/-- a set of a symbol is put into the front, and into the map -/
theorem Bw.put {p : Value × List Nat} {vk' ve' : Value} (h : Bw base w wr f mb nm M c vS vs vk ve vk0 ve0 sts ks es Gm G N bl vb) (hp : G c = some p) (hn : Gm (kst p.2) = none)
    (hf : Fr base w1 f vs vk' ve' sts (ks ++ [(p.1, p.2)]) (es ++ [en N p.2]) M) (hk : Kp (fun b => b = f ∨ vk.ownBlock = some b ∨ ve.ownBlock = some b) wr w1) (h1 : ∀ b, vk'.ownBlock = some b → vk.ownBlock = some b ∨ wr.heap.size ≤ b) (h2 : ∀ b, ve'.ownBlock = some b → ve.ownBlock = some b ∨ wr.heap.size ≤ b)
    (hm : IsSm w2 mb (nm + 1) (fun s' => if s' = kst p.2 then some ks.length else Gm s')) (hg : w1.grownBy w2 (some mb)) :
    Bw base w w2 f mb (nm + 1) M (c + 1) vS vs vk' ve' vk0 ve0 sts (ks ++ [p]) (es ++ [en N p.2]) (fun s' => if s' = kst p.2 then some ks.length else Gm s') G N bl vb := by
  have hk2 : Kp (fun b => b = mb) w1 w2 := (Kp.refl _ w1).grown hg (fun b hb _ => (by injection hb with hb; exact hb.symm))
  obtain ⟨me, mc, hmb⟩ := h.mp.ty
  have nm1 : ∀ {b : Nat} {d : Array Value} {ty : TypeId}, wr.heap[b]? = some (.cells d ty (0, 0)) → b ≠ mb := fun hb e => by subst e; rw [hmb] at hb; cases hb
  have n1 : ¬ (mb = f ∨ vk.ownBlock = some mb ∨ ve.ownBlock = some mb) := fun e => by
    rcases e with e | e | e
    · exact nm1 h.fr.row e.symm
    · obtain ⟨d, hd⟩ := own_ty h.fr.sets e; exact nm1 hd rfl
    · obtain ⟨d, hd⟩ := own_ty h.fr.ends e; exact nm1 hd rfl
  have hmb1 : w1.heap[mb]? = some (.map me mc) := (hk.block mb (lt_at hmb) n1).trans hmb
  have nm2 : ∀ {b : Nat} {d : Array Value} {ty : TypeId}, w1.heap[b]? = some (.cells d ty (0, 0)) → b ≠ mb := fun hb e => by subst e; rw [hmb1] at hb; cases hb
  have nt : ∀ {b : Nat} {d : Array Value} {ty : TypeId}, wr.heap[b]? = some (.cells d ty (0, 0)) → ty ≠ 122 → ty ≠ 77 → ty ≠ 4 → ¬ (b = f ∨ vk.ownBlock = some b ∨ ve.ownBlock = some b) := fun {b d ty} hb e1 e2 e3 e => by
    rcases e with e | e | e
    · subst e; exact ty_ne hb h.fr.row e1
    · obtain ⟨d', hd⟩ := own_ty h.fr.sets e; exact ty_ne hb hd e2
    · obtain ⟨d', hd⟩ := own_ty h.fr.ends e; exact ty_ne hb hd e3
  have gs1 : Gs w.heap.size w1 M G := h.gs.kept hk (fun d q hq b hb => by obtain ⟨d', hd⟩ := own_ty (h.gs.set d q hq).1.1 hb; exact nt hd (by decide) (by decide) (by decide))
  have row1 : w1.ownsRow w.heap.size 178 2 vb bl.length (brc bl) := own_kp2 h.row hk (fun b hb => by obtain ⟨d', hd⟩ := own_ty h.row hb; exact nt hd (by decide) (by decide) (by decide))
  refine ⟨hf.kept hk2 (fun b e1 e2 => ?_), by rw [h.es, List.map_append]; rfl, hm, h.met.add hn, gs1.kept hk2 (fun d q hq b hb e => ?_), fun q hq => ?_, own_kp2 row1 hk2 (fun b hb e => ?_), h.nn, kp_then (kp_then h.kp hk (fun i hi e => ?_)) hk2 (fun i _ e => .inr (.inr (.inl e))), fun b hb hlt => ?_, fun b hb hlt => ?_, h.flt, h.mlt⟩
  · obtain ⟨_, d, ty, hd, _⟩ := hf.X e2
    exact nm2 hd e1
  · obtain ⟨d', hd⟩ := own_ty (gs1.set d q hq).1.1 hb
    exact nm2 hd e
  · rcases List.mem_append.1 hq with hq | hq
    · exact (h.apart q hq).imp id (fun ⟨d, hd, e⟩ => ⟨d, Nat.lt_succ_of_lt hd, e⟩)
    · rw [List.mem_singleton.1 hq]; exact .inr ⟨c, Nat.lt_succ_self _, hp⟩
  · obtain ⟨d', hd⟩ := own_ty row1 hb
    exact nm2 hd e
  · rcases e with e | e | e
    · exact .inr (.inl e)
    · exact .inr (.inr (.inr (.inl (h.vk1 i e hi))))
    · exact .inr (.inr (.inr (.inr (h.ve1 i e hi))))
  · rcases h1 b hb with e | e
    · exact h.vk1 b e hlt
    · have := h.kp.size; omega
  · rcases h2 b hb with e | e
    · exact h.ve1 b e hlt
    · have := h.kp.size; omega
/-- a branch more -/
theorem Bw.push {v1 : Value} {d i : Nat} (h : Bw base w wr f mb nm M c vS vs vk ve vk0 ve0 sts ks es Gm G N bl vb) (ho : w1.ownsRow w.heap.size 178 2 v1 (bl.length + 1) (brc bl ++ [.int .i64 ((d : Nat) : Int), .int .i64 ((i : Nat) : Int)])) (hg : wr.grownBy w1 vb.ownBlock) : Bw base w w1 f mb nm M c vS vs vk ve vk0 ve0 sts ks es Gm G N (bl ++ [(d, i)]) v1 := by
  have hk : Kp (fun b => vb.ownBlock = some b) wr w1 := (Kp.refl _ wr).grown hg (fun b hb _ => hb)
  have nt : ∀ {b : Nat} {e : Array Value} {ty : TypeId}, wr.heap[b]? = some (.cells e ty (0, 0)) → ty ≠ 178 → ¬ vb.ownBlock = some b := fun {b e ty} hb h1 e1 => by
    obtain ⟨d', hd⟩ := own_ty h.row e1; exact ty_ne hb hd h1
  have ge : ∀ b, vb.ownBlock = some b → w.heap.size ≤ b := fun b hb => (h.row.lt _ hb).1
  obtain ⟨g1, c1, hv1, _, _⟩ := own_some ho (Nat.succ_pos _)
  refine ⟨h.fr.kept hk (fun b e1 e2 => ?_), h.es, h.mp.kept (hk.block mb h.mp.lt (fun e => by have := ge _ e; have := h.mlt; omega)), h.met, h.gs.kept hk (fun d q hq b hb => by obtain ⟨d', hd⟩ := own_ty (h.gs.set d q hq).1.1 hb; exact nt hd (by decide)), h.apart, ?_, ⟨_, _, _, hv1⟩, kp_then h.kp hk (fun i hi e => absurd (ge i e) (Nat.not_le.2 hi)), h.vk1, h.ve1, h.flt, h.mlt⟩
  · obtain ⟨_, d', ty, hd, ht⟩ := h.fr.X e2
    refine nt hd ?_ e1
    rcases ht with rfl | rfl | rfl | rfl | rfl <;> decide
  · rw [List.length_append, show brc (bl ++ [(d, i)]) = brc bl ++ [.int .i64 ((d : Nat) : Int), .int .i64 ((i : Nat) : Int)] by simp [brc]]
    exact ho
end
end Go.Proofs.YtfjocafepigijaaDoor.Ot
/- branch (91) walked. Conditions: as in spread; at most 50,000 sets. -/
namespace Go.Proofs.YtfjocafepigijaaDoor.Ot
open Go.RowKit Mv Sy Po Ps Cm Pa Am Wd St Ra Set

def BrQ (base : Nat) (w : World) (S M left f mb : Nat) (tx : List Int) (A : List Arc) (N : Nat → Nat) (vS : Value) (ws0 : List Nat) (vs vk0 ve0 : Value) (sts : List (Value × Nat)) (ks0 : List (Value × List Nat)) (e : Ending) (w' : World) : Prop :=
  ∃ vb ws G nm vk ve ks es Gm bl, e = .returned vb ∧ Sd S tx A N left M (mem ws0) (mem ws) [] (mg G) none [] ∧ Ne G ∧ Bw base w w' f mb nm M 61 vS vs vk ve vk0 ve0 sts ks es Gm G N bl vb ∧ Bq G ks0 ks bl 61 ∧ nm = ks.length
theorem sz77 : (Tryd.prog.info? 77).map (·.size) = some 1 := by kernel_rfl
theorem run_idx (G : Gt) (c : Nat) (hc : c < 61) (W : World) : Sem.run Tryd.prog (Instr.index 147 (.agg (ca (gv G))) (.int .i64 (c : Int))) W = .ok (gv G c) W := by
  have h1 := ca_at (gv G) c hc
  have h2 : (c : Int) < 61 := by omega
  have h3 := Tryd.underlying147
  have h4 := sz77
  unfold Instr.index
  go_simp
theorem Bq.len {G : Gt} {ks0 ks : List (Value × List Nat)} {bl : List (Nat × Nat)} {c : Nat} (h : Bq G ks0 ks bl c) : bl.length ≤ c := by
  have := congrArg List.length h.cs
  rw [List.length_map] at this
  rw [this]
  exact Nat.le_trans (List.length_filter_le _ _) (by simp)
theorem Bw.nm_ {base : Nat} {w wr : World} {f mb nm M c : Nat} {vS vs vk ve vk0 ve0 : Value} {sts : List (Value × Nat)} {ks : List (Value × List Nat)} {es : List Bool} {Gm : ByteArray → Option Nat} {G : Gt} {N : Nat → Nat} {bl : List (Nat × Nat)} {vb : Value} (h : Bw base w wr f mb nm M c vS vs vk ve vk0 ve0 sts ks es Gm G N bl vb) : ¬ (mb = f ∨ vk.ownBlock = some mb ∨ ve.ownBlock = some mb) := fun e => by
  obtain ⟨me, mc, hmb⟩ := h.mp.ty
  have nm1 : ∀ {b : Nat} {d : Array Value} {ty : TypeId}, wr.heap[b]? = some (.cells d ty (0, 0)) → b ≠ mb := fun hb e => by subst e; rw [hmb] at hb; cases hb
  rcases e with e | e | e
  · exact nm1 h.fr.row e.symm
  · obtain ⟨d, hd⟩ := own_ty h.fr.sets e; exact nm1 hd rfl
  · obtain ⟨d, hd⟩ := own_ty h.fr.ends e; exact nm1 hd rfl
theorem tab_kp {w w' : World} {X : Nat → Prop} (h : TabAt 0 Lib.deBruijn64tab w) (h0 : 0 < w.heap.size) (hk : Kp X w w') (hX : ¬ X 0) : TabAt 0 Lib.deBruijn64tab w' := fun j hj => (hk.cell h0 hX).trans (h j hj)
theorem br_begin {base : Nat} {w W1 : World} {f mb M : Nat} {vS vs vk0 ve0 : Value} {sts : List (Value × Nat)} {ks0 : List (Value × List Nat)} {es0 : List Bool} {Gm0 : ByteArray → Option Nat} {G : Gt} {N : Nat → Nat}
    (hfr : Fr base w f vs vk0 ve0 sts ks0 es0 M) (hes : es0 = ks0.map fun p => en N p.2) (hsm : IsSm w mb ks0.length Gm0) (hmet : Met ks0 Gm0) (hmge : base ≤ mb) (hvg : ∀ b, vS.ownBlock = some b → b < base) (hgs : Gs (w.alloc (.cells #[] 178)).heap.size W1 M G) (hk : Kp (fun b => vS.ownBlock = some b) (w.alloc (.cells #[] 178)) W1) (hbs : base ≤ w.heap.size) :
    Bw base w W1 f mb ks0.length M 0 vS vs vk0 ve0 vk0 ve0 sts ks0 es0 Gm0 G N [] (.slice (some ⟨w.heap.size, 0, none⟩) 0 0) := by
  have hb := below_al w (.cells #[] 178)
  have hsz : (w.alloc (.cells #[] 178)).heap.size = w.heap.size + 1 := by simp
  have hrow : (w.alloc (.cells #[] 178)).ownsRow w.heap.size 178 2 (.slice (some ⟨w.heap.size, 0, none⟩) 0 0) 0 [] := ⟨rfl, .inr ⟨w.heap.size, 0, #[], rfl, Nat.le_refl _, heap_alloc_new _ _, Nat.le_refl _, Nat.zero_le _, rfl, rfl⟩⟩
  refine ⟨(hfr.below hb).kept hk (fun b e1 e2 => ?_), hes, hsm.kept ((hk.block mb (Nat.lt_of_lt_of_le hsm.lt hb.size) (fun e => by have := hvg _ e; omega)).trans (hb.block mb hsm.lt)), hmet, ⟨fun d p hp => ⟨⟨own_low (hgs.set d p hp).1.1 (by omega), (hgs.set d p hp).1.2⟩, (hgs.set d p hp).2⟩, hgs.apart⟩, fun p hp => .inl (fun b hb2 => ((hfr.each p hp).1.1.lt _ hb2).2), own_kp2 hrow hk (fun b hb2 e => ?_), ⟨_, _, _, rfl⟩, kp_then (kp_below hb _) hk (fun i _ e => .inl e), fun b h _ => h, fun b h _ => h, lt_at hfr.row, hsm.lt⟩
  · have h1 := (hfr.X e2).1
    have := hvg b e1
    omega
  · have h1 := (hrow.lt _ hb2).1
    have := hvg b e
    omega
set_option maxHeartbeats 8000000 in
set_option maxRecDepth 100000 in
theorem branch_any (base b2 b0 T S sb ci nb cN M left f mb : Nat) (ai : Option Addr) (tx : List Int) (A : List Arc) (V : Nat → Value) (N : Nat → Nat) (vS : Value) (ws0 : List Nat) (vs vk0 ve0 : Value) (sts : List (Value × Nat)) (ks0 : List (Value × List Nat)) (es0 : List Bool) (Gm0 : ByteArray → Option Nat) (w : World)
    (hT : Tr b2 w T S sb ci nb cN M ai tx (rws (fun a => a) A) V N) (hF : Fine S tx A M) (hTab : TabAt 0 Lib.deBruijn64tab w) (hset : IsSet w b0 vS M ws0) (hlen : ws0.length = (M + 63) / 64) (hvg : ∀ b, vS.ownBlock = some b → b2 ≤ b ∧ b < base) (hmb : ∀ v, mem ws0 v = true → v < M)
    (hfr : Fr base w f vs vk0 ve0 sts ks0 es0 M) (hes : es0 = ks0.map fun p => en N p.2) (hsm : IsSm w mb ks0.length Gm0) (hmet : Met ks0 Gm0) (hb2 : b2 ≤ base) (hbs : base ≤ w.heap.size) (hmge : base ≤ mb) (hks : ks0.length ≤ 50000) :
    Calls Tryd.prog 91 #[.pointer (some ⟨T, 0, none⟩), vS, .int .i64 (left : Int), .pointer (some ⟨f, 0, none⟩), .map (some mb)] w (BrQ base w S M left f mb tx A N vS ws0 vs vk0 ve0 sts ks0) := by
  obtain ⟨i0, hi, hz0, hz1, hz2⟩ := info_parts inf178
  have h00 : 0 < w.heap.size := Nat.lt_of_le_of_lt (Nat.zero_le _) (lt_at hT.trk)
  obtain ⟨sa, scap, hvS⟩ := oslice hset.1
  have hM : M ≤ 2480 := by rw [hF.eM]; exact Nat.le_trans (Nat.mul_le_mul hF.st (Nat.succ_le_succ hF.txl)) (by decide)
  have hM1 : 0 < M := by rw [hF.eM]; exact Nat.mul_pos hF.rgt.pos (Nat.succ_pos _)
  have HF : Hid (Fine S tx A M) := hF
  have HH : Hid (Tr b2 w T S sb ci nb cN M ai tx (rws (fun a => a) A) V N ∧ TabAt 0 Lib.deBruijn64tab w ∧ 0 < w.heap.size ∧ b2 ≤ base ∧ base ≤ w.heap.size ∧ (∀ b, vS.ownBlock = some b → b2 ≤ b ∧ b < base)) := ⟨hT, hTab, h00, hb2, hbs, hvg⟩
  have HX0 : Hid (∀ b, (vS.ownBlock = some b ∨ b = f ∨ b = mb ∨ vk0.ownBlock = some b ∨ ve0.ownBlock = some b) → b2 ≤ b) := by
    rintro b (e | rfl | rfl | e | e)
    · exact (hvg b e).1
    · exact Nat.le_trans hb2 hfr.fge
    · exact Nat.le_trans hb2 hmge
    · exact Nat.le_trans hb2 (hfr.sets.lt _ e).1
    · exact Nat.le_trans hb2 (hfr.ends.lt _ e).1
  have HW : Hid (∀ W, Below w.heap.size w W → Calls Tryd.prog 101 #[.pointer (some ⟨T, 0, none⟩), vS, .int .i64 (left : Int)] W (WrQ W S M left tx A N vS ws0)) := fun W hb => write_any b2 b0 T S sb ci nb cN M left ai tx A V N vS ws0 W (hT.below (hb.mono hT.le)) hF (Tz.tab_below hTab h00 hb) ⟨own_kp2 hset.1 (kp_below hb (fun _ => False)) (fun _ _ => id), hset.2⟩ hlen (fun b e => (hvg b e).1) hmb
  have HFR : Hid (Fr base w f vs vk0 ve0 sts ks0 es0 M ∧ es0 = (ks0.map fun p => en N p.2) ∧ IsSm w mb ks0.length Gm0 ∧ Met ks0 Gm0 ∧ base ≤ mb) := ⟨hfr, hes, hsm, hmet, hmge⟩
  have HVS : Hid (vS = .slice sa ws0.length scap) := hvS
  have HSO : Hid (IsSet w b0 vS M ws0) := hset
  rw [hvS]
  clear hT hF hTab hset hlen hvg hmb hfr hes hsm hmet hb2 hbs hmge hvS h00
  go_enter Tryd.func91, Tryd.ntmps91
  go_upto_region 2 with fail
  have K101 := HW.out (w.alloc (.cells #[] 178)) (below_al _ _)
  rw [HVS.out] at K101
  go_upto_region 3 with (go_at_call 101; (with_reducible refine K101.mono ?_); clear K101; rintro e W1 ⟨ws, G, rfl, hsd, hne, hgs, hkw⟩; rw [← HVS.out] at hkw; have HB0 : Hid (Bw base w W1 f mb ks0.length M 0 vS vs vk0 ve0 vk0 ve0 sts ks0 es0 Gm0 G N [] (.slice (some ⟨w.heap.size, 0, none⟩) 0 0)) := br_begin HFR.out.1 HFR.out.2.1 HFR.out.2.2.1 HFR.out.2.2.2.1 HFR.out.2.2.2.2 (fun b hb => (HH.out.2.2.2.2.2 b hb).2) hgs hkw HH.out.2.2.2.2.1; have HSD : Hid (Sd S tx A N left M (mem ws0) (mem ws) [] (mg G) none [] ∧ Ne G) := ⟨hsd, hne⟩; clear hsd hne hgs hkw)
  have HMG : Hid (∀ c p, G c = some p → ∀ x, mem p.2 x = true → x < M) := fun c p hp x hx => by
    obtain ⟨hc, u, hu, he, _⟩ := HSD.out.1.snd c x (by unfold mg; rw [hp]; exact hx)
    exact HF.out.step _ _ _ (HSD.out.1.bd u hu) he
  clear HW HSO
  go_loopw [11, 22] (fun a i wr => ∃ (c nm : Nat) (vk ve : Value) (ks : List (Value × List Nat)) (es : List Bool) (Gm : ByteArray → Option Nat) (bl : List (Nat × Nat)) (vb : Value), a = vb ∧ i = .int .i64 c ∧ c ≤ 61 ∧ Bw base w wr f mb nm M c vS vs vk ve vk0 ve0 sts ks es Gm G N bl vb ∧ Bq G ks0 ks bl c ∧ nm = ks.length) (fun _ i _ => 61 - (intOf i).toNat)
  case atStart => exact ⟨0, ks0.length, vk0, ve0, ks0, es0, Gm0, [], _, rfl, rfl, Nat.zero_le _, HB0.out, Bq.begin G ks0, rfl⟩
  case round =>
    clear HB0 HFR
    obtain ⟨c, nm, vk, ve, ks, es, Gm, bl, vb, rfl, rfl, hc, hbw, hbq, hnm⟩ := hrel
    subst hnm
    obtain ⟨ab, nb1, kb1, hvb⟩ := hbw.nn
    obtain ⟨ab', kb', hvb'⟩ := oslice hbw.row
    have hvb2 := hvb.symm.trans hvb'
    rw [Value.slice.injEq] at hvb2
    obtain ⟨e1, hn1, e3⟩ := hvb2
    clear e1 e3
    subst hvb
    subst hn1
    clear hvb'
    have HBW : Hid (Bw base w wr f mb ks.length M c vS vs vk ve vk0 ve0 sts ks es Gm G N bl (.slice (some ab) bl.length kb1)) := hbw
    have HBQ : Hid (Bq G ks0 ks bl c) := hbq
    have hbl := hbq.len
    have hkl : ks.length ≤ 50061 := by have := hbq.few; omega
    by_cases hlt : c < 61
    · have hidx := run_idx G c hlt
      cases hgc : G c with
      | none =>
        rw [show gv G c = .slice none 0 0 by unfold gv; rw [hgc]] at hidx
        have q1 := eql77n
        have HGC : Hid (G c = none) := hgc
        clear hgc hbw hbq
        go_wp2
        go_roundw
        case rel => exact ⟨c + 1, ks.length, vk, ve, ks, es, Gm, bl, _, rfl, by go_num, hlt, HBW.out.next, HBQ.out.skip HGC.out, rfl⟩
        case measure => simp [intOf]; omega
      | some p =>
        have hset := (hbw.gs.set c p hgc)
        obtain ⟨pg, pcap, hpe, _, _⟩ := own_some hset.1.1 (by rw [hset.2]; omega)
        have K75 := key_any w.heap.size M p.1 p.2 wr hset.1 (by rw [hset.2]; omega) (by rw [hset.2]; omega)
        rw [show gv G c = p.1 by unfold gv; rw [hgc], hpe] at hidx
        rw [hpe] at K75
        have q1 := eql77 ⟨pg, 0, none⟩ p.2.length pcap
        have HPE : Hid (p.1 = .slice (some ⟨pg, 0, none⟩) p.2.length pcap) := hpe
        have HGC : Hid (G c = some p) := hgc
        have HKS : Hid ((kst p.2).size ≤ maxLen) := by show _ ≤ _; rw [kst_size, hset.2]; unfold maxLen; omega
        have HWD : Hid (∀ a ∈ p.2, a < 18446744073709551616) := hset.1.2.1
        obtain ⟨sk, hsk⟩ : ∃ sk, kst p.2 = sk := ⟨_, rfl⟩
        have HSK : Hid (kst p.2 = sk) := hsk
        rw [show strOfNums ((kb p.2).map fun (x : Nat) => (x : Int)) = sk from hsk] at K75
        obtain ⟨lp, hlp⟩ : ∃ lp, p.2.length = lp := ⟨_, rfl⟩
        rw [hlp] at K75 hidx q1 HPE
        clear hgc hbw hbq hset hpe hsk hlp
        go_upto_region 7 with (go_at_call 75; (with_reducible refine K75.mono ?_); clear K75; rintro e w2 ⟨rfl, hb2⟩; have HB2 : Hid (Bw base w w2 f mb ks.length M c vS vs vk ve vk0 ve0 sts ks es Gm G N bl (.slice (some ab) bl.length kb1)) := HBW.out.below hb2; clear hb2)
        clear HBW hidx q1
        have hlook := HB2.out.mp.look (s := sk) (by rw [← HSK.out]; exact HKS.out)
        cases hgm : Gm sk with
        | some i =>
          rw [hgm] at hlook
          dsimp only at hlook
          obtain ⟨q, hq, hqe⟩ := HB2.out.met.only sk i hgm
          have hqs : q.2 = p.2 := kst_inj (HB2.out.fr.each q (List.mem_of_getElem? hq)).1.2.1 HWD.out (by rw [← hqe, HSK.out])
          have HQ : Hid (ks[i]? = some q ∧ q.2 = p.2) := ⟨hq, hqs⟩
          clear hgm hq hqe hqs
          go_upto_region 11 with fail
          clear hlook
          have hsz : w.heap.size ≤ w2.heap.size := HB2.out.kp.size
          go_wp2_with (refine wpList_append_own_at _ rfl _ _ 175 rfl w.heap.size 178 i0 (.agg #[.int .i64 0, .int .i64 0]) 2 16 Tryd.underlying175 hi hz0 hz1 hz2 rfl (by decide) _ _ _ rfl (HB2.out.row.alloc _) ⟨_, 0, none⟩ 1 1 [.int .i64 (c : Int), .int .i64 ((i : Nat) : Int)] rfl rfl (cell_two_at _ _ _ _ _ rfl) (two_one _ _) (by unfold maxLen; omega) (by omega) (by simp; omega) ?_; intro v1 w5 ho1 hg1 _ hl1; have HN : Hid _ := (HB2.out.below (below_al w2 (.cells #[.int .i64 (c : Int), .int .i64 ((i : Nat) : Int)] 178))).push ho1 hg1; obtain ⟨gg, cc, rfl, _, _⟩ := own_some ho1 (Nat.succ_pos _); clear ho1 hg1 hl1)
          go_roundw
          case rel => exact ⟨c + 1, ks.length, vk, ve, ks, es, Gm, bl ++ [(c, i)], _, rfl, by go_num, hlt, HN.out.next, HBQ.out.old HGC.out HQ.out.1 HQ.out.2, rfl⟩
          case measure => simp [intOf]; omega
        | none =>
          rw [hgm] at hlook
          dsimp only at hlook
          have HGM : Hid (Gm (kst p.2) = none) := by show _ = _; rw [HSK.out]; exact hgm
          have hT2 := tr_kp HH.out.1 HB2.out.kp HX0.out
          have hset2 := HB2.out.gs.set c p HGC.out
          have K63 := put_any base b2 f T S sb ci nb cN M ai tx (rws (fun a => a) A) V N vs vk ve p.1 sts ks es p.2 w2 hT2 (tab_kp HH.out.2.1 HH.out.2.2.1 HB2.out.kp (fun e => by have := HX0.out 0 e; have := HH.out.1.tlt; omega)) HB2.out.fr ⟨own_low hset2.1.1 HH.out.2.2.2.2.1, hset2.1.2⟩ hset2.2 (HMG.out c p HGC.out) (HB2.out.ap HGC.out) (by omega) (by rw [HB2.out.es, List.length_map]) (Nat.le_trans HH.out.2.2.2.2.1 HB2.out.kp.size)
          rw [HPE.out] at K63
          have HKM : Hid (ks.length < maxLen) := by show _ < _; unfold maxLen; omega
          clear hgm hT2 hset2
          go_upto_region 11 with (go_at_call 63; (with_reducible refine K63.mono ?_); clear K63; rintro e w3 ⟨rfl, vk', ve', hf3, hk3, h31, h32⟩; rw [← HPE.out] at hf3; obtain ⟨w4, hr4, hsm4, hg4⟩ := (HB2.out.mp.kept (hk3.block mb HB2.out.mp.lt HB2.out.nm_)).store (c := ks.length) HKM.out (s := kst p.2) HKS.out; have HB4 : Hid (Bw base w w4 f mb (ks.length + 1) M (c + 1) vS vs vk' ve' vk0 ve0 sts (ks ++ [p]) (es ++ [en N p.2]) (fun s' => if s' = kst p.2 then some ks.length else Gm s') G N bl (.slice (some ab) bl.length kb1)) := HB2.out.put HGC.out HGM.out hf3 hk3 h31 h32 hsm4 hg4; rw [HSK.out] at hr4; clear hf3 hk3 h31 h32 hsm4 hg4)
          clear hlook hr4
          have hsz : w.heap.size ≤ w4.heap.size := HB4.out.kp.size
          go_wp2_with (refine wpList_append_own_at _ rfl _ _ 175 rfl w.heap.size 178 i0 (.agg #[.int .i64 0, .int .i64 0]) 2 16 Tryd.underlying175 hi hz0 hz1 hz2 rfl (by decide) _ _ _ rfl (HB4.out.row.alloc _) ⟨_, 0, none⟩ 1 1 [.int .i64 (c : Int), .int .i64 ((ks.length : Nat) : Int)] rfl rfl (cell_two_at _ _ _ _ _ rfl) (two_one _ _) (by unfold maxLen; omega) (by omega) (by simp; omega) ?_; intro v1 w5 ho1 hg1 _ hl1; have HN : Hid _ := (HB4.out.below (below_al w4 (.cells #[.int .i64 (c : Int), .int .i64 ((ks.length : Nat) : Int)] 178))).push ho1 hg1; obtain ⟨gg, cc, rfl, _, _⟩ := own_some ho1 (Nat.succ_pos _); clear ho1 hg1 hl1)
          go_roundw
          case rel => exact ⟨c + 1, ks.length + 1, vk', ve', ks ++ [p], _, _, bl ++ [(c, ks.length)], _, rfl, by go_num, hlt, HN.out, HBQ.out.new HGC.out, by simp⟩
          case measure => simp [intOf]; omega
    · obtain rfl : c = 61 := by omega
      clear hbw hbq
      go_wp2
      go_ret
      rw [← HVS.out]
      exact ⟨_, ws, G, ks.length, vk, ve, ks, es, Gm, bl, rfl, HSD.out.1, HSD.out.2, HBW.out, HBQ.out, rfl⟩
end Go.Proofs.YtfjocafepigijaaDoor.Ot
