/- What is right about rows of right arcs. No program text. -/
import Derived.Test.YtfjocafepigijaaDoorIb
import Derived.Test.YtfjocafepigijaaDoorCmM
import Derived.Test.YtfjocafepigijaaDoorRyM
import Derived.Test.YtfjocafepigijaaDoorAtM
import Derived.RangeFuncLeaves
import Derived.Test.YtfjocafepigijaaDoorSkM
import Derived.Test.YtfjocafepigijaaDoorPvM
namespace Go.Proofs.YtfjocafepigijaaDoor.Cu
open Go.RowKit Mv Wk Bw Th Am Ra Mp Wd

/-- right arcs, as natural numbers -/
theorem arc_nat {S : Nat} {a : Arc} (h : arcB (S : Int) a = true) : ∃ f t i o u : Nat, a = ((f : Int), (t : Int), (i : Int), (o : Int), (u : Int)) ∧ f < S ∧ t < S ∧ i ≤ 60 ∧ o ≤ 60 ∧ u ≤ 1000000 := by
 unfold arcB at h
 have h := of_decide_eq_true h
 obtain ⟨a1, a2, a3, a4, a5⟩ := a
 dsimp only at h
 refine ⟨a1.toNat, a2.toNat, a3.toNat, a4.toNat, a5.toNat, ?_, by omega, by omega, by omega, by omega, by omega⟩
 simp only [Prod.mk.injEq]
 omega
def Rgt (S : Nat) (A : List Arc) : Prop := ∀ a ∈ A, arcB (S : Int) a = true
theorem Rgt.okl {S : Nat} {A : List Arc} (h : Rgt S A) : Okl S A := fun a ha => by
 obtain ⟨f, t, i, o, u, rfl, h1, h2, _⟩ := arc_nat (h a ha)
 exact ⟨f, t, rfl, rfl, h1, h2⟩
theorem Rgt.from {S : Nat} {A : List Arc} (h : Rgt S A) : ∀ a ∈ A, ∃ f : Nat, a.1 = (f : Int) ∧ f < S := fun a ha => by
 obtain ⟨f, t, i, o, u, rfl, h1, h2, _⟩ := arc_nat (h a ha)
 exact ⟨f, rfl, h1⟩
theorem Rgt.to {S : Nat} {A : List Arc} (h : Rgt S A) : ∀ a ∈ A, ∃ f : Nat, a.2.1 = (f : Int) ∧ f < S := fun a ha => by
 obtain ⟨f, t, i, o, u, rfl, h1, h2, _⟩ := arc_nat (h a ha)
 exact ⟨t, rfl, h2⟩
theorem mem_row {g : Arc → Arc} {A : List Arc} {q : Nat} {x : Arc} (h : x ∈ rws g A q) : ∃ a ∈ A, x = g a := by
 unfold rws at h
 obtain ⟨a, ha, rfl⟩ := List.mem_map.1 (List.mem_filter.1 h).1
 exact ⟨a, ha, rfl⟩
theorem Rgt.fok {S : Nat} {A : List Arc} (h : Rgt S A) (hl : A.length ≤ 120) : FOk S (rws (fun a => a) A) := fun p _ => ⟨Nat.le_trans (rws_len _ _ _) hl, fun x hx => by
 obtain ⟨a, ha, rfl⟩ := mem_row hx
 obtain ⟨f, t, i, o, u, rfl, h1, h2, h3, h4, h5⟩ := arc_nat (h _ ha)
 exact ⟨t, o, u, rfl, h2, rfl, h4, rfl, h5⟩⟩
theorem Rgt.rok {S : Nat} {A : List Arc} (h : Rgt S A) (hl : A.length ≤ 120) : ROk S (rws (fun a => a) A) := fun p _ => ⟨Nat.le_trans (rws_len _ _ _) hl, fun x hx => by
 obtain ⟨a, ha, rfl⟩ := mem_row hx
 obtain ⟨f, t, i, o, u, rfl, h1, h2, h3, h4, h5⟩ := arc_nat (h _ ha)
 exact ⟨t, u, rfl, h2, rfl, h5⟩⟩
theorem Rgt.fokt {S : Nat} {A : List Arc} (h : Rgt S A) (hl : A.length ≤ 120) : FOk S (rws tn A) := fun p _ => ⟨Nat.le_trans (rws_len _ _ _) hl, fun x hx => by
 obtain ⟨a, ha, rfl⟩ := mem_row hx
 obtain ⟨f, t, i, o, u, rfl, h1, h2, h3, h4, h5⟩ := arc_nat (h _ ha)
 exact ⟨f, o, u, rfl, h1, rfl, h4, rfl, h5⟩⟩
theorem Rgt.rokt {S : Nat} {A : List Arc} (h : Rgt S A) (hl : A.length ≤ 120) : ROk S (rws tn A) := fun p _ => ⟨Nat.le_trans (rws_len _ _ _) hl, fun x hx => by
 obtain ⟨a, ha, rfl⟩ := mem_row hx
 obtain ⟨f, t, i, o, u, rfl, h1, h2, h3, h4, h5⟩ := arc_nat (h _ ha)
 exact ⟨f, u, rfl, h1, rfl, h5⟩⟩
theorem Rgt.ins {S : Nat} {A : List Arc} (h : Rgt S A) : ∀ q, q < S → ∀ a ∈ rws (fun a => a) A q, ∃ s : Nat, a.2.2.1 = (s : Int) ∧ s ≤ 60 := fun q _ x hx => by
 obtain ⟨a, ha, rfl⟩ := mem_row hx
 obtain ⟨f, t, i, o, u, rfl, h1, h2, h3, h4, h5⟩ := arc_nat (h _ ha)
 exact ⟨i, rfl, h3⟩
theorem Rgt.inst {S : Nat} {A : List Arc} (h : Rgt S A) : ∀ q, q < S → ∀ a ∈ rws tn A q, ∃ s : Nat, a.2.2.1 = (s : Int) ∧ s ≤ 60 := fun q _ x hx => by
 obtain ⟨a, ha, rfl⟩ := mem_row hx
 obtain ⟨f, t, i, o, u, rfl, h1, h2, h3, h4, h5⟩ := arc_nat (h _ ha)
 exact ⟨i, rfl, h3⟩
theorem FOk.fa {S : Nat} {F : Nat → List Arc} (h : FOk S F) : ∀ p, p < S → (F p).length ≤ 120 ∧ ∀ x ∈ F p, ∃ t s : Nat, x.2.1 = (t : Int) ∧ t < S ∧ x.2.2.2.1 = (s : Int) ∧ s ≤ 60 := fun p hp => ⟨(h p hp).1, fun x hx => by
 obtain ⟨t, s, u, h1, h2, h3, h4, _⟩ := (h p hp).2 x hx
 exact ⟨t, s, h1, h2, h3, h4⟩⟩
theorem ROk.ra {S : Nat} {R : Nat → List Arc} (h : ROk S R) : ∀ q, q < S → (R q).length ≤ 120 ∧ ∀ y ∈ R q, ∃ t : Nat, y.2.1 = (t : Int) ∧ t < S := fun q hq => ⟨(h q hq).1, fun y hy => by
 obtain ⟨t, u, h1, h2, _⟩ := (h q hq).2 y hy
 exact ⟨t, h1, h2⟩⟩
theorem fin_nat {S : Nat} {f : Int × Int} (h : finB (S : Int) f = true) : ∃ s x : Nat, f = ((s : Int), (x : Int)) ∧ s < S ∧ x ≤ 1000000 := by
 unfold finB at h
 have h := of_decide_eq_true h
 obtain ⟨a1, a2⟩ := f
 dsimp only at h
 refine ⟨a1.toNat, a2.toNat, ?_, by omega, by omega⟩
 simp only [Prod.mk.injEq]
 omega
/-- the pairs where both end -/
def en (SB : Nat) (f g : Int × Int) : Nat := f.1.toNat * SB + g.1.toNat
def eL (SB : Nat) (fa fb : List (Int × Int)) (i : Nat) : List Nat := (fa.take i).flatMap fun f => fb.map (en SB f)
theorem eL_up {SB : Nat} {fa fb : List (Int × Int)} {i : Nat} (h : i < fa.length) : eL SB fa fb (i + 1) = eL SB fa fb i ++ fb.map (en SB fa[i]) := by unfold eL; rw [List.take_succ_eq_append_getElem h, List.flatMap_append]; simp
theorem eL_len (SB : Nat) (fa fb : List (Int × Int)) (i : Nat) : (eL SB fa fb i).length ≤ fa.length * fb.length := by
 have : ∀ l : List (Int × Int), (l.flatMap fun f => fb.map (en SB f)).length = l.length * fb.length := fun l => by induction l with
  | nil => simp
  | cons f l ih => rw [List.flatMap_cons, List.length_append, ih, List.length_map, List.length_cons, Nat.succ_mul]; omega
 unfold eL
 rw [this, List.length_take]
 exact Nat.mul_le_mul_right _ (Nat.min_le_right _ _)
end Go.Proofs.YtfjocafepigijaaDoor.Cu
/- The map from pairs to their numbers. Condition: the pairs' numbers are small. -/
namespace Go.Proofs.YtfjocafepigijaaDoor.Na
open Go.RowKit Mv Po Se Wd Mp Am
open Go.WideMaps Go.WideElems
open Go.Maps (Keyed)

theorem wf_small (k : Nat) (h : k ≤ 1000000) : (Lit.int .i64 (k : Int)).wf = true := by
 have h1 : IntKind.i64.min = -9223372036854775808 := by decide
 have h2 : IntKind.i64.max = 9223372036854775807 := by decide
 simp [Lit.wf, h1, h2]
 omega
theorem keyed3 : Keyed Tryd.prog 3 := Maps.int_keyed Tryd.underlying3
theorem keyOf3 (k : Nat) (h : k ≤ 1000000) : keyOf Tryd.prog 3 (.int .i64 (k : Int)) = some (.int .i64 (k : Int)) := Maps.keyOf_int_mk Tryd.underlying3 (wf_small k h)
/-- block b is a map that has G at each number -/
def IsNm (w : World) (b n : Nat) (G : Nat → Option Nat) : Prop :=
 ∃ D : DataW Value, w.ownsMap Tryd.prog 3 El b n D ∧ ∀ a : Nat, a ≤ 1000000 → ∀ z, D.atKey (.int .i64 (a : Int)) z = (match G a with | some c => .held (.int .i64 (c : Int)) | none => z)
theorem IsNm.lt {w : World} {b n : Nat} {G : Nat → Option Nat} (h : IsNm w b n G) : b < w.heap.size := by
 obtain ⟨D, h, _⟩ := h
 exact h.lt
theorem IsNm.kept {w w' : World} {b n : Nat} {G : Nat → Option Nat} (h : IsNm w b n G) (hb : w'.heap[b]? = w.heap[b]?) : IsNm w' b n G := by
 obtain ⟨D, ⟨es, clock, h1, h2⟩, h3⟩ := h
 exact ⟨D, ⟨es, clock, hb.trans h1, h2⟩, h3⟩
theorem IsNm.ty {w : World} {b n : Nat} {G : Nat → Option Nat} (h : IsNm w b n G) : ∃ es clock, w.heap[b]? = some (.map es clock) := by
 obtain ⟨D, ⟨es, clock, h1, _⟩, _⟩ := h
 exact ⟨es, clock, h1⟩
theorem made (w : World) : IsNm (w.alloc (.map #[] 0)) w.heap.size 0 (fun _ => none) :=
 ⟨_, World.ownsMap_made w Tryd.prog 3 El, fun _ _ _ => rfl⟩
theorem IsNm.look {w : World} {b n c : Nat} {G : Nat → Option Nat} (h : IsNm w b n G) {a : Nat} (ha : a ≤ 1000000) (hc : G a = some c) : (Instr.lookup 138 (.map (some b)) (.int .i64 (a : Int)) false).run Tryd.prog w = .ok (.int .i64 (c : Int)) w := by
 obtain ⟨D, ⟨es, clock, hb, F, hs, hD⟩, hG⟩ := h
 have hg := hG a ha
 rw [hD] at hg
 rcases Maps.fit_look false keyed3 Tryd.underlying138 (zero3 w) hb F (keyOf3 a ha) with ⟨hr, _, hno⟩ | ⟨e0, y, _, _, hr, hy, hat, _⟩
 ·have h1 := hg .nil
  rw [hno, hc] at h1
  cases h1
 ·rw [hr]
  have h1 := hg .nil
  rw [hat, hc] at h1
  have h2 : y.1 = .held e0.val := by
   unfold El at hy
   simp only [Option.some.injEq] at hy
   rw [← hy]
  rw [h2] at h1
  simp only [DataW.held.injEq] at h1
  rw [h1]
  rfl
theorem IsNm.store {w : World} {b n c : Nat} {G : Nat → Option Nat} (h : IsNm w b n G) (hn : n < maxLen) {a : Nat} (ha : a ≤ 1000000) :
  ∃ w', (Instr.mapUpdate 138 (.map (some b)) (.int .i64 (a : Int)) (.int .i64 (c : Int))).run Tryd.prog w = .ok () w' ∧ IsNm w' b (n + 1) (fun a' => if a' = a then some c else G a') ∧ w.grownBy w' (some b) := by
 obtain ⟨D, hown, hG⟩ := h
 obtain ⟨w', hr, ho, hg⟩ := hown.update keyed3 Tryd.underlying138 hn (keyOf3 a ha) (val := .int .i64 (c : Int)) (d := .held (.int .i64 (c : Int))) (ps := []) rfl
 refine ⟨w', hr, ⟨_, ho, fun a' ha' z => ?_⟩, hg⟩
 obtain ⟨es, clock, _, _, _, hD⟩ := hown
 by_cases e : a' = a
 ·subst e
  simp only [if_true]
  exact Maps.atKey_put_same (by rw [hD]; exact ⟨_, rfl⟩) (keyed3.key (keyOf3 a' ha)) _ _
 ·simp only [if_neg e]
  rw [Maps.atKey_put_other (fun h => e (by simp only [Lit.int.injEq, true_and] at h; omega))]
  exact hG a' ha' z
end Go.Proofs.YtfjocafepigijaaDoor.Na
/- jointArcs in plain words: the arcs between useful pairs, renumbered; a list of arcs that may be new; marks of loops that are over. No conditions. -/
namespace Go.Proofs.YtfjocafepigijaaDoor.Cu
open Go.RowKit Mv Set Qp Sk Po Ps Wd Se Mp St Cm Nm Nx Ra Am Pa Tc

/-- an arc between useful pairs, by their numbers -/
def jm (U : Nat → Bool) (L : List Nat) (i : Nat) (e : Arc) : List Arc := bif U e.2.1.toNat then [((i : Int), ((L.idxOf e.2.1.toNat : Nat) : Int), e.2.2)] else []
def jl (U : Nat → Bool) (A : Nat → List Arc) (L : List Nat) (n : Nat) : List Arc := (List.range n).flatMap fun i => (A (L.getD i 0)).flatMap (jm U L i)
theorem jl_up (U : Nat → Bool) (A : Nat → List Arc) (L : List Nat) (n : Nat) : jl U A L (n + 1) = jl U A L n ++ (A (L.getD n 0)).flatMap (jm U L n) := by unfold jl; rw [List.range_succ, List.flatMap_append]; simp
theorem jm_len (U : Nat → Bool) (L : List Nat) (i : Nat) (l : List Arc) : (l.flatMap (jm U L i)).length ≤ l.length := by
 induction l with
 | nil => exact Nat.le_refl _
 | cons e l ih =>
  rw [List.flatMap_cons, List.length_append, List.length_cons]
  have : (jm U L i e).length ≤ 1 := by unfold jm; cases U e.2.1.toNat <;> simp
  omega
theorem jl_mono (U : Nat → Bool) (A : Nat → List Arc) (L : List Nat) {n k : Nat} (h : n ≤ k) : (jl U A L n).length ≤ (jl U A L k).length := by
 induction h with
 | refl => exact Nat.le_refl _
 | step _ ih => rw [jl_up, List.length_append]; omega
theorem jl_part {U : Nat → Bool} {A : Nat → List Arc} {L : List Nat} {i M : Nat} (hi : i < L.length) (hM : (jl U A L L.length).length ≤ M) {pre : List Arc} (hp : pre <+: A (L.getD i 0)) : (jl U A L i ++ pre.flatMap (jm U L i)).length ≤ M := by
 obtain ⟨t, ht⟩ := hp
 have h1 := jl_mono U A L (show i + 1 ≤ L.length by omega)
 rw [jl_up, ← ht, List.flatMap_append, List.length_append, List.length_append] at h1
 rw [List.length_append]
 omega
theorem flat_bound (U : Nat → Bool) (A : Nat → List Arc) (L : List Nat) : (jl U A L L.length).length ≤ (L.flatMap A).length := by
 have key : ∀ n, n ≤ L.length → (jl U A L n).length ≤ ((L.take n).flatMap A).length := by
  intro n
  induction n with
  | zero => intro _; exact Nat.zero_le _
  | succ n ih =>
   intro hn
   have h1 := ih (by omega)
   rw [jl_up, List.length_append, List.take_succ_eq_append_getElem (show n < L.length by omega), List.flatMap_append, List.length_append]
   have h2 := jm_len U L n (A (L.getD n 0))
   rw [List.getD_eq_getElem?_getD, List.getElem?_eq_getElem (show n < L.length by omega)] at h2
   simp only [Option.getD_some, List.flatMap_cons, List.flatMap_nil, List.append_nil] at h2 ⊢
   rw [List.getD_eq_getElem?_getD, List.getElem?_eq_getElem (show n < L.length by omega)]
   simp only [Option.getD_some]
   omega
 have := key L.length (Nat.le_refl _)
 rw [List.take_length] at this
 exact this
/-- which numbers have been written down -/
def nmG (L : List Nat) (i : Nat) (k : Nat) : Option Nat := if k ∈ L.take i then some (L.idxOf k) else none
theorem nmG_up {L : List Nat} (hn : L.Nodup) {i : Nat} (hi : i < L.length) : (fun k => if k = L[i] then some i else nmG L i k) = nmG L (i + 1) := by
 funext k
 unfold nmG
 rw [List.take_succ_eq_append_getElem hi]
 by_cases h : k = L[i]
 ·subst h
  rw [if_pos rfl, if_pos (List.mem_append.2 (.inr (List.mem_singleton.2 rfl))), hn.idxOf_getElem i hi]
 ·rw [if_neg h]
  by_cases h2 : k ∈ L.take i
  ·rw [if_pos h2, if_pos (List.mem_append.2 (.inl h2))]
  ·rw [if_neg h2, if_neg (fun h3 => (List.mem_append.1 h3).elim h2 (fun h4 => h (List.mem_singleton.1 h4)))]
theorem nmG_all {L : List Nat} {k : Nat} (h : k ∈ L) : nmG L L.length k = some (L.idxOf k) := by unfold nmG; rw [List.take_length, if_pos h]
theorem nmG_zero (L : List Nat) : nmG L 0 = fun _ => none := by funext k; unfold nmG; simp

/-- a list of arcs that has none yet, or some; O: what is its own -/
def Lst (base : Nat) (w : World) (Lb : Nat) (A : List Arc) (O : Nat → Prop) : Prop := (A = [] ∧ w.heap[Lb]? = some (.cells #[.slice none 0 0, .map none] 132 (0, 0)) ∧ O = fun b => b = Lb) ∨ ∃ mb va, Al base w Lb mb A va ∧ Lb < mb ∧ O = Am.Own Lb mb va
theorem Lst.lb {base : Nat} {w : World} {Lb : Nat} {A : List Arc} {O : Nat → Prop} (h : Lst base w Lb A O) : O Lb ∧ ∃ c, w.heap[Lb]? = some (.cells c 132 (0, 0)) := by
 rcases h with ⟨_, h, rfl⟩ | ⟨mb, va, h, _, rfl⟩
 ·exact ⟨rfl, _, h⟩
 ·exact ⟨.inl rfl, _, h.row⟩
theorem Lst.lt {base : Nat} {w : World} {Lb : Nat} {A : List Arc} {O : Nat → Prop} (h : Lst base w Lb A O) (hb : base ≤ Lb) {k : Nat} (hk : O k) : base ≤ k ∧ k < w.heap.size := by
 rcases h with ⟨_, h, rfl⟩ | ⟨mb, va, h, hm, rfl⟩
 ·have : k = Lb := hk
  subst this
  exact ⟨hb, lt_at h⟩
 ·rcases hk with rfl | rfl | hk
  ·exact ⟨hb, lt_at h.row⟩
  ·exact ⟨by omega, h.mp.lt⟩
  ·exact h.arcs.lt k hk
theorem Lst.kept {base : Nat} {w w' : World} {Lb : Nat} {A : List Arc} {O X : Nat → Prop} (h : Lst base w Lb A O) (hk : Kp X w w') (hx : ∀ k, O k → ¬ X k) : Lst base w' Lb A O := by
 rcases h with ⟨e, h, rfl⟩ | ⟨mb, va, h, hm, rfl⟩
 ·exact .inl ⟨e, (hk.block _ (lt_at h) (hx _ rfl)).trans h, rfl⟩
 ·exact .inr ⟨mb, va, h.kept hk (hx _ (.inl rfl)) (hx _ (.inr (.inl rfl))) (fun k hk => hx k (.inr (.inr hk))), hm, rfl⟩
/-- the blocks of a list are of three kinds -/
theorem Lst.kind {base : Nat} {w : World} {Lb : Nat} {A : List Arc} {O : Nat → Prop} (h : Lst base w Lb A O) {k : Nat} {c : Array Value} {t : TypeId} (hc : w.heap[k]? = some (.cells c t (0, 0))) (h1 : t ≠ 132) (h2 : t ≠ 64) : ¬ O k := by
 rcases h with ⟨_, h, rfl⟩ | ⟨mb, va, h, _, rfl⟩
 ·intro e
  have : k = Lb := e
  subst this
  exact ty_ne hc h h1
 ·rintro (rfl | rfl | e)
  ·exact ty_ne hc h.row h1
  ·obtain ⟨es, cl, hm⟩ := h.mp.ty
   rw [hm] at hc
   cases hc
  ·obtain ⟨d, hd⟩ := own_ty h.arcs e
   exact ty_ne hc hd h2
theorem Lst.mark {base : Nat} {w : World} {Lb : Nat} {A : List Arc} {O : Nat → Prop} (h : Lst base w Lb A O) {k : Nat} {d : Option (List Deferred)} (hc : w.heap[k]? = some (.deferred d)) : ¬ O k := by
 rcases h with ⟨_, h, rfl⟩ | ⟨mb, va, h, _, rfl⟩
 ·intro e
  have : k = Lb := e
  subst this
  rw [h] at hc
  cases hc
 ·rintro (rfl | rfl | e)
  ·rw [h.row] at hc; cases hc
  ·obtain ⟨es, cl, hm⟩ := h.mp.ty
   rw [hm] at hc
   cases hc
  ·obtain ⟨d, hd⟩ := own_ty h.arcs e
   rw [hd] at hc
   cases hc
theorem Lst.maps {base : Nat} {w : World} {Lb : Nat} {A : List Arc} {O : Nat → Prop} (h : Lst base w Lb A O) {k : Nat} {es : Array MapEntry} {cl : Nat} (hc : w.heap[k]? = some (.map es cl)) (hk : k < Lb) : ¬ O k := by
 rcases h with ⟨_, h, rfl⟩ | ⟨mb, va, h, hm, rfl⟩
 ·intro e
  have : k = Lb := e
  omega
 ·rintro (rfl | rfl | e)
  ·omega
  ·omega
  ·obtain ⟨d, hd⟩ := own_ty h.arcs e
   rw [hd] at hc
   cases hc
theorem Lst.put {base : Nat} {w : World} {Lb : Nat} {A : List Arc} {O : Nat → Prop} (h : Lst base w Lb A O) (f t i o x : Int) (hok : Ok4 (f, t, i, o)) (hA : A.length ≤ 20001) (hbase : base ≤ w.heap.size) :
  Calls Tryd.prog 65 #[.pointer (some ⟨Lb, 0, none⟩), .agg #[.int .i64 f, .int .i64 t, .int .i64 i, .int .i64 o, .int .i64 x]] w fun e w' => e = .returned (.tuple #[]) ∧ ∃ O', Lst base w' Lb (putP A (f, t, i, o, x)) O' ∧ Kp O w w' ∧ ∀ k, O' k → O k ∨ w.heap.size ≤ k := by
 rcases h with ⟨rfl, h, rfl⟩ | ⟨mb, va, h, hm, rfl⟩
 ·refine (put_none base Lb f t i o x w h hok hbase).mono ?_
  rintro e w' ⟨he, mb, va', g1, g2, g3, g4⟩
  refine ⟨he, Am.Own Lb mb va', .inr ⟨mb, va', g1, Nat.lt_of_lt_of_le (lt_at h) g3, rfl⟩, g2, fun k hk => ?_⟩
  rcases hk with rfl | rfl | hk
  ·exact .inl rfl
  ·exact .inr g3
  ·exact .inr (g4 k hk)
 ·refine (put_some base Lb mb A va f t i o x w h hok hA hbase).mono ?_
  rintro e w' ⟨he, va', g1, g2, g3⟩
  refine ⟨he, Am.Own Lb mb va', .inr ⟨mb, va', g1, hm, rfl⟩, g2, fun k hk => ?_⟩
  rcases hk with rfl | rfl | hk
  ·exact .inl (.inl rfl)
  ·exact .inl (.inr (.inl rfl))
  ·rcases g3 with g3 | ⟨g, g3, g4⟩
   ·exact .inl (.inr (.inr (by rw [← g3]; exact hk)))
   ·rw [g3] at hk
    cases hk
    exact .inr g4
/-- what is in the list's first field -/
theorem Lst.head {base : Nat} {w : World} {Lb : Nat} {A : List Arc} {O : Nat → Prop} (h : Lst base w Lb A O) : ∃ a c vm, w.heap[Lb]? = some (.cells #[.slice a A.length c, vm] 132 (0, 0)) ∧ w.ownsRow base 64 5 (.slice a A.length c) A.length (acs A) := by
 rcases h with ⟨rfl, h, _⟩ | ⟨mb, va, h, _, _⟩
 ·exact ⟨none, 0, _, h, ⟨rfl, .inl ⟨rfl, rfl⟩⟩⟩
 ·obtain ⟨a, c, rfl⟩ := Am.own_slice h.arcs
  exact ⟨a, c, _, h.row, h.arcs⟩
/-- marks of loops that are over -/
def mks (rs : List Nat) : List Deferred := rs.map fun r => { target := .collected r, args := #[] }
theorem leave_marks {F : Fence} {n : Nat} {P : Program} {fn : Func} {tmps : Array Value} {R : Ending → World → Prop} : ∀ (rs : List Nat) (w : World), rs.Nodup → (∀ r ∈ rs, w.heap[r]? = some (.deferred (some []))) → (∀ w', Kp (fun b => b ∈ rs) w w' → LeavesIn F n P fn tmps R [] .returning w') → LeavesInM F n P fn tmps R (mks rs) .returning w
 | [], w, _, _, h => h w (Kp.refl _ w)
 | r :: rs, w, hn, hd, h => by
  obtain ⟨hr, hn⟩ := List.nodup_cons.1 hn
  have hP := Rf.Past.put r w (.deferred none)
  refine ⟨by simp, .inl ⟨r, _, rfl, run_takeDeferred (hd r (by simp)), leave_marks rs _ hn (fun r' hr' => ?_) (fun w' hk => h w' ?_)⟩⟩
  ·have hne : r' ≠ r := fun e => hr (by rw [← e]; exact hr')
   rw [World.putObj_heap_other hne]
   exact hd r' (by simp [hr'])
  ·have h1 : Kp (fun b => b = r) w (w.putObj r (.deferred none)) := ⟨hP.os, hP.tape, hP.output, hP.size, fun k hk hne => hP.block k hk hne⟩
   exact (h1.mono (fun k _ e => by simp [show k = r from e])).trans (hk.mono (fun k _ e => by simp [show k ∈ rs from e]))
end Go.Proofs.YtfjocafepigijaaDoor.Cu
/- jointFinals: where both machines end. Conditions: few states; the ends are right; the pairs are pairs. -/
namespace Go.Proofs.YtfjocafepigijaaDoor.Jf
open Go.RowKit Mv Wk Po Wd Se St Wg Nw Am
open CR (nc)

theorem inf66 : (Tryd.prog.info? 66).map (fun i => (i.zero, i.size, i.bytes)) = some (some (.agg #[.int .i64 0, .int .i64 0]), 2, 16) := by kernel_rfl
theorem cell_two_at (w : World) (g : Nat) (a b : Value) (t : TypeId) (hg : g = w.heap.size) : ∀ j u, [a, b][j]? = some u → (w.alloc (.cells #[a, b] t)).cell? ((⟨g, 0, none⟩ : Addr).add j) = some u := by
 intro j u hj
 subst hg
 match j, hj with
 | 0, hj => simp at hj; subst hj; simp [Addr.add]
 | 1, hj => simp at hj; subst hj; simp [Addr.add]
theorem two_one (a b : Int) : ∀ x ∈ [Value.int .i64 a, .int .i64 b], x.oneCell' = true := by
 intro x hx
 simp at hx
 rcases hx with rfl | rfl <;> rfl
theorem end_small (S : Nat) (F : List (Int × Int)) (hF : ∀ x (h : x < F.length), finB (S : Int) F[x] = true) (s : Nat) (hs : cv (Ec.endP S F) s ≠ far) : cv (Ec.endP S F) s ≤ 1000000 := by
 have key : ∀ (F : List (Int × Int)) (R : List Nat), (∀ f ∈ F, f.2 ≤ 1000000) → (∀ z ∈ R, z ≠ far → z ≤ 1000000) → ∀ z ∈ F.foldl (fun R f => R.set f.1.toNat f.2.toNat) R, z ≠ far → z ≤ 1000000 := by
  intro F
  induction F with
  | nil => intro R _ h; exact h
  | cons f F ih =>
   intro R hf hR
   rw [List.foldl_cons]
   refine ih _ (fun g hg => hf g (List.mem_cons_of_mem _ hg)) (fun z hz hne => ?_)
   rcases List.mem_or_eq_of_mem_set hz with h | h
   ·exact hR z h hne
   ·have := hf f List.mem_cons_self
    omega
 have h1 := key F (List.replicate S far) (fun f hf => by
  obtain ⟨i, hi, rfl⟩ := List.getElem_of_mem hf
  have := hF i hi
  unfold finB at this
  simp only [decide_eq_true_eq] at this
  exact this.2.2.2) (fun z hz hne => absurd (List.eq_of_mem_replicate hz) hne)
 unfold cv at hs ⊢
 rw [List.getD_eq_getElem?_getD] at hs ⊢
 cases e : (Ec.endP S F)[s]? with
 | none => rw [e] at hs; exact absurd rfl hs
 | some z =>
  rw [e] at hs
  exact h1 z (List.mem_of_getElem? e) hs
def jf1 (Ea Eb : List Nat) (SB : Nat) (L : List Nat) (i : Nat) : List (Int × Int) := if cv Ea (L.getD i 0 / SB) ≠ far ∧ cv Eb (L.getD i 0 % SB) ≠ far then [((i : Int), ((cv Ea (L.getD i 0 / SB) + cv Eb (L.getD i 0 % SB) : Nat) : Int))] else []
def jfP (Ea Eb : List Nat) (SB : Nat) (L : List Nat) (n : Nat) : List (Int × Int) := (List.range n).flatMap (jf1 Ea Eb SB L)
theorem jf1_at (Ea Eb : List Nat) (SB : Nat) (L : List Nat) (X q : Nat) (hX : X < L.length) (hq : L[X] = q) : jf1 Ea Eb SB L X = if cv Ea (q / SB) ≠ far ∧ cv Eb (q % SB) ≠ far then [((X : Int), ((cv Ea (q / SB) + cv Eb (q % SB) : Nat) : Int))] else [] := by
 have : L.getD X 0 = q := by rw [List.getD_eq_getElem?_getD, List.getElem?_eq_getElem hX, Option.getD_some, hq]
 unfold jf1
 rw [this]
theorem jfP_up (Ea Eb : List Nat) (SB : Nat) (L : List Nat) (n : Nat) : jfP Ea Eb SB L (n + 1) = jfP Ea Eb SB L n ++ jf1 Ea Eb SB L n := by unfold jfP; rw [List.range_succ, List.flatMap_append]; simp
theorem jf_len (Ea Eb : List Nat) (SB : Nat) (L : List Nat) : ∀ n, (jfP Ea Eb SB L n).length ≤ n
 | 0 => Nat.le_refl _
 | n + 1 => by
  have h1 := jf_len Ea Eb SB L n
  rw [jfP_up, List.length_append]
  have h2 : (jf1 Ea Eb SB L n).length ≤ 1 := by unfold jf1; split <;> simp
  omega
set_option maxHeartbeats 4000000 in
set_option maxRecDepth 100000 in
theorem finals_any (SA SB : Nat) (va vf vb vg : Value) (fa fb : List (Int × Int)) (L : List Nat) (ap : Option Addr) (cp : Nat) (w : World) (HRA : Hid (Mv.Row w vf 2 fa.length (fcs fa))) (HRB : Hid (Mv.Row w vg 2 fb.length (fcs fb))) (HFA : Hid (∀ x (h : x < fa.length), finB (SA : Int) fa[x] = true)) (HFB : Hid (∀ x (h : x < fb.length), finB (SB : Int) fb[x] = true)) (h0A : 0 < SA) (hSA : SA ≤ 40) (h0B : 0 < SB) (hSB : SB ≤ 40)
  (HPR : Hid (L.length = 0 ∨ ∃ pb po, ap = some ⟨pb, po, none⟩ ∧ pb < w.heap.size ∧ ∀ i (h : i < L.length), w.cell? ⟨pb, po + i, none⟩ = some (.int .i64 (L[i] : Nat)))) (HLQ : Hid (∀ i (h : i < L.length), L[i] < SA * SB)) (hL : L.length ≤ 3000) :
  Calls Tryd.prog 45 #[.agg #[.int .i64 SA, va, vf], .agg #[.int .i64 SB, vb, vg], .slice ap L.length cp] w fun e w' => ∃ v, e = .returned v ∧ ∃ W2, Below w.heap.size w W2 ∧ w'.ownsRow W2.heap.size 66 2 v (jfP (Ec.endP SA fa) (Ec.endP SB fb) SB L L.length).length (fcs (jfP (Ec.endP SA fa) (Ec.endP SB fb) SB L L.length)) ∧ Below W2.heap.size W2 w' := by
 obtain ⟨i0, hi, hz0, hz1, hz2⟩ := info_parts inf66
 have HEA : Hid (∀ s, cv (Ec.endP SA fa) s ≠ far → cv (Ec.endP SA fa) s ≤ 1000000) := fun s hs => end_small SA fa HFA.out s hs
 have HEB : Hid (∀ s, cv (Ec.endP SB fb) s ≠ far → cv (Ec.endP SB fb) s ≤ 1000000) := fun s hs => end_small SB fb HFB.out s hs
 have hb1 : Below w.heap.size w (w.alloc (.cells #[.int .i64 SA, va, vf] 25)) := (Below.refl _ w).alloc (Nat.le_refl _) _
 have hs1 : (w.alloc (.cells #[.int .i64 SA, va, vf] 25)).heap.size = w.heap.size + 1 := by simp
 have hBV := hb1.alloc (by rw [hs1]; omega) (.cells #[.int .i64 SB, vb, vg] 25)
 have xA := (heap_alloc_old (w.alloc (.cells #[.int .i64 SA, va, vf] 25)) (.cells #[.int .i64 SB, vb, vg] 25) (by rw [hs1]; omega)).trans (heap_alloc_new w (.cells #[.int .i64 SA, va, vf] 25))
 have xB := heap_alloc_new (w.alloc (.cells #[.int .i64 SA, va, vf] 25)) (.cells #[.int .i64 SB, vb, vg] 25)
 rw [hs1] at xB
 go_enter Tryd.func45, Tryd.ntmps45
 go_upto_region 2 with fail
 clear hs1 hb1
 generalize hV : (w.alloc (.cells #[.int .i64 SA, va, vf] 25)).alloc (.cells #[.int .i64 SB, vb, vg] 25) = VV at *
 clear hV
 have HCE : Hid _ := fun (W : World) (hSw : W.heap[w.heap.size]? = some (.cells #[.int .i64 SA, va, vf] 25 (0, 0)) ∧ W.heap[w.heap.size + 1]? = some (.cells #[.int .i64 SB, vb, vg] 25 (0, 0))) => (And.intro (cell_of_row _ _ 0 _ _ _ hSw.1) (And.intro (cell_of_row _ _ 1 _ _ _ hSw.1) (And.intro (cell_of_row _ _ 2 _ _ _ hSw.1) (And.intro (cell_of_row _ _ 0 _ _ _ hSw.2) (And.intro (cell_of_row _ _ 1 _ _ _ hSw.2) (cell_of_row _ _ 2 _ _ _ hSw.2))))))
 refine wp_region_held_drew (S := fun W => W.heap[w.heap.size]? = some (.cells #[.int .i64 SA, va, vf] 25 (0, 0)) ∧ W.heap[w.heap.size + 1]? = some (.cells #[.int .i64 SB, vb, vg] 25 (0, 0))) (by kernel_rfl) (by exact ⟨xA, xB⟩) (fun hHeld => ?_)
 have hS0 := hHeld
 have hB0 : Below w.heap.size w VV.drew := hBV.drew
 clear hBV xA xB
 generalize hV : VV.drew = V0 at *
 clear hV
 refine tk (v := ?_) 0 { dst := some 14, op := .load 25 (.tmp 3), type := 25, pos := "through.go:216", after := #[], guard := none } (by rfl) ?_ ?_
 case refine_2 => intro w hSw; (try dsimp only at hSw); obtain ⟨a0, a1, a2, b0, b1, b2⟩ := HCE.out _ hSw; go_simp; (try with_reducible rfl)
 simp only [Act.put, zS0, zS1, zS2]
 refine tk (v := ?_) 2 { dst := some 16, op := .load 25 (.tmp 4), type := 25, pos := "through.go:216", after := #[], guard := none } (by rfl) ?_ ?_
 case refine_2 => intro w hSw; (try dsimp only at hSw); obtain ⟨a0, a1, a2, b0, b1, b2⟩ := HCE.out _ hSw; go_simp; (try with_reducible rfl)
 simp only [Act.put, zS0, zS1, zS2]
 refine wpAnyH_ready (rs := [1]) (by kernel_rfl) (by simp) ?_
 refine (AllReadyH.cons (o := { dst := some 15, op := .call { callee := .value (.func 73), args := #[.tmp 14], argTypes := #[25] }, type := 26, pos := "through.go:216", after := #[⟨0, .data⟩], guard := none }) rfl (fun K hK => ?_) AllReadyH.nil)
 have KE := Ec.ends_any SA va vf fa V0 (HRA.out.below hB0) HFA.out h0A hSA
 go_simp
 (with_reducible refine KE.mono ?_)
 clear KE
 rintro e1 W1 ⟨C1, rfl, hE1⟩
 dsimp only
 have hS1 := And.intro ((hE1.bel.block _ (lt_at hS0.1)).trans hS0.1) ((hE1.bel.block _ (lt_at hS0.2)).trans hS0.2)
 have hB1 := hB0.trans (hE1.bel.mono hB0.size)
 refine hK.out _ _ ?_ (fun hHeld => ?_)
 ·exact hS1
 clear hK K
 try simp only [Act.put, zS0, zS1, zS2]
 refine wpAnyH_ready (rs := [3]) (by kernel_rfl) (by simp) ?_
 refine (AllReadyH.cons (o := { dst := some 17, op := .call { callee := .value (.func 73), args := #[.tmp 16], argTypes := #[25] }, type := 26, pos := "through.go:216", after := #[⟨2, .data⟩, ⟨1, .chain⟩], guard := none }) rfl (fun K hK => ?_) AllReadyH.nil)
 have KE := Ec.ends_any SB vb vg fb W1 (HRB.out.below hB1) HFB.out h0B hSB
 go_simp
 (with_reducible refine KE.mono ?_)
 clear KE
 rintro e2 W2 ⟨C2, rfl, hE2⟩
 dsimp only
 have hS2 := And.intro ((hE2.bel.block _ (lt_at hS1.1)).trans hS1.1) ((hE2.bel.block _ (lt_at hS1.2)).trans hS1.2)
 have hB2 := hB1.trans (hE2.bel.mono hB1.size)
 refine hK.out _ _ ?_ (fun hHeld => ?_)
 ·exact hS2
 clear hK K
 try simp only [Act.put, zS0, zS1, zS2]
 refine tk (v := ?_) 4 { dst := some 8, op := .assign (.tmp 15), type := 26, pos := "through.go:216", after := #[⟨1, .data⟩, ⟨3, .chain⟩, ⟨0, .phase⟩, ⟨1, .phase⟩, { on := 2, ground := Ground.textOnly Departure.lateStores }, { on := 3, ground := Ground.textOnly Departure.lateStoresUnsure }], guard := none } (by rfl) ?_ ?_
 case refine_2 => intro w hSw; (try dsimp only at hSw); obtain ⟨a0, a1, a2, b0, b1, b2⟩ := HCE.out _ hSw; go_simp; (try with_reducible rfl)
 simp only [Act.put, zS0, zS1, zS2]
 refine tk (v := ?_) 5 { dst := some 9, op := .assign (.tmp 17), type := 26, pos := "through.go:216", after := #[⟨3, .data⟩, ⟨4, .chain⟩, ⟨0, .phase⟩, ⟨1, .phase⟩, ⟨2, .phase⟩, ⟨3, .phase⟩, ⟨4, .phase⟩], guard := none } (by rfl) ?_ ?_
 case refine_2 => intro w hSw; (try dsimp only at hSw); obtain ⟨a0, a1, a2, b0, b1, b2⟩ := HCE.out _ hSw; go_simp; (try with_reducible rfl)
 simp only [Act.put, zS0, zS1, zS2]
 refine wpAnyH_done (by kernel_rfl) ?_ _
 have hC1 := (hE1.row.lt C1 rfl).2
 have hC2 := (hE2.row.lt C2 rfl).2
 have HCA : Hid (C1 < W2.heap.size ∧ ∀ q, q < SA → W2.cell? ⟨C1, q, none⟩ = some (.int .i64 (cv (Ec.endP SA fa) q : Nat))) := ⟨Nat.lt_of_lt_of_le hC1 hE2.bel.size, fun q hq => (hE2.bel.cell (p := ⟨C1, q, none⟩) hC1).trans (by rw [hE1.row.cellAt q (by omega)]; exact nc_at (by rw [hE1.len]; exact hq))⟩
 have HCB : Hid (C2 < W2.heap.size ∧ ∀ q, q < SB → W2.cell? ⟨C2, q, none⟩ = some (.int .i64 (cv (Ec.endP SB fb) q : Nat))) := ⟨hC2, fun q hq => by rw [hE2.row.cellAt q (by omega)]; exact nc_at (by rw [hE2.len]; exact hq)⟩
 have hrowB := hS2.2
 clear hE1 hE2 hC1 hC2 hS1 hS2 hS0 hB0 hB1 HRA HRB HFA HFB
 go_upto_region 4 with fail
 go_wp2
 go_loopw [7, 20] (fun s7 a wr => ∃ (X : Nat) (v7 : Value), v7 = s7 ∧ a = .int .i64 X ∧ X ≤ L.length ∧ Below W2.heap.size W2 wr ∧ wr.ownsRow W2.heap.size 66 2 v7 (jfP (Ec.endP SA fa) (Ec.endP SB fb) SB L X).length (fcs (jfP (Ec.endP SA fa) (Ec.endP SB fb) SB L X))) (fun _ a _ => L.length - (intOf a).toNat)
 case atStart => exact ⟨0, _, rfl, rfl, Nat.zero_le _, Below.refl _ _, ⟨rfl, .inl ⟨rfl, rfl⟩⟩⟩
 case round =>
  obtain ⟨X, v7, rfl, rfl, hX, hb, ho⟩ := hrel
  have HO : Hid (wr.ownsRow W2.heap.size 66 2 v7 (jfP (Ec.endP SA fa) (Ec.endP SB fb) SB L X).length (fcs (jfP (Ec.endP SA fa) (Ec.endP SB fb) SB L X))) := ho
  have HB : Hid (Below W2.heap.size W2 wr) := hb
  by_cases hlt : X < L.length
  ·obtain ⟨pb, po, rfl, hpl, hpc⟩ := HPR.out.resolve_left (by omega)
   obtain ⟨q, hq⟩ : ∃ q, L[X] = q := ⟨_, rfl⟩
   have hqs := HLQ.out X hlt
   rw [hq] at hqs
   have p0 := (hb.cell (p := ⟨pb, po + X, none⟩) (Nat.lt_of_lt_of_le hpl hB2.size)).trans ((hB2.cell (p := ⟨pb, po + X, none⟩) hpl).trans (hpc X hlt))
   rw [hq] at p0
   have hd := Nat.div_lt_of_lt_mul (show q < SB * SA by rw [Nat.mul_comm]; exact hqs)
   have hm := Nat.mod_lt q h0B
   have cA := (hb.cell (p := ⟨C1, q / SB, none⟩) HCA.out.1).trans (HCA.out.2 _ hd)
   have cB := (hb.cell (p := ⟨C2, q % SB, none⟩) HCB.out.1).trans (HCB.out.2 _ hm)
   have b0 := cell_of_row _ _ 0 _ _ _ ((hb.block _ (lt_at hrowB)).trans hrowB)
   clear hb ho
   have hJ := jf1_at (Ec.endP SA fa) (Ec.endP SB fb) SB L X q hlt hq
   have hq16 : q ≤ 1600 := Nat.le_of_lt (Nat.lt_of_lt_of_le hqs (Nat.le_trans (Nat.mul_le_mul hSA hSB) (by decide)))
   have hqq : (q : Int).tdiv (SB : Int) = ((q / SB : Nat) : Int) := by simp [Int.tdiv]
   have hrr : (q : Int).tmod (SB : Int) = ((q % SB : Nat) : Int) := by simp [Int.tmod]
   have hq2 : (q : Int) / (SB : Int) = ((q / SB : Nat) : Int) := by simp
   have hr2 : (q : Int) % (SB : Int) = ((q % SB : Nat) : Int) := by simp
   have hn0 : ¬ SB = 0 := by omega
   have hn1 : ¬ (SB : Int) = 0 := by omega
   have hxs := HEA.out (q / SB)
   have hys := HEB.out (q % SB)
   have hd' : ((q / SB : Nat) : Int) < (SA : Int) := by omega
   have hm' : ((q % SB : Nat) : Int) < (SB : Int) := by omega
   generalize hgx : cv (Ec.endP SA fa) (q / SB) = xv at *
   generalize hgy : cv (Ec.endP SB fb) (q % SB) = yv at *
   generalize q / SB = qd at *
   generalize q % SB = qm at *
   clear hgx hgy hqs hd hm
   have HJ : Hid (jfP (Ec.endP SA fa) (Ec.endP SB fb) SB L (X + 1) = jfP (Ec.endP SA fa) (Ec.endP SB fb) SB L X ++ (if xv ≠ far ∧ yv ≠ far then [((X : Int), ((xv + yv : Nat) : Int))] else [])) := by show _ = _; rw [jfP_up, hJ]
   have HXS : Hid (xv ≠ far → xv ≤ 1000000) := hxs
   have HYS : Hid (yv ≠ far → yv ≤ 1000000) := hys
   have HLL : Hid ((jfP (Ec.endP SA fa) (Ec.endP SB fb) SB L X).length ≤ X) := jf_len _ _ _ _ _
   clear hJ hq hxs hys
   go_upto_region 6 with fail
   go_quiet (fail)
   have HB : Hid (Below W2.heap.size W2 (wr.drewN nq)) := below_drewN HB.out nq
   have HO : Hid ((wr.drewN nq).ownsRow W2.heap.size 66 2 v7 (jfP (Ec.endP SA fa) (Ec.endP SB fb) SB L X).length (fcs (jfP (Ec.endP SA fa) (Ec.endP SB fb) SB L X))) := HO.out
   clear hqq hrr hq2 hr2 hn0 hn1 cA cB b0 p0
   generalize hVn : wr.drewN nq = Wn at *
   clear hVn
   by_cases hxf : xv = far
   ·have ex : ((xv : Int) != 9223372036854775807) = false := by rw [hxf]; decide
    go_wp2
    go_roundw
    case rel => exact ⟨X + 1, _, rfl, by go_num, hlt, HB.out, by rw [HJ.out, if_neg (fun h => h.1 hxf), List.append_nil]; exact HO.out⟩
    case measure => simp [intOf]; omega
   ·have ex : ((xv : Int) != 9223372036854775807) = true := by unfold far at hxf; simp; omega
    by_cases hyf : yv = far
    ·have ey : ((yv : Int) != 9223372036854775807) = false := by rw [hyf]; decide
     go_wp2
     go_roundw
     case rel => exact ⟨X + 1, _, rfl, by go_num, hlt, HB.out, by rw [HJ.out, if_neg (fun h => h.2 hyf), List.append_nil]; exact HO.out⟩
     case measure => simp [intOf]; omega
    ·have ey : ((yv : Int) != 9223372036854775807) = true := by unfold far at hyf; simp; omega
     have hx6 := HXS.out hxf
     have hy6 := HYS.out hyf
     have HJ2 : Hid (jfP (Ec.endP SA fa) (Ec.endP SB fb) SB L (X + 1) = jfP (Ec.endP SA fa) (Ec.endP SB fb) SB L X ++ [((X : Int), (xv : Int) + (yv : Int))]) := by show _ = _; rw [HJ.out, if_pos ⟨hxf, hyf⟩]; simp
     clear hxf hyf
     go_wp2_with (refine wpList_append_own_at _ rfl _ _ 23 rfl W2.heap.size 66 i0 (.agg #[.int .i64 0, .int .i64 0]) 2 16 Tryd.underlying23 hi hz0 hz1 hz2 rfl (by decide) _ _ _ rfl (HO.out.alloc _) ⟨_, 0, none⟩ 1 1 [.int .i64 (X : Int), .int .i64 ((xv : Int) + (yv : Int))] rfl rfl (cell_two_at _ _ _ _ _ rfl) (two_one _ _) (by have := HLL.out; unfold maxLen; omega) (by have := HLL.out; omega) (by have := HB.out.size; simp; omega) ?_; intro v1 w3 ho1 hg1 _ hl1; have HO1 : Hid _ := ho1; have HB1 : Hid (Below W2.heap.size W2 w3) := (HB.out.alloc HB.out.size _).grown hg1 (Nat.le_trans HB.out.size (by simp)) (fun b hb => (HO.out.lt b hb).1); clear ho1 hg1 hl1)
     go_roundw
     case rel => exact ⟨X + 1, _, rfl, by go_num, hlt, HB1.out, by rw [HJ2.out, List.length_append, ← Ps.fcs_snoc]; exact HO1.out⟩
     case measure => simp [intOf]; omega
  ·obtain rfl : X = L.length := by omega
   go_wp2
   go_ret
   exact ⟨_, rfl, W2, hB2, HO.out, HB.out⟩
end Go.Proofs.YtfjocafepigijaaDoor.Jf
/- light: what it answers. No conditions. -/
namespace Go.Proofs.YtfjocafepigijaaDoor.Mc
open Go.RowKit Mv Wk Sy Rz

/-- a small machine with small weights -/
def lightP (m : M) : Bool := decide (m.st ≤ 20) && decide (m.arcs.length ≤ 40) && m.arcs.all (fun x => decide (x.2.2.2.2 ≤ 500000)) && m.fins.all (fun f => decide (f.2 ≤ 500000))
theorem light_no1 {m : M} (h : 20 < m.st) : lightP m = false := by
 have : ¬ m.st ≤ 20 := by omega
 simp [lightP, this]
theorem light_no2 {m : M} (h : (40 : Int) < m.arcs.length) : lightP m = false := by
 have : ¬ m.arcs.length ≤ 40 := by omega
 simp [lightP, this]
theorem light_no3 {m : M} (k : Nat) (hk : k < m.arcs.length) {x : Int} (hx : m.arcs[k].2.2.2.2 = x) (h : 500000 < x) : lightP m = false := by
 have : m.arcs.all (fun x => decide (x.2.2.2.2 ≤ 500000)) = false := List.all_eq_false.2 ⟨_, List.getElem_mem hk, by rw [hx]; simp; omega⟩
 simp [lightP, this]
theorem light_no4 {m : M} (k : Nat) (hk : k < m.fins.length) {x : Int} (hx : m.fins[k].2 = x) (h : 500000 < x) : lightP m = false := by
 have : m.fins.all (fun f => decide (f.2 ≤ 500000)) = false := List.all_eq_false.2 ⟨_, List.getElem_mem hk, by rw [hx]; simp; omega⟩
 simp [lightP, this]
theorem light_yes {m : M} (h1 : ¬ 20 < m.st) (h2 : ¬ (40 : Int) < m.arcs.length) (h3 : ∀ k (hk : k < m.arcs.length), m.arcs[k].2.2.2.2 ≤ 500000) (h4 : ∀ k (hk : k < m.fins.length), m.fins[k].2 ≤ 500000) : lightP m = true := by
 have a1 : m.st ≤ 20 := by omega
 have a2 : m.arcs.length ≤ 40 := by omega
 have a3 : m.arcs.all (fun x => decide (x.2.2.2.2 ≤ 500000)) = true := List.all_eq_true.2 fun x hx => by
  obtain ⟨k, hk, rfl⟩ := List.getElem_of_mem hx
  exact decide_eq_true (h3 k hk)
 have a4 : m.fins.all (fun f => decide (f.2 ≤ 500000)) = true := List.all_eq_true.2 fun x hx => by
  obtain ⟨k, hk, rfl⟩ := List.getElem_of_mem hx
  exact decide_eq_true (h4 k hk)
 simp [lightP, a1, a2, a3, a4]
set_option maxHeartbeats 1000000 in
set_option maxRecDepth 100000 in
theorem light_any (m : M) (v : Value) (w : World) (h : IsM w v m) : Calls Tryd.prog 19 #[v] w fun e w' => e = .returned (.bool (lightP m)) ∧ Below w.heap.size w w' := by
 obtain ⟨st, arcs, fins⟩ := m
 obtain ⟨va, vf, rfl, ⟨_, aa, ca, rfl, ha, hA⟩, ⟨_, af, cf, rfl, hf, hF⟩⟩ := h
 dsimp only at ha hf hA hF
 have HA : Hid (arcs.length = 0 ∨ ∃ b off, aa = some ⟨b, off, none⟩ ∧ b < w.heap.size ∧ ∀ j u, (acs arcs)[j]? = some u → w.cell? ⟨b, off + j, none⟩ = some u) := hA
 have HF : Hid (fins.length = 0 ∨ ∃ b off, af = some ⟨b, off, none⟩ ∧ b < w.heap.size ∧ ∀ j u, (fcs fins)[j]? = some u → w.cell? ⟨b, off + j, none⟩ = some u) := hF
 have hb := fun o => (Below.refl w.heap.size w).alloc (Nat.le_refl _) o
 clear hA hF
 go_enter Tryd.func19, Tryd.ntmps19
 by_cases h1 : (20 : Int) < st
 ·go_wp2
  repeat (go_quiet (fail); go_wp2)
  go_ret
  exact ⟨by rw [light_no1 (m := ⟨st, arcs, fins⟩) h1]; rfl, by first | exact hb _ | exact below_drewN (hb _) _⟩
 ·by_cases h2 : (40 : Int) < (arcs.length : Int)
  ·go_wp2
   repeat (go_quiet (fail); go_wp2)
   go_ret
   exact ⟨by rw [light_no2 (m := ⟨st, arcs, fins⟩) h2]; rfl, by first | exact hb _ | exact below_drewN (hb _) _⟩
  ·go_wp2
   repeat (go_quiet (fail); go_wp2)
   go_loopw [3] (fun iv wr => ∃ k : Nat, iv = .int .i64 k ∧ k ≤ arcs.length ∧ (∀ q, q < k → ∀ (hq : q < arcs.length), (arcs[q]).2.2.2.2 ≤ 500000) ∧ Below (w.alloc (.cells #[.int .i64 st, .slice aa arcs.length ca, .slice af fins.length cf] 25)).heap.size (w.alloc (.cells #[.int .i64 st, .slice aa arcs.length ca, .slice af fins.length cf] 25)) wr) (fun iv _ => arcs.length - (intOf iv).toNat)
   case atStart => exact ⟨0, rfl, Nat.zero_le _, fun q h => absurd h (Nat.not_lt_zero _), by first | exact Below.refl _ _ | exact below_drewN (Below.refl _ _) _⟩
   case round =>
    obtain ⟨k, rfl, hk, hks, hbx⟩ := hrel
    have HKS : Hid (∀ q, q < k → ∀ (hq : q < arcs.length), (arcs[q]).2.2.2.2 ≤ 500000) := hks
    clear hks
    have bx := box3 hbx
    obtain ⟨bx0, bx1, bx2⟩ := bx
    have hw : Below w.heap.size w wr := (hb _).trans (hbx.mono (by simp))
    have HB : Hid (Below (w.alloc (.cells #[.int .i64 st, .slice aa arcs.length ca, .slice af fins.length cf] 25)).heap.size (w.alloc (.cells #[.int .i64 st, .slice aa arcs.length ca, .slice af fins.length cf] 25)) wr) := hbx
    clear hbx
    by_cases hlt : k < arcs.length
    ·obtain ⟨b, off, rfl, hbl, hcs⟩ := HA.out.resolve_left (by omega)
     obtain ⟨x, hx⟩ : ∃ x, (arcs[k]).2.2.2.2 = x := ⟨_, rfl⟩
     have c4 : wr.cell? ⟨b, off + k * 5 + 4, none⟩ = some (.int .i64 x) := by rw [← hx]; exact (hw.cell hbl).trans (hcs _ _ (acs_at arcs k hlt).2.2.2.2)
     have HX : Hid ((arcs[k]).2.2.2.2 = x) := hx
     clear hx
     by_cases h5 : (500000 : Int) < x
     ·go_wp2
      go_ret
      exact ⟨by rw [light_no3 (m := ⟨st, arcs, fins⟩) k hlt HX.out h5]; rfl, hw⟩
     ·go_wp2
      go_roundw
      case rel => exact ⟨k + 1, by go_num, hlt, fun q hq hq2 => (Nat.lt_succ_iff_lt_or_eq.1 hq).elim (fun h => HKS.out q h hq2) (fun h => by subst h; rw [HX.out]; omega), HB.out⟩
      case measure => simp [intOf]; omega
    ·have HK : Hid (∀ q (hq : q < arcs.length), (arcs[q]).2.2.2.2 ≤ 500000) := fun q hq => HKS.out q (by omega) hq
     go_wp2
     go_loopw [4] (fun iv wr => ∃ k : Nat, iv = .int .i64 k ∧ k ≤ fins.length ∧ (∀ q, q < k → ∀ (hq : q < fins.length), (fins[q]).2 ≤ 500000) ∧ Below (w.alloc (.cells #[.int .i64 st, .slice aa arcs.length ca, .slice af fins.length cf] 25)).heap.size (w.alloc (.cells #[.int .i64 st, .slice aa arcs.length ca, .slice af fins.length cf] 25)) wr) (fun iv _ => fins.length - (intOf iv).toNat)
     case atStart => exact ⟨0, rfl, Nat.zero_le _, fun q h => absurd h (Nat.not_lt_zero _), HB.out⟩
     case round =>
      obtain ⟨y, rfl, hy, hys, hby⟩ := hrel
      have HYK : Hid (∀ q, q < y → ∀ (hq : q < fins.length), (fins[q]).2 ≤ 500000) := hys
      clear hys
      have bz := box3 hby
      obtain ⟨bz0, bz1, bz2⟩ := bz
      have hv : Below w.heap.size w _ := (hb _).trans (hby.mono (by simp))
      have HY : Hid _ := hby
      clear hby
      by_cases hly : y < fins.length
      ·obtain ⟨b, off, rfl, hbl, hcs⟩ := HF.out.resolve_left (by omega)
       obtain ⟨x, hx⟩ : ∃ x, (fins[y]).2 = x := ⟨_, rfl⟩
       have c4 := (hv.cell hbl).trans (hcs _ _ (fcs_at fins y hly).2)
       rw [hx, ← Nat.add_assoc] at c4
       have HX : Hid ((fins[y]).2 = x) := hx
       clear hx
       by_cases h5 : (500000 : Int) < x
       ·go_wp2
        go_ret
        exact ⟨by rw [light_no4 (m := ⟨st, arcs, fins⟩) y hly HX.out h5]; rfl, hv⟩
       ·go_wp2
        go_roundw
        case rel => exact ⟨y + 1, by go_num, hly, fun q hq hq2 => (Nat.lt_succ_iff_lt_or_eq.1 hq).elim (fun h => HYK.out q h hq2) (fun h => by subst h; rw [HX.out]; omega), HY.out⟩
        case measure => simp [intOf]; omega
      ·go_wp2
       go_ret
       exact ⟨by rw [light_yes (m := ⟨st, arcs, fins⟩) (by dsimp only; omega) (by dsimp only; omega) HK.out (fun q hq => HYK.out q (by dsimp only at hq; omega) hq)]; rfl, hv⟩
end Go.Proofs.YtfjocafepigijaaDoor.Mc
