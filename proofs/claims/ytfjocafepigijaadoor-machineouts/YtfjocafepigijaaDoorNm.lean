/- How a field lies in memory while it is made: the arcs of each label and of each state lie in rows apart. No conditions. -/
import Derived.Test.YtfjocafepigijaaDoorCnM
namespace Go.Proofs.YtfjocafepigijaaDoor.Nm
open Go.RowKit Mv Qp Sk Po Ps Wd Se Mp St Cm

abbrev Key := Int × Int × Int
/-- where an arc lies -/
def key (a : Arc) : Key := if a.2.2.1 = 0 ∧ a.2.2.2.1 = 0 then (0, 0, a.1) else (a.2.2.1, a.2.2.2.1, 0)
def ar (L : List Arc) (k : Key) : List Arc := L.filter fun a => key a == k
theorem ar_snoc (L : List Arc) (a : Arc) (k : Key) : ar (L ++ [a]) k = if key a = k then ar L k ++ [a] else ar L k := by
  unfold ar
  rw [List.filter_append]
  split
  · rename_i h; simp [h]
  · rename_i h; simp [h]
theorem ar_sil (L : List Arc) (f : Nat) : ar L (0, 0, (f : Int)) = sil L f := by
  unfold ar sil
  apply List.filter_congr
  intro a _
  unfold key
  by_cases h : a.2.2.1 = 0 ∧ a.2.2.2.1 = 0
  · rw [if_pos h, Bool.eq_iff_iff]
    simp [h.1, h.2]
  · rw [if_neg h]
    have h1 : ¬ ((a.2.2.1, a.2.2.2.1, (0 : Int)) = (0, 0, (f : Int))) := fun e => h (by simp only [Prod.mk.injEq] at e; exact ⟨e.1, e.2.1⟩)
    have h2 : (a.2.2.1 == 0 && a.2.2.2.1 == 0 && a.1 == (f : Int)) = false := by
      rw [Bool.eq_false_iff]
      intro e
      simp only [Bool.and_eq_true, beq_iff_eq] at e
      exact h e.1
    rw [h2]
    exact beq_eq_false_iff_ne.2 h1
theorem ar_lab (L : List Arc) (i o : Int) (h0 : ¬ (i = 0 ∧ o = 0)) : ar L (i, o, 0) = lab L i o := by
  unfold ar lab
  apply List.filter_congr
  intro a _
  unfold key
  by_cases h : a.2.2.1 = 0 ∧ a.2.2.2.1 = 0
  · rw [if_pos h]
    have h1 : ¬ (((0 : Int), (0 : Int), a.1) = (i, o, 0)) := fun e => h0 (by simp only [Prod.mk.injEq] at e; exact ⟨e.1.symm, e.2.1.symm⟩)
    have h2 : (a.2.2.1 == i && a.2.2.2.1 == o) = false := by
      rw [Bool.eq_false_iff]
      intro e
      simp only [Bool.and_eq_true, beq_iff_eq] at e
      exact h0 ⟨e.1 ▸ h.1, e.2 ▸ h.2⟩
    rw [h2]
    exact beq_eq_false_iff_ne.2 h1
  · rw [if_neg h]
    rw [Bool.eq_iff_iff]
    simp
theorem acs_snoc (L : List Arc) (a : Arc) : acs L ++ ac a = acs (L ++ [a]) := by simp [acs]
/-- V with another value at k -/
def upd (V : Key → Value) (k : Key) (v : Value) : Key → Value := fun k' => if k' = k then v else V k'
structure Nf (w wr : World) (F mb sb S n : Nat) (L : List Arc) (V : Key → Value) (vs : List Value) : Prop where
  field : IsF wr F (.int .i64 S) (.map (some mb)) (.slice (some ⟨sb, 0, none⟩) S S) nilS
  heads : wr.ownsRow w.heap.size 22 1 (.slice (some ⟨sb, 0, none⟩) S S) S vs
  len : vs.length = S
  head : ∀ f, f < S → vs[f]? = some (V (0, 0, (f : Int)))
  mp : IsMp wr mb n (fun i o => if i = 0 ∧ o = 0 then nilS else V (i, o, 0))
  rows : ∀ k, wr.ownsRow w.heap.size 64 5 (V k) (ar L k).length (acs (ar L k))
  apart : ∀ k k', k ≠ k' → ∀ b, (V k).ownBlock = some b → (V k').ownBlock ≠ some b
  below : Below w.heap.size w wr
  lo : w.heap.size ≤ F ∧ w.heap.size ≤ mb
  cnt : n ≤ L.length
theorem mp_ty {wr : World} {mb n : Nat} {G : Int → Int → Value} (h : IsMp wr mb n G) : ∃ es clock, wr.heap[mb]? = some (.map es clock) := by
  obtain ⟨D, ⟨es, clock, h1, _⟩, _⟩ := h
  exact ⟨es, clock, h1⟩
theorem Nf.alloc {w wr : World} {F mb sb S n : Nat} {L : List Arc} {V : Key → Value} {vs : List Value} (h : Nf w wr F mb sb S n L V vs) (o : Obj) : Nf w (wr.alloc o) F mb sb S n L V vs :=
  ⟨h.field.kept ((Kp.refl (fun _ => False) wr).alloc o) (fun h => h), h.heads.alloc o, h.len, h.head, h.mp.kept (heap_alloc_old wr o h.mp.lt), fun k => (h.rows k).alloc o, h.apart, h.below.alloc h.below.size o, h.lo, h.cnt⟩
theorem Nf.drew {w wr : World} {F mb sb S n : Nat} {L : List Arc} {V : Key → Value} {vs : List Value} (h : Nf w wr F mb sb S n L V vs) : Nf w wr.drew F mb sb S n L V vs :=
  ⟨h.field, h.heads, h.len, h.head, h.mp.kept rfl, h.rows, h.apart, h.below.drew, h.lo, h.cnt⟩
theorem apart_upd {V : Key → Value} {k0 : Key} {v1 : Value} {sz : Nat} (hap : ∀ k k', k ≠ k' → ∀ b, (V k).ownBlock = some b → (V k').ownBlock ≠ some b) (hlt : ∀ k b, (V k).ownBlock = some b → b < sz) (hl : v1.ownBlock = (V k0).ownBlock ∨ ∃ g, v1.ownBlock = some g ∧ sz ≤ g) :
    ∀ k k', k ≠ k' → ∀ b, (upd V k0 v1 k).ownBlock = some b → (upd V k0 v1 k').ownBlock ≠ some b := by
  intro k k' hne b hb hb'
  unfold upd at hb hb'
  by_cases e1 : k = k0
  · rw [if_pos e1] at hb
    rw [if_neg (fun e => hne (e1.trans e.symm))] at hb'
    rcases hl with hl | ⟨g, hl, hg⟩
    · rw [hl] at hb
      exact hap k0 k' (fun e => hne (e1.trans e)) b hb hb'
    · rw [hl] at hb
      cases hb
      exact absurd (hlt k' _ hb') (Nat.not_lt.2 hg)
  · rw [if_neg e1] at hb
    by_cases e2 : k' = k0
    · rw [if_pos e2] at hb'
      rcases hl with hl | ⟨g, hl, hg⟩
      · rw [hl] at hb'
        exact hap k k0 e1 b hb hb'
      · rw [hl] at hb'
        cases hb'
        exact absurd (hlt k _ hb) (Nat.not_lt.2 hg)
    · rw [if_neg e2] at hb'
      exact hap k k' hne b hb hb'
/-- an arc more, where it is silent -/
theorem Nf.addS {w wr w1 : World} {F mb sb S n f : Nat} {L : List Arc} {V : Key → Value} {vs : List Value} {a : Arc} {v1 : Value} (h : Nf w wr F mb sb S n L V vs) (hk : key a = (0, 0, (f : Int))) (hf : f < S)
    (ho : w1.ownsRow w.heap.size 64 5 v1 ((ar L (0, 0, (f : Int))).length + 1) (acs (ar L (0, 0, (f : Int))) ++ ac a)) (hg : wr.grownBy w1 (V (0, 0, (f : Int))).ownBlock) (hl : v1.ownBlock = (V (0, 0, (f : Int))).ownBlock ∨ ∃ g, v1.ownBlock = some g ∧ wr.heap.size ≤ g) :
    (w1.cell? ⟨sb, f, none⟩ = some (V (0, 0, (f : Int))) ∧ w1.frozen? ⟨sb, f, none⟩ = false) ∧ Nf w (w1.setCell ⟨sb, f, none⟩ v1) F mb sb S n (L ++ [a]) (upd V (0, 0, (f : Int)) v1) (vs.set f v1) := by
  have hty : ∀ b, (V (0, 0, (f : Int))).ownBlock = some b → ∃ cur, wr.heap[b]? = some (.cells cur 64 (0, 0)) := fun b hb => own_ty (h.rows _) hb
  have hk1 : Kp (fun b => (V (0, 0, (f : Int))).ownBlock = some b) wr w1 := (Kp.refl _ wr).grown hg (fun b hb _ => hb)
  have nF : ¬ (V (0, 0, (f : Int))).ownBlock = some F := fun e => by obtain ⟨c, hc⟩ := hty F e; exact ty_ne hc h.field (by decide)
  obtain ⟨cs, hcs⟩ := own_ty h.heads (k := sb) rfl
  have nS : ¬ (V (0, 0, (f : Int))).ownBlock = some sb := fun e => by obtain ⟨c, hc⟩ := hty sb e; exact ty_ne hc hcs (by decide)
  obtain ⟨es, clock, hmb⟩ := mp_ty h.mp
  have nM : ¬ (V (0, 0, (f : Int))).ownBlock = some mb := fun e => by obtain ⟨c, hc⟩ := hty mb e; rw [hmb] at hc; cases hc
  have heads1 := own_kp h.heads hk1 nS
  have field1 := h.field.kept hk1 nF
  have mp1 := h.mp.kept (hk1.block mb h.mp.lt nM)
  obtain ⟨cs1, hcs1⟩ := own_ty heads1 (k := sb) rfl
  have sF : F ≠ sb := fun e => by subst e; exact ty_ne hcs1 field1 (by decide)
  have sM : mb ≠ sb := fun e => by subst e; obtain ⟨es1, clock1, hmb1⟩ := mp_ty mp1; rw [hcs1] at hmb1; cases hmb1
  have hlt : ∀ k b, (V k).ownBlock = some b → b < wr.heap.size := fun k b hb => ((h.rows k).lt b hb).2
  have hsl : w.heap.size ≤ sb := (h.heads.lt sb rfl).1
  have hk2 : Kp (fun b => b = sb) w1 (w1.setCell ⟨sb, f, none⟩ v1) := (Kp.refl _ w1).setCell _ _ _ (fun _ => rfl)
  have rows1 : ∀ k, k ≠ (0, 0, (f : Int)) → w1.ownsRow w.heap.size 64 5 (V k) (ar L k).length (acs (ar L k)) := fun k hne => own_kp2 (h.rows k) hk1 (fun b hb e => h.apart k _ hne b hb e)
  have nsb : ∀ {v : Value} {m : Nat} {xs : List Value}, w1.ownsRow w.heap.size 64 5 v m xs → ∀ b, v.ownBlock = some b → ¬ b = sb := fun {v m xs} hr b hb e => by
    obtain ⟨c, hc⟩ := own_ty hr hb
    subst e
    exact ty_ne hc hcs1 (by decide)
  refine ⟨⟨?_, heads1.frozenAt f⟩, field1.kept hk2 sF, (heads1.stored f v1).1, by rw [List.length_set]; exact h.len, fun g hg' => ?_, ?_, fun k => ?_, apart_upd h.apart hlt hl, ?_, h.lo, by simp; exact Nat.le_succ_of_le h.cnt⟩
  · rw [heads1.cellAt f (by omega)]
    exact h.head f hf
  · rw [List.getElem?_set]
    unfold upd
    by_cases e : f = g
    · subst e
      simp [h.len, hf]
    · rw [if_neg e, if_neg (fun e2 => e (by simp only [Prod.mk.injEq] at e2; omega))]
      exact h.head g hg'
  · have hm2 := mp1.kept (hk2.block mb mp1.lt sM)
    obtain ⟨D, hD, hG⟩ := hm2
    refine ⟨D, hD, fun i o hi ho => ?_⟩
    rw [hG i o hi ho]
    dsimp only
    by_cases e : i = 0 ∧ o = 0
    · rw [if_pos e, if_pos e]
    · rw [if_neg e, if_neg e]
      unfold upd
      rw [if_neg (fun e2 => e (by simp only [Prod.mk.injEq] at e2; exact ⟨e2.1, e2.2.1⟩))]
  · rw [ar_snoc, hk]
    unfold upd
    by_cases e : k = (0, 0, (f : Int))
    · rw [if_pos e.symm, if_pos e]
      subst e
      rw [← acs_snoc, List.length_append]
      exact own_kp2 ho hk2 (nsb ho)
    · have e' : ¬ (0, 0, (f : Int)) = k := fun h => e h.symm
      rw [if_neg e', if_neg e]
      exact own_kp2 (rows1 k e) hk2 (nsb (rows1 k e))
  · exact (h.below.grown hg h.below.size (fun b hb => ((h.rows _).lt b hb).1)).setCell hsl _
/-- an arc more, of a label -/
theorem Nf.addL {w wr w1 w2 : World} {F mb sb S n : Nat} {L : List Arc} {V : Key → Value} {vs : List Value} {a : Arc} {v1 : Value} {i o : Int} {o1 o2 : Obj} (h : Nf w wr F mb sb S n L V vs) (hk : key a = (i, o, 0)) (hio : ¬ (i = 0 ∧ o = 0)) (hes : ∃ es clock, o1 = .map es clock)
    (ho : w1.ownsRow w.heap.size 64 5 v1 ((ar L (i, o, 0)).length + 1) (acs (ar L (i, o, 0)) ++ ac a)) (hg : (ChangeMaps.setBlock wr mb o1).grownBy w1 (V (i, o, 0)).ownBlock) (hl : v1.ownBlock = (V (i, o, 0)).ownBlock ∨ ∃ g, v1.ownBlock = some g ∧ wr.heap.size ≤ g)
    (hw2 : w2 = ChangeMaps.setBlock w1 mb o2) (hm : IsMp w2 mb (n + 1) (fun i' o' => if i' = i ∧ o' = o then v1 else (if i' = 0 ∧ o' = 0 then nilS else V (i', o', 0)))) : Nf w w2 F mb sb S (n + 1) (L ++ [a]) (upd V (i, o, 0) v1) vs := by
  obtain ⟨es, clock, hmb⟩ := mp_ty h.mp
  have hty : ∀ b, (V (i, o, 0)).ownBlock = some b → ∃ cur, wr.heap[b]? = some (.cells cur 64 (0, 0)) := fun b hb => own_ty (h.rows _) hb
  have nM : ¬ (V (i, o, 0)).ownBlock = some mb := fun e => by obtain ⟨c, hc⟩ := hty mb e; rw [hmb] at hc; cases hc
  have hk0 : Kp (fun b => b = mb) wr (ChangeMaps.setBlock wr mb o1) := ⟨rfl, rfl, rfl, by simp [ChangeMaps.setBlock], fun k _ hne => ChangeMaps.heap_setBlock_other hmb _ hne⟩
  have hsz : (ChangeMaps.setBlock wr mb o1).heap.size = wr.heap.size := by simp [ChangeMaps.setBlock]
  have hmb1 : w1.heap[mb]? = some o1 := (hg.block mb (by rw [hsz]; exact h.mp.lt) (fun e => nM e.symm)).trans (ChangeMaps.heap_setBlock_same hmb _)
  obtain ⟨es1, clock1, rfl⟩ := hes
  have hk1 : Kp (fun b => b = mb ∨ (V (i, o, 0)).ownBlock = some b) wr w1 := (hk0.mono (fun _ _ e => .inl e)).grown hg (fun b hb _ => .inr hb)
  have hk2 : Kp (fun b => b = mb) w1 w2 := by rw [hw2]; exact ⟨rfl, rfl, rfl, by simp [ChangeMaps.setBlock], fun k _ hne => ChangeMaps.heap_setBlock_other hmb1 _ hne⟩
  have hk : key a = (i, o, 0) := hk
  have nF : ¬ (F = mb ∨ (V (i, o, 0)).ownBlock = some F) := fun e => by
    rcases e with e | e
    · subst e; have := h.field; unfold IsF at this; rw [hmb] at this; cases this
    · obtain ⟨c, hc⟩ := hty F e; exact ty_ne hc h.field (by decide)
  obtain ⟨cs, hcs⟩ := own_ty h.heads (k := sb) rfl
  have nS : ¬ (sb = mb ∨ (V (i, o, 0)).ownBlock = some sb) := fun e => by
    rcases e with e | e
    · rw [e, hmb] at hcs; cases hcs
    · obtain ⟨c, hc⟩ := hty sb e; exact ty_ne hc hcs (by decide)
  have hlt : ∀ k b, (V k).ownBlock = some b → b < wr.heap.size := fun k b hb => ((h.rows k).lt b hb).2
  have rows1 : ∀ k, k ≠ (i, o, 0) → w1.ownsRow w.heap.size 64 5 (V k) (ar L k).length (acs (ar L k)) := fun k hne => own_kp2 (h.rows k) hk1 (fun b hb e => by
    rcases e with e | e
    · obtain ⟨c, hc⟩ := own_ty (h.rows k) hb; rw [e, hmb] at hc; cases hc
    · exact h.apart k _ hne b hb e)
  have nmb : ∀ {v : Value} {m : Nat} {xs : List Value}, w1.ownsRow w.heap.size 64 5 v m xs → ∀ b, v.ownBlock = some b → ¬ b = mb := fun {v m xs} hr b hb e => by
    obtain ⟨c, hc⟩ := own_ty hr hb
    rw [e, hmb1] at hc
    cases hc
  refine ⟨(h.field.kept hk1 nF).kept hk2 (fun e => nF (.inl e)), own_kp (own_kp h.heads hk1 nS) hk2 (fun e => nS (.inl e)), h.len, fun g hg' => ?_, ?_, fun k => ?_, apart_upd h.apart hlt hl, ?_, h.lo, by simp; exact h.cnt⟩
  · unfold upd
    rw [if_neg (fun e2 => hio (by simp only [Prod.mk.injEq] at e2; exact ⟨e2.1.symm, e2.2.1.symm⟩))]
    exact h.head g hg'
  · obtain ⟨D, hD, hG⟩ := hm
    refine ⟨D, hD, fun i' o' hi ho' => ?_⟩
    rw [hG i' o' hi ho']
    unfold upd
    dsimp only
    by_cases e : i' = 0 ∧ o' = 0
    · have e4 : ¬ (i' = i ∧ o' = o) := fun e2 => hio ⟨e2.1 ▸ e.1, e2.2 ▸ e.2⟩
      rw [if_neg e4, if_pos e, if_pos e]
    · rw [if_neg e, if_neg e]
      by_cases e3 : i' = i ∧ o' = o
      · rw [if_pos e3, if_pos (by rw [e3.1, e3.2])]
      · rw [if_neg e3, if_neg (fun e2 => e3 (by simp only [Prod.mk.injEq] at e2; exact ⟨e2.1, e2.2.1⟩))]
  · rw [ar_snoc, hk]
    unfold upd
    by_cases e : k = (i, o, 0)
    · rw [if_pos e.symm, if_pos e]
      subst e
      rw [← acs_snoc, List.length_append]
      exact own_kp2 ho hk2 (nmb ho)
    · have e' : ¬ (i, o, 0) = k := fun h => e h.symm
      rw [if_neg e', if_neg e]
      exact own_kp2 (rows1 k e) hk2 (nmb (rows1 k e))
  · have b1 : Below w.heap.size w (ChangeMaps.setBlock wr mb (.map es1 clock1)) := ⟨h.below.os, h.below.tape, h.below.output, by rw [hsz]; exact h.below.size, fun k hk' => (ChangeMaps.heap_setBlock_other hmb _ (by have := h.lo.2; omega)).trans (h.below.block k hk')⟩
    have b2 := b1.grown hg b1.size (fun b hb => ((h.rows _).lt b hb).1)
    rw [hw2]
    exact ⟨b2.os, b2.tape, b2.output, by simp [ChangeMaps.setBlock]; exact b2.size, fun k hk' => (ChangeMaps.heap_setBlock_other hmb1 _ (by have := h.lo.2; omega)).trans (b2.block k hk')⟩
open Go.WideMaps Go.WideElems in
open Go.ChangeMaps (setBlock heap_setBlock_same heap_setBlock_other) in
open Go.Maps (Keyed) in
/-- an entry of the map, and a store at it -/
theorem entry2 {w : World} {b n : Nat} {G : Int → Int → Value} (h : IsMp w b n G) (hn : n < maxLen) {i o : Int} (hi : W64 i) (ho : W64 o) :
    ∃ (st : Nat) (o1 : Obj), (∃ es clock, o1 = .map es clock) ∧ (Instr.mapEntry 163 (.map (some b)) (.agg #[.int .i64 i, .int .i64 o])).run Tryd.prog w = .ok (.tuple #[G i o, .int .i64 (st : Int)]) (setBlock w b o1) ∧
      ∀ (w2 : World) (val : Value), w2.heap[b]? = some o1 → ∃ o2, (Instr.entryStore 163 (.map (some b)) (.int .i64 (st : Int)) val).run Tryd.prog w2 = .ok () (setBlock w2 b o2) ∧ IsMp (setBlock w2 b o2) b (n + 1) (fun i' o' => if i' = i ∧ o' = o then val else G i' o') := by
  have hlk := h.look hi ho
  obtain ⟨D, ⟨es, clock, hb, F, hs, hD⟩, hG⟩ := h
  obtain ⟨v0, st, es1, clock1, hE, hv0, hS⟩ := entry_then_store law61 Tryd.underlying163 (fun u => zero22 u) hb F (keyOf_label i o hi ho)
  have hv : v0 = G i o := by
    rcases Maps.fit_look false keyed Tryd.underlying163 (zero22 w) hb F (keyOf_label i o hi ho) with ⟨hr, hno, _⟩ | ⟨e0, y, hm, hk, hr, _⟩
    · rw [hlk] at hr
      simp only [Result.ok.injEq, and_true, Bool.false_eq_true, if_false] at hr
      rcases hv0 with ⟨e0, hm, hk, _⟩ | ⟨_, hz⟩
      · exact absurd hk (hno e0 hm)
      · rw [hz, hr]
    · rw [hlk] at hr
      simp only [Result.ok.injEq, and_true, Bool.false_eq_true, if_false] at hr
      rcases hv0 with ⟨e1, hm1, hk1, hz⟩ | ⟨hno, _⟩
      · rw [hz, hr]
        have hp := ((MapKept.stamped_iff es clock).1 F.stamped).2.2
        obtain ⟨a, ha, rfl⟩ := List.getElem_of_mem hm
        obtain ⟨c, hc, rfl⟩ := List.getElem_of_mem hm1
        by_cases e : a = c
        · subst e; rfl
        · rcases Nat.lt_or_gt_of_ne e with h1 | h1
          · exact absurd (hk.trans hk1.symm) (List.pairwise_iff_getElem.1 hp a c ha hc h1)
          · exact absurd (hk1.trans hk.symm) (List.pairwise_iff_getElem.1 hp c a hc ha h1)
      · exact absurd hk (hno e0 hm)
  subst hv
  refine ⟨st, .map es1 clock1, ⟨es1, clock1, rfl⟩, hE, fun w2 val hw2 => ?_⟩
  obtain ⟨es', clock', hrun, hup⟩ := hS w2 val hw2
  have hown : w.ownsMap Tryd.prog 169 El b n D := ⟨es, clock, hb, F, hs, hD⟩
  obtain ⟨w', hr', ho', _⟩ := hown.update keyed Tryd.underlying163 hn (keyOf_label i o hi ho) (val := val) (d := .held val) (ps := []) rfl
  rw [hup] at hr'
  have hw' : setBlock w b (.map es' clock') = w' := by simpa using hr'
  refine ⟨.map es' clock', hrun, D.put (kl i o) (.held val), ?_, ?_⟩
  · obtain ⟨es3, clock3, h31, h32⟩ := ho'
    rw [← hw', heap_setBlock_same hb] at h31
    simp only [Option.some.injEq, Obj.map.injEq] at h31
    obtain ⟨rfl, rfl⟩ := h31
    exact ⟨es', clock', heap_setBlock_same hw2 _, h32⟩
  · intro i' o' hi' ho2
    by_cases e : i' = i ∧ o' = o
    · obtain ⟨rfl, rfl⟩ := e
      simp only [and_self, if_true]
      exact Maps.atKey_put_same (by rw [hD]; exact ⟨_, rfl⟩) (keyed.key (keyOf_label i' o' hi ho)) _ _
    · show _ = DataW.held (if i' = i ∧ o' = o then val else G i' o')
      rw [if_neg e, Maps.atKey_put_other (fun h => e (kl_inj hi' ho2 hi ho h))]
      exact hG i' o' hi' ho2
/-- as it begins: the two orders in which its parts are laid -/
theorem begunA (w : World) (bx : Obj) (S : Nat) (hS : S ≤ 40) (MC : Array Value) (hM : MC.toList = List.replicate S nilS) : Nf w ((((w.alloc bx).alloc (.map #[] 0)).alloc (.cells MC 22)).alloc (.cells #[.int .i64 S, .map (some (w.heap.size + 1)), .slice (some ⟨w.heap.size + 1 + 1, 0, none⟩) S S, nilS] 167)) (w.heap.size + 1 + 1 + 1) (w.heap.size + 1) (w.heap.size + 1 + 1) S 0 [] (fun _ => nilS) (List.replicate S nilS) := by
  have hms : MC.size = S * 1 := by rw [← Array.length_toList, hM]; simp
  refine ⟨?_, ?_, by simp, fun f hf => by simp [hf], ?_, fun _ => World.ownsRow_nil _ _ _ _, fun _ _ _ b hb => by simp [nilS, Value.ownBlock] at hb, ?_, ⟨by omega, by omega⟩, Nat.le_refl _⟩
  · have := heap_alloc_new (((w.alloc bx).alloc (.map #[] 0)).alloc (.cells MC 22)) (.cells #[.int .i64 S, .map (some (w.heap.size + 1)), .slice (some ⟨w.heap.size + 1 + 1, 0, none⟩) S S, nilS] 167)
    simpa [IsF] using this
  · have := World.ownsRow_lit (base := w.heap.size) (e := 22) (size := 1) ((w.alloc bx).alloc (.map #[] 0)) MC S (by simp; omega) (by unfold maxLen; omega) hms
    rw [hM] at this
    have h2 := this.alloc (.cells #[.int .i64 S, .map (some (w.heap.size + 1)), .slice (some ⟨w.heap.size + 1 + 1, 0, none⟩) S S, nilS] 167)
    simpa using h2
  · have h0 := made (w.alloc bx)
    have e : (w.alloc bx).heap.size = w.heap.size + 1 := by simp
    rw [e] at h0
    have h1 := (h0.kept (heap_alloc_old _ (.cells MC 22) h0.lt))
    have h2 := (h1.kept (heap_alloc_old _ (.cells #[.int .i64 S, .map (some (w.heap.size + 1)), .slice (some ⟨w.heap.size + 1 + 1, 0, none⟩) S S, nilS] 167) h1.lt))
    obtain ⟨D, hD, hG⟩ := h2
    exact ⟨D, hD, fun i o hi ho => by rw [hG i o hi ho]; dsimp only; split <;> rfl⟩
  · exact ((((Below.refl _ w).alloc (Nat.le_refl _) _).alloc (by simp) _).alloc (by simp; omega) _).alloc (by simp; omega) _
theorem begunB (w : World) (bx : Obj) (S : Nat) (hS : S ≤ 40) (MC : Array Value) (hM : MC.toList = List.replicate S nilS) : Nf w ((((w.alloc bx).alloc (.cells MC 22)).alloc (.map #[] 0)).alloc (.cells #[.int .i64 S, .map (some (w.heap.size + 1 + 1)), .slice (some ⟨w.heap.size + 1, 0, none⟩) S S, nilS] 167)) (w.heap.size + 1 + 1 + 1) (w.heap.size + 1 + 1) (w.heap.size + 1) S 0 [] (fun _ => nilS) (List.replicate S nilS) := by
  have hms : MC.size = S * 1 := by rw [← Array.length_toList, hM]; simp
  refine ⟨?_, ?_, by simp, fun f hf => by simp [hf], ?_, fun _ => World.ownsRow_nil _ _ _ _, fun _ _ _ b hb => by simp [nilS, Value.ownBlock] at hb, ?_, ⟨by omega, by omega⟩, Nat.le_refl _⟩
  · have := heap_alloc_new (((w.alloc bx).alloc (.cells MC 22)).alloc (.map #[] 0)) (.cells #[.int .i64 S, .map (some (w.heap.size + 1 + 1)), .slice (some ⟨w.heap.size + 1, 0, none⟩) S S, nilS] 167)
    simpa [IsF] using this
  · have := World.ownsRow_lit (base := w.heap.size) (e := 22) (size := 1) (w.alloc bx) MC S (by simp) (by unfold maxLen; omega) hms
    rw [hM] at this
    have h2 := (this.alloc (.map #[] 0)).alloc (.cells #[.int .i64 S, .map (some (w.heap.size + 1 + 1)), .slice (some ⟨w.heap.size + 1, 0, none⟩) S S, nilS] 167)
    simpa using h2
  · have h0 := made ((w.alloc bx).alloc (.cells MC 22))
    have e : ((w.alloc bx).alloc (.cells MC 22)).heap.size = w.heap.size + 1 + 1 := by simp
    rw [e] at h0
    have h2 := (h0.kept (heap_alloc_old _ (.cells #[.int .i64 S, .map (some (w.heap.size + 1 + 1)), .slice (some ⟨w.heap.size + 1, 0, none⟩) S S, nilS] 167) h0.lt))
    obtain ⟨D, hD, hG⟩ := h2
    exact ⟨D, hD, fun i o hi ho => by rw [hG i o hi ho]; dsimp only; split <;> rfl⟩
  · exact ((((Below.refl _ w).alloc (Nat.le_refl _) _).alloc (by simp) _).alloc (by simp; omega) _).alloc (by simp; omega) _
/-- the field is made -/
theorem Nf.fld {w wr : World} {F mb sb S n : Nat} {L : List Arc} {V : Key → Value} {vs : List Value} (h : Nf w wr F mb sb S n L V vs) : Fld wr F wr.heap.size mb sb S n L (fun i o => if i = 0 ∧ o = 0 then nilS else V (i, o, 0)) := by
  have lies : ∀ k, Lies wr F wr.heap.size (V k) (ar L k) := fun k => by
    rcases (h.rows k).2 with ⟨hv, h0⟩ | ⟨g, cap, cur, hv, _, hg, _⟩
    · exact ⟨none, 0, by rw [hv, h0], .inl h0⟩
    · refine ⟨_, cap, hv, .inr ⟨g, rfl, (Array.getElem?_eq_some_iff.1 hg).1, fun e => ?_, fun j u hu => ?_⟩⟩
      · subst e; exact ty_ne hg h.field (by decide)
      · have hr := h.rows k
        rw [hv] at hr
        rw [hr.cellAt j (by have := (List.getElem?_eq_some_iff.1 hu).1; rw [acs_length] at this; exact this)]
        exact hu
  obtain ⟨es, clock, hmb⟩ := mp_ty h.mp
  obtain ⟨cs, hcs⟩ := own_ty h.heads (k := sb) rfl
  refine ⟨⟨(h.heads.lt sb rfl).2, fun e => ?_, Nat.le_refl _, fun f hf => ⟨V (0, 0, (f : Int)), ?_, ?_⟩⟩, h.mp.lt, fun e => ?_, h.mp, fun i o _ _ _ _ hio => ?_⟩
  · subst e; exact ty_ne hcs h.field (by decide)
  · rw [h.heads.cellAt f (by omega)]; exact h.head f hf
  · rw [← ar_sil]; exact lies _
  · subst e; have := h.field; unfold IsF at this; rw [hmb] at this; cases this
  · show Lies wr F wr.heap.size (if i = 0 ∧ o = 0 then nilS else V (i, o, 0)) (lab L i o)
    rw [if_neg hio, ← ar_lab L i o hio]
    exact lies _
end Go.Proofs.YtfjocafepigijaaDoor.Nm
