/- Tables of forms: how they lie in memory while they grow. No conditions. -/
import Derived.Test.YtkcbgapakpheiaaTk2
import Derived.Test.YtkcbgapakpheiaaRd
import Derived.Deep.AppendLies
namespace Go.Proofs.Ytkcbgapakpheiaa.Tb
open Go.RowKit Go.Shelf Sd Md Sc Aq Ls Lx Ly Lz Fo Mk Rf Tk Tk1 Rd Rf2 Fo2 Al2 Tk2

abbrev VF := Value × List Int
def vfc (p : VF) : List Value := [p.1]
def vfQ (w : World) (p : VF) : Prop := IsI w p.1 p.2
theorem vfQ_up (w w' : World) (p : VF) (hb : Below w.heap.size w w') (h : vfQ w p) : vfQ w' p := IsI.below h (Nat.le_refl _) hb
def IsV (w : World) (v : Value) (l : List VF) : Prop := IsR vfc 1 vfQ w v l
abbrev VT := Value × List VF
def vtc (p : VT) : List Value := [p.1]
def vtQ (w : World) (p : VT) : Prop := IsV w p.1 p.2
theorem vtQ_up (w w' : World) (p : VT) (hb : Below w.heap.size w w') (h : vtQ w p) : vtQ w' p := IsR.below vfQ_up h hb
def IsT (w : World) (v : Value) (l : List VT) : Prop := IsR vtc 1 vtQ w v l

theorem isI_kept {O O' : Nat → Prop} {A B : World} {v : Value} {l : List Int} (h : IsI A v l) (ha : l ≠ [] → Away O v) (hk : Kept O O' A B) : IsI B v l ∧ (l ≠ [] → Away O' v) := by
  rcases h.shape with ⟨a, cap, rfl, rfl⟩ | ⟨b, off, cap, rfl, hb, hn, hm, h0, hc⟩
  · exact ⟨⟨rfl, a, cap, rfl, Nat.zero_le _, Nat.zero_le _, (by obtain ⟨_, a', c', hv, _, _, hz, _⟩ := h; simp only [Value.slice.injEq] at hv; obtain ⟨rfl, _, rfl⟩ := hv; exact hz), .inl rfl⟩, fun h => absurd rfl h⟩
  · have hne : l ≠ [] := fun e => by rw [e] at h0; simp at h0
    have hO := ha hne b off none _ _ rfl
    obtain ⟨h1, h2⟩ := hk.block b hb hO
    refine ⟨?_, fun _ b' o s len cap' e => ?_⟩
    · obtain ⟨hl, a', c', hv, hn', hm', hz, hr⟩ := h
      refine ⟨hl, a', c', hv, hn', hm', hz, ?_⟩
      rcases hr with hr | ⟨b2, o2, ha2, hlt, hcell⟩
      · exact .inl hr
      · simp only [Value.slice.injEq] at hv
        rw [ha2] at hv
        simp only [Option.some.injEq, Addr.mk.injEq, and_true] at hv
        obtain ⟨⟨rfl, rfl⟩, _⟩ := hv
        refine .inr ⟨_, _, ha2, Nat.lt_of_lt_of_le hlt hk.size, fun j u hu => ?_⟩
        exact (World.cell?_of_block (a := ⟨b, off + j, none⟩) h2).trans (hcell j u hu)
    · simp only [Value.slice.injEq, Option.some.injEq, Addr.mk.injEq] at e
      obtain ⟨⟨rfl, _⟩, _⟩ := e
      exact h1

/-- the forms of one stem, in the order in which they came -/
def rowOf (pre : List El) (j : Nat) : List VF := (pre.filter (fun x => x.1.1 == j)).map (fun x => (x.2, x.1.2.2))
theorem rowOf_hit (pre : List El) (x : El) : rowOf (pre ++ [x]) x.1.1 = rowOf pre x.1.1 ++ [(x.2, x.1.2.2)] := by
  unfold rowOf
  rw [List.filter_append, List.map_append]
  simp
theorem rowOf_miss (pre : List El) (x : El) (j : Nat) (h : x.1.1 ≠ j) : rowOf (pre ++ [x]) j = rowOf pre j := by
  unfold rowOf
  rw [List.filter_append, List.map_append]
  simp [h]
theorem rowOf_forms (xs : List El) (j : Nat) : (rowOf xs j).map Prod.snd = ((xs.map Prod.fst).filter (fun x => x.1 == j)).map (fun x => x.2.2) := by
  unfold rowOf
  rw [List.map_map, List.filter_map, List.map_map]
  rfl

def Own (bt : Nat) (us : List Value) : Nat → Prop := fun q => q = bt ∨ ∃ u, u ∈ us ∧ u.ownBlock = some q
structure TI (n : Nat) (w : World) (nV b5 bt : Nat) (us : List Value) (pre : List El) (A : World) : Prop where
  box : Boxed A b5 36 (.slice (some ⟨bt, 0, none⟩) n n)
  out : A.ownsRow bt 64 1 (.slice (some ⟨bt, 0, none⟩) n n) n us
  rows : ∀ (j : Nat) (u : Value), us[j]? = some u → A.ownsRow (nV + 2) 27 1 u (rowOf pre j).length ((rowOf pre j).map Prod.fst)
  apart : ∀ (i j : Nat) (u v : Value) (q : Nat), us[i]? = some u → us[j]? = some v → u.ownBlock = some q → v.ownBlock = some q → i = j
  each : ∀ x, x ∈ pre → IsI A x.2 x.1.2.2 ∧ (x.1.2.2 ≠ [] → Away (Own bt us) x.2)
  bel : Below w.heap.size w A
def TInv (n : Nat) (w : World) (nV b5 bt : Nat) (pre : List El) (O : Nat → Prop) (A : World) : Prop := ∃ us, O = Own bt us ∧ TI n w nV b5 bt us pre A

theorem own_past' {l : Nat} {A B : World} (hp : Past l A B) {base e s n : Nat} {u : Value} {xs : List Value} (h : A.ownsRow base e s u n xs) (hl : u.ownBlock ≠ some l) : B.ownsRow base e s u n xs := by
  refine ⟨h.1, ?_⟩
  rcases h.2 with h' | ⟨g, cap, cur, hu, hb, hg, hrest⟩
  · exact .inl h'
  · subst hu
    exact .inr ⟨g, cap, cur, rfl, hb, (hp.block g (Array.getElem?_eq_some_iff.1 hg).1 (fun e => hl (by rw [← e]; rfl))).trans hg, hrest⟩
theorem TInv.past {n : Nat} {w : World} {nV b5 bt : Nat} {pre : List El} {O : Nat → Prop} {A B : World} (h : TInv n w nV b5 bt pre O A) (hr : IsRec (nV + 1) A) (hp : Past (nV + 1) A B) (h1 : b5 < nV) (h2 : bt < nV) (h3 : w.heap.size ≤ nV) : TInv n w nV b5 bt pre O B := by
  obtain ⟨us, hO, h⟩ := h
  refine ⟨us, hO, (hp.block _ h.box.lt (by omega)).trans h.box, own_past' hp h.out (by simp [Value.ownBlock]; omega), fun j u hu => own_past hp (h.rows j u hu) (by omega), h.apart, fun x hx => ⟨row_past hr hp (h.each x hx).1, (h.each x hx).2⟩, below_past hp h.bel h.bel.size (by omega)⟩

theorem row_def {l : Nat} {A B : World} {d : Option (List Deferred)} (hr : A.heap[l]? = some (.deferred d)) (hp : Past l A B) {v : Value} {s n : Nat} {xs : List Value} (h : Row A v s n xs) : Row B v s n xs := by
  obtain ⟨hl, a, cap, hv, hn, hm, hz, h⟩ := h
  refine ⟨hl, a, cap, hv, hn, hm, hz, ?_⟩
  rcases h with h | ⟨b, off, ha, hlt, hc⟩
  · exact .inl h
  · refine .inr ⟨b, off, ha, Nat.lt_of_lt_of_le hlt hp.size, fun j u hu => ?_⟩
    have h1 := hc j u hu
    refine (World.cell?_of_block (a := ⟨b, off + j, none⟩) (hp.block _ hlt ?_)).trans h1
    intro e
    dsimp only at e
    rw [← e] at hr
    simp [World.cell?, hr] at h1
theorem TI.ended {n : Nat} {w : World} {nV b5 bt : Nat} {us : List Value} {pre : List El} {A B : World} {d : Option (List Deferred)} (h : TI n w nV b5 bt us pre A) (hr : A.heap[nV]? = some (.deferred d)) (hp : Past nV A B) (h1 : b5 < nV) (h2 : bt < nV) (h3 : w.heap.size ≤ nV) : TI n w nV b5 bt us pre B :=
  ⟨(hp.block _ h.box.lt (by omega)).trans h.box, own_past' hp h.out (by simp [Value.ownBlock]; omega), fun j u hu => own_past hp (h.rows j u hu) (by omega), h.apart, fun x hx => ⟨row_def hr hp (h.each x hx).1, (h.each x hx).2⟩, below_past hp h.bel h.bel.size (by omega)⟩
theorem own_below {w w' : World} {base e s n : Nat} {v : Value} {xs : List Value} (h : w.ownsRow base e s v n xs) (hb : Below w.heap.size w w') : w'.ownsRow base e s v n xs :=
  h.kept ⟨hb.os, hb.tape, hb.output, hb.size, fun q hq _ => hb.block q hq⟩ (row := none) (by rcases h.2 with ⟨rfl, _⟩ | ⟨g, cap, cur, rfl, _⟩ <;> simp [Value.ownBlock])
theorem mem_set {us : List Value} {i : Nat} {v u : Value} (h : u ∈ us.set i v) : u = v ∨ u ∈ us := by
  rcases List.mem_or_eq_of_mem_set h with h | h
  · exact .inr h
  · exact .inl h

/-- how a round ends -/
theorem tend {n : Nat} {w : World} {nV b5 bt : Nat} {us : List Value} (pre : List El) (x : El) {A w7 : World} {u : Value} {g cap : Nat} (h : TI n w nV b5 bt us pre A) (h1 : b5 < nV) (h2 : bt < nV) (h3 : w.heap.size ≤ bt) (_ : nV + 2 ≤ A.heap.size) (hb5 : b5 ≠ bt)
    (hu : us[x.1.1]? = some u) (hI : IsI A x.2 x.1.2.2) (haw : Away (fun k => Own bt us k ∨ k = nV + 1) x.2)
    (hown : w7.ownsRow (nV + 2) 27 1 (.slice (some ⟨g, 0, none⟩) ((rowOf pre x.1.1).length + 1) cap) ((rowOf pre x.1.1).length + 1) ((rowOf pre x.1.1).map Prod.fst ++ [x.2]))
    (hgrow : (A.drew.alloc (.cells #[x.2] 27)).grownBy w7 u.ownBlock) (hat : u.ownBlock = some g ∨ g = A.heap.size + 1) :
    ∃ O', Kept (Own bt us) O' A (w7.setCell ⟨bt, x.1.1, none⟩ (.slice (some ⟨g, 0, none⟩) ((rowOf pre x.1.1).length + 1) cap)) ∧ TInv n w nV b5 bt (pre ++ [x]) O' (w7.setCell ⟨bt, x.1.1, none⟩ (.slice (some ⟨g, 0, none⟩) ((rowOf pre x.1.1).length + 1) cap)) := by
  obtain ⟨v', hv'⟩ : ∃ v', Value.slice (some ⟨g, 0, none⟩) ((rowOf pre x.1.1).length + 1) cap = v' := ⟨_, rfl⟩
  have hvo : v'.ownBlock = some g := by rw [← hv']; rfl
  have hum : u ∈ us := List.mem_of_getElem? hu
  have hrow := h.rows _ _ hu
  have s0 : (A.drew.alloc (.cells #[x.2] 27)).heap.size = A.heap.size + 1 := by simp
  have bA : Below A.heap.size A (A.drew.alloc (.cells #[x.2] 27)) := (Below.refl _ _).drew.alloc (Nat.le_refl _) _
  have s7 := hgrow.size
  have hge : ∀ (k : Nat) (z : Value) q, us[k]? = some z → z.ownBlock = some q → nV + 2 ≤ q ∧ q < A.heap.size := fun k z q hz hq => own_ge (h.rows k z hz) hq
  have hbt : bt < A.heap.size := by
    rcases h.out.2 with ⟨e, _⟩ | ⟨g', cap', cur, e, _, hg', _⟩
    · cases e
    · simp only [Value.slice.injEq, Option.some.injEq, Addr.mk.injEq] at e
      obtain ⟨⟨rfl, _⟩, _⟩ := e
      exact (Array.getElem?_eq_some_iff.1 hg').1
  have o7 : w7.ownsRow bt 64 1 (.slice (some ⟨bt, 0, none⟩) n n) n us :=
    (own_below h.out bA).kept hgrow (by
      right
      intro e
      obtain ⟨q, hq⟩ : ∃ q, u.ownBlock = some q := ⟨bt, by rw [← e]; rfl⟩
      have := hge _ _ _ hu hq
      rw [hq] at e
      simp only [Value.ownBlock, Option.some.injEq] at e
      omega)
  have hlen : us.length = n := by have := h.out.1; omega
  have hi : x.1.1 < us.length := (List.getElem?_eq_some_iff.1 hu).1
  rw [hv'] at hown ⊢
  obtain ⟨oF, gF⟩ := o7.stored x.1.1 v'
  have sF := gF.size
  have blk : ∀ q, q < A.heap.size → ¬ Own bt us q → (w7.setCell ⟨bt, x.1.1, none⟩ v').heap[q]? = A.heap[q]? := by
    intro q hq hno
    have n1 : q ≠ bt := fun e => hno (.inl e)
    have n2 : u.ownBlock ≠ some q := fun e => hno (.inr ⟨u, hum, e⟩)
    exact (gF.block q (by omega) (fun e => n1 (by cases e; rfl))).trans ((hgrow.block q (by omega) (fun e => n2 e.symm)).trans (bA.block q hq))
  have K : Kept (Own bt us) (Own bt (us.set x.1.1 v')) A (w7.setCell ⟨bt, x.1.1, none⟩ v') := by
    refine ⟨gF.os.trans (hgrow.os.trans bA.os), gF.tape.trans (hgrow.tape.trans bA.tape), gF.output.trans (hgrow.output.trans bA.output), by omega, fun q hq hno => ⟨?_, blk q hq hno⟩⟩
    rintro (e | ⟨z, hz, hzq⟩)
    · exact hno (.inl e)
    · rcases mem_set hz with rfl | hz
      · rw [hvo] at hzq
        simp only [Option.some.injEq] at hzq
        rcases hat with hat | hat
        · exact hno (.inr ⟨u, hum, by rw [hat, hzq]⟩)
        · omega
      · exact hno (.inr ⟨z, hz, hzq⟩)
  have nbt : ∀ (k : Nat) (z : Value), us[k]? = some z → z.ownBlock ≠ some bt := fun k z hz e => by have := hge k z _ hz e; omega
  have gbt : g ≠ bt := by
    rcases hat with hat | hat
    · have := hge _ _ _ hu hat; omega
    · omega
  have hb5F : Boxed (w7.setCell ⟨bt, x.1.1, none⟩ v') b5 36 (.slice (some ⟨bt, 0, none⟩) n n) :=
    (blk b5 h.box.lt (by
      rintro (e | ⟨z, hz, hzq⟩)
      · exact hb5 e
      · obtain ⟨k, hk⟩ := List.mem_iff_getElem?.1 hz
        have := hge k z _ hk hzq
        omega)).trans h.box
  refine ⟨_, K, us.set x.1.1 v', rfl, hb5F, oF, ?_, ?_, ?_, ?_⟩
  · intro j z hz
    by_cases hj : x.1.1 = j
    · subst hj
      rw [List.getElem?_set_self hi] at hz
      simp only [Option.some.injEq] at hz
      subst hz
      rw [rowOf_hit, List.length_append, List.map_append]
      exact ownsRow_setCell_other hown (by rw [hvo]; simpa using gbt) v'
    · rw [List.getElem?_set_ne hj] at hz
      rw [rowOf_miss _ _ _ hj]
      refine ownsRow_setCell_other (((own_below (h.rows j z hz) bA)).kept hgrow ?_) (nbt j z hz) v'
      cases hzo : z.ownBlock with
      | none => exact .inl rfl
      | some q => exact .inr (fun e => hj (h.apart _ _ _ _ q hu hz e.symm hzo))
  · intro i j z1 z2 q h1' h2' q1 q2
    by_cases e1 : x.1.1 = i
    · by_cases e2 : x.1.1 = j
      · omega
      · subst e1
        rw [List.getElem?_set_self hi] at h1'
        simp only [Option.some.injEq] at h1'
        subst h1'
        rw [List.getElem?_set_ne e2] at h2'
        rw [hvo] at q1
        simp only [Option.some.injEq] at q1
        subst q1
        rcases hat with hat | hat
        · exact h.apart _ _ _ _ _ hu h2' hat q2
        · have := hge _ _ _ h2' q2; omega
    · rw [List.getElem?_set_ne e1] at h1'
      by_cases e2 : x.1.1 = j
      · subst e2
        rw [List.getElem?_set_self hi] at h2'
        simp only [Option.some.injEq] at h2'
        subst h2'
        rw [hvo] at q2
        simp only [Option.some.injEq] at q2
        subst q2
        rcases hat with hat | hat
        · exact (h.apart _ _ _ _ _ hu h1' hat q1).symm
        · have := hge _ _ _ h1' q1; omega
      · rw [List.getElem?_set_ne e2] at h2'
        exact h.apart _ _ _ _ _ h1' h2' q1 q2
  · intro z hz
    rcases List.mem_append.1 hz with hz | hz
    · exact isI_kept (h.each z hz).1 (h.each z hz).2 K
    · simp only [List.mem_singleton] at hz
      subst hz
      exact isI_kept hI (fun _ b o s len cap' e ho => haw b o s len cap' e (.inl ho)) K
  · exact K.below h.bel h.bel.size (fun q hq ho => by
      rcases ho with e | ⟨z, hz, hzq⟩
      · omega
      · obtain ⟨k, hk⟩ := List.mem_iff_getElem?.1 hz
        have := hge k z _ hk hzq
        omega)
end Go.Proofs.Ytkcbgapakpheiaa.Tb
