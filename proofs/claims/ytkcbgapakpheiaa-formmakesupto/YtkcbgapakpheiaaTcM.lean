/- Tables of forms: how they lie in memory while they grow. No conditions. -/
import Derived.Test.YtkcbgapakpheiaaTk2
import Derived.Test.YtkcbgapakpheiaaRd
import Derived.Deep.AppendLies
import Derived.Test.YtkcbgapakpheiaaRsM
import Derived.Test.YtkcbgapakpheiaaFgM
namespace Go.Proofs.Ytkcbgapakpheiaa.Tb
open Go.RowKit Go.Shelf Sd Md Sc Aq Ls Lx Ly Lz Fo Mk Rf Tk Tk1 Rd Rf2 Fo2 Al2 Tk2

abbrev VF := Value × List Int
def vfc (p : VF) : List Value := [p.1]
def vfQ (w : World) (p : VF) : Prop := IsI w p.1 p.2
theorem vfQ_up (w w' : World) (p : VF) (hb : Below w.heap.size w w') (h : vfQ w p) : vfQ w' p := IsI.below h (Nat.le_refl _) hb
def IsV (w : World) (v : Value) (l : List VF) : Prop := IsR vfc 1 vfQ w v l
abbrev VT := Value × List VF
def vtc (p : VT) : List Value := [p.1]
def vtQ (w : World) (p : VT) : Prop := IsV w p.1 p.2
theorem vtQ_up (w w' : World) (p : VT) (hb : Below w.heap.size w w') (h : vtQ w p) : vtQ w' p := IsR.below vfQ_up h hb
def IsT (w : World) (v : Value) (l : List VT) : Prop := IsR vtc 1 vtQ w v l

theorem isI_kept {O O' : Nat → Prop} {A B : World} {v : Value} {l : List Int} (h : IsI A v l) (ha : l ≠ [] → Away O v) (hk : Kept O O' A B) : IsI B v l ∧ (l ≠ [] → Away O' v) := by
  rcases h.shape with ⟨a, cap, rfl, rfl⟩ | ⟨b, off, cap, rfl, hb, hn, hm, h0, hc⟩
  · exact ⟨⟨rfl, a, cap, rfl, Nat.zero_le _, Nat.zero_le _, (by obtain ⟨_, a', c', hv, _, _, hz, _⟩ := h; simp only [Value.slice.injEq] at hv; obtain ⟨rfl, _, rfl⟩ := hv; exact hz), .inl rfl⟩, fun h => absurd rfl h⟩
  · have hne : l ≠ [] := fun e => by rw [e] at h0; simp at h0
    have hO := ha hne b off none _ _ rfl
    obtain ⟨h1, h2⟩ := hk.block b hb hO
    refine ⟨?_, fun _ b' o s len cap' e => ?_⟩
    · obtain ⟨hl, a', c', hv, hn', hm', hz, hr⟩ := h
      refine ⟨hl, a', c', hv, hn', hm', hz, ?_⟩
      rcases hr with hr | ⟨b2, o2, ha2, hlt, hcell⟩
      · exact .inl hr
      · simp only [Value.slice.injEq] at hv
        rw [ha2] at hv
        simp only [Option.some.injEq, Addr.mk.injEq, and_true] at hv
        obtain ⟨⟨rfl, rfl⟩, _⟩ := hv
        refine .inr ⟨_, _, ha2, Nat.lt_of_lt_of_le hlt hk.size, fun j u hu => ?_⟩
        exact (World.cell?_of_block (a := ⟨b, off + j, none⟩) h2).trans (hcell j u hu)
    · simp only [Value.slice.injEq, Option.some.injEq, Addr.mk.injEq] at e
      obtain ⟨⟨rfl, _⟩, _⟩ := e
      exact h1

/-- the forms of one stem, in the order in which they came -/
def rowOf (pre : List El) (j : Nat) : List VF := (pre.filter (fun x => x.1.1 == j)).map (fun x => (x.2, x.1.2.2))
theorem rowOf_hit (pre : List El) (x : El) : rowOf (pre ++ [x]) x.1.1 = rowOf pre x.1.1 ++ [(x.2, x.1.2.2)] := by
  unfold rowOf
  rw [List.filter_append, List.map_append]
  simp
theorem rowOf_miss (pre : List El) (x : El) (j : Nat) (h : x.1.1 ≠ j) : rowOf (pre ++ [x]) j = rowOf pre j := by
  unfold rowOf
  rw [List.filter_append, List.map_append]
  simp [h]
theorem rowOf_forms (xs : List El) (j : Nat) : (rowOf xs j).map Prod.snd = ((xs.map Prod.fst).filter (fun x => x.1 == j)).map (fun x => x.2.2) := by
  unfold rowOf
  rw [List.map_map, List.filter_map, List.map_map]
  rfl

def Own (bt : Nat) (us : List Value) : Nat → Prop := fun q => q = bt ∨ ∃ u, u ∈ us ∧ u.ownBlock = some q
structure TI (n : Nat) (w : World) (nV b5 bt : Nat) (us : List Value) (pre : List El) (A : World) : Prop where
  box : Boxed A b5 36 (.slice (some ⟨bt, 0, none⟩) n n)
  out : A.ownsRow bt 64 1 (.slice (some ⟨bt, 0, none⟩) n n) n us
  rows : ∀ (j : Nat) (u : Value), us[j]? = some u → A.ownsRow (nV + 2) 27 1 u (rowOf pre j).length ((rowOf pre j).map Prod.fst)
  apart : ∀ (i j : Nat) (u v : Value) (q : Nat), us[i]? = some u → us[j]? = some v → u.ownBlock = some q → v.ownBlock = some q → i = j
  each : ∀ x, x ∈ pre → IsI A x.2 x.1.2.2 ∧ (x.1.2.2 ≠ [] → Away (Own bt us) x.2)
  bel : Below w.heap.size w A
def TInv (n : Nat) (w : World) (nV b5 bt : Nat) (pre : List El) (O : Nat → Prop) (A : World) : Prop := ∃ us, O = Own bt us ∧ TI n w nV b5 bt us pre A

theorem own_past' {l : Nat} {A B : World} (hp : Past l A B) {base e s n : Nat} {u : Value} {xs : List Value} (h : A.ownsRow base e s u n xs) (hl : u.ownBlock ≠ some l) : B.ownsRow base e s u n xs := by
  refine ⟨h.1, ?_⟩
  rcases h.2 with h' | ⟨g, cap, cur, hu, hb, hg, hrest⟩
  · exact .inl h'
  · subst hu
    exact .inr ⟨g, cap, cur, rfl, hb, (hp.block g (Array.getElem?_eq_some_iff.1 hg).1 (fun e => hl (by rw [← e]; rfl))).trans hg, hrest⟩
theorem TInv.past {n : Nat} {w : World} {nV b5 bt : Nat} {pre : List El} {O : Nat → Prop} {A B : World} (h : TInv n w nV b5 bt pre O A) (hr : IsRec (nV + 1) A) (hp : Past (nV + 1) A B) (h1 : b5 < nV) (h2 : bt < nV) (h3 : w.heap.size ≤ nV) : TInv n w nV b5 bt pre O B := by
  obtain ⟨us, hO, h⟩ := h
  refine ⟨us, hO, (hp.block _ h.box.lt (by omega)).trans h.box, own_past' hp h.out (by simp [Value.ownBlock]; omega), fun j u hu => own_past hp (h.rows j u hu) (by omega), h.apart, fun x hx => ⟨row_past hr hp (h.each x hx).1, (h.each x hx).2⟩, below_past hp h.bel h.bel.size (by omega)⟩

theorem row_def {l : Nat} {A B : World} {d : Option (List Deferred)} (hr : A.heap[l]? = some (.deferred d)) (hp : Past l A B) {v : Value} {s n : Nat} {xs : List Value} (h : Row A v s n xs) : Row B v s n xs := by
  obtain ⟨hl, a, cap, hv, hn, hm, hz, h⟩ := h
  refine ⟨hl, a, cap, hv, hn, hm, hz, ?_⟩
  rcases h with h | ⟨b, off, ha, hlt, hc⟩
  · exact .inl h
  · refine .inr ⟨b, off, ha, Nat.lt_of_lt_of_le hlt hp.size, fun j u hu => ?_⟩
    have h1 := hc j u hu
    refine (World.cell?_of_block (a := ⟨b, off + j, none⟩) (hp.block _ hlt ?_)).trans h1
    intro e
    dsimp only at e
    rw [← e] at hr
    simp [World.cell?, hr] at h1
theorem TI.ended {n : Nat} {w : World} {nV b5 bt : Nat} {us : List Value} {pre : List El} {A B : World} {d : Option (List Deferred)} (h : TI n w nV b5 bt us pre A) (hr : A.heap[nV]? = some (.deferred d)) (hp : Past nV A B) (h1 : b5 < nV) (h2 : bt < nV) (h3 : w.heap.size ≤ nV) : TI n w nV b5 bt us pre B :=
  ⟨(hp.block _ h.box.lt (by omega)).trans h.box, own_past' hp h.out (by simp [Value.ownBlock]; omega), fun j u hu => own_past hp (h.rows j u hu) (by omega), h.apart, fun x hx => ⟨row_def hr hp (h.each x hx).1, (h.each x hx).2⟩, below_past hp h.bel h.bel.size (by omega)⟩
theorem own_below {w w' : World} {base e s n : Nat} {v : Value} {xs : List Value} (h : w.ownsRow base e s v n xs) (hb : Below w.heap.size w w') : w'.ownsRow base e s v n xs :=
  h.kept ⟨hb.os, hb.tape, hb.output, hb.size, fun q hq _ => hb.block q hq⟩ (row := none) (by rcases h.2 with ⟨rfl, _⟩ | ⟨g, cap, cur, rfl, _⟩ <;> simp [Value.ownBlock])
theorem mem_set {us : List Value} {i : Nat} {v u : Value} (h : u ∈ us.set i v) : u = v ∨ u ∈ us := by
  rcases List.mem_or_eq_of_mem_set h with h | h
  · exact .inr h
  · exact .inl h

/-- how a round ends -/
theorem tend {n : Nat} {w : World} {nV b5 bt : Nat} {us : List Value} (pre : List El) (x : El) {A w7 : World} {u : Value} {g cap : Nat} (h : TI n w nV b5 bt us pre A) (h1 : b5 < nV) (h2 : bt < nV) (h3 : w.heap.size ≤ bt) (_ : nV + 2 ≤ A.heap.size) (hb5 : b5 ≠ bt)
    (hu : us[x.1.1]? = some u) (hI : IsI A x.2 x.1.2.2) (haw : Away (fun k => Own bt us k ∨ k = nV + 1) x.2)
    (hown : w7.ownsRow (nV + 2) 27 1 (.slice (some ⟨g, 0, none⟩) ((rowOf pre x.1.1).length + 1) cap) ((rowOf pre x.1.1).length + 1) ((rowOf pre x.1.1).map Prod.fst ++ [x.2]))
    (hgrow : (A.drew.alloc (.cells #[x.2] 27)).grownBy w7 u.ownBlock) (hat : u.ownBlock = some g ∨ g = A.heap.size + 1) :
    ∃ O', Kept (Own bt us) O' A (w7.setCell ⟨bt, x.1.1, none⟩ (.slice (some ⟨g, 0, none⟩) ((rowOf pre x.1.1).length + 1) cap)) ∧ TInv n w nV b5 bt (pre ++ [x]) O' (w7.setCell ⟨bt, x.1.1, none⟩ (.slice (some ⟨g, 0, none⟩) ((rowOf pre x.1.1).length + 1) cap)) := by
  obtain ⟨v', hv'⟩ : ∃ v', Value.slice (some ⟨g, 0, none⟩) ((rowOf pre x.1.1).length + 1) cap = v' := ⟨_, rfl⟩
  have hvo : v'.ownBlock = some g := by rw [← hv']; rfl
  have hum : u ∈ us := List.mem_of_getElem? hu
  have hrow := h.rows _ _ hu
  have s0 : (A.drew.alloc (.cells #[x.2] 27)).heap.size = A.heap.size + 1 := by simp
  have bA : Below A.heap.size A (A.drew.alloc (.cells #[x.2] 27)) := (Below.refl _ _).drew.alloc (Nat.le_refl _) _
  have s7 := hgrow.size
  have hge : ∀ (k : Nat) (z : Value) q, us[k]? = some z → z.ownBlock = some q → nV + 2 ≤ q ∧ q < A.heap.size := fun k z q hz hq => own_ge (h.rows k z hz) hq
  have hbt : bt < A.heap.size := by
    rcases h.out.2 with ⟨e, _⟩ | ⟨g', cap', cur, e, _, hg', _⟩
    · cases e
    · simp only [Value.slice.injEq, Option.some.injEq, Addr.mk.injEq] at e
      obtain ⟨⟨rfl, _⟩, _⟩ := e
      exact (Array.getElem?_eq_some_iff.1 hg').1
  have o7 : w7.ownsRow bt 64 1 (.slice (some ⟨bt, 0, none⟩) n n) n us :=
    (own_below h.out bA).kept hgrow (by
      right
      intro e
      obtain ⟨q, hq⟩ : ∃ q, u.ownBlock = some q := ⟨bt, by rw [← e]; rfl⟩
      have := hge _ _ _ hu hq
      rw [hq] at e
      simp only [Value.ownBlock, Option.some.injEq] at e
      omega)
  have hlen : us.length = n := by have := h.out.1; omega
  have hi : x.1.1 < us.length := (List.getElem?_eq_some_iff.1 hu).1
  rw [hv'] at hown ⊢
  obtain ⟨oF, gF⟩ := o7.stored x.1.1 v'
  have sF := gF.size
  have blk : ∀ q, q < A.heap.size → ¬ Own bt us q → (w7.setCell ⟨bt, x.1.1, none⟩ v').heap[q]? = A.heap[q]? := by
    intro q hq hno
    have n1 : q ≠ bt := fun e => hno (.inl e)
    have n2 : u.ownBlock ≠ some q := fun e => hno (.inr ⟨u, hum, e⟩)
    exact (gF.block q (by omega) (fun e => n1 (by cases e; rfl))).trans ((hgrow.block q (by omega) (fun e => n2 e.symm)).trans (bA.block q hq))
  have K : Kept (Own bt us) (Own bt (us.set x.1.1 v')) A (w7.setCell ⟨bt, x.1.1, none⟩ v') := by
    refine ⟨gF.os.trans (hgrow.os.trans bA.os), gF.tape.trans (hgrow.tape.trans bA.tape), gF.output.trans (hgrow.output.trans bA.output), by omega, fun q hq hno => ⟨?_, blk q hq hno⟩⟩
    rintro (e | ⟨z, hz, hzq⟩)
    · exact hno (.inl e)
    · rcases mem_set hz with rfl | hz
      · rw [hvo] at hzq
        simp only [Option.some.injEq] at hzq
        rcases hat with hat | hat
        · exact hno (.inr ⟨u, hum, by rw [hat, hzq]⟩)
        · omega
      · exact hno (.inr ⟨z, hz, hzq⟩)
  have nbt : ∀ (k : Nat) (z : Value), us[k]? = some z → z.ownBlock ≠ some bt := fun k z hz e => by have := hge k z _ hz e; omega
  have gbt : g ≠ bt := by
    rcases hat with hat | hat
    · have := hge _ _ _ hu hat; omega
    · omega
  have hb5F : Boxed (w7.setCell ⟨bt, x.1.1, none⟩ v') b5 36 (.slice (some ⟨bt, 0, none⟩) n n) :=
    (blk b5 h.box.lt (by
      rintro (e | ⟨z, hz, hzq⟩)
      · exact hb5 e
      · obtain ⟨k, hk⟩ := List.mem_iff_getElem?.1 hz
        have := hge k z _ hk hzq
        omega)).trans h.box
  refine ⟨_, K, us.set x.1.1 v', rfl, hb5F, oF, ?_, ?_, ?_, ?_⟩
  · intro j z hz
    by_cases hj : x.1.1 = j
    · subst hj
      rw [List.getElem?_set_self hi] at hz
      simp only [Option.some.injEq] at hz
      subst hz
      rw [rowOf_hit, List.length_append, List.map_append]
      exact ownsRow_setCell_other hown (by rw [hvo]; simpa using gbt) v'
    · rw [List.getElem?_set_ne hj] at hz
      rw [rowOf_miss _ _ _ hj]
      refine ownsRow_setCell_other (((own_below (h.rows j z hz) bA)).kept hgrow ?_) (nbt j z hz) v'
      cases hzo : z.ownBlock with
      | none => exact .inl rfl
      | some q => exact .inr (fun e => hj (h.apart _ _ _ _ q hu hz e.symm hzo))
  · intro i j z1 z2 q h1' h2' q1 q2
    by_cases e1 : x.1.1 = i
    · by_cases e2 : x.1.1 = j
      · omega
      · subst e1
        rw [List.getElem?_set_self hi] at h1'
        simp only [Option.some.injEq] at h1'
        subst h1'
        rw [List.getElem?_set_ne e2] at h2'
        rw [hvo] at q1
        simp only [Option.some.injEq] at q1
        subst q1
        rcases hat with hat | hat
        · exact h.apart _ _ _ _ _ hu h2' hat q2
        · have := hge _ _ _ h2' q2; omega
    · rw [List.getElem?_set_ne e1] at h1'
      by_cases e2 : x.1.1 = j
      · subst e2
        rw [List.getElem?_set_self hi] at h2'
        simp only [Option.some.injEq] at h2'
        subst h2'
        rw [hvo] at q2
        simp only [Option.some.injEq] at q2
        subst q2
        rcases hat with hat | hat
        · exact (h.apart _ _ _ _ _ hu h1' hat q1).symm
        · have := hge _ _ _ h1' q1; omega
      · rw [List.getElem?_set_ne e2] at h2'
        exact h.apart _ _ _ _ _ h1' h2' q1 q2
  · intro z hz
    rcases List.mem_append.1 hz with hz | hz
    · exact isI_kept (h.each z hz).1 (h.each z hz).2 K
    · simp only [List.mem_singleton] at hz
      subst hz
      exact isI_kept hI (fun _ b o s len cap' e ho => haw b o s len cap' e (.inl ho)) K
  · exact K.below h.bel h.bel.size (fun q hq ho => by
      rcases ho with e | ⟨z, hz, hzq⟩
      · omega
      · obtain ⟨k, hk⟩ := List.mem_iff_getElem?.1 hz
        have := hge k z _ hk hzq
        omega)
end Go.Proofs.Ytkcbgapakpheiaa.Tb
/- The program's Table. No conditions beyond how the lexicon lies. -/
namespace Go.Proofs.Ytkcbgapakpheiaa.Tc
open Go.RowKit Go.Shelf Sd Md Sc Aq Ls Lx Ly Lz Fo Mk Rf Tk Tk1 Rd Rf2 Fo2 Al2 Tk2 Tb Ri
attribute [local go_sem] Oper.semAt_some

theorem info64 : (Try.prog.info? 64).map (fun i => (i.zero, i.size, i.bytes)) = some (some (.slice none 0 0), 1, 24) := by kernel_rfl
theorem info27 : (Try.prog.info? 27).map (fun i => (i.zero, i.size, i.bytes)) = some (some (.slice none 0 0), 1, 24) := by kernel_rfl

/-- what a table must be -/
def Tabled (y : VX) (T : List VT) : Prop := T.length = y.sts.length ∧ ∀ (j : Nat) (p : VT), T[j]? = some p → p.2.map Prod.snd = ((toldX y).filter (fun x => x.1 == j)).map (fun x => x.2.2)
theorem table_end {n : Nat} {w : World} {nV b5 bt : Nat} {us : List Value} {xs : List El} {A : World} (h : TI n w nV b5 bt us xs A) (hn : n ≤ 1000) (hx : xs.length ≤ 1000) : ∃ T : List VT, IsT A (.slice (some ⟨bt, 0, none⟩) n n) T ∧ T.length = n ∧ ∀ (j : Nat) (p : VT), T[j]? = some p → p.2.map Prod.snd = ((xs.map Prod.fst).filter (fun x => x.1 == j)).map (fun x => x.2.2) := by
  have hlen : us.length = n := by have := h.out.1; omega
  have hro : ∀ j, (rowOf xs j).length ≤ 1000 := fun j => by
    unfold rowOf
    rw [List.length_map]
    exact Nat.le_trans (List.length_filter_le _ _) hx
  refine ⟨us.mapIdx (fun j u => (u, rowOf xs j)), ⟨?_, ?_⟩, by simp [hlen], ?_⟩
  · have e1 : (us.mapIdx (fun j u => ((u, rowOf xs j) : VT))).length = n := by simp [hlen]
    have e2 : (us.mapIdx (fun j u => ((u, rowOf xs j) : VT))).flatMap vtc = us := by
      apply List.ext_getElem?
      intro j
      have : ∀ l : List VT, l.flatMap vtc = l.map Prod.fst := by
        intro l
        induction l with
        | nil => rfl
        | cons a l ih => rw [List.flatMap_cons, ih]; rfl
      rw [this, List.getElem?_map, List.getElem?_mapIdx]
      cases us[j]? <;> rfl
    rw [e1, e2]
    exact row_of_own h.out (by omega)
  · intro p hp
    obtain ⟨j, hj⟩ := List.mem_iff_getElem?.1 hp
    rw [List.getElem?_mapIdx] at hj
    cases hu : us[j]? with
    | none => rw [hu] at hj; cases hj
    | some u =>
      rw [hu] at hj
      simp only [Option.map_some, Option.some.injEq] at hj
      subst hj
      refine ⟨?_, ?_⟩
      · have : ∀ l : List VF, l.flatMap vfc = l.map Prod.fst := by
          intro l
          induction l with
          | nil => rfl
          | cons a l ih => rw [List.flatMap_cons, ih]; rfl
        dsimp only
        rw [this]
        exact row_of_own (h.rows j u hu) (by have := hro j; omega)
      · intro q hq
        dsimp only at hq
        unfold rowOf at hq
        obtain ⟨x, hx', rfl⟩ := List.mem_map.1 hq
        exact (h.each x (List.mem_filter.1 hx').1).1
  · intro j p hp
    rw [List.getElem?_mapIdx] at hp
    cases hu : us[j]? with
    | none => rw [hu] at hp; cases hp
    | some u =>
      rw [hu] at hp
      simp only [Option.map_some, Option.some.injEq] at hp
      subst hp
      exact rowOf_forms xs j

theorem row_ne {A : World} {base e s n b t : Nat} {u : Value} {xs : List Value} {cs : Array Value} {fz : Nat × Nat} (h : A.ownsRow base e s u n xs) (hb : A.heap[b]? = some (.cells cs t fz)) (hne : t ≠ e) : u.ownBlock ≠ some b := by
  rcases h.2 with ⟨rfl, _⟩ | ⟨g, cap, cur, rfl, _, hg, _⟩
  · simp [Value.ownBlock]
  · intro e'
    simp only [Value.ownBlock, Option.some.injEq] at e'
    subst e'
    rw [hb] at hg
    simp only [Option.some.injEq, Obj.cells.injEq] at hg
    exact hne hg.2.1

set_option maxHeartbeats 4000000 in
set_option maxRecDepth 100000 in
theorem table_any (y : VX) (w : World) (h : IsX w y) :
    Calls Try.prog 12 #[y.val] w fun e w' => ∃ v T, e = .returned (.tuple #[v, .int .i64 (checkX y.lex)]) ∧ IsT w' v T ∧ (checkX y.lex = 0 → Tabled y T) ∧ (checkX y.lex ≠ 0 → T = []) ∧ Below w.heap.size w w' := by
  have hb1 : ∀ o, Below w.heap.size w (w.alloc o) := fun o => (Below.refl _ _).alloc (Nat.le_refl _) _
  have c10 := fun o => Xb.check_any y (w.alloc o) (h.below (hb1 o))
  by_cases hck : checkX y.lex = 0
  · have hlens := lens_of hck
    have hT : (toldX y).length ≤ 800 := Nat.le_trans (toldX_len y) (Nat.mul_le_mul (many_of hck).1 (many_of hck).2)
    have hn40 := (many_of hck).1
    rw [hck] at c10 ⊢
    have HY : Hid (∀ T, (T.length = y.sts.length ∧ ∀ (j : Nat) (p : VT), T[j]? = some p → p.2.map Prod.snd = ((toldX y).filter (fun x => x.1 == j)).map (fun x => x.2.2)) → ((0 : Int) = 0 → Tabled y T) ∧ ((0 : Int) ≠ 0 → T = [])) := fun T hT => ⟨fun _ => hT, fun e => absurd rfl e⟩
    clear hck
    have c24 := fun W => callsIn_wide.1 (told_any y W)
    obtain ⟨k, vs, vc, vh, sts, ces, xs⟩ := y
    have hS := h.s
    dsimp only at hS hn40 HY
    obtain ⟨aS, cs, hv, _, hmS⟩ := IsR.len hS
    subst hv
    simp only [VX.val] at c10 c24 ⊢
    obtain ⟨i64, hi64, hz640, hz641, hz642⟩ := info_parts info64
    have bx0 := Bx4.new w k (.slice aS sts.length cs) vc vh
    refine (callsIn_wide (n := 5)).1 ?_
    refine callsIn_of_wp_marks Try.func12 rfl trivial (wpIn_wide.2 ?_) rfl
    simp only [Try.ntmps12, List.size_toArray, List.length_cons, List.length_nil, Nat.reduceAdd, Nat.reduceSub, Array.replicate_succ, Array.replicate_zero, List.push_toArray, List.append_toArray, List.nil_append, List.cons_append]
    go_wp2_with (first
      | (go_at_call 10; refine (c10 _).mono ?_; rintro e w1 ⟨rfl, hb⟩; have x1 := bx0.below hb; have p1 := x1.g1; have B1 := (hb1 _).trans (hb.mono (hb1 _).size))
      | (at_make; refine wpList_make_full _ rfl _ _ 36 rfl w1.heap.size 64 i64 (.slice none 0 0) 1 Try.underlying36 hi64 hz640 hz641 .i64 .i64 _ _ sts.length rfl rfl rfl rfl (by rw [hz642]; omega) (by unfold maxLen; omega) (Nat.le_refl _) ?_; intro w2 hown2 hgrow2; have hb2 : Below w1.heap.size w1 w2 := (Below.refl _ w1).grown hgrow2 (Nat.le_refl _) (by simp); have x2 := x1.below hb2; have q0 := fun o => (x2.below (al w2 o)).g0; have q1 := fun o => (x2.below (al w2 o)).g1; have q2 := fun o => (x2.below (al w2 o)).g2; have q3 := fun o => (x2.below (al w2 o)).g3)
      | (go_at_call 24; refine (c24 _).mono ?_; rintro e w5 ⟨rfl, rfl⟩))
    clear c24 c10 q0 q1 q2 q3 p1 bx0 hb hi64 hz640 hz641 hz642
    have hown0 : w2.ownsRow w1.heap.size 64 1 (.slice (some ⟨w1.heap.size, 0, none⟩) sts.length sts.length) sts.length (List.replicate sts.length (.slice none 0 0)) := by
      have e2 : (madeCells (Value.cells (.slice none 0 0)) (sts.length * 1)).toList = List.replicate sts.length (.slice none 0 0) := by
        rw [Nat.mul_one]
        exact toList_madeCells_one _ _
      rw [← e2]
      exact hown2
    clear hown2 hgrow2
    have B2 := B1.trans (hb2.mono B1.size)
    obtain ⟨V, hV⟩ : ∃ V, (w2.alloc (.cells #[.slice (some ⟨w1.heap.size, 0, none⟩) sts.length sts.length] 36)).alloc (.cells #[.int .i64 k, .slice aS sts.length cs, vc, vh] 26) = V := ⟨_, rfl⟩
    have b5V : Boxed V w2.heap.size 36 (.slice (some ⟨w1.heap.size, 0, none⟩) sts.length sts.length) := by rw [← hV]; exact (Boxed.new _ _ _).alloc _
    have oV : V.ownsRow w1.heap.size 64 1 (.slice (some ⟨w1.heap.size, 0, none⟩) sts.length sts.length) sts.length (List.replicate sts.length (.slice none 0 0)) := by rw [← hV]; exact (hown0.alloc _).alloc _
    have bB : Bx4 (w2.heap.size + 1) k (.slice aS sts.length cs) vc vh V := by
      have := Bx4.new (w2.alloc (.cells #[.slice (some ⟨w1.heap.size, 0, none⟩) sts.length sts.length] 36)) k (.slice aS sts.length cs) vc vh
      rw [World.size_alloc] at this
      rw [← hV]
      exact this
    have BV : Below w.heap.size w V := by rw [← hV]; exact (B2.alloc B2.size _).alloc (Nat.le_trans B2.size (by simp)) _
    have sV : V.heap.size = w2.heap.size + 2 := by rw [← hV]; simp
    have s21 : w1.heap.size < w2.heap.size := by
      rcases hown0.2 with ⟨e, _⟩ | ⟨g', cap', cur, e, _, hg', _⟩
      · cases e
      · simp only [Value.slice.injEq, Option.some.injEq, Addr.mk.injEq] at e
        obtain ⟨⟨rfl, _⟩, _⟩ := e
        exact (Array.getElem?_eq_some_iff.1 hg').1
    have s10 : w.heap.size < w1.heap.size := x1.lt
    rw [hV]
    clear hV hown0 x1 x2 hb2
    refine wpIn_wide.1 (range_tells2 (n := 5) rfl (by omega) (gf := 45) (lb := #[.pointer (some ⟨w2.heap.size + 1, 0, none⟩)]) rfl trivial (enters_of Try.func45 (by kernel_rfl) rfl)
      (told1_new ⟨k, .slice aS sts.length cs, vc, vh, sts, ces, xs⟩ w V (w2.heap.size + 1) (5 - 1) (by omega) h BV bB hlens.1 hlens.2) (Below.refl _ _) ?hX (fun _ => rfl) (TInv sts.length w V.heap.size w2.heap.size w1.heap.size) ?hI ?hO (Tb.Own w1.heap.size (List.replicate sts.length (.slice none 0 0))) ?h0 ?hround ?hdone)
    case hX =>
      rintro q (hq | rfl)
      · have := BV.size
        omega
      · omega
    case hI =>
      intro pre O A B hi hr hp
      exact hi.past hr hp (by omega) (by omega) (by omega)
    case hO =>
      rintro pre O A q ⟨us, rfl, ht⟩ (rfl | ⟨z, hz, hzq⟩)
      · have hlt : w1.heap.size < A.heap.size := by
          have := ht.box.lt
          omega
        exact ⟨by rintro (e | e) <;> omega, hlt, by omega, by omega⟩
      · obtain ⟨j, hj⟩ := List.mem_iff_getElem?.1 hz
        obtain ⟨h1, h2⟩ := own_ge (ht.rows j z hj) hzq
        exact ⟨by have := BV.size; rintro (e | e) <;> omega, h2, by omega, by omega⟩
    case h0 =>
      intro A hA
      refine ⟨List.replicate sts.length (.slice none 0 0), rfl, (hA.block _ (by omega)).trans b5V, own_below oV hA, ?_, ?_, (fun x hx => by cases hx), BV.trans (hA.mono BV.size)⟩
      · intro j u hu
        have : u = .slice none 0 0 := List.eq_of_mem_replicate (List.mem_of_getElem? hu)
        subst this
        exact World.ownsRow_nil _ _ _ _
      · intro i j u v q hu hv hq _
        have : u = .slice none 0 0 := List.eq_of_mem_replicate (List.mem_of_getElem? hu)
        subst this
        simp [Value.ownBlock] at hq
    case hround =>
      rintro pre O ⟨⟨i, m, fm⟩, v⟩ A hA hrec hinv ⟨hvI, hpre, haw⟩
      dsimp only at hvI hpre haw
      obtain ⟨va, vc', hv, _, _⟩ := hvI.len
      subst hv
      refine ⟨{ tmps := #[.agg #[.int .i64 k, .slice aS sts.length cs, vc, vh], .pointer (some ⟨w.heap.size, 0, none⟩), .slice none 0 0, .int .i64 0, .int .i64 0, .pointer (some ⟨w2.heap.size, 0, none⟩), .pointer (some ⟨A.heap.size, 0, none⟩), .slice va fm.length vc', .agg #[.int .i64 k, .slice aS sts.length cs, vc, vh], .int .i64 0, .int .i64 0, .bool false, undef, .pointer (some ⟨w.heap.size, 1, none⟩), .slice aS sts.length cs, .int .i64 sts.length, .slice (some ⟨w1.heap.size, 0, none⟩) sts.length sts.length, .agg #[.int .i64 k, .slice aS sts.length cs, vc, vh], .func (.func 45) #[] #[.pointer (some ⟨w2.heap.size + 1, 0, none⟩)], .agg #[.int .i64 i, .int .i64 m], .slice va fm.length vc', undef, undef, undef, undef, undef, undef, undef, undef, undef, undef, undef, undef, undef], defers := [] }, A.alloc (.cells #[.int .i64 i, .int .i64 m] 40), ?_, al _ _, ?_⟩
      · intro K hK
        simp only [encs]
        gi_wp2
        exact hK
      · intro r
        obtain ⟨A', hA'⟩ : ∃ A', (A.alloc (.cells #[.int .i64 i, .int .i64 m] 40)).putObj (V.heap.size + 1) (.loop r) = A' := ⟨_, rfl⟩
        have hP : Past (V.heap.size + 1) A A' := by rw [← hA']; exact (Past.of_below (al _ _)).trans (Past.put _ _ _)
        have hrA : IsRec (V.heap.size + 1) (A.alloc (.cells #[.int .i64 i, .int .i64 m] 40)) := by
          obtain ⟨r', hr'⟩ := hrec
          exact ⟨r', ((al _ _).block _ (Array.getElem?_eq_some_iff.1 hr').1).trans hr'⟩
        have hP2 : Past (V.heap.size + 1) (A.alloc (.cells #[.int .i64 i, .int .i64 m] 40)) A' := by rw [← hA']; exact Past.put _ _ _
        have z0 : A'.cell? ⟨A.heap.size, 0, none⟩ = some (.int .i64 i) := past_cell hrA hP2 (by simp)
        have hvI' : IsI A' (.slice va fm.length vc') fm := row_past hrec hP hvI
        have hinv' := hinv.past hrec hP (by omega) (by omega) (by omega)
        have hszA : V.heap.size + 2 ≤ A'.heap.size := Nat.le_trans hA hP.size
        have hAA : A.heap.size < A'.heap.size := World.block_lt_of_cell? _ _ z0
        have hil : i < sts.length := by
          obtain ⟨t, ht⟩ := hpre
          have hmem : (i, m, fm) ∈ toldX ⟨k, .slice aS sts.length cs, vc, vh, sts, ces, xs⟩ := by rw [← ht]; simp
          obtain ⟨a, _, ha, _⟩ := (Fq.told_mem _ _).1 hmem
          exact (List.getElem?_eq_some_iff.1 ha).1
        have hpl : pre.length ≤ 800 := by
          have h2 := hpre.length_le
          rw [List.length_append, List.length_map, List.length_singleton] at h2
          omega
        rw [hA']
        have hblk : A'.heap[A.heap.size]? = some (.cells #[.int .i64 i, .int .i64 m] 40 (0, 0)) := (hP2.block A.heap.size (by simp) (by omega)).trans (World.alloc_heap_new A _)
        clear hA' hP hP2 hrA hinv hvI hrec hpre
        obtain ⟨us, rfl, ht⟩ := hinv'
        have hul : us.length = sts.length := by have := ht.out.1; omega
        obtain ⟨u, hu⟩ : ∃ u, us[i]? = some u := ⟨_, List.getElem?_eq_getElem (by omega)⟩
        have hbx := ht.box.cell
        have hrow := ht.rows i u hu
        have hii : (i : Int) < (sts.length : Int) := by omega
        have hrl : (rowOf pre i).length ≤ 800 := by
          unfold rowOf
          rw [List.length_map]
          exact Nat.le_trans (List.length_filter_le _ _) hpl
        have hbtl : w1.heap.size < A'.heap.size := by omega
        have hcu : A'.drew.cell? ⟨w1.heap.size, i, none⟩ = some u := (ht.out.cellAt i (by omega)).trans hu
        have hge := fun q (hq : u.ownBlock = some q) => own_ge hrow hq
        have nbt : u.ownBlock ≠ some w1.heap.size := fun e => by have := hge _ e; omega
        have nb5 : u.ownBlock ≠ some w2.heap.size := fun e => by have := hge _ e; omega
        have nbA : u.ownBlock ≠ some A.heap.size := fun e => row_ne hrow hblk (by decide) e
        have bA : Below A'.heap.size A' (A'.drew.alloc (.cells #[.slice va fm.length vc'] 27)) := (Below.refl _ _).drew.alloc (Nat.le_refl _) _
        have S3 : (A'.drew.alloc (.cells #[.slice va fm.length vc'] 27)).cell? ⟨w2.heap.size, 0, none⟩ = some (.slice (some ⟨w1.heap.size, 0, none⟩) sts.length sts.length) ∧ (A'.drew.alloc (.cells #[.slice va fm.length vc'] 27)).cell? ⟨A.heap.size, 0, none⟩ = some (.int .i64 i) := ⟨(bA.cell (p := ⟨w2.heap.size, 0, none⟩) (by dsimp only; omega)).trans hbx, (bA.cell (p := ⟨A.heap.size, 0, none⟩) hAA).trans z0⟩
        have hcu3 : (A'.drew.alloc (.cells #[.slice va fm.length vc'] 27)).cell? ⟨w1.heap.size, i, none⟩ = some u := (bA.cell (p := ⟨w1.heap.size, i, none⟩) hbtl).trans hcu
        have hcu4 : (A'.alloc (.cells #[.slice va fm.length vc'] 27)).cell? ⟨w1.heap.size, i, none⟩ = some u := hcu3
        have hrow3 := own_below hrow bA
        have hout3 := own_below ht.out bA
        have hnew : ∀ j z, [Value.slice va fm.length vc'][j]? = some z → (A'.drew.alloc (.cells #[.slice va fm.length vc'] 27)).cell? ((⟨A'.heap.size, 0, none⟩ : Addr).add j) = some z := by
          intro j z hj
          have hadd : (⟨A'.heap.size, 0, none⟩ : Addr).add j = ⟨A'.heap.size, 0 + j, none⟩ := by unfold Addr.add; split <;> simp_all
          rw [hadd, newcs A'.drew #[.slice va fm.length vc'] 27 A'.heap.size (0 + j) rfl]
          simpa using hj
        have TAIL : ∀ w7 g cap, w7.ownsRow (V.heap.size + 2) 27 1 (.slice (some ⟨g, 0, none⟩) ((rowOf pre i).length + 1) cap) ((rowOf pre i).length + 1) ((rowOf pre i).map Prod.fst ++ [.slice va fm.length vc']) → (A'.drew.alloc (.cells #[.slice va fm.length vc'] 27)).grownBy w7 u.ownBlock → (u.ownBlock = some g ∨ g = A'.heap.size + 1) →
            (w7.cell? ⟨w2.heap.size, 0, none⟩ = some (.slice (some ⟨w1.heap.size, 0, none⟩) sts.length sts.length) ∧ w7.cell? ⟨A.heap.size, 0, none⟩ = some (.int .i64 i)) ∧ w7.cell? ⟨w1.heap.size, i, none⟩ = some u ∧ w7.frozen? ⟨w1.heap.size, i, none⟩ = false ∧
            ∀ z, (w7.setCell ⟨w1.heap.size, i, none⟩ z).cell? ⟨w2.heap.size, 0, none⟩ = some (.slice (some ⟨w1.heap.size, 0, none⟩) sts.length sts.length) ∧ (w7.setCell ⟨w1.heap.size, i, none⟩ z).cell? ⟨A.heap.size, 0, none⟩ = some (.int .i64 i) := by
          intro w7 g cap _ hgrow _
          have c1 : w7.cell? ⟨w2.heap.size, 0, none⟩ = some (.slice (some ⟨w1.heap.size, 0, none⟩) sts.length sts.length) := (World.cell?_of_block (a := ⟨w2.heap.size, 0, none⟩) (hgrow.block _ (by simp; omega) (fun e => nb5 e.symm))).trans S3.1
          have c2 : w7.cell? ⟨A.heap.size, 0, none⟩ = some (.int .i64 i) := (World.cell?_of_block (a := ⟨A.heap.size, 0, none⟩) (hgrow.block _ (by simp; omega) (fun e => nbA e.symm))).trans S3.2
          have o7 := hout3.kept hgrow (.inr (fun e => nbt e.symm))
          exact ⟨⟨c1, c2⟩, (o7.cellAt i (by omega)).trans hu, o7.frozenAt i, fun z => ⟨(World.cell?_setCell_far _ _ _ _ (by dsimp only; omega)).trans c1, (World.cell?_setCell_far _ _ _ _ (by dsimp only; omega)).trans c2⟩⟩
        obtain ⟨i27, hi27, hz270, hz271, hz272⟩ := info_parts info27
        have TEND := fun w7 g cap => tend (n := sts.length) (w := w) (nV := V.heap.size) (b5 := w2.heap.size) (bt := w1.heap.size) (us := us) pre ((i, m, fm), .slice va fm.length vc') (A := A') (w7 := w7) (u := u) (g := g) (cap := cap) ht (by omega) (by omega) (by omega) hszA (by omega) hu hvI' haw
        dsimp only at TEND
        refine wpIn_block ?_
        refine region_in (S := fun w' => w'.cell? ⟨w2.heap.size, 0, none⟩ = some (.slice (some ⟨w1.heap.size, 0, none⟩) sts.length sts.length) ∧ w'.cell? ⟨A.heap.size, 0, none⟩ = some (.int .i64 i)) (by kernel_rfl) (mild_of (by kernel_rfl)) (by rintro ⟨_, _, hh⟩; exact hh) ⟨hbx, z0⟩ (fun hHeld => ?_)
        refine take_at 0 21 (.slice (some ⟨w1.heap.size, 0, none⟩) sts.length sts.length) rfl rfl rfl (by kernel_rfl) (by kernel_rfl) (by kernel_rfl) (fun _ _ _ h => h) (fun w hSw => by go_simp) hHeld ?_
        simp only [List.setIfInBounds_toArray, List.set_cons_zero, List.set_cons_succ]
        refine take_at 1 22 (.pointer (some ⟨A.heap.size, 0, none⟩)) rfl rfl rfl (by kernel_rfl) (by kernel_rfl) (by kernel_rfl) (fun _ _ _ h => h) (fun w hSw => by go_simp) hHeld ?_
        simp only [List.setIfInBounds_toArray, List.set_cons_zero, List.set_cons_succ]
        refine take_at 2 23 (.int .i64 i) rfl rfl rfl (by kernel_rfl) (by kernel_rfl) (by kernel_rfl) (fun _ _ _ h => h) (fun w hSw => by go_simp) hHeld ?_
        simp only [List.setIfInBounds_toArray, List.set_cons_zero, List.set_cons_succ]
        refine take_at 3 24 (.slice (some ⟨w1.heap.size, 0, none⟩) sts.length sts.length) rfl rfl rfl (by kernel_rfl) (by kernel_rfl) (by kernel_rfl) (fun _ _ _ h => h) (fun w hSw => by go_simp) hHeld ?_
        simp only [List.setIfInBounds_toArray, List.set_cons_zero, List.set_cons_succ]
        refine take_at 4 25 (.pointer (some ⟨A.heap.size, 0, none⟩)) rfl rfl rfl (by kernel_rfl) (by kernel_rfl) (by kernel_rfl) (fun _ _ _ h => h) (fun w hSw => by go_simp) hHeld ?_
        simp only [List.setIfInBounds_toArray, List.set_cons_zero, List.set_cons_succ]
        refine take_at 5 26 (.int .i64 i) rfl rfl rfl (by kernel_rfl) (by kernel_rfl) (by kernel_rfl) (fun _ _ _ h => h) (fun w hSw => by go_simp) hHeld ?_
        simp only [List.setIfInBounds_toArray, List.set_cons_zero, List.set_cons_succ]
        refine take_at 6 27 (.pointer (some ⟨w1.heap.size, i, none⟩)) rfl rfl rfl (by kernel_rfl) (by kernel_rfl) (by kernel_rfl) (fun _ _ _ h => h) (fun w hSw => by go_simp) hHeld ?_
        simp only [List.setIfInBounds_toArray, List.set_cons_zero, List.set_cons_succ]
        refine take_at 8 29 (.slice va fm.length vc') rfl rfl rfl (by kernel_rfl) (by kernel_rfl) (by kernel_rfl) (fun _ _ _ h => h) (fun w hSw => by go_simp) hHeld ?_
        simp only [List.setIfInBounds_toArray, List.set_cons_zero, List.set_cons_succ]
        refine two_at 7 9 (by kernel_rfl) rfl rfl rfl rfl (op_value u 28 (w' := A'.drew) rfl (by go_simp) ⟨hHeld, ?_⟩) (op_value (.slice (some ⟨A'.heap.size, 0, none⟩) 1 1) 30 (w' := A'.drew.alloc (.cells #[.slice va fm.length vc'] 27)) rfl (by go_simp) ⟨S3, ?_⟩)
        · simp only [List.setIfInBounds_toArray, List.set_cons_zero, List.set_cons_succ]
          refine one_at 9 (by kernel_rfl) rfl rfl (op_value (.slice (some ⟨A'.heap.size, 0, none⟩) 1 1) 30 (w' := A'.drew.alloc (.cells #[.slice va fm.length vc'] 27)) rfl (by go_simp) ⟨S3, ?_⟩)
          simp only [List.setIfInBounds_toArray, List.set_cons_zero, List.set_cons_succ]
          refine one_at 10 (by kernel_rfl) rfl rfl ?_
          refine wp_append_lies _ (.tmp 28) (.tmp 30) 64 rfl (V.heap.size + 2) 27 i27 (.slice none 0 0) 1 24 Try.underlying64 hi27 hz270 hz271 hz272 rfl (by decide) u (rowOf pre i).length _ rfl hrow3 ⟨A'.heap.size, 0, none⟩ 1 1 [.slice va fm.length vc'] rfl rfl hnew (by simp [Value.oneCell']) (by decide) (by unfold maxLen; omega) (by omega) (by simp; omega) (A'.heap.size + 1) (by simp) ?_
          intro g cap w7 hown7 hgrow7 hat7 _
          obtain ⟨hH7, hc7, hf7, hH8⟩ := TAIL w7 g cap hown7 hgrow7 hat7
          refine ⟨hH7, ?_⟩
          show wpAnyH _ _ _ _ _ _ _ ⟨Array.setIfInBounds _ 31 (.slice (some ⟨g, 0, none⟩) ((rowOf pre i).length + 1) cap), _⟩ _
          simp only [List.setIfInBounds_toArray, List.set_cons_zero, List.set_cons_succ]
          refine take_at 11 32 (.pointer (some ⟨w1.heap.size, i, none⟩)) rfl rfl rfl (by kernel_rfl) (by kernel_rfl) (by kernel_rfl) (fun _ _ _ h => h) (fun w hSw => by go_simp) hH7 ?_
          simp only [List.setIfInBounds_toArray, List.set_cons_zero, List.set_cons_succ]
          refine one_at 12 (by kernel_rfl) rfl rfl (op_skip (w' := w7.setCell ⟨w1.heap.size, i, none⟩ (.slice (some ⟨g, 0, none⟩) ((rowOf pre i).length + 1) cap)) rfl (by go_simp) ⟨hH8 _, ?_⟩)
          refine wpAnyH_done (by kernel_rfl) ?_ _
          exact TEND w7 g cap hown7 hgrow7 hat7
        · simp only [List.setIfInBounds_toArray, List.set_cons_zero, List.set_cons_succ]
          refine one_at 7 (by kernel_rfl) rfl rfl (op_value u 28 (w' := A'.drew.alloc (.cells #[.slice va fm.length vc'] 27)) rfl (by go_simp) ⟨S3, ?_⟩)
          simp only [List.setIfInBounds_toArray, List.set_cons_zero, List.set_cons_succ]
          refine one_at 10 (by kernel_rfl) rfl rfl ?_
          refine wp_append_lies _ (.tmp 28) (.tmp 30) 64 rfl (V.heap.size + 2) 27 i27 (.slice none 0 0) 1 24 Try.underlying64 hi27 hz270 hz271 hz272 rfl (by decide) u (rowOf pre i).length _ rfl hrow3 ⟨A'.heap.size, 0, none⟩ 1 1 [.slice va fm.length vc'] rfl rfl hnew (by simp [Value.oneCell']) (by decide) (by unfold maxLen; omega) (by omega) (by simp; omega) (A'.heap.size + 1) (by simp) ?_
          intro g cap w7 hown7 hgrow7 hat7 _
          obtain ⟨hH7, hc7, hf7, hH8⟩ := TAIL w7 g cap hown7 hgrow7 hat7
          refine ⟨hH7, ?_⟩
          show wpAnyH _ _ _ _ _ _ _ ⟨Array.setIfInBounds _ 31 (.slice (some ⟨g, 0, none⟩) ((rowOf pre i).length + 1) cap), _⟩ _
          simp only [List.setIfInBounds_toArray, List.set_cons_zero, List.set_cons_succ]
          refine take_at 11 32 (.pointer (some ⟨w1.heap.size, i, none⟩)) rfl rfl rfl (by kernel_rfl) (by kernel_rfl) (by kernel_rfl) (fun _ _ _ h => h) (fun w hSw => by go_simp) hH7 ?_
          simp only [List.setIfInBounds_toArray, List.set_cons_zero, List.set_cons_succ]
          refine one_at 12 (by kernel_rfl) rfl rfl (op_skip (w' := w7.setCell ⟨w1.heap.size, i, none⟩ (.slice (some ⟨g, 0, none⟩) ((rowOf pre i).length + 1) cap)) rfl (by go_simp) ⟨hH8 _, ?_⟩)
          refine wpAnyH_done (by kernel_rfl) ?_ _
          exact TEND w7 g cap hown7 hgrow7 hat7
    case hdone =>
      rintro ys O A hA hS ⟨us, rfl, ht⟩ hdf
      have hP := Past.put V.heap.size A (.deferred none)
      have hc := ht.box.cell
      have htl : ys.length ≤ 1000 := by
        have := congrArg List.length hS
        rw [List.length_map] at this
        omega
      have hE := ht.ended hdf hP (by omega) (by omega) (by omega)
      obtain ⟨T, hT1, hT2, hT3⟩ := table_end hE (by omega) htl
      rw [hS] at hT3
      obtain ⟨y1, y2⟩ := HY.out T ⟨hT2, hT3⟩
      go_wp2
      refine ⟨by simp, .inl ⟨_, _, rfl, run_takeDeferred hdf, ?_⟩⟩
      exact ⟨_, results_tmp2 rfl _ _ _, _, T, rfl, hT1, y1, fun e => absurd rfl e, hE.bel⟩
  · have hne : (checkX y.lex != 0) = true := by simpa using hck
    have HZ : Hid ((checkX y.lex = 0 → Tabled y []) ∧ (checkX y.lex ≠ 0 → ([] : List VT) = [])) := ⟨fun e => absurd e hck, fun _ => rfl⟩
    obtain ⟨r, hr⟩ : ∃ r, checkX y.lex = r := ⟨_, rfl⟩
    rw [hr] at c10 hne HZ ⊢
    clear hr hck
    obtain ⟨k, vs, vc, vh, sts, ces, xs⟩ := y
    simp only [VX.val] at c10 ⊢
    clear h
    refine (callsIn_wide (n := 5)).1 ?_
    refine callsIn_of_wp_marks Try.func12 rfl trivial ?_ rfl
    simp only [Try.ntmps12, List.size_toArray, List.length_cons, List.length_nil, Nat.reduceAdd, Nat.reduceSub, Array.replicate_succ, Array.replicate_zero, List.push_toArray, List.append_toArray, List.nil_append, List.cons_append]
    gi_wp2_with (refine ⟨trivial, ?_⟩; gi_at_call 10; refine (callsIn_wide.2 (c10 _)).mono ?_; rintro e w1 ⟨rfl, hb⟩)
    exact ⟨_, results_tmp2 rfl _ _ _, _, [], rfl, ⟨row_nil _ _, fun _ h => by cases h⟩, HZ.out.1, fun _ => rfl, (hb1 _).trans (hb.mono (hb1 _).size)⟩
end Go.Proofs.Ytkcbgapakpheiaa.Tc
