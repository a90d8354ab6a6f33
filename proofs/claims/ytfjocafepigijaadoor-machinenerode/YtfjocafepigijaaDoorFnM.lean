/- dropDead, in plain words: rows from which a final one is come to; how all lies while they are found. No conditions. -/
import Derived.Test.YtfjocafepigijaaDoorFlM
namespace Go.Proofs.YtfjocafepigijaaDoor.Su
open Go.RowKit Mv Po Ps Cm Ra Ot Pa

/-- the program's table is T -/
structure IsT (T : Tb) (n : Nat) (X : Nat → Nat → Int) (f : Nat → Bool) : Prop where
  sz : T.n = n
  ok : T.Ok
  z : ∀ i, i < n → X i 0 = -1
  arc : ∀ i c, i < n → 1 ≤ c → c ≤ 60 → X i c = enc (T.to i c)
  fin : ∀ i, i < n → f i = T.fin i
theorem isT_tbl {S : Nat} {A : AL} {F : List (Int × Int)} {n : Nat} (h : Done S A n) : IsT (tbl S A F n) n (Xk S A n) (fk S A F n) := by
  refine ⟨rfl, tbl_ok h, fun i _ => by unfold Xk rowX; rw [if_pos rfl], fun i c _ h1 _ => ?_, fun i _ => rfl⟩
  unfold Xk rowX
  rw [if_neg (by omega)]
  rfl
theorem enc_some {o : Option Nat} {j : Nat} : enc o = (j : Int) ↔ o = some j := by
  cases o with
  | none => simp only [enc]; constructor <;> intro h; omega; cases h
  | some x => simp only [enc, Option.some.injEq]; omega
theorem enc_none {o : Option Nat} : enc o = -1 ↔ o = none := by
  cases o with
  | none => simp [enc]
  | some x => simp only [enc]; constructor <;> intro h; omega; cases h
theorem IsT.cases {T : Tb} {n : Nat} {X : Nat → Nat → Int} {f : Nat → Bool} (h : IsT T n X f) {i c : Nat} (hi : i < n) (hc : c < 61) : X i c = -1 ∨ ∃ j : Nat, X i c = (j : Int) ∧ j < n ∧ 1 ≤ c ∧ T.to i c = some j := by
  by_cases e : c = 0
  · subst e; exact .inl (h.z i hi)
  · rw [h.arc i c hi (by omega) (by omega)]
    cases ho : T.to i c with
    | none => exact .inl rfl
    | some j =>
      have := h.ok i c j (by rw [h.sz]; exact hi) ho
      rw [h.sz] at this
      exact .inr ⟨j, rfl, this, by omega, rfl⟩
/-- which rows lead to a row: of the first i all, of row i the first c symbols -/
def Ldr (X : Nat → Nat → Int) (R : Nat → List Nat) (i c : Nat) : Prop := ∀ j x, x ∈ R j ↔ ∃ s, s < 61 ∧ (x < i ∨ x = i ∧ s < c) ∧ X x s = (j : Int)
theorem Ldr.begin (X : Nat → Nat → Int) : Ldr X (fun _ => []) 0 0 := fun j x => by simp
theorem Ldr.skip {X : Nat → Nat → Int} {R : Nat → List Nat} {i c : Nat} (h : Ldr X R i c) (hx : X i c = -1) : Ldr X R i (c + 1) := fun j x => by
  rw [h j x]
  constructor
  · rintro ⟨s, h1, h2, h3⟩; exact ⟨s, h1, h2.imp id (fun ⟨a, b⟩ => ⟨a, by omega⟩), h3⟩
  · rintro ⟨s, h1, h2, h3⟩
    refine ⟨s, h1, ?_, h3⟩
    rcases h2 with h2 | ⟨rfl, h2⟩
    · exact .inl h2
    · by_cases e : s = c
      · subst e; rw [hx] at h3; omega
      · exact .inr ⟨rfl, by omega⟩
def adl (R : Nat → List Nat) (k : Nat) (x : Nat) : Nat → List Nat := fun j => if j = k then R j ++ [x] else R j
theorem Ldr.add {X : Nat → Nat → Int} {R : Nat → List Nat} {i c k : Nat} (h : Ldr X R i c) (hc : c < 61) (hx : X i c = (k : Int)) : Ldr X (adl R k i) i (c + 1) := fun j x => by
  unfold adl
  constructor
  · intro hm
    by_cases e : j = k
    · subst e
      rw [if_pos rfl] at hm
      rcases List.mem_append.1 hm with hm | hm
      · obtain ⟨s, h1, h2, h3⟩ := (h j x).1 hm
        exact ⟨s, h1, h2.imp id (fun ⟨a, b⟩ => ⟨a, by omega⟩), h3⟩
      · rw [List.mem_singleton.1 hm]
        exact ⟨c, hc, .inr ⟨rfl, by omega⟩, hx⟩
    · rw [if_neg e] at hm
      obtain ⟨s, h1, h2, h3⟩ := (h j x).1 hm
      exact ⟨s, h1, h2.imp id (fun ⟨a, b⟩ => ⟨a, by omega⟩), h3⟩
  · rintro ⟨s, h1, h2, h3⟩
    by_cases hs : x = i ∧ s = c
    · obtain ⟨rfl, rfl⟩ := hs
      have : j = k := by rw [hx] at h3; omega
      subst this
      rw [if_pos rfl]
      simp
    · have hm : x ∈ R j := (h j x).2 ⟨s, h1, h2.imp id (fun ⟨a, b⟩ => ⟨a, by rcases Nat.lt_succ_iff_lt_or_eq.1 b with h | h; exact h; exact absurd ⟨a, h⟩ hs⟩), h3⟩
      by_cases e : j = k
      · rw [if_pos e]; exact List.mem_append_left _ hm
      · rw [if_neg e]; exact hm
theorem Ldr.row {X : Nat → Nat → Int} {R : Nat → List Nat} {i : Nat} (h : Ldr X R i 61) : Ldr X R (i + 1) 0 := fun j x => by
  rw [h j x]
  constructor
  · rintro ⟨s, h1, h2, h3⟩
    exact ⟨s, h1, .inl (by rcases h2 with h2 | ⟨rfl, _⟩ <;> omega), h3⟩
  · rintro ⟨s, h1, h2, h3⟩
    refine ⟨s, h1, ?_, h3⟩
    rcases h2 with h2 | ⟨_, h2⟩
    · rcases Nat.lt_succ_iff_lt_or_eq.1 h2 with h4 | h4
      · exact .inl h4
      · exact .inr ⟨h4, h1⟩
    · omega
/-- the flags while the dead ones are found: st what waits -/
structure Fd2 (T : Tb) (n : Nat) (R : Nat → List Nat) (d : Nat → Bool) (st : List Nat) : Prop where
  snd : ∀ i, i < n → d i = false → T.Live (some i)
  base : ∀ i, i < n → T.fin i = true → d i = false
  stk : ∀ x ∈ st, x < n ∧ d x = false
  cls : ∀ j, j < n → d j = false → j ∉ st → ∀ i ∈ R j, d i = false
theorem Fd2.begin {T : Tb} {n : Nat} {X : Nat → Nat → Int} {f d : Nat → Bool} {R : Nat → List Nat} {st : List Nat} (hT : IsT T n X f) (hd : ∀ i, i < n → d i = !f i) (hs : ∀ x, x ∈ st ↔ x < n ∧ f x = true) : Fd2 T n R d st := by
  refine ⟨fun i hi h => ?_, fun i hi h => ?_, fun x hx => ?_, fun j hj h hn => ?_⟩
  · rw [hd i hi] at h
    have h2 : f i = true := by simpa using h
    rw [hT.fin i hi] at h2
    exact ⟨[], Tt.nil, h2⟩
  · rw [hd i hi, hT.fin i hi, h]; rfl
  · obtain ⟨h1, h2⟩ := (hs x).1 hx
    exact ⟨h1, by rw [hd x h1, h2]; rfl⟩
  · rw [hd j hj] at h
    exact absurd ((hs j).2 ⟨hj, by simpa using h⟩) hn
/-- within a round: row x was taken, of what leads to it the first y are done -/
structure Fd3 (T : Tb) (n : Nat) (R : Nat → List Nat) (x y : Nat) (d : Nat → Bool) (st : List Nat) : Prop where
  snd : ∀ i, i < n → d i = false → T.Live (some i)
  base : ∀ i, i < n → T.fin i = true → d i = false
  stk : ∀ x ∈ st, x < n ∧ d x = false
  cls : ∀ j, j < n → d j = false → j ∉ st → j ≠ x → ∀ i ∈ R j, d i = false
  don : ∀ k i, k < y → (R x)[k]? = some i → d i = false
  xn : x < n ∧ d x = false
theorem Fd2.pop {T : Tb} {n : Nat} {R : Nat → List Nat} {d : Nat → Bool} {st : List Nat} {x : Nat} (h : Fd2 T n R d (st ++ [x])) : Fd3 T n R x 0 d st :=
  ⟨h.snd, h.base, fun y hy => h.stk y (by simp [hy]), fun j hj hd hn hne => h.cls j hj hd (by simp [hn, hne]), fun k i hk => absurd hk (Nat.not_lt_zero k), h.stk x (by simp)⟩
theorem Fd3.old {T : Tb} {n : Nat} {R : Nat → List Nat} {d : Nat → Bool} {st : List Nat} {x y i : Nat} (h : Fd3 T n R x y d st) (hi : (R x)[y]? = some i) (hd : d i = false) : Fd3 T n R x (y + 1) d st :=
  ⟨h.snd, h.base, h.stk, h.cls, fun k z hk hz => by
    by_cases e : k = y
    · subst e; rw [hi] at hz; cases hz; exact hd
    · exact h.don k z (by omega) hz, h.xn⟩
theorem Fd3.new {T : Tb} {n : Nat} {X : Nat → Nat → Int} {f : Nat → Bool} {R : Nat → List Nat} {d : Nat → Bool} {st : List Nat} {x y i : Nat} (h : Fd3 T n R x y d st) (hT : IsT T n X f) (hL : Ldr X R n 0) (hi : (R x)[y]? = some i) : Fd3 T n R x (y + 1) (upd d i false) (st ++ [i]) ∧ i < n := by
  obtain ⟨s, hs, h1, h2⟩ := (hL x i).1 (List.mem_of_getElem? hi)
  have hin : i < n := by rcases h1 with h1 | ⟨_, h1⟩ <;> omega
  have he : ∀ j, upd d i false j = false ↔ d j = false ∨ j = i := fun j => by
    unfold upd
    by_cases e : j = i
    · simp [e]
    · simp [e]
  refine ⟨⟨fun j hj hd => ?_, fun j hj hf => (he j).2 (.inl (h.base j hj hf)), fun z hz => ?_, fun j hj hd hn hne k hk => ?_, fun k z hk hz => ?_, h.xn.1, (he x).2 (.inl h.xn.2)⟩, hin⟩
  · rcases (he j).1 hd with hd | rfl
    · exact h.snd j hj hd
    · obtain ⟨t, ht, ha⟩ := h.snd x h.xn.1 h.xn.2
      rcases hT.cases hj hs with h3 | ⟨x', h3, _, h4, h5⟩
      · rw [h3] at h2; omega
      · have e : x' = x := by rw [h3] at h2; omega
        subst e
        refine ⟨s :: t, ht.cons ⟨h4, by omega⟩, ?_⟩
        rw [Tb.acc_cons]
        show T.acc (T.to j s) t = true
        rw [h5]
        exact ha
  · rcases List.mem_append.1 hz with hz | hz
    · exact ⟨(h.stk z hz).1, (he z).2 (.inl (h.stk z hz).2)⟩
    · rw [List.mem_singleton.1 hz]; exact ⟨hin, (he i).2 (.inr rfl)⟩
  · rcases (he j).1 hd with hd | rfl
    · exact (he k).2 (.inl (h.cls j hj hd (fun hm => hn (by simp [hm])) hne k hk))
    · exact absurd (by simp) hn
  · by_cases e : k = y
    · subst e; rw [hi] at hz; cases hz; exact (he _).2 (.inr rfl)
    · exact (he z).2 (.inl (h.don k z (by omega) hz))
theorem Fd3.fin {T : Tb} {n : Nat} {R : Nat → List Nat} {d : Nat → Bool} {st : List Nat} {x y : Nat} (h : Fd3 T n R x y d st) (hy : (R x).length ≤ y) : Fd2 T n R d st :=
  ⟨h.snd, h.base, h.stk, fun j hj hd hn i hi => by
    by_cases e : j = x
    · subst e
      obtain ⟨k, hk, rfl⟩ := List.getElem_of_mem hi
      exact h.don k _ (by omega) (List.getElem?_eq_getElem hk)
    · exact h.cls j hj hd hn e i hi⟩
theorem Fd2.done {T : Tb} {n : Nat} {X : Nat → Nat → Int} {f : Nat → Bool} {R : Nat → List Nat} {d : Nat → Bool} (h : Fd2 T n R d []) (hT : IsT T n X f) (hL : Ldr X R n 0) : ∀ i, i < n → (d i = true ↔ ¬ T.Live (some i)) := by
  have key : ∀ t i, i < n → Tt t → T.acc (some i) t = true → d i = false := by
    intro t
    induction t with
    | nil => intro i hi _ ha; exact h.base i hi ha
    | cons c t ih =>
      intro i hi ht ha
      rw [Tb.acc_cons] at ha
      have hc := ht.head
      have ha2 : T.acc (T.to i c) t = true := ha
      cases e : T.to i c with
      | none => rw [e, Tb.acc_none] at ha2; cases ha2
      | some j =>
        rw [e] at ha2
        have hj : j < n := by have := hT.ok i c j (by rw [hT.sz]; exact hi) e; rw [hT.sz] at this; exact this
        have hdj := ih j hj ht.tail ha2
        refine h.cls j hj hdj (by simp) i ((hL j i).2 ⟨c, by omega, .inl hi, ?_⟩)
        rw [hT.arc i c hi hc.1 hc.2, e]
        rfl
  intro i hi
  constructor
  · rintro hd ⟨t, ht, ha⟩
    rw [key t i hi ht ha] at hd
    cases hd
  · intro hl
    cases e : d i with
    | true => rfl
    | false => exact absurd (h.snd i hi e) hl
/-- how many are dead -/
def dn (n : Nat) (d : Nat → Bool) : Nat := ((List.range n).map fun i => !d i).count false
theorem dn_le (n : Nat) (d : Nat → Bool) : dn n d ≤ n := by
  unfold dn
  exact Nat.le_trans List.count_le_length (by simp)
theorem dn_less {n i : Nat} {d : Nat → Bool} (hi : i < n) (hd : d i = true) : dn n (upd d i false) < dn n d := by
  unfold dn
  have e : (List.range n).map (fun j => !upd d i false j) = ((List.range n).map fun j => !d j).set i true := by
    apply List.ext_getElem?
    intro j
    by_cases hj : j < n
    · rw [List.getElem?_map, List.getElem?_range hj]
      by_cases e : i = j
      · subst e
        rw [List.getElem?_set_self (by simp; exact hj)]
        simp [upd]
      · rw [List.getElem?_set_ne e, List.getElem?_map, List.getElem?_range hj]
        have e2 : ¬ j = i := fun h => e h.symm
        simp [upd, e2]
    · rw [List.getElem?_eq_none (by simp; omega), List.getElem?_eq_none (by simp; omega)]
  rw [e]
  exact outs_set (by rw [List.getElem?_map, List.getElem?_range hi]; simp [hd])
/-- how all lies -/
structure Dd (w wr : World) (base p g n cap fb : Nat) (X : Nat → Nat → Int) (f d : Nat → Bool) (R : Nat → List Nat) (V : Nat → Value) (vs : List Value) (lv : Value) (l : List Nat) : Prop where
  pt : PT wr base p g n cap X f d
  heads : wr.ownsRow w.heap.size 26 1 (.slice (some ⟨fb, 0, none⟩) n n) n vs
  head : ∀ j, j < n → vs[j]? = some (V j)
  rows : ∀ j, wr.ownsRow w.heap.size 3 1 (V j) (R j).length (ns (R j))
  ap : ∀ i j, i ≠ j → ∀ b, (V i).ownBlock = some b → (V j).ownBlock ≠ some b
  live : wr.ownsRow w.heap.size 3 1 lv l.length (ns l)
  apl : ∀ j b, (V j).ownBlock = some b → lv.ownBlock ≠ some b
  kp : Kp (fun b => b = g) w wr
  gl : g < w.heap.size
section
variable {w wr w1 : World} {base p g n cap fb : Nat} {X : Nat → Nat → Int} {f d : Nat → Bool} {R : Nat → List Nat} {V : Nat → Value} {vs : List Value} {lv : Value} {l : List Nat}
theorem Dd.laid (h : Dd w wr base p g n cap fb X f d R V vs lv l) (hb : Below wr.heap.size wr w1) : Dd w w1 base p g n cap fb X f d R V vs lv l :=
  ⟨h.pt.below hb, own_kp2 h.heads (kp_below hb (fun _ => False)) (fun _ _ => id), h.head, fun j => own_kp2 (h.rows j) (kp_below hb (fun _ => False)) (fun _ _ => id), h.ap, own_kp2 h.live (kp_below hb (fun _ => False)) (fun _ _ => id), h.apl, h.kp.trans (kp_below hb _), h.gl⟩
/-- the table's block is turned -/
theorem Dd.cell {X' : Nat → Nat → Int} {d' : Nat → Bool} {j : Nat} {v : Value} (h : Dd w wr base p g n cap fb X f d R V vs lv l) (hp : PT (wr.setCell ⟨g, j, none⟩ v) base p g n cap X' f d') : Dd w (wr.setCell ⟨g, j, none⟩ v) base p g n cap fb X' f d' R V vs lv l := by
  have hk : Kp (fun b => b = g) wr (wr.setCell ⟨g, j, none⟩ v) := (Kp.refl _ wr).setCell _ _ _ (fun _ => rfl)
  obtain ⟨c, hc⟩ := h.pt.ty
  have nt : ∀ {b : Nat} {d : Array Value} {ty : TypeId}, wr.heap[b]? = some (.cells d ty (0, 0)) → ty ≠ 90 → ¬ b = g := fun {b d ty} hb hne e => by subst e; exact ty_ne hb hc hne
  exact ⟨hp, own_kp2 h.heads hk (fun b hb => by obtain ⟨d, hd⟩ := own_ty h.heads hb; exact nt hd (by decide)), h.head, fun j => own_kp2 (h.rows j) hk (fun b hb => by obtain ⟨d, hd⟩ := own_ty (h.rows j) hb; exact nt hd (by decide)), h.ap, own_kp2 h.live hk (fun b hb => by obtain ⟨d, hd⟩ := own_ty h.live hb; exact nt hd (by decide)), h.apl, h.kp.trans hk, h.gl⟩
/-- a live one more -/
theorem Dd.push {lv' : Value} {x : Nat} (h : Dd w wr base p g n cap fb X f d R V vs lv l) (ho : w1.ownsRow w.heap.size 3 1 lv' (l.length + 1) (ns l ++ [.int .i64 (x : Int)])) (hg : wr.grownBy w1 lv.ownBlock) (hl : lv'.ownBlock = lv.ownBlock ∨ lv'.ownBlock = some wr.heap.size) : Dd w w1 base p g n cap fb X f d R V vs lv' (l ++ [x]) := by
  have hk : Kp (fun b => lv.ownBlock = some b) wr w1 := (Kp.refl _ wr).grown hg (fun b hb _ => hb)
  have nt : ∀ {b : Nat} {d : Array Value} {ty : TypeId}, wr.heap[b]? = some (.cells d ty (0, 0)) → ty ≠ 3 → ¬ lv.ownBlock = some b := fun {b d ty} hb hne e => by obtain ⟨d', hd⟩ := own_ty h.live e; exact ty_ne hb hd hne
  obtain ⟨c, hc⟩ := h.pt.ty
  refine ⟨h.pt.kept hk (nt h.pt.box (by decide)) (nt hc (by decide)), own_kp2 h.heads hk (fun b hb => by obtain ⟨d, hd⟩ := own_ty h.heads hb; exact nt hd (by decide)), h.head, fun j => own_kp2 (h.rows j) hk (fun b hb => h.apl j b hb), h.ap, ?_, fun j b hb e => ?_, kp_then h.kp hk (fun i hi e => by have := (h.live.lt i e).1; omega), h.gl⟩
  · rw [List.length_append, show ns (l ++ [x]) = ns l ++ [.int .i64 (x : Int)] by simp [ns]]
    exact ho
  · rcases hl with hl | hl
    · rw [hl] at e; exact h.apl j b hb e
    · rw [hl] at e
      cases e
      have := ((h.rows j).lt _ hb).2
      omega
theorem Dd.pop {g2 n2 c2 x : Nat} (h : Dd w wr base p g n cap fb X f d R V vs (.slice (some ⟨g2, 0, none⟩) (n2 + 1) c2) (l ++ [x])) (hl : l.length = n2) : Dd w wr base p g n cap fb X f d R V vs (.slice (some ⟨g2, 0, none⟩) n2 c2) l := by
  have h2 := h.live
  rw [List.length_append, List.length_singleton, hl] at h2
  refine ⟨h.pt, h.heads, h.head, h.rows, h.ap, ?_, h.apl, h.kp, h.gl⟩
  rw [hl]
  exact own_cut h2 hl
/-- one that leads to row j more -/
theorem Dd.add {v1 : Value} {j x : Nat} (h : Dd w wr base p g n cap fb X f d R V vs lv l) (hj : j < n) (ho : w1.ownsRow w.heap.size 3 1 v1 ((R j).length + 1) (ns (R j) ++ [.int .i64 (x : Int)])) (hg : wr.grownBy w1 (V j).ownBlock) (hl : v1.ownBlock = (V j).ownBlock ∨ v1.ownBlock = some wr.heap.size) :
    (w1.cell? ⟨fb, j, none⟩ = some (V j) ∧ w1.frozen? ⟨fb, j, none⟩ = false) ∧ Dd w (w1.setCell ⟨fb, j, none⟩ v1) base p g n cap fb X f d (adl R j x) (upn V j v1) (vs.set j v1) lv l := by
  have hk1 : Kp (fun b => (V j).ownBlock = some b) wr w1 := (Kp.refl _ wr).grown hg (fun b hb _ => hb)
  have nt : ∀ {b : Nat} {d : Array Value} {ty : TypeId}, wr.heap[b]? = some (.cells d ty (0, 0)) → ty ≠ 3 → ¬ (V j).ownBlock = some b := fun {b d ty} hb hne e => by obtain ⟨d', hd⟩ := own_ty (h.rows j) e; exact ty_ne hb hd hne
  obtain ⟨cs, hcs⟩ := own_ty h.heads (k := fb) rfl
  have heads1 := own_kp2 h.heads hk1 (fun b hb => by obtain ⟨d, hd⟩ := own_ty h.heads hb; exact nt hd (by decide))
  obtain ⟨cs1, hcs1⟩ := own_ty heads1 (k := fb) rfl
  have hk2 : Kp (fun b => b = fb) w1 (w1.setCell ⟨fb, j, none⟩ v1) := (Kp.refl _ w1).setCell _ _ _ (fun _ => rfl)
  have nt2 : ∀ {b : Nat} {d : Array Value} {ty : TypeId}, w1.heap[b]? = some (.cells d ty (0, 0)) → ty ≠ 26 → ¬ b = fb := fun {b d ty} hb hne e => by subst e; exact ty_ne hb hcs1 hne
  obtain ⟨c, hc⟩ := h.pt.ty
  have hpt1 := h.pt.kept hk1 (nt h.pt.box (by decide)) (nt hc (by decide))
  obtain ⟨c1, hc1⟩ := hpt1.ty
  have hvl : vs.length = n := by have := h.heads.1; omega
  have hlv1 := own_kp2 h.live hk1 (fun b hb e => h.apl j b e hb)
  have hrw1 : ∀ k, k ≠ j → w1.ownsRow w.heap.size 3 1 (V k) (R k).length (ns (R k)) := fun k hne => own_kp2 (h.rows k) hk1 (fun b hb e => h.ap k j hne b hb e)
  have hge := (h.heads.lt fb rfl).1
  refine ⟨⟨?_, heads1.frozenAt j⟩, hpt1.kept hk2 (nt2 hpt1.box (by decide)) (nt2 hc1 (by decide)), (heads1.stored j v1).1, fun k hk => ?_, fun k => ?_, ?_, own_kp2 hlv1 hk2 (fun b hb => by obtain ⟨d, hd⟩ := own_ty hlv1 hb; exact nt2 hd (by decide)), fun k b hb e => ?_, kp_then (kp_then h.kp hk1 (fun i hi e => by have := ((h.rows j).lt i e).1; omega)) hk2 (fun i hi e => by omega), h.gl⟩
  · rw [heads1.cellAt j (by omega)]
    exact h.head j hj
  · rw [List.getElem?_set]
    unfold upn
    by_cases e : j = k
    · subst e; simp [hvl, hj]
    · rw [if_neg e, if_neg (fun e2 => e e2.symm)]; exact h.head k hk
  · unfold upn adl
    by_cases e : k = j
    · rw [if_pos e, if_pos e]
      subst e
      rw [List.length_append, show ns (R k ++ [x]) = ns (R k) ++ [.int .i64 (x : Int)] by simp [ns]]
      exact own_kp2 ho hk2 (fun b hb => by obtain ⟨d, hd⟩ := own_ty ho hb; exact nt2 hd (by decide))
    · rw [if_neg e, if_neg e]
      exact own_kp2 (hrw1 k e) hk2 (fun b hb => by obtain ⟨d, hd⟩ := own_ty (hrw1 k e) hb; exact nt2 hd (by decide))
  · exact apart_upn h.ap (fun k b hb => ((h.rows k).lt b hb).2) (hl.imp id (fun h => ⟨_, h, Nat.le_refl _⟩))
  · unfold upn at hb
    by_cases e1 : k = j
    · rw [if_pos e1] at hb
      rcases hl with hl | hl
      · rw [hl] at hb; exact h.apl j b hb e
      · rw [hl] at hb
        cases hb
        have := (h.live.lt _ e).2
        omega
    · rw [if_neg e1] at hb; exact h.apl k b hb e
theorem Dd.at (h : Dd w wr base p g n cap fb X f d R V vs lv l) {j : Nat} (hj : j < n) : wr.cell? ⟨fb, j, none⟩ = some (V j) := (h.heads.cellAt j (by omega)).trans (h.head j hj)
end
end Go.Proofs.YtfjocafepigijaaDoor.Su
/- dropDead (48): which rows are dead; what leads to them is taken away. Conditions: the table lies as T says, of at most 500 rows. -/
namespace Go.Proofs.YtfjocafepigijaaDoor.Su
open Go.RowKit Go.Shelf Mv Po Ps Cm Ra Set Ot Pa

theorem run_mk29 (n : Nat) (hn : n ≤ 500) (W : World) : (Instr.makeSlice 29 (.int .i64 (n : Int)) (.int .i64 (n : Int))).run Tryd.prog W = .ok (.slice (some ⟨W.heap.size, 0, none⟩) n n) (W.alloc (.cells (madeCells #[.slice none 0 0] n) 26)) := by
  obtain ⟨i0, hi, hz0, hz1, hz2⟩ := info_parts inf26'
  have hr := run_make (P := Tryd.prog) W 29 26 i0 (.slice none 0 0) Tryd.underlying29 hi hz0 .i64 .i64 (n : Int) (n : Int) (by omega) (Int.le_refl _) (by rw [hz2]; omega) (by omega)
  simp only [Int.toNat_natCast, hz1, Nat.mul_one] at hr
  exact hr
theorem own_mk29 (W : World) (base n : Nat) (hb : base ≤ W.heap.size) (hn : n ≤ 500) : (W.alloc (.cells (madeCells #[.slice none 0 0] n) 26)).ownsRow base 26 1 (.slice (some ⟨W.heap.size, 0, none⟩) n n) n (List.replicate n (.slice none 0 0)) := by
  have e : (madeCells #[.slice none 0 0] n).toList = List.replicate n (.slice none 0 0) := by rw [toList_madeCells_one]
  refine ⟨by simp, .inr ⟨W.heap.size, n, madeCells #[.slice none 0 0] n, rfl, hb, heap_alloc_new _ _, Nat.le_refl _, by unfold maxLen; omega, ?_, ?_⟩⟩
  · rw [← Array.length_toList, e]; simp
  · rw [e]; simp
/-- who leads where, with a bound on how many -/
structure Q1 (X : Nat → Nat → Int) (R : Nat → List Nat) (i c : Nat) : Prop where
  led : Ldr X R i c
  rl : ∀ j, (R j).length ≤ 61 * i + c
theorem Q1.skip {X : Nat → Nat → Int} {R : Nat → List Nat} {i c : Nat} (h : Q1 X R i c) (hx : X i c = -1) : Q1 X R i (c + 1) := ⟨h.led.skip hx, fun j => Nat.le_succ_of_le (h.rl j)⟩
theorem Q1.add {X : Nat → Nat → Int} {R : Nat → List Nat} {i c k : Nat} (h : Q1 X R i c) (hc : c < 61) (hx : X i c = (k : Int)) : Q1 X (adl R k i) i (c + 1) := ⟨h.led.add hc hx, fun j => by
  have := h.rl j
  unfold adl
  split
  · rw [List.length_append, List.length_singleton]; omega
  · omega⟩
theorem Q1.row {X : Nat → Nat → Int} {R : Nat → List Nat} {i : Nat} (h : Q1 X R i 61) : Q1 X R (i + 1) 0 := ⟨h.led.row, fun j => by have := h.rl j; omega⟩
/-- flags and finals of the first i rows -/
structure P0 (f d : Nat → Bool) (l : List Nat) (i : Nat) : Prop where
  flag : ∀ j, j < i → d j = !f j
  liv : ∀ x, x ∈ l ↔ x < i ∧ f x = true
  ll : l.length ≤ i
theorem P0.fin {f d : Nat → Bool} {l : List Nat} {i : Nat} (h : P0 f d l i) (hf : f i = true) : P0 f (upd d i (!true)) (l ++ [i]) (i + 1) := by
  refine ⟨fun j hj => ?_, fun x => ?_, by rw [List.length_append]; exact Nat.succ_le_succ h.ll⟩
  · unfold upd
    by_cases e : j = i
    · subst e; rw [if_pos rfl, hf]
    · rw [if_neg e]; exact h.flag j (by omega)
  · rw [List.mem_append, h.liv x, List.mem_singleton]
    constructor
    · rintro (⟨h1, h2⟩ | rfl)
      · exact ⟨by omega, h2⟩
      · exact ⟨by omega, hf⟩
    · rintro ⟨h1, h2⟩
      by_cases e : x = i
      · exact .inr e
      · exact .inl ⟨by omega, h2⟩
theorem P0.non {f d : Nat → Bool} {l : List Nat} {i : Nat} (h : P0 f d l i) (hf : f i = false) : P0 f (upd d i (!false)) l (i + 1) := by
  refine ⟨fun j hj => ?_, fun x => ?_, Nat.le_succ_of_le h.ll⟩
  · unfold upd
    by_cases e : j = i
    · subst e; rw [if_pos rfl, hf]
    · rw [if_neg e]; exact h.flag j (by omega)
  · rw [h.liv x]
    constructor
    · rintro ⟨h1, h2⟩; exact ⟨by omega, h2⟩
    · rintro ⟨h1, h2⟩
      have : x ≠ i := fun e => by subst e; rw [hf] at h2; cases h2
      exact ⟨by omega, h2⟩
/-- where a symbol leads once what leads to the dead is taken away -/
def cx (X : Nat → Nat → Int) (d : Nat → Bool) (i s : Nat) : Int := if X i s ≠ -1 ∧ d (X i s).toNat = true then -1 else X i s
/-- taken away of the first i rows, of row i of the first c symbols -/
def Cx (X : Nat → Nat → Int) (d : Nat → Bool) (X' : Nat → Nat → Int) (i c : Nat) : Prop := ∀ k s, s < 61 → X' k s = if k < i ∨ k = i ∧ s < c then cx X d k s else X k s
theorem Cx.begin (X : Nat → Nat → Int) (d : Nat → Bool) : Cx X d X 0 0 := fun k s _ => by rw [if_neg (by omega)]
theorem Cx.row {X X' : Nat → Nat → Int} {d : Nat → Bool} {i : Nat} (h : Cx X d X' i 61) : Cx X d X' (i + 1) 0 := fun k s hs => by
  rw [h k s hs]
  by_cases e : k < i ∨ k = i
  · rw [if_pos (by omega), if_pos (by omega)]
  · rw [if_neg (by omega), if_neg (by omega)]
theorem Cx.keep {X X' : Nat → Nat → Int} {d : Nat → Bool} {i c : Nat} (h : Cx X d X' i c) (hx : cx X d i c = X i c) : Cx X d X' i (c + 1) := fun k s hs => by
  rw [h k s hs]
  by_cases e : k = i ∧ s = c
  · obtain ⟨rfl, rfl⟩ := e
    rw [if_neg (by omega), if_pos (by omega), hx]
  · by_cases e2 : k < i ∨ k = i ∧ s < c
    · rw [if_pos e2, if_pos (by omega)]
    · rw [if_neg e2, if_neg (by omega)]
theorem Cx.drop {X X' : Nat → Nat → Int} {d : Nat → Bool} {i c : Nat} (h : Cx X d X' i c) (hx : cx X d i c = -1) : Cx X d (upx X' i c (-1)) i (c + 1) := fun k s hs => by
  unfold upx up1
  by_cases e : k = i
  · subst e
    rw [if_pos rfl]
    by_cases e2 : s = c
    · subst e2
      rw [if_pos rfl, if_pos (by omega), hx]
    · rw [if_neg e2, h k s hs]
      by_cases e3 : s < c
      · rw [if_pos (by omega), if_pos (by omega)]
      · rw [if_neg (by omega), if_neg (by omega)]
  · rw [if_neg e, h k s hs]
    by_cases e2 : k < i
    · rw [if_pos (by omega), if_pos (by omega)]
    · rw [if_neg (by omega), if_neg (by omega)]
theorem Cx.done {T : Tb} {n : Nat} {X X' : Nat → Nat → Int} {f d : Nat → Bool} (h : Cx X d X' n 0) (hT : IsT T n X f) (hd : ∀ i, i < n → (d i = true ↔ ¬ T.Live (some i))) : IsT T.cut n X' f ∧ Cutd T.cut d := by
  have hok : T.cut.Ok := fun i c j hi hj => hT.ok i c j hi (Tb.cut_some hj).1
  refine ⟨⟨hT.sz, hok, fun i hi => ?_, fun i c hi h1 h2 => ?_, hT.fin⟩, ⟨hok, fun i hi => ?_, fun i c j hi hj => ?_⟩⟩
  · rw [h i 0 (by omega), if_pos (by omega)]
    unfold cx
    rw [hT.z i hi, if_neg (by simp)]
  · rw [h i c (by omega), if_pos (by omega)]
    unfold cx
    rw [hT.arc i c hi h1 h2]
    cases e : T.to i c with
    | none =>
      cases e2 : T.cut.to i c with
      | none => simp [enc]
      | some j => have := (Tb.cut_some e2).1; rw [e] at this; cases this
    | some j =>
      have hj := hT.ok i c j (by rw [hT.sz]; exact hi) e
      rw [hT.sz] at hj
      have e3 : ((enc (some j) : Int)).toNat = j := by simp [enc]
      have e4 : (enc (some j) : Int) ≠ -1 := by simp only [enc]; omega
      rw [e3]
      cases e2 : T.cut.to i c with
      | none =>
        have hl := Tb.cut_none e2
        rw [e] at hl
        rw [if_pos ⟨e4, (hd j hj).2 hl⟩]
        rfl
      | some k =>
        obtain ⟨e5, e6⟩ := Tb.cut_some e2
        rw [e] at e5
        cases e5
        rw [if_neg (fun h5 => (hd j hj).1 h5.2 e6)]
  · rw [Tb.cut_live]
    exact hd i (by rw [← hT.sz]; exact hi)
  · rw [Tb.cut_live]
    exact (Tb.cut_some hj).2
theorem lead_lt {X : Nat → Nat → Int} {R : Nat → List Nat} {n x y z : Nat} (h : Ldr X R n 0) (hz : (R x)[y]? = some z) : z < n := by
  obtain ⟨s, _, h1, _⟩ := (h x z).1 (List.mem_of_getElem? hz)
  rcases h1 with h1 | ⟨_, h1⟩
  · exact h1
  · omega
theorem ns_at {l : List Nat} {y z : Nat} (h : l[y]? = some z) : (ns l)[y]? = some (.int .i64 (z : Int)) := by unfold ns; rw [List.getElem?_map, h]; rfl
set_option maxHeartbeats 8000000 in
set_option maxRecDepth 100000 in
theorem dropDead_any (T : Tb) (base p g n cap : Nat) (X : Nat → Nat → Int) (f : Nat → Bool) (w : World) (hT : IsT T n X f) (hP : PT w base p g n cap X f (fun _ => false)) (hn : n ≤ 500) :
    Calls Tryd.prog 48 #[.pointer (some ⟨p, 0, none⟩)] w fun e w' => e = .returned (.tuple #[]) ∧ ∃ X' d, IsT T.cut n X' f ∧ Cutd T.cut d ∧ PT w' base p g n cap X' f d ∧ Kp (fun b => b = g) w w' := by
  obtain ⟨i3, hi3, hx0, hx1, hx2⟩ := info_parts inf3'
  have hmk := run_mk29 n hn
  have HT : Hid (IsT T n X f ∧ n ≤ 500) := ⟨hT, hn⟩
  have c0 := cell_of_row _ _ 0 _ _ _ hP.box
  have HD : Hid (Dd w (w.alloc (.cells (madeCells #[.slice none 0 0] n) 26)) base p g n cap w.heap.size X f (fun _ => false) (fun _ => []) (fun _ => .slice none 0 0) (List.replicate n (.slice none 0 0)) (.slice none 0 0) []) := ⟨hP.below (below_al _ _), own_mk29 _ _ _ (Nat.le_refl _) hn, fun j hj => by simp [hj], fun j => World.ownsRow_nil _ _ _ _, fun i j _ b hb => (by cases hb), World.ownsRow_nil _ _ _ _, fun j b hb => (by cases hb), kp_below (below_al _ _) _, hP.lt.2⟩
  clear hT hP
  go_enter Tryd.func48, Tryd.ntmps48
  go_upto_region 2 with fail
  clear hmk c0
  obtain ⟨fb, hfb⟩ : ∃ b, w.heap.size = b := ⟨_, rfl⟩
  have HD1 : Hid (Dd w (w.alloc (.cells (madeCells #[.slice none 0 0] n) 26)) base p g n cap fb X f (fun _ => false) (fun _ => []) (fun _ => .slice none 0 0) (List.replicate n (.slice none 0 0)) (.slice none 0 0) []) := by rw [← hfb]; exact HD.out
  clear HD
  generalize w.alloc (.cells (madeCells #[.slice none 0 0] n) 26) = W0 at *
  rw [hfb]
  clear hfb
  have c0 := cell_of_row _ _ 0 _ _ _ HD1.out.pt.box
  go_upto_region 3 with fail
  clear c0
  go_loopw [3, 24] (fun a i wr => ∃ (k : Nat) (lv : Value) (d : Nat → Bool) (R : Nat → List Nat) (V : Nat → Value) (vs : List Value) (l : List Nat), a = lv ∧ i = .int .i64 (k : Int) ∧ k ≤ n ∧ Dd w wr base p g n cap fb X f d R V vs lv l ∧ P0 f d l k ∧ Q1 X R k 0) (fun _ i _ => n - (intOf i).toNat)
  case atStart => exact ⟨0, _, _, _, _, _, _, rfl, rfl, Nat.zero_le _, HD1.out, ⟨fun j hj => absurd hj (Nat.not_lt_zero j), fun x => by simp, by simp⟩, ⟨Ldr.begin X, fun j => by simp⟩⟩
  case round =>
    clear HD1
    obtain ⟨i, lv, d, R, V, vs, l, rfl, rfl, hin, hdd, hp0, hq1⟩ := hrel
    obtain ⟨m, hm⟩ : ∃ m, l.length = m := ⟨_, rfl⟩
    obtain ⟨al, cl, rfl⟩ := oslice hdd.live
    rw [hm] at hdd
    have HM : Hid (l.length = m) := hm
    have HD : Hid (Dd w wr base p g n cap fb X f d R V vs (.slice al m cl) l) := hdd
    have HP : Hid (P0 f d l i) := hp0
    have HQ : Hid (Q1 X R i 0) := hq1
    rw [hm]
    clear hdd hp0 hq1 hm
    by_cases hlt : i < n
    · obtain ⟨b, hb⟩ : ∃ b, f i = b := ⟨_, rfl⟩
      have HFI : Hid (f i = b) := hb
      clear hb
      go_upto_region 5 with fail
      have HCE : Hid _ := fun (W : World) (hSw : W.heap[p]? = some (.cells #[.slice (some ⟨g, 0, none⟩) n cap] 93 (0, 0)) ∧ W.cell? ⟨g, i * 63 + 61, none⟩ = some (.bool b)) => (And.intro (cell_of_row _ _ 0 _ _ _ hSw.1) (hSw.2))
      refine wp_region_held_drew (S := fun W => W.heap[p]? = some (.cells #[.slice (some ⟨g, 0, none⟩) n cap] 93 (0, 0)) ∧ W.cell? ⟨g, i * 63 + 61, none⟩ = some (.bool b)) (by kernel_rfl) (by exact ⟨HD.out.pt.box, (HD.out.pt.fin hlt).trans (by rw [HFI.out])⟩) (fun hHeld => ?_)
      have hS0 := hHeld
      have HD0 : Hid (Dd w wr.drew base p g n cap fb X f d R V vs (.slice al m cl) l) := HD.out.laid (below_drewN (Below.refl _ _) 1)
      clear HD
      generalize hV0 : wr.drew = V0 at *
      clear hV0
      refine wpAnyH_take (i := 0) (oi := { dst := some 27, op := Op.move (Operand.tmp 0), type := 85, pos := "sure.go:119", after := #[], guard := none }) (v := ?_) rfl (by kernel_rfl) (by kernel_rfl) (by kernel_rfl) (fun _ _ _ h => h) (Or.inl ⟨by rfl, ?_⟩) (by assumption) ?_
      case refine_2 => intro w hSw; (try dsimp only at hSw); obtain ⟨z0, z1⟩ := HCE.out _ hSw; go_simp; (try with_reducible rfl)
      simp only [Act.put, List.setIfInBounds_toArray, List.set_cons_zero, List.set_cons_succ]
      refine wpAnyH_take (i := 1) (oi := { dst := some 28, op := Op.nilCheck (Operand.tmp 27), type := 0, pos := "sure.go:119", after := #[{ on := 0, ground := Ground.data }], guard := none }) (v := ?_) rfl (by kernel_rfl) (by kernel_rfl) (by kernel_rfl) (fun _ _ _ h => h) (Or.inl ⟨by rfl, ?_⟩) (by assumption) ?_
      case refine_2 => intro w hSw; (try dsimp only at hSw); obtain ⟨z0, z1⟩ := HCE.out _ hSw; go_simp; (try with_reducible rfl)
      simp only [Act.put, List.setIfInBounds_toArray, List.set_cons_zero, List.set_cons_succ]
      refine wpAnyH_take (i := 2) (oi := { dst := some 29, op := Op.fieldAddr 93 (Operand.tmp 28) 0, type := 0, pos := "sure.go:119", after := #[{ on := 1, ground := Ground.data }], guard := none }) (v := ?_) rfl (by kernel_rfl) (by kernel_rfl) (by kernel_rfl) (fun _ _ _ h => h) (Or.inl ⟨by rfl, ?_⟩) (by assumption) ?_
      case refine_2 => intro w hSw; (try dsimp only at hSw); obtain ⟨z0, z1⟩ := HCE.out _ hSw; go_simp; (try with_reducible rfl)
      simp only [Act.put, List.setIfInBounds_toArray, List.set_cons_zero, List.set_cons_succ]
      refine wpAnyH_take (i := 3) (oi := { dst := some 30, op := Op.load 91 (Operand.tmp 29), type := 91, pos := "sure.go:119", after := #[{ on := 2, ground := Ground.data }], guard := none }) (v := ?_) rfl (by kernel_rfl) (by kernel_rfl) (by kernel_rfl) (fun _ _ _ h => h) (Or.inl ⟨by rfl, ?_⟩) (by assumption) ?_
      case refine_2 => intro w hSw; (try dsimp only at hSw); obtain ⟨z0, z1⟩ := HCE.out _ hSw; go_simp; (try with_reducible rfl)
      simp only [Act.put, List.setIfInBounds_toArray, List.set_cons_zero, List.set_cons_succ]
      refine wpAnyH_take (i := 4) (oi := { dst := some 31, op := Op.move (Operand.tmp 4), type := 3, pos := "sure.go:119", after := #[], guard := none }) (v := ?_) rfl (by kernel_rfl) (by kernel_rfl) (by kernel_rfl) (fun _ _ _ h => h) (Or.inl ⟨by rfl, ?_⟩) (by assumption) ?_
      case refine_2 => intro w hSw; (try dsimp only at hSw); obtain ⟨z0, z1⟩ := HCE.out _ hSw; go_simp; (try with_reducible rfl)
      simp only [Act.put, List.setIfInBounds_toArray, List.set_cons_zero, List.set_cons_succ]
      refine wpAnyH_take (i := 5) (oi := { dst := some 32, op := Op.move (Operand.tmp 0), type := 85, pos := "sure.go:119", after := #[], guard := none }) (v := ?_) rfl (by kernel_rfl) (by kernel_rfl) (by kernel_rfl) (fun _ _ _ h => h) (Or.inl ⟨by rfl, ?_⟩) (by assumption) ?_
      case refine_2 => intro w hSw; (try dsimp only at hSw); obtain ⟨z0, z1⟩ := HCE.out _ hSw; go_simp; (try with_reducible rfl)
      simp only [Act.put, List.setIfInBounds_toArray, List.set_cons_zero, List.set_cons_succ]
      refine wpAnyH_take (i := 6) (oi := { dst := some 33, op := Op.nilCheck (Operand.tmp 32), type := 0, pos := "sure.go:119", after := #[{ on := 5, ground := Ground.data }], guard := none }) (v := ?_) rfl (by kernel_rfl) (by kernel_rfl) (by kernel_rfl) (fun _ _ _ h => h) (Or.inl ⟨by rfl, ?_⟩) (by assumption) ?_
      case refine_2 => intro w hSw; (try dsimp only at hSw); obtain ⟨z0, z1⟩ := HCE.out _ hSw; go_simp; (try with_reducible rfl)
      simp only [Act.put, List.setIfInBounds_toArray, List.set_cons_zero, List.set_cons_succ]
      refine wpAnyH_take (i := 7) (oi := { dst := some 34, op := Op.fieldAddr 93 (Operand.tmp 33) 0, type := 0, pos := "sure.go:119", after := #[{ on := 6, ground := Ground.data }], guard := none }) (v := ?_) rfl (by kernel_rfl) (by kernel_rfl) (by kernel_rfl) (fun _ _ _ h => h) (Or.inl ⟨by rfl, ?_⟩) (by assumption) ?_
      case refine_2 => intro w hSw; (try dsimp only at hSw); obtain ⟨z0, z1⟩ := HCE.out _ hSw; go_simp; (try with_reducible rfl)
      simp only [Act.put, List.setIfInBounds_toArray, List.set_cons_zero, List.set_cons_succ]
      refine wpAnyH_take (i := 8) (oi := { dst := some 35, op := Op.load 91 (Operand.tmp 34), type := 91, pos := "sure.go:119", after := #[{ on := 7, ground := Ground.data }], guard := none }) (v := ?_) rfl (by kernel_rfl) (by kernel_rfl) (by kernel_rfl) (fun _ _ _ h => h) (Or.inl ⟨by rfl, ?_⟩) (by assumption) ?_
      case refine_2 => intro w hSw; (try dsimp only at hSw); obtain ⟨z0, z1⟩ := HCE.out _ hSw; go_simp; (try with_reducible rfl)
      simp only [Act.put, List.setIfInBounds_toArray, List.set_cons_zero, List.set_cons_succ]
      refine wpAnyH_take (i := 9) (oi := { dst := some 36, op := Op.move (Operand.tmp 4), type := 3, pos := "sure.go:119", after := #[], guard := none }) (v := ?_) rfl (by kernel_rfl) (by kernel_rfl) (by kernel_rfl) (fun _ _ _ h => h) (Or.inl ⟨by rfl, ?_⟩) (by assumption) ?_
      case refine_2 => intro w hSw; (try dsimp only at hSw); obtain ⟨z0, z1⟩ := HCE.out _ hSw; go_simp; (try with_reducible rfl)
      simp only [Act.put, List.setIfInBounds_toArray, List.set_cons_zero, List.set_cons_succ]
      refine wpAnyH_take (i := 10) (oi := { dst := some 37, op := Op.indexAddr 91 (Operand.tmp 35) (Operand.tmp 36), type := 0, pos := "sure.go:119", after := #[{ on := 8, ground := Ground.data }, { on := 9, ground := Ground.data }], guard := none }) (v := ?_) rfl (by kernel_rfl) (by kernel_rfl) (by kernel_rfl) (fun _ _ _ h => h) (Or.inl ⟨by rfl, ?_⟩) (by assumption) ?_
      case refine_2 => intro w hSw; (try dsimp only at hSw); obtain ⟨z0, z1⟩ := HCE.out _ hSw; go_simp; (try with_reducible rfl)
      simp only [Act.put, List.setIfInBounds_toArray, List.set_cons_zero, List.set_cons_succ]
      refine wpAnyH_take (i := 11) (oi := { dst := some 38, op := Op.fieldAddr 90 (Operand.tmp 37) 1, type := 0, pos := "sure.go:119", after := #[{ on := 10, ground := Ground.data }], guard := none }) (v := ?_) rfl (by kernel_rfl) (by kernel_rfl) (by kernel_rfl) (fun _ _ _ h => h) (Or.inl ⟨by rfl, ?_⟩) (by assumption) ?_
      case refine_2 => intro w hSw; (try dsimp only at hSw); obtain ⟨z0, z1⟩ := HCE.out _ hSw; go_simp; (try with_reducible rfl)
      simp only [Act.put, List.setIfInBounds_toArray, List.set_cons_zero, List.set_cons_succ]
      refine wpAnyH_take (i := 12) (oi := { dst := some 39, op := Op.load 4 (Operand.tmp 38), type := 4, pos := "sure.go:119", after := #[{ on := 11, ground := Ground.data }], guard := none }) (v := ?_) rfl (by kernel_rfl) (by kernel_rfl) (by kernel_rfl) (fun _ _ _ h => h) (Or.inl ⟨by rfl, ?_⟩) (by assumption) ?_
      case refine_2 => intro w hSw; (try dsimp only at hSw); obtain ⟨z0, z1⟩ := HCE.out _ hSw; go_simp; (try with_reducible rfl)
      simp only [Act.put, List.setIfInBounds_toArray, List.set_cons_zero, List.set_cons_succ]
      refine wpAnyH_take (i := 13) (oi := { dst := some 40, op := Op.unOp UnOp.not 4 (Operand.tmp 39), type := 4, pos := "sure.go:119", after := #[{ on := 12, ground := Ground.data }], guard := none }) (v := ?_) rfl (by kernel_rfl) (by kernel_rfl) (by kernel_rfl) (fun _ _ _ h => h) (Or.inl ⟨by rfl, ?_⟩) (by assumption) ?_
      case refine_2 => intro w hSw; (try dsimp only at hSw); obtain ⟨z0, z1⟩ := HCE.out _ hSw; go_simp; (try with_reducible rfl)
      simp only [Act.put, List.setIfInBounds_toArray, List.set_cons_zero, List.set_cons_succ]
      refine wpAnyH_take (i := 14) (oi := { dst := some 41, op := Op.indexAddr 91 (Operand.tmp 30) (Operand.tmp 31), type := 0, pos := "sure.go:119", after := #[{ on := 3, ground := Ground.data }, { on := 4, ground := Ground.data }, { on := 0, ground := Ground.phase }, { on := 1, ground := Ground.phase }, { on := 2, ground := Ground.phase }, { on := 3, ground := Ground.phase }, { on := 4, ground := Ground.phase }, { on := 5, ground := Ground.phase }, { on := 6, ground := Ground.phase }, { on := 7, ground := Ground.phase }, { on := 8, ground := Ground.phase }, { on := 9, ground := Ground.phase }, { on := 10, ground := Ground.phase }, { on := 11, ground := Ground.phase }, { on := 12, ground := Ground.phase }, { on := 13, ground := Ground.phase }], guard := none }) (v := ?_) rfl (by kernel_rfl) (by kernel_rfl) (by kernel_rfl) (fun _ _ _ h => h) (Or.inl ⟨by rfl, ?_⟩) (by assumption) ?_
      case refine_2 => intro w hSw; (try dsimp only at hSw); obtain ⟨z0, z1⟩ := HCE.out _ hSw; go_simp; (try with_reducible rfl)
      simp only [Act.put, List.setIfInBounds_toArray, List.set_cons_zero, List.set_cons_succ]
      refine wpAnyH_take (i := 15) (oi := { dst := some 42, op := Op.fieldAddr 90 (Operand.tmp 41) 2, type := 0, pos := "sure.go:119", after := #[{ on := 14, ground := Ground.data }, { on := 0, ground := Ground.phase }, { on := 1, ground := Ground.phase }, { on := 2, ground := Ground.phase }, { on := 3, ground := Ground.phase }, { on := 4, ground := Ground.phase }, { on := 5, ground := Ground.phase }, { on := 6, ground := Ground.phase }, { on := 7, ground := Ground.phase }, { on := 8, ground := Ground.phase }, { on := 9, ground := Ground.phase }, { on := 10, ground := Ground.phase }, { on := 11, ground := Ground.phase }, { on := 12, ground := Ground.phase }, { on := 13, ground := Ground.phase }], guard := none }) (v := ?_) rfl (by kernel_rfl) (by kernel_rfl) (by kernel_rfl) (fun _ _ _ h => h) (Or.inl ⟨by rfl, ?_⟩) (by assumption) ?_
      case refine_2 => intro w hSw; (try dsimp only at hSw); obtain ⟨z0, z1⟩ := HCE.out _ hSw; go_simp; (try with_reducible rfl)
      simp only [Act.put, List.setIfInBounds_toArray, List.set_cons_zero, List.set_cons_succ]
      refine wpAnyH_ready (rs := [16]) (by kernel_rfl) (by simp) ?_
      refine (AllReadyH.cons (o := { dst := none, op := Op.store 4 (Operand.tmp 42) (Operand.tmp 40), type := 0, pos := "sure.go:119", after := #[{ on := 15, ground := Ground.data }, { on := 13, ground := Ground.data }, { on := 0, ground := Ground.phase }, { on := 1, ground := Ground.phase }, { on := 2, ground := Ground.phase }, { on := 3, ground := Ground.phase }, { on := 4, ground := Ground.phase }, { on := 5, ground := Ground.phase }, { on := 6, ground := Ground.phase }, { on := 7, ground := Ground.phase }, { on := 8, ground := Ground.phase }, { on := 9, ground := Ground.phase }, { on := 10, ground := Ground.phase }, { on := 11, ground := Ground.phase }, { on := 12, ground := Ground.phase }, { on := 13, ground := Ground.phase }], guard := none }) rfl (fun K hK => ?_) AllReadyH.nil)
      have r0 := HD0.out.pt.dead hlt
      have r1 := HD0.out.pt.frozen (i * 63 + 62)
      go_simp
      have HD1 : Hid (Dd w (V0.setCell ⟨g, i * 63 + 62, none⟩ (.bool (!b))) base p g n cap fb X f (upd d i (!b)) R V vs (.slice al m cl) l) := HD0.out.cell (HD0.out.pt.setD hlt (!b))
      have hS1 := And.intro HD1.out.pt.box ((HD1.out.pt.fin hlt).trans (by rw [HFI.out]))
      clear r0 r1
      refine hK.out _ _ ?_ (fun hHeld => ?_)
      · exact hS1
      clear hK K
      try simp only [Act.put, List.setIfInBounds_toArray, List.set_cons_zero, List.set_cons_succ]
      refine wpAnyH_done (by kernel_rfl) ?_ _
      clear hS0 hS1
      generalize V0.setCell ⟨g, i * 63 + 62, none⟩ (.bool (!b)) = V1 at *
      have c0 := cell_of_row _ _ 0 _ _ _ HD1.out.pt.box
      have c1 := HD1.out.pt.fin hlt
      rw [HFI.out] at c1
      cases b with
      | true =>
        have HRL : Hid (V1.ownsRow w.heap.size 3 1 (.slice al m cl) m (ns l)) := by have h := HD1.out.live; rw [HM.out] at h; exact h
        have hm5 : m ≤ 500 := by have h1 := HP.out.ll; have h2 := HT.out.2; rw [HM.out] at h1; omega
        have HSZ : Hid (w.heap.size ≤ V1.heap.size) := HD1.out.kp.size
        go_upto_region 7 with fail
        clear c0 c1
        go_upto_region 8 with (refine wpList_append_own_at _ rfl _ _ 26 rfl w.heap.size 3 i3 (.int .i64 0) 1 8 Tryd.underlying26 hi3 hx0 hx1 hx2 rfl (by decide) _ _ _ rfl (HRL.out.alloc _) ⟨_, 0, none⟩ 1 1 [.int .i64 (i : Int)] rfl rfl (cell_one_new _ _ _) (sl_one _ rfl) (by unfold maxLen; omega) (by omega) (by have h := HSZ.out; simp; omega) ?_; intro v6 w6 ho6 hg6 _ hl6; obtain ⟨g6, c6, rfl, _, _⟩ := own_some ho6 (Nat.succ_pos _); have HD2 : Hid (Dd w w6 base p g n cap fb X f (upd d i (!true)) R V vs (.slice (some ⟨g6, 0, none⟩) (m + 1) c6) (l ++ [i])) := (HD1.out.laid (below_al _ (.cells #[.int .i64 (i : Int)] 3))).push (x := i) (by rw [HM.out]; exact ho6) hg6 hl6; clear ho6 hg6 hl6)
        clear HD1 HRL HSZ
        obtain ⟨dz, hdz⟩ : ∃ dz, upd d i (!true) = dz := ⟨_, rfl⟩
        have HZ : Hid (Dd w w6 base p g n cap fb X f dz R V vs (.slice (some ⟨g6, 0, none⟩) (m + 1) c6) (l ++ [i])) := by rw [← hdz]; exact HD2.out
        have HPZ : Hid (P0 f dz (l ++ [i]) (i + 1)) := by rw [← hdz]; exact HP.out.fin HFI.out
        clear hdz
        have r8 := HZ.out.pt.xrange hlt
        have c8 := cell_of_row _ _ 0 _ _ _ HZ.out.pt.box
        go_upto_region 9 with (refine ld88 rfl (.tmp 61) rfl g (i * 63) (X i) rfl r8 ?_)
        clear r8 c8
        go_loopw [63] (fun a wr => ∃ (c : Nat) (R : Nat → List Nat) (V : Nat → Value) (vs : List Value), a = .int .i64 (c : Int) ∧ c ≤ 61 ∧ Dd w wr base p g n cap fb X f dz R V vs (.slice (some ⟨g6, 0, none⟩) (m + 1) c6) (l ++ [i]) ∧ Q1 X R i c) (fun a _ => 61 - (intOf a).toNat)
        case atStart => exact ⟨0, _, _, _, rfl, Nat.zero_le _, HZ.out, HQ.out⟩
        case round =>
          clear HZ HQ
          obtain ⟨c, R2, V2, vs2, rfl, hc61, hdd, hq⟩ := hrel
          have HD : Hid (Dd w wr base p g n cap fb X f dz R2 V2 vs2 (.slice (some ⟨g6, 0, none⟩) (m + 1) c6) (l ++ [i])) := hdd
          have HQ : Hid (Q1 X R2 i c) := hq
          clear hdd hq
          by_cases hc : c < 61
          · have hci : (c : Int) < 61 := by omega
            have hidx := idx88 (X i) c hc
            obtain ⟨x, hx⟩ : ∃ x, X i c = x := ⟨_, rfl⟩
            have HX : Hid (X i c = x) := hx
            rw [hx] at hidx
            rcases HT.out.1.cases hlt hc with h1 | ⟨j, h1, hj, _, _⟩
            · obtain rfl : x = -1 := by rw [← hx]; exact h1
              clear h1 hx
              go_wp2
              go_roundw
              case rel => exact ⟨c + 1, R2, V2, vs2, by go_num, hc, HD.out, HQ.out.skip HX.out⟩
              case measure => simp [intOf]; omega
            · obtain rfl : x = (j : Int) := by rw [← hx]; exact h1
              clear h1 hx
              have q1 : ((j : Int) != -1) = true := by have h : ¬ (j : Int) = -1 := (by omega); simp [h]
              have c7 := HD.out.at hj
              obtain ⟨aj, cj, hvj⟩ := oslice (HD.out.rows j)
              obtain ⟨mj, hmj⟩ : ∃ m, (R2 j).length = m := ⟨_, rfl⟩
              have HM : Hid ((R2 j).length = mj) := hmj
              rw [hmj] at hvj
              have HV : Hid (V2 j = .slice aj mj cj) := hvj
              rw [hvj] at c7
              have HRW : Hid (wr.ownsRow w.heap.size 3 1 (.slice aj mj cj) mj (ns (R2 j))) := by have h := HD.out.rows j; rw [HV.out, HM.out] at h; exact h
              have hmb : mj ≤ 31000 := by have h1 := HQ.out.rl j; have h2 := HT.out.2; rw [hmj] at h1; omega
              have HSZ : Hid (w.heap.size ≤ wr.heap.size) := HD.out.kp.size
              clear hvj hmj
              go_wp2_with (refine wpList_append_own_at _ rfl _ _ 26 rfl w.heap.size 3 i3 (.int .i64 0) 1 8 Tryd.underlying26 hi3 hx0 hx1 hx2 rfl (by decide) _ _ _ rfl (HRW.out.alloc _) ⟨_, 0, none⟩ 1 1 [.int .i64 (i : Int)] rfl rfl (cell_one_new _ _ _) (sl_one _ rfl) (by unfold maxLen; omega) (by omega) (by have h := HSZ.out; simp; omega) ?_; intro v6 w6 ho6 hg6 _ hl6; obtain ⟨g6, c6, rfl, _, _⟩ := own_some ho6 (Nat.succ_pos _); have hadd := (HD.out.laid (below_al _ (.cells #[.int .i64 (i : Int)] 3))).add (x := i) hj (by rw [HM.out]; exact ho6) (by rw [HV.out]; exact hg6) (by rw [HV.out]; exact hl6); have k4 := hadd.1.1; have k5 := hadd.1.2; rw [HV.out] at k4; have HD2 : Hid _ := hadd.2; clear ho6 hg6 hl6 hadd)
              go_roundw
              case rel => exact ⟨c + 1, _, _, _, by go_num, hc, HD2.out, HQ.out.add hc HX.out⟩
              case measure => simp [intOf]; omega
          · obtain rfl : c = 61 := by omega
            go_wp2
            go_roundw
            case rel => exact ⟨i + 1, _, dz, R2, V2, vs2, (l ++ [i]), rfl, by go_num, hlt, HD.out, HPZ.out, HQ.out.row⟩
            case measure => simp [intOf]; omega
      | false =>
        go_upto_region 8 with fail
        clear c0 c1
        obtain ⟨dz, hdz⟩ : ∃ dz, upd d i (!false) = dz := ⟨_, rfl⟩
        have HZ : Hid (Dd w V1 base p g n cap fb X f dz R V vs (.slice al m cl) l) := by rw [← hdz]; exact HD1.out
        have HPZ : Hid (P0 f dz l (i + 1)) := by rw [← hdz]; exact HP.out.non HFI.out
        clear hdz
        have r8 := HZ.out.pt.xrange hlt
        have c8 := cell_of_row _ _ 0 _ _ _ HZ.out.pt.box
        go_upto_region 9 with (refine ld88 rfl (.tmp 61) rfl g (i * 63) (X i) rfl r8 ?_)
        clear r8 c8
        go_loopw [63] (fun a wr => ∃ (c : Nat) (R : Nat → List Nat) (V : Nat → Value) (vs : List Value), a = .int .i64 (c : Int) ∧ c ≤ 61 ∧ Dd w wr base p g n cap fb X f dz R V vs (.slice al m cl) l ∧ Q1 X R i c) (fun a _ => 61 - (intOf a).toNat)
        case atStart => exact ⟨0, _, _, _, rfl, Nat.zero_le _, HZ.out, HQ.out⟩
        case round =>
          clear HZ HQ
          obtain ⟨c, R2, V2, vs2, rfl, hc61, hdd, hq⟩ := hrel
          have HD : Hid (Dd w wr base p g n cap fb X f dz R2 V2 vs2 (.slice al m cl) l) := hdd
          have HQ : Hid (Q1 X R2 i c) := hq
          clear hdd hq
          by_cases hc : c < 61
          · have hci : (c : Int) < 61 := by omega
            have hidx := idx88 (X i) c hc
            obtain ⟨x, hx⟩ : ∃ x, X i c = x := ⟨_, rfl⟩
            have HX : Hid (X i c = x) := hx
            rw [hx] at hidx
            rcases HT.out.1.cases hlt hc with h1 | ⟨j, h1, hj, _, _⟩
            · obtain rfl : x = -1 := by rw [← hx]; exact h1
              clear h1 hx
              go_wp2
              go_roundw
              case rel => exact ⟨c + 1, R2, V2, vs2, by go_num, hc, HD.out, HQ.out.skip HX.out⟩
              case measure => simp [intOf]; omega
            · obtain rfl : x = (j : Int) := by rw [← hx]; exact h1
              clear h1 hx
              have q1 : ((j : Int) != -1) = true := by have h : ¬ (j : Int) = -1 := (by omega); simp [h]
              have c7 := HD.out.at hj
              obtain ⟨aj, cj, hvj⟩ := oslice (HD.out.rows j)
              obtain ⟨mj, hmj⟩ : ∃ m, (R2 j).length = m := ⟨_, rfl⟩
              have HM : Hid ((R2 j).length = mj) := hmj
              rw [hmj] at hvj
              have HV : Hid (V2 j = .slice aj mj cj) := hvj
              rw [hvj] at c7
              have HRW : Hid (wr.ownsRow w.heap.size 3 1 (.slice aj mj cj) mj (ns (R2 j))) := by have h := HD.out.rows j; rw [HV.out, HM.out] at h; exact h
              have hmb : mj ≤ 31000 := by have h1 := HQ.out.rl j; have h2 := HT.out.2; rw [hmj] at h1; omega
              have HSZ : Hid (w.heap.size ≤ wr.heap.size) := HD.out.kp.size
              clear hvj hmj
              go_wp2_with (refine wpList_append_own_at _ rfl _ _ 26 rfl w.heap.size 3 i3 (.int .i64 0) 1 8 Tryd.underlying26 hi3 hx0 hx1 hx2 rfl (by decide) _ _ _ rfl (HRW.out.alloc _) ⟨_, 0, none⟩ 1 1 [.int .i64 (i : Int)] rfl rfl (cell_one_new _ _ _) (sl_one _ rfl) (by unfold maxLen; omega) (by omega) (by have h := HSZ.out; simp; omega) ?_; intro v6 w6 ho6 hg6 _ hl6; obtain ⟨g6, c6, rfl, _, _⟩ := own_some ho6 (Nat.succ_pos _); have hadd := (HD.out.laid (below_al _ (.cells #[.int .i64 (i : Int)] 3))).add (x := i) hj (by rw [HM.out]; exact ho6) (by rw [HV.out]; exact hg6) (by rw [HV.out]; exact hl6); have k4 := hadd.1.1; have k5 := hadd.1.2; rw [HV.out] at k4; have HD2 : Hid _ := hadd.2; clear ho6 hg6 hl6 hadd)
              go_roundw
              case rel => exact ⟨c + 1, _, _, _, by go_num, hc, HD2.out, HQ.out.add hc HX.out⟩
              case measure => simp [intOf]; omega
          · obtain rfl : c = 61 := by omega
            go_wp2
            go_roundw
            case rel => exact ⟨i + 1, _, dz, R2, V2, vs2, l, rfl, by go_num, hlt, HD.out, HPZ.out, HQ.out.row⟩
            case measure => simp [intOf]; omega
    · obtain rfl : i = n := by omega
      have HF : Hid (Fd2 T i R d l) := Fd2.begin HT.out.1 HP.out.flag HP.out.liv
      have HL : Hid (Ldr X R i 0 ∧ l.length + dn i d ≤ 1000 ∧ ∀ j, (R j).length ≤ 31000) := ⟨HQ.out.led, by have h1 := HP.out.ll; have h2 := dn_le i d; have h3 := HT.out.2; omega, fun j => by have h1 := HQ.out.rl j; have h3 := HT.out.2; omega⟩
      clear HP HQ
      go_wp2
      go_loopg [3] (2 * dn i d + l.length) (fun gk s3 wr => ∃ (lv : Value) (d : Nat → Bool) (l : List Nat), s3 = lv ∧ Dd w wr base p g i cap fb X f d R V vs lv l ∧ Fd2 T i R d l ∧ gk = 2 * dn i d + l.length ∧ l.length + dn i d ≤ 1000)
      case atStart => exact ⟨_, d, l, rfl, HD.out, HF.out, rfl, HL.out.2.1⟩
      case round =>
        clear HD HF HM
        obtain ⟨lv, d, l, rfl, hdd, hf2, hgk, hg9⟩ := hrel
        have HG : Hid (gk = 2 * dn i d + l.length) := hgk
        have HG9 : Hid (l.length + dn i d ≤ 1000) := hg9
        have HF : Hid (Fd2 T i R d l) := hf2
        obtain ⟨al, cl, rfl⟩ := oslice hdd.live
        have HD : Hid (Dd w wr base p g i cap fb X f d R V vs (.slice al l.length cl) l) := hdd
        clear hdd hf2 hgk hg9
        by_cases hne : 0 < l.length
        · obtain ⟨l1, x, rfl⟩ : ∃ l1 x, l = l1 ++ [x] := ⟨l.dropLast, l.getLast (fun e => by subst e; exact absurd hne (by simp)), (List.dropLast_concat_getLast _).symm⟩
          obtain ⟨q, hq⟩ : ∃ q, l1.length = q := ⟨_, rfl⟩
          have HN : Hid (l1.length = q) := hq
          have hn1 : (l1 ++ [x]).length = q + 1 := by rw [List.length_append, hq]; rfl
          have HD1 : Hid (Dd w wr base p g i cap fb X f d R V vs (.slice al (q + 1) cl) (l1 ++ [x])) := by have h := HD.out; rw [hn1] at h; exact h
          rw [hn1]
          have hrow := HD1.out.live
          rw [hn1] at hrow
          obtain ⟨ug, uc, hue, hug, _⟩ := own_some hrow (Nat.succ_pos _)
          rw [Value.slice.injEq] at hue
          obtain ⟨rfl, _, rfl⟩ := hue
          obtain ⟨hcap, hcm⟩ := own_cap2 hrow (Nat.succ_pos _)
          have hx := hrow.cellAt q (by omega)
          rw [show (ns (l1 ++ [x]))[q]? = some (.int .i64 (x : Int)) from ns_at (by rw [List.getElem?_append_right (by omega), hq]; simp)] at hx
          have hqcap : q ≤ cl := by omega
          have hxn : x < i := (HF.out.stk x (by simp)).1
          have HD2 : Hid (Dd w wr base p g i cap fb X f d R V vs (.slice (some ⟨ug, 0, none⟩) q cl) l1) := HD1.out.pop hq
          have HF3 : Hid (Fd3 T i R x 0 d l1) := HF.out.pop
          have HGM : Hid (2 * dn i d + l1.length + 1 ≤ gk ∧ l1.length + dn i d ≤ 1000) := ⟨by rw [HG.out, List.length_append]; exact Nat.le_refl _, by have h := HG9.out; rw [List.length_append] at h; simp at h; omega⟩
          obtain ⟨nx, hnx⟩ : ∃ nx, (R x).length = nx := ⟨_, rfl⟩
          have HNX : Hid ((R x).length = nx) := hnx
          obtain ⟨ax, cx', hVx⟩ := oslice (HD2.out.rows x)
          rw [hnx] at hVx
          have HVX : Hid (V x = .slice ax nx cx') := hVx
          have hvx := HD2.out.at hxn
          rw [hVx] at hvx
          have hqb : q ≤ 1000 := by have h := HGM.out.2; rw [hq] at h; omega
          have hnb : nx ≤ 31000 := by rw [← hnx]; exact HL.out.2.2 x
          clear hrow hn1 HD HD1 HF HG HG9 hVx hnx hcap hcm hug hne hq
          go_upto_region 18 with fail
          clear hx
          go_upto_region 19 with fail
          clear hvx
          go_loopw [3, 99] (fun s3 a wr => ∃ (y : Nat) (lv : Value) (d : Nat → Bool) (l : List Nat), s3 = lv ∧ a = .int .i64 (y : Int) ∧ y ≤ nx ∧ Dd w wr base p g i cap fb X f d R V vs lv l ∧ Fd3 T i R x y d l ∧ 2 * dn i d + l.length + 1 ≤ gk ∧ l.length + dn i d ≤ 1000) (fun _ a _ => nx - (intOf a).toNat)
          case atStart => exact ⟨0, _, d, l1, rfl, rfl, Nat.zero_le _, HD2.out, HF3.out, HGM.out.1, HGM.out.2⟩
          case round =>
            clear HD2 HF3 HGM HN
            obtain ⟨y, lv, d2, l2, rfl, rfl, hy, hdd, hf3, hgm, hgl⟩ := hrel
            obtain ⟨m2, hm2⟩ : ∃ m, l2.length = m := ⟨_, rfl⟩
            obtain ⟨a2, c2, rfl⟩ := oslice hdd.live
            rw [hm2] at hdd
            have HM2 : Hid (l2.length = m2) := hm2
            have HD : Hid (Dd w wr base p g i cap fb X f d2 R V vs (.slice a2 m2 c2) l2) := hdd
            have HF : Hid (Fd3 T i R x y d2 l2) := hf3
            have HGM : Hid (2 * dn i d2 + l2.length + 1 ≤ gk ∧ l2.length + dn i d2 ≤ 1000) := ⟨hgm, hgl⟩
            rw [hm2]
            clear hdd hf3 hgm hgl hm2
            by_cases hlt : y < nx
            · obtain ⟨z, hz⟩ : ∃ z, (R x)[y]? = some z := ⟨_, List.getElem?_eq_getElem (by rw [HNX.out]; exact hlt)⟩
              have HZ : Hid ((R x)[y]? = some z) := hz
              have hzn : z < i := lead_lt HL.out.1 hz
              have hr := HD.out.rows x
              rw [HVX.out, HNX.out] at hr
              obtain ⟨xg, xc, hxe, _, _⟩ := own_some hr (by omega)
              rw [Value.slice.injEq] at hxe
              obtain ⟨rfl, _, rfl⟩ := hxe
              have c6 := (hr.cellAt y (by omega)).trans (ns_at hz)
              have c0 := cell_of_row _ _ 0 _ _ _ HD.out.pt.box
              have c5 := HD.out.pt.dead hzn
              obtain ⟨bz, hbz⟩ : ∃ b, d2 z = b := ⟨_, rfl⟩
              have HBZ : Hid (d2 z = bz) := hbz
              rw [hbz] at c5
              clear hz hr hbz
              cases bz with
              | false =>
                go_wp2
                go_roundw
                case rel => exact ⟨y + 1, _, d2, l2, rfl, by go_num, hlt, HD.out, HF.out.old HZ.out HBZ.out, HGM.out.1, HGM.out.2⟩
                case measure => simp [intOf]; omega
              | true =>
                have r1 := HD.out.pt.frozen (z * 63 + 62)
                have HD3 : Hid (Dd w (wr.setCell ⟨g, z * 63 + 62, none⟩ (.bool false)) base p g i cap fb X f (upd d2 z false) R V vs (.slice a2 m2 c2) l2) := HD.out.cell (HD.out.pt.setD hzn false)
                have HLS : Hid (dn i (upd d2 z false) < dn i d2) := dn_less hzn HBZ.out
                have HNW : Hid (Fd3 T i R x (y + 1) (upd d2 z false) (l2 ++ [z])) := (HF.out.new HT.out.1 HL.out.1 HZ.out).1
                go_upto_region 23 with fail
                clear c6 c0 c5 r1
                generalize wr.setCell ⟨g, z * 63 + 62, none⟩ (.bool false) = W3 at *
                have HRL : Hid (W3.ownsRow w.heap.size 3 1 (.slice a2 m2 c2) m2 (ns l2)) := by have h := HD3.out.live; rw [HM2.out] at h; exact h
                have hm5 : m2 ≤ 1000 := by have h1 := HGM.out.2; rw [HM2.out] at h1; omega
                have HSZ : Hid (w.heap.size ≤ W3.heap.size) := HD3.out.kp.size
                go_wp2_with (refine wpList_append_own_at _ rfl _ _ 26 rfl w.heap.size 3 i3 (.int .i64 0) 1 8 Tryd.underlying26 hi3 hx0 hx1 hx2 rfl (by decide) _ _ _ rfl (HRL.out.alloc _) ⟨_, 0, none⟩ 1 1 [.int .i64 (z : Int)] rfl rfl (cell_one_new _ _ _) (sl_one _ rfl) (by unfold maxLen; omega) (by omega) (by have h := HSZ.out; simp; omega) ?_; intro v6 w6 ho6 hg6 _ hl6; obtain ⟨g6, c6, rfl, _, _⟩ := own_some ho6 (Nat.succ_pos _); have HD4 : Hid (Dd w w6 base p g i cap fb X f (upd d2 z false) R V vs (.slice (some ⟨g6, 0, none⟩) (m2 + 1) c6) (l2 ++ [z])) := (HD3.out.laid (below_al _ (.cells #[.int .i64 (z : Int)] 3))).push (x := z) (by rw [HM2.out]; exact ho6) hg6 hl6; clear ho6 hg6 hl6)
                go_roundw
                case rel => exact ⟨y + 1, _, _, _, rfl, by go_num, hlt, HD4.out, HNW.out, by have h1 := HLS.out; have h2 := HGM.out.1; rw [List.length_append]; simp; omega, by have h1 := HLS.out; have h2 := HGM.out.2; rw [List.length_append]; simp; omega⟩
                case measure => simp [intOf]; omega
            · obtain rfl : y = nx := by omega
              have HF2 : Hid (Fd2 T i R d2 l2) := HF.out.fin (by rw [HNX.out]; exact Nat.le_refl _)
              go_wp2
              go_roundg (2 * dn i d2 + l2.length)
              case measure => exact HGM.out.1
              case rel => exact ⟨_, d2, l2, rfl, HD.out, HF2.out, rfl, HGM.out.2⟩
        · obtain rfl : l = [] := List.eq_nil_of_length_eq_zero (by omega)
          have HDD : Hid (∀ j, j < i → (d j = true ↔ ¬ T.Live (some j))) := HF.out.done HT.out.1 HL.out.1
          have HPT : Hid (PT wr base p g i cap X f d ∧ Kp (fun b => b = g) w wr) := ⟨HD.out.pt, HD.out.kp⟩
          have c0 := cell_of_row _ _ 0 _ _ _ HD.out.pt.box
          clear HD HF HG HG9 hne
          rw [show ([] : List Nat).length = 0 from rfl]
          go_upto_region 26 with fail
          clear c0
          go_loopw [128] (fun a wr => ∃ (k : Nat) (X' : Nat → Nat → Int), a = .int .i64 (k : Int) ∧ k ≤ i ∧ PT wr base p g i cap X' f d ∧ Cx X d X' k 0 ∧ Kp (fun b => b = g) w wr) (fun a _ => i - (intOf a).toNat)
          case atStart => exact ⟨0, X, rfl, Nat.zero_le _, HPT.out.1, Cx.begin X d, HPT.out.2⟩
          case round =>
            clear HPT
            obtain ⟨k, X0, rfl, hk, hpt, hcx, hkp⟩ := hrel
            have HP : Hid (PT wr base p g i cap X0 f d) := hpt
            have HC : Hid (Cx X d X0 k 0 ∧ Kp (fun b => b = g) w wr) := ⟨hcx, hkp⟩
            clear hpt hcx hkp
            by_cases hlt : k < i
            · have c0 := cell_of_row _ _ 0 _ _ _ HP.out.box
              have r8 := HP.out.xrange hlt
              have HX0 : Hid (∀ s, s < 61 → X0 k s = X k s) := fun s hs => by rw [HC.out.1 k s hs, if_neg (by omega)]
              go_upto_region 29 with (refine ld88 rfl (.tmp 137) rfl g (k * 63) (X0 k) rfl r8 ?_)
              clear c0 r8
              go_loopw [139] (fun a wr => ∃ (c : Nat) (X' : Nat → Nat → Int), a = .int .i64 (c : Int) ∧ c ≤ 61 ∧ PT wr base p g i cap X' f d ∧ Cx X d X' k c ∧ Kp (fun b => b = g) w wr) (fun a _ => 61 - (intOf a).toNat)
              case atStart => exact ⟨0, X0, rfl, Nat.zero_le _, HP.out, HC.out.1, HC.out.2⟩
              case round =>
                clear HP HC
                obtain ⟨c, X1, rfl, hc61, hpt, hcx, hkp⟩ := hrel
                have HP : Hid (PT wr base p g i cap X1 f d) := hpt
                have HC : Hid (Cx X d X1 k c ∧ Kp (fun b => b = g) w wr) := ⟨hcx, hkp⟩
                clear hpt hcx hkp
                by_cases hc : c < 61
                · have hci : (c : Int) < 61 := by omega
                  have hidx := idx88 (X0 k) c hc
                  rw [HX0.out c hc] at hidx
                  obtain ⟨x, hx⟩ : ∃ x, X k c = x := ⟨_, rfl⟩
                  have HX : Hid (X k c = x) := hx
                  rw [hx] at hidx
                  rcases HT.out.1.cases hlt hc with h1 | ⟨j, h1, hj, _, _⟩
                  · obtain rfl : x = -1 := by rw [← hx]; exact h1
                    clear h1 hx
                    go_wp2
                    go_roundw
                    case rel => exact ⟨c + 1, X1, by go_num, hc, HP.out, HC.out.1.keep (by unfold cx; rw [HX.out, if_neg (by simp)]), HC.out.2⟩
                    case measure => simp [intOf]; omega
                  · obtain rfl : x = (j : Int) := by rw [← hx]; exact h1
                    clear h1 hx
                    have q1 : ((j : Int) != -1) = true := by have h : ¬ (j : Int) = -1 := (by omega); simp [h]
                    have c0 := cell_of_row _ _ 0 _ _ _ HP.out.box
                    have c5 := HP.out.dead hj
                    obtain ⟨bj, hbj⟩ : ∃ b, d j = b := ⟨_, rfl⟩
                    have HBJ : Hid (d j = bj) := hbj
                    rw [hbj] at c5
                    clear hbj
                    cases bj with
                    | false =>
                      go_wp2
                      go_roundw
                      case rel => exact ⟨c + 1, X1, by go_num, hc, HP.out, HC.out.1.keep (by unfold cx; rw [HX.out, if_neg (by rw [Int.toNat_natCast, HBJ.out]; simp)]), HC.out.2⟩
                      case measure => simp [intOf]; omega
                    | true =>
                      have r0 := HP.out.x hlt hc
                      have r1 := HP.out.frozen (k * 63 + c)
                      have HP2 : Hid (PT (wr.setCell ⟨g, k * 63 + c, none⟩ (.int .i64 (-1))) base p g i cap (upx X1 k c (-1)) f d ∧ Kp (fun b => b = g) w (wr.setCell ⟨g, k * 63 + c, none⟩ (.int .i64 (-1)))) := ⟨HP.out.setX hlt hc (-1), HC.out.2.setCell _ _ _ (fun _ => rfl)⟩
                      go_wp2
                      go_roundw
                      case rel => exact ⟨c + 1, _, by go_num, hc, HP2.out.1, HC.out.1.drop (by unfold cx; rw [HX.out, if_pos ⟨by omega, by rw [Int.toNat_natCast]; exact HBJ.out⟩]), HP2.out.2⟩
                      case measure => simp [intOf]; omega
                · obtain rfl : c = 61 := by omega
                  go_wp2
                  go_roundw
                  case rel => exact ⟨k + 1, X1, by go_num, hlt, HP.out, HC.out.1.row, HC.out.2⟩
                  case measure => simp [intOf]; omega
            · obtain rfl : k = i := by omega
              go_wp2
              go_end0
              exact ⟨rfl, X0, d, (HC.out.1.done HT.out.1 HDD.out).1, (HC.out.1.done HT.out.1 HDD.out).2, HP.out, HC.out.2⟩
end Go.Proofs.YtfjocafepigijaaDoor.Su
