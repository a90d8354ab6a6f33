/- joined: how its parts lie while the small machine is made; which classes have a state. No conditions. -/
import Derived.Test.YtfjocafepigijaaDoorFqM
import Derived.Test.YtfjocafepigijaaDoorDm
import Derived.Test.YtfjocafepigijaaDoorCfM
namespace Go.Proofs.YtfjocafepigijaaDoor.Su
open Go.RowKit Mv Po Ps Cm Ra Ot Pa

/-- a number, and whether it is there -/
theorem look2 {w : World} {b n : Nat} {G : Nat → Option Nat} (h : Na.IsNm w b n G) {a : Nat} (ha : a ≤ 1000000) : (Instr.lookup 138 (.map (some b)) (.int .i64 (a : Int)) true).run Tryd.prog w = .ok (match G a with | some c => .tuple #[.int .i64 (c : Int), .bool true] | none => .tuple #[.int .i64 0, .bool false]) w := by
  obtain ⟨D, ⟨es, clock, hb, F, hs, hD⟩, hG⟩ := h
  have hg := hG a ha
  rw [hD] at hg
  rcases Maps.fit_look true Na.keyed3 Tryd.underlying138 (Am.zero3 w) hb F (Na.keyOf3 a ha) with ⟨hr, _, hno⟩ | ⟨e0, y, _, _, hr, hy, hat, _⟩
  · rw [hr]
    cases e : G a with
    | none => rfl
    | some c =>
      have h1 := hg .nil
      rw [hno, e] at h1
      cases h1
  · rw [hr]
    cases e : G a with
    | none =>
      have h1 := hg .nil
      have h2 := hg (.held undef)
      rw [hat, e] at h1 h2
      rw [h1] at h2
      cases h2
    | some c =>
      have h1 := hg .nil
      rw [hat, e] at h1
      have h2 : y.1 = .held e0.val := by
        unfold Mp.El at hy
        simp only [Option.some.injEq] at hy
        rw [← hy]
      rw [h2] at h1
      simp only [DataW.held.injEq] at h1
      rw [if_pos rfl, h1]
/-- the map knows the class of each row of the list, with its place -/
def Jg (cl l : List Nat) (G : Nat → Option Nat) : Prop := ∀ a i, G a = some i ↔ ∃ y, l[i]? = some y ∧ cl.getD y 0 = a
theorem Jg.one (cl : List Nat) : Jg cl [0] (fun a => if a = cl.getD 0 0 then some 0 else none) := fun a i => by
  show (if a = cl.getD 0 0 then some 0 else none) = some i ↔ _
  constructor
  · intro h
    by_cases e : a = cl.getD 0 0
    · rw [if_pos e] at h; cases h; exact ⟨0, rfl, e.symm⟩
    · rw [if_neg e] at h; cases h
  · rintro ⟨y, h1, h2⟩
    cases i with
    | zero => simp at h1; subst h1; rw [if_pos h2.symm]
    | succ i => simp at h1
theorem Jg.add {cl l : List Nat} {G : Nat → Option Nat} {x : Nat} (h : Jg cl l G) (hx : G (cl.getD x 0) = none) : Jg cl (l ++ [x]) (fun a => if a = cl.getD x 0 then some l.length else G a) := fun a i => by
  show (if a = cl.getD x 0 then some l.length else G a) = some i ↔ _
  have hlt : ∀ {b j : Nat}, G b = some j → j < l.length := fun {b j} hb => by obtain ⟨y, h1, _⟩ := (h b j).1 hb; exact (List.getElem?_eq_some_iff.1 h1).1
  by_cases e : a = cl.getD x 0
  · rw [if_pos e]
    constructor
    · intro h1; cases h1; exact ⟨x, by simp, e.symm⟩
    · rintro ⟨y, h1, h2⟩
      by_cases e2 : i < l.length
      · rw [List.getElem?_append_left e2] at h1
        rw [← e, (h a i).2 ⟨y, h1, h2⟩] at hx
        cases hx
      · have h3 := (List.getElem?_eq_some_iff.1 h1).1
        rw [List.length_append, List.length_singleton] at h3
        rw [show l.length = i by omega]
  · rw [if_neg e, h a i]
    constructor
    · rintro ⟨y, h1, h2⟩
      exact ⟨y, by rw [List.getElem?_append_left (List.getElem?_eq_some_iff.1 h1).1]; exact h1, h2⟩
    · rintro ⟨y, h1, h2⟩
      by_cases e2 : i < l.length
      · rw [List.getElem?_append_left e2] at h1; exact ⟨y, h1, h2⟩
      · have h3 := (List.getElem?_eq_some_iff.1 h1).1
        rw [List.length_append, List.length_singleton] at h3
        obtain rfl : i = l.length := by omega
        simp at h1
        subst h1
        exact absurd h2.symm e
/-- the classes are those of the table -/
def Cl9 (T : Tb) (cl : List Nat) : Prop := ∀ i j, i < T.n → j < T.n → (cl.getD i 0 = cl.getD j 0 ↔ T.Lk (some i) (some j))
theorem Jg.old_wh {T : Tb} {cl l : List Nat} {G : Nat → Option Nat} {x i : Nat} (h : Jg cl l G) (hc : Cl9 T cl) (hl : Rows T l) (hx : x < T.n) (hg : G (cl.getD x 0) = some i) : wh T l x = i ∧ i < l.length := by
  obtain ⟨y, h1, h2⟩ := (h _ _).1 hg
  exact ⟨wh_at hl h1 ((hc y x (hl.1 y (List.mem_of_getElem? h1)) hx).1 h2), (List.getElem?_eq_some_iff.1 h1).1⟩
theorem Jg.new_wh {T : Tb} {cl l : List Nat} {G : Nat → Option Nat} {x : Nat} (h : Jg cl l G) (hc : Cl9 T cl) (hl : Rows T l) (hx : x < T.n) (hg : G (cl.getD x 0) = none) : wh T l x = l.length :=
  wh_new.2 fun y hy hk => by
    obtain ⟨i, hi, rfl⟩ := List.getElem_of_mem hy
    rw [(h _ i).2 ⟨_, List.getElem?_eq_getElem hi, (hc _ x (hl.1 _ hy) hx).2 hk⟩] at hg
    cases hg
/-- the parts of the machine that is made -/
structure Jd (w wr : World) (p4 p5 mb : Nat) (vl va vg : Value) (l : List Nat) (arcs : List (Int × Int × Int × Int × Int)) (fs : List (Int × Int)) (G : Nat → Option Nat) : Prop where
  out : wr.heap[p4]? = some (.cells #[.int .i64 0, .slice none 0 0, .slice none 0 0] 25 (0, 0))
  mac : wr.heap[p5]? = some (.cells #[.int .i64 0, va, vg] 25 (0, 0))
  ne : p4 ≠ p5
  le4 : w.heap.size ≤ p4
  le5 : w.heap.size ≤ p5
  lrow : wr.ownsRow w.heap.size 3 1 vl l.length (ns l)
  arow : wr.ownsRow w.heap.size 64 5 va arcs.length (acs arcs)
  grow : wr.ownsRow w.heap.size 66 2 vg fs.length (fcs fs)
  nm : Na.IsNm wr mb l.length G
  mge : w.heap.size ≤ mb
  below : Below w.heap.size w wr
section
variable {w wr w1 : World} {p4 p5 mb : Nat} {vl va vg : Value} {l : List Nat} {arcs : List (Int × Int × Int × Int × Int)} {fs : List (Int × Int)} {G : Nat → Option Nat}
theorem Jd.kept {X : Nat → Prop} (h : Jd w wr p4 p5 mb vl va vg l arcs fs G) (hk : Kp X wr w1) (hX : ∀ b c ty, wr.heap[b]? = some (.cells c ty (0, 0)) → ty = 25 ∨ ty = 3 ∨ ty = 64 ∨ ty = 66 → w.heap.size ≤ b → ¬ X b) (hm : ¬ X mb) (hb : Below w.heap.size w w1) : Jd w w1 p4 p5 mb vl va vg l arcs fs G :=
  ⟨(hk.block _ (lt_at h.out) (hX _ _ _ h.out (.inl rfl) h.le4)).trans h.out, (hk.block _ (lt_at h.mac) (hX _ _ _ h.mac (.inl rfl) h.le5)).trans h.mac, h.ne, h.le4, h.le5, own_kp2 h.lrow hk (fun b hb => by obtain ⟨d, hd⟩ := own_ty h.lrow hb; exact hX b d 3 hd (.inr (.inl rfl)) (h.lrow.lt b hb).1), own_kp2 h.arow hk (fun b hb => by obtain ⟨d, hd⟩ := own_ty h.arow hb; exact hX b d 64 hd (.inr (.inr (.inl rfl))) (h.arow.lt b hb).1), own_kp2 h.grow hk (fun b hb => by obtain ⟨d, hd⟩ := own_ty h.grow hb; exact hX b d 66 hd (.inr (.inr (.inr rfl))) (h.grow.lt b hb).1), h.nm.kept (hk.block _ h.nm.lt hm), h.mge, hb⟩
theorem Jd.laid (h : Jd w wr p4 p5 mb vl va vg l arcs fs G) (hb : Below wr.heap.size wr w1) : Jd w w1 p4 p5 mb vl va vg l arcs fs G :=
  h.kept (kp_below hb (fun _ => False)) (fun _ _ _ _ _ _ => id) id (h.below.trans (hb.mono h.below.size))
/-- a row's own copy is turned -/
theorem Jd.row {b : Nat} {c : Array Value} (h : Jd w wr p4 p5 mb vl va vg l arcs fs G) (hk : Kp (fun k => k = b) wr w1) (hb : wr.heap[b]? = some (.cells c 90 (0, 0))) (hge : w.heap.size ≤ b) : Jd w w1 p4 p5 mb vl va vg l arcs fs G :=
  h.kept hk (fun k d ty hd ht _ e => by subst e; exact ty_ne hd hb (by rcases ht with h | h | h | h <;> subst h <;> decide)) (fun e => by
    obtain ⟨es, ck, hm⟩ := h.nm.ty
    rw [e, hb] at hm
    cases hm) (below_kp h.below hk (fun k hk2 e => by have e2 : k = b := e; omega))
theorem Jd.nmty (h : Jd w wr p4 p5 mb vl va vg l arcs fs G) {b : Nat} {c : Array Value} {ty : TypeId} (hb : wr.heap[b]? = some (.cells c ty (0, 0))) : ¬ b = mb := fun e => by
  obtain ⟨es, ck, hm⟩ := h.nm.ty
  rw [← e, hb] at hm
  cases hm
/-- a class more -/
theorem Jd.class {G' : Nat → Option Nat} {m' : Nat} (h : Jd w wr p4 p5 mb vl va vg l arcs fs G) (hm : Na.IsNm w1 mb m' G') (hg : wr.grownBy w1 (some mb)) : (w1.ownsRow w.heap.size 3 1 vl l.length (ns l) ∧ Below w.heap.size w w1) ∧
    ∀ {v1 : Value} {x : Nat} {w2 : World}, m' = l.length + 1 → w2.ownsRow w.heap.size 3 1 v1 (l.length + 1) (ns l ++ [.int .i64 (x : Int)]) → (w1.alloc (.cells #[.int .i64 (x : Int)] 3)).grownBy w2 vl.ownBlock → Jd w w2 p4 p5 mb v1 va vg (l ++ [x]) arcs fs G' := by
  have hk : Kp (fun b => b = mb) wr w1 := (Kp.refl _ wr).grown hg (fun b hb _ => by injection hb with hb; exact hb.symm)
  have hb1 : Below w.heap.size w w1 := below_kp h.below hk (fun b hb e => by have e2 : b = mb := e; have := h.mge; omega)
  have hrow := own_kp2 h.lrow hk (fun b hb => by obtain ⟨d, hd⟩ := own_ty h.lrow hb; exact h.nmty hd)
  refine ⟨⟨hrow, hb1⟩, fun {v1 x w2} he ho hg2 => ?_⟩
  have hba := below_al w1 (.cells #[.int .i64 (x : Int)] 3)
  have hk1 : Kp (fun b => b = mb ∨ vl.ownBlock = some b) wr w2 := kp_then (kp_then (Y := fun _ => False) (show Kp (fun b => b = mb ∨ vl.ownBlock = some b) wr w1 from ⟨hk.os, hk.tape, hk.output, hk.size, fun k hk2 hn => hk.block k hk2 (fun e => hn (.inl e))⟩) (kp_below hba (fun _ => False)) (fun _ _ e => e.elim)) ((Kp.refl (fun b => vl.ownBlock = some b) _).grown hg2 (fun b hb _ => hb)) (fun _ _ e => .inr e)
  have nt : ∀ {b : Nat} {d : Array Value} {ty : TypeId}, wr.heap[b]? = some (.cells d ty (0, 0)) → ty ≠ 3 → ¬ (b = mb ∨ vl.ownBlock = some b) := fun {b d ty} hb hne e => by
    rcases e with e | e
    · exact h.nmty hb e
    · obtain ⟨d', hd'⟩ := own_ty h.lrow e; exact ty_ne hb hd' hne
  have hk3 : Kp (fun b => vl.ownBlock = some b) w1 w2 := kp_then (kp_below hba (fun b => vl.ownBlock = some b)) ((Kp.refl (fun b => vl.ownBlock = some b) _).grown hg2 (fun b hb _ => hb)) (fun _ _ e => e)
  refine ⟨(hk1.block _ (lt_at h.out) (nt h.out (by decide))).trans h.out, (hk1.block _ (lt_at h.mac) (nt h.mac (by decide))).trans h.mac, h.ne, h.le4, h.le5, ?_, own_kp2 h.arow hk1 (fun b hb => by obtain ⟨d, hd⟩ := own_ty h.arow hb; exact nt hd (by decide)), own_kp2 h.grow hk1 (fun b hb => by obtain ⟨d, hd⟩ := own_ty h.grow hb; exact nt hd (by decide)), ?_, h.mge, below_kp h.below hk1 (fun b hb e => ?_)⟩
  · rw [List.length_append, show ns (l ++ [x]) = ns l ++ [.int .i64 (x : Int)] by simp [ns]]
    exact ho
  · rw [List.length_append, List.length_singleton, ← he]
    refine hm.kept (hk3.block _ hm.lt (fun e => ?_))
    obtain ⟨d, hd⟩ := own_ty hrow e
    obtain ⟨es, ck, hm2⟩ := hm.ty
    rw [hm2] at hd
    cases hd
  · rcases e with e | e
    · have := h.mge; omega
    · have := (h.lrow.lt b e).1; omega
theorem Jd.macGrown {e s n : Nat} {v : Value} {xs : List Value} (h : Jd w wr p4 p5 mb vl va vg l arcs fs G) (hr : wr.ownsRow w.heap.size e s v n xs) (he : e ≠ 25) (hg : wr.grownBy w1 v.ownBlock) : w1.heap[p5]? = some (.cells #[.int .i64 0, va, vg] 25 (0, 0)) :=
  (hg.block p5 (lt_at h.mac) (fun e2 => by obtain ⟨d', hd'⟩ := own_ty hr e2.symm; exact ty_ne h.mac hd' (fun h => he h.symm))).trans h.mac
/-- an arc more -/
theorem Jd.addA {v1 : Value} {a : Int × Int × Int × Int × Int} (h : Jd w wr p4 p5 mb vl va vg l arcs fs G) (ho : w1.ownsRow w.heap.size 64 5 v1 (arcs.length + 1) (acs arcs ++ ac a)) (hg : wr.grownBy w1 va.ownBlock) : Jd w (w1.setCell ⟨p5, 1, none⟩ v1) p4 p5 mb vl v1 vg l (arcs ++ [a]) fs G := by
  have hk1 : Kp (fun b => b = p5 ∨ va.ownBlock = some b) wr w1 := (Kp.refl _ wr).grown hg (fun b hb _ => .inr hb)
  have hk : Kp (fun b => b = p5 ∨ va.ownBlock = some b) wr (w1.setCell ⟨p5, 1, none⟩ v1) := hk1.setCell _ _ _ (fun _ => .inl rfl)
  have nt : ∀ {b : Nat} {d : Array Value} {ty : TypeId}, wr.heap[b]? = some (.cells d ty (0, 0)) → ty ≠ 64 → ty ≠ 25 → ¬ (b = p5 ∨ va.ownBlock = some b) := fun {b d ty} hb hne h25 e => by
    rcases e with rfl | e
    · exact ty_ne hb h.mac h25
    · obtain ⟨d', hd'⟩ := own_ty h.arow e; exact ty_ne hb hd' hne
  have hm := h.macGrown h.arow (by decide) hg
  have hb := below_kp h.below hk (fun b hb e => by
    rcases e with rfl | e
    · have := h.le5; omega
    · have := (h.arow.lt b e).1; omega)
  refine ⟨(hk.block _ (lt_at h.out) (fun e => ?_)).trans h.out, ?_, h.ne, h.le4, h.le5, own_kp2 h.lrow hk (fun b hb => by obtain ⟨d, hd⟩ := own_ty h.lrow hb; exact nt hd (by decide) (by decide)), ?_, own_kp2 h.grow hk (fun b hb => by obtain ⟨d, hd⟩ := own_ty h.grow hb; exact nt hd (by decide) (by decide)), h.nm.kept (hk.block _ h.nm.lt (fun e => ?_)), h.mge, hb⟩
  · rcases e with e | e
    · exact h.ne e
    · obtain ⟨d', hd'⟩ := own_ty h.arow e; exact ty_ne h.out hd' (by decide)
  · have := heap_setCell_same w1 p5 1 _ 25 v1 hm
    exact this
  · rw [List.length_append, show acs (arcs ++ [a]) = acs arcs ++ ac a by simp [acs]]
    refine own_kp2 ho (X := fun b => b = p5) ((Kp.refl _ w1).setCell _ _ _ (fun _ => rfl)) (fun b hb2 e => ?_)
    subst e
    obtain ⟨d', hd'⟩ := own_ty ho hb2
    exact ty_ne hm hd' (by decide)
  · rcases e with e | e
    · exact h.nmty h.mac e.symm
    · obtain ⟨d', hd'⟩ := own_ty h.arow e; exact h.nmty hd' rfl
/-- a final state more -/
theorem Jd.addG {v1 : Value} {f : Int × Int} (h : Jd w wr p4 p5 mb vl va vg l arcs fs G) (ho : w1.ownsRow w.heap.size 66 2 v1 (fs.length + 1) (fcs fs ++ fc f)) (hg : wr.grownBy w1 vg.ownBlock) : Jd w (w1.setCell ⟨p5, 2, none⟩ v1) p4 p5 mb vl va v1 l arcs (fs ++ [f]) G := by
  have hk1 : Kp (fun b => b = p5 ∨ vg.ownBlock = some b) wr w1 := (Kp.refl _ wr).grown hg (fun b hb _ => .inr hb)
  have hk : Kp (fun b => b = p5 ∨ vg.ownBlock = some b) wr (w1.setCell ⟨p5, 2, none⟩ v1) := hk1.setCell _ _ _ (fun _ => .inl rfl)
  have nt : ∀ {b : Nat} {d : Array Value} {ty : TypeId}, wr.heap[b]? = some (.cells d ty (0, 0)) → ty ≠ 66 → ty ≠ 25 → ¬ (b = p5 ∨ vg.ownBlock = some b) := fun {b d ty} hb hne h25 e => by
    rcases e with rfl | e
    · exact ty_ne hb h.mac h25
    · obtain ⟨d', hd'⟩ := own_ty h.grow e; exact ty_ne hb hd' hne
  have hm := h.macGrown h.grow (by decide) hg
  have hb := below_kp h.below hk (fun b hb e => by
    rcases e with rfl | e
    · have := h.le5; omega
    · have := (h.grow.lt b e).1; omega)
  refine ⟨(hk.block _ (lt_at h.out) (fun e => ?_)).trans h.out, ?_, h.ne, h.le4, h.le5, own_kp2 h.lrow hk (fun b hb => by obtain ⟨d, hd⟩ := own_ty h.lrow hb; exact nt hd (by decide) (by decide)), own_kp2 h.arow hk (fun b hb => by obtain ⟨d, hd⟩ := own_ty h.arow hb; exact nt hd (by decide) (by decide)), ?_, h.nm.kept (hk.block _ h.nm.lt (fun e => ?_)), h.mge, hb⟩
  · rcases e with e | e
    · exact h.ne e
    · obtain ⟨d', hd'⟩ := own_ty h.grow e; exact ty_ne h.out hd' (by decide)
  · have := heap_setCell_same w1 p5 2 _ 25 v1 hm
    exact this
  · rw [List.length_append, show fcs (fs ++ [f]) = fcs fs ++ fc f by simp [fcs]]
    refine own_kp2 ho (X := fun b => b = p5) ((Kp.refl _ w1).setCell _ _ _ (fun _ => rfl)) (fun b hb2 e => ?_)
    subst e
    obtain ⟨d', hd'⟩ := own_ty ho hb2
    exact ty_ne hm hd' (by decide)
  · rcases e with e | e
    · exact h.nmty h.mac e.symm
    · obtain ⟨d', hd'⟩ := own_ty h.grow e; exact h.nmty hd' rfl
theorem Jd.fin {m : Nat} (h : Jd w wr p4 p5 mb vl va vg l arcs fs G) (ha : arcs.length ≤ 100000) (hf : fs.length ≤ 100000) :
    (wr.setCell ⟨p5, 0, none⟩ (.int .i64 (m : Int))).heap[p4]? = some (.cells #[.int .i64 0, .slice none 0 0, .slice none 0 0] 25 (0, 0)) ∧ (wr.setCell ⟨p5, 0, none⟩ (.int .i64 (m : Int))).heap[p5]? = some (.cells #[.int .i64 (m : Int), va, vg] 25 (0, 0)) ∧ Below w.heap.size w (wr.setCell ⟨p5, 0, none⟩ (.int .i64 (m : Int))) ∧ ∀ W, Kp (fun b => b = p4 ∨ b < w.heap.size) (wr.setCell ⟨p5, 0, none⟩ (.int .i64 (m : Int))) W → IsM W (.agg #[.int .i64 (m : Int), va, vg]) ⟨(m : Int), arcs, fs⟩ := by
  have hk : Kp (fun b => b = p5) wr (wr.setCell ⟨p5, 0, none⟩ (.int .i64 (m : Int))) := (Kp.refl _ wr).setCell _ _ _ (fun _ => rfl)
  have n8 : ∀ {b : Nat} {d : Array Value} {ty : TypeId}, wr.heap[b]? = some (.cells d ty (0, 0)) → ty ≠ 25 → ¬ b = p5 := fun {b d ty} hb hne e => by subst e; exact ty_ne hb h.mac hne
  have hx := (hk.block _ (lt_at h.out) h.ne).trans h.out
  have hr1 := own_kp2 h.arow hk (fun b hb => by obtain ⟨d, hd⟩ := own_ty h.arow hb; exact n8 hd (by decide))
  have hr2 := own_kp2 h.grow hk (fun b hb => by obtain ⟨d, hd⟩ := own_ty h.grow hb; exact n8 hd (by decide))
  refine ⟨hx, heap_setCell_same wr p5 0 _ 25 _ h.mac, below_kp h.below hk (fun b hb e => by have e2 : b = p5 := e; have := h.le5; omega), fun W hW => ⟨va, vg, rfl, ?_, ?_⟩⟩
  · exact own_rowN (own_kp2 hr1 hW (fun b hb e => by
      rcases e with e2 | e2
      · subst e2; obtain ⟨d, hd⟩ := own_ty hr1 hb; exact ty_ne hd hx (by decide)
      · have := (hr1.lt b hb).1; omega)) (by show _ ≤ _; first | exact Nat.le_trans ha (by decide) | exact Nat.le_trans hf (by decide))
  · exact own_rowN (own_kp2 hr2 hW (fun b hb e => by
      rcases e with e2 | e2
      · subst e2; obtain ⟨d, hd⟩ := own_ty hr2 hb; exact ty_ne hd hx (by decide)
      · have := (hr2.lt b hb).1; omega)) (by show _ ≤ _; first | exact Nat.le_trans ha (by decide) | exact Nat.le_trans hf (by decide))
end
end Go.Proofs.YtfjocafepigijaaDoor.Su
/- joined (49): the machine that has a state for each class. Conditions: the table lies as T says once what leads to the dead is taken away; the classes are those of T; 1 to 500 rows. -/
namespace Go.Proofs.YtfjocafepigijaaDoor.Su
open Go.RowKit Go.Shelf Mv Po Ps Cm Ra Ot Pa

/-- what joined hands back -/
def JoQ (T : Tb) (w : World) (e : Ending) (w' : World) : Prop :=
  ∃ (k : Nat) (a1 : Option Addr) (n1 c1 : Nat) (a2 : Option Addr) (n2 c2 : Nat), e = .returned (.agg #[.int .i64 (k : Int), .slice a1 n1 c1, .slice a2 n2 c2]) ∧ Below w.heap.size w w' ∧ JAt T k ∧ (jn T k).1.length = k ∧ ∀ W, Kp (fun b => b < w.heap.size) w' W → IsM W (.agg #[.int .i64 (k : Int), .slice a1 n1 c1, .slice a2 n2 c2]) ⟨(k : Int), (jn T k).2.map arcOf, (jf T (jn T k).1 k).map finOf⟩
section
variable {w w1 : World} {b : Nat} {X : Nat → Int} {f d : Bool}
theorem rw_grown {base e s n : Nat} {v : Value} {xs : List Value} (h : Rw9 w b X f d) (hr : w.ownsRow base e s v n xs) (he : e ≠ 90) (hg : w.grownBy w1 v.ownBlock) : Rw9 w1 b X f d :=
  (hg.block b (lt_at h) (fun e2 => by obtain ⟨d', hd'⟩ := own_ty hr e2.symm; exact ty_ne h hd' (fun h => he h.symm))).trans h
theorem rw_cell {p j : Nat} {c : Array Value} {v : Value} (h : Rw9 w b X f d) (hp : w.heap[p]? = some (.cells c 25 (0, 0))) : Rw9 (w.setCell ⟨p, j, none⟩ v) b X f d :=
  h.kept ((Kp.refl (fun k => k = p) w).setCell _ _ _ (fun _ => rfl)) (fun e => by have e2 : b = p := e; subst e2; exact ty_ne h hp (by decide))
end
theorem jr_next (T : Tb) (p r : Nat) (s : List Nat × List (Nat × Nat × Nat)) {c : Nat} (h : 1 ≤ c) : jr T p r s (c + 1 - 1) = js T p r (jr T p r s (c - 1)) c := by
  obtain ⟨c, rfl⟩ : ∃ d, c = d + 1 := ⟨c - 1, by omega⟩
  rw [Nat.add_sub_cancel, Nat.add_sub_cancel, jr_up]
theorem jr_skip (T : Tb) (p r : Nat) (s : List Nat × List (Nat × Nat × Nat)) {c : Nat} (h : 1 ≤ c → T.cut.to r c = none) : jr T p r s (c + 1 - 1) = jr T p r s (c - 1) := by
  rcases Nat.eq_zero_or_pos c with rfl | h1
  · rfl
  · rw [jr_next T p r s h1, js_none (h h1)]
set_option maxHeartbeats 8000000 in
set_option maxRecDepth 100000 in
theorem joined_any (T : Tb) (base b2 p g n cap : Nat) (X : Nat → Nat → Int) (f d : Nat → Bool) (v : Value) (cl : List Nat) (w : World) (hT : IsT T.cut n X f) (hok : T.Ok) (hc : Cl9 T cl) (hb : ∀ i, i < n → cl.getD i 0 < n) (hl : cl.length = n) (hP : PT w base p g n cap X f d) (hv : w.ownsRow b2 3 1 v n (ns cl)) (hn : n ≤ 500) (h0 : 0 < n) :
    Calls Tryd.prog 49 #[.pointer (some ⟨p, 0, none⟩), v] w (JoQ T w) := by
  obtain ⟨i3, hi3, hx0, hx1, hx2⟩ := info_parts inf3'
  obtain ⟨i64, hi64, hy0, hy1, hy2⟩ := info_parts inf64
  obtain ⟨i66, hi66, hz0, hz1, hz2⟩ := info_parts inf66
  have hmm := @run_makeMap Tryd.prog
  have hz := z90
  obtain ⟨cg, cc9, rfl, _, _⟩ := own_some hv h0
  have HT : Hid (IsT T.cut n X f ∧ n ≤ 500 ∧ 0 < n) := ⟨hT, hn, h0⟩
  have HTE : Hid (T.n = n ∧ T.Ok) := ⟨hT.sz, hok⟩
  have HCL : Hid (Cl9 T cl ∧ (∀ i, i < n → cl.getD i 0 < n) ∧ cl.length = n) := ⟨hc, hb, hl⟩
  have HPT : Hid (∀ W, Below w.heap.size w W → PT W base p g n cap X f d) := fun W hW => hP.below hW
  have HV : Hid (∀ W, Below w.heap.size w W → W.ownsRow b2 3 1 (.slice (some ⟨cg, 0, none⟩) n cc9) n (ns cl)) := fun W hW => own_kp2 hv (kp_below hW (fun _ => False)) (fun _ _ => id)
  obtain ⟨W0, hW0⟩ : ∃ W0, (w.alloc (.cells #[.int .i64 0, .slice none 0 0, .slice none 0 0] 25)).alloc (.cells #[.int .i64 0, .slice none 0 0, .slice none 0 0] 25) = W0 := ⟨_, rfl⟩
  have s1 : (w.alloc (.cells #[.int .i64 0, .slice none 0 0, .slice none 0 0] 25)).heap.size = w.heap.size + 1 := by simp
  have B1 := below_al w (.cells #[.int .i64 0, .slice none 0 0, .slice none 0 0] 25)
  have B0 : Below w.heap.size w W0 := by rw [← hW0]; exact B1.alloc B1.size _
  have x4 : W0.heap[w.heap.size]? = some (.cells #[.int .i64 0, .slice none 0 0, .slice none 0 0] 25 (0, 0)) := by
    rw [← hW0, heap_alloc_old _ _ (by rw [s1]; omega)]
    exact heap_alloc_new _ _
  have x5 : W0.heap[w.heap.size + 1]? = some (.cells #[.int .i64 0, .slice none 0 0, .slice none 0 0] 25 (0, 0)) := by
    rw [← hW0, ← s1]
    exact heap_alloc_new _ _
  have HX0 : Hid (W0.heap[w.heap.size]? = some (.cells #[.int .i64 0, .slice none 0 0, .slice none 0 0] 25 (0, 0)) ∧ W0.heap[w.heap.size + 1]? = some (.cells #[.int .i64 0, .slice none 0 0, .slice none 0 0] 25 (0, 0)) ∧ Below w.heap.size w W0) := ⟨x4, x5, B0⟩
  clear hT hok hc hb hl hP hv B1 B0 x4 x5 s1
  go_enter Tryd.func49, Tryd.ntmps49
  go_upto_region 2 with fail
  try rw [hW0]
  clear hW0
  obtain ⟨p5, hp5⟩ : ∃ p, w.heap.size + 1 = p := ⟨_, rfl⟩
  obtain ⟨p4, hp4⟩ : ∃ p, w.heap.size = p := ⟨_, rfl⟩
  have HPP : Hid (w.heap.size ≤ p4 ∧ w.heap.size ≤ p5 ∧ p4 ≠ p5 ∧ W0.heap[p4]? = some (.cells #[.int .i64 0, .slice none 0 0, .slice none 0 0] 25 (0, 0)) ∧ W0.heap[p5]? = some (.cells #[.int .i64 0, .slice none 0 0, .slice none 0 0] 25 (0, 0)) ∧ Below w.heap.size w W0) := ⟨by omega, by omega, by omega, by rw [← hp4]; exact HX0.out.1, by rw [← hp5]; exact HX0.out.2.1, HX0.out.2.2⟩
  rw [hp5, hp4]
  clear hp5 hp4 HX0
  obtain ⟨k0, hk0⟩ : ∃ k, cl.getD 0 0 = k := ⟨_, rfl⟩
  have HK0 : Hid (cl.getD 0 0 = k0 ∧ k0 ≤ 1000000) := ⟨hk0, by have h := HCL.out.2.1 0 h0; omega⟩
  have hbA := below_al W0 (.map #[] 0)
  have c0 := ((HV.out _ (HPP.out.2.2.2.2.2.trans (hbA.mono HPP.out.2.2.2.2.2.size))).cellAt 0 (by omega)).trans (ns_getD (by rw [HCL.out.2.2]; exact h0))
  rw [hk0] at c0
  obtain ⟨W2, hr0, hm0, hg0⟩ := (Na.made W0).store (c := 0) (by unfold maxLen; omega) (a := k0) HK0.out.2
  have HJA : Hid (Jd w (W2.alloc (.cells #[.int .i64 0] 3)) p4 p5 W0.heap.size (.slice (some ⟨W2.heap.size, 0, none⟩) 1 1) (.slice none 0 0) (.slice none 0 0) [0] [] [] (fun a => if a = k0 then some 0 else none)) := by
    have hkA : Kp (fun b => b = W0.heap.size) (W0.alloc (.map #[] 0)) W2 := (Kp.refl _ _).grown hg0 (fun b hb _ => by injection hb with hb; exact hb.symm)
    have hB2 : Below w.heap.size w W2 := below_kp (HPP.out.2.2.2.2.2.trans (hbA.mono HPP.out.2.2.2.2.2.size)) hkA (fun b hb e => by have e2 : b = W0.heap.size := e; have := HPP.out.2.2.2.2.2.size; omega)
    have hbC := below_al W2 (.cells #[.int .i64 0] 3)
    have up : ∀ {q : Nat} {o : Obj}, W0.heap[q]? = some o → (W2.alloc (.cells #[.int .i64 0] 3)).heap[q]? = some o := fun {q o} hq => by
      have h1 := lt_at hq
      have h2 := (hbA.block _ h1).trans hq
      have h3 := (hkA.block _ (lt_at h2) (fun e => by have e2 : q = W0.heap.size := e; omega)).trans h2
      exact (hbC.block _ (lt_at h3)).trans h3
    exact ⟨up HPP.out.2.2.2.1, up HPP.out.2.2.2.2.1, HPP.out.2.2.1, HPP.out.1, HPP.out.2.1, own_nil_new W2 (.int .i64 0) w.heap.size 3 hB2.size, World.ownsRow_nil _ _ _ _, World.ownsRow_nil _ _ _ _, hm0.kept (hbC.block _ hm0.lt), HPP.out.2.2.2.2.2.size, hB2.trans (hbC.mono hB2.size)⟩
  have hr9 : (Instr.mapUpdate 138 (.map (some W0.heap.size)) (.int .i64 (k0 : Int)) (.int .i64 0)).run Tryd.prog (W0.alloc (.map #[] 0)) = .ok () W2 := hr0
  clear hbA hk0 hm0 hg0 hr0
  go_upto_region 3 with fail
  clear c0 hr9 hmm
  go_upto_region 4 with fail
  obtain ⟨mb, hmb⟩ : ∃ b, W0.heap.size = b := ⟨_, rfl⟩
  obtain ⟨v7, hv7⟩ : ∃ v, Value.slice (some ⟨W2.heap.size, 0, none⟩) 1 1 = v := ⟨_, rfl⟩
  rw [hmb, hv7] at HJA
  rw [hmb, hv7]
  generalize W2.alloc (.cells #[.int .i64 0] 3) = W3 at *
  have HJB : Hid (Jd w W3 p4 p5 mb v7 (.slice none 0 0) (.slice none 0 0) (jn T 0).1 ((jn T 0).2.map arcOf) ((jf T (jn T 0).1 0).map finOf) (fun a => if a = k0 then some 0 else none) ∧ Jg cl (jn T 0).1 (fun a => if a = k0 then some 0 else none)) := ⟨HJA.out, by have h := Jg.one cl; rw [HK0.out.1] at h; exact h⟩
  clear hmb hv7 HJA HPP
  have hTn : 0 < T.n := by rw [HTE.out.1]; exact h0
  have HRW : Hid (∀ k, Rows T (jn T k).1) := fun k => jn_rows HTE.out.2 hTn k
  go_upto_region 5 with fail
  go_loopw [7, 8] (fun a b wr => ∃ (k : Nat) (vl va vg : Value) (G : Nat → Option Nat), a = vl ∧ b = .int .i64 (k : Int) ∧ Jd w wr p4 p5 mb vl va vg (jn T k).1 ((jn T k).2.map arcOf) ((jf T (jn T k).1 k).map finOf) G ∧ Jg cl (jn T k).1 G ∧ JAt T k) (fun _ b _ => 600 - (intOf b).toNat)
  case atStart => exact ⟨0, _, _, _, _, rfl, rfl, HJB.out.1, HJB.out.2, fun i hi => absurd hi (Nat.not_lt_zero i)⟩
  case round =>
    clear HJB
    obtain ⟨k, vl, va, vg, G, rfl, rfl, hsr, hjg, hat⟩ := hrel
    obtain ⟨L, hL⟩ : ∃ L, (jn T k).1 = L := ⟨_, rfl⟩
    obtain ⟨AR, hAR⟩ : ∃ L, (jn T k).2 = L := ⟨_, rfl⟩
    have HJ : Hid ((jn T k).1 = L ∧ (jn T k).2 = AR) := ⟨hL, hAR⟩
    obtain ⟨an1, han1⟩ : ∃ a, (AR.map arcOf).length = a := ⟨_, rfl⟩
    have HAT : Hid (JAt T k) := hat
    rw [hL, hAR] at hsr
    obtain ⟨al, lc, rfl⟩ := oslice hsr.lrow
    obtain ⟨aA, cA, rfl⟩ := oslice hsr.arow
    obtain ⟨aG, cG, rfl⟩ := oslice hsr.grow
    obtain ⟨m, hm⟩ : ∃ m, L.length = m := ⟨_, rfl⟩
    have HM : Hid (L.length = m) := hm
    have hmn : m ≤ n := by
      have h := (HRW.out k).len
      rw [hL, HTE.out.1] at h
      omega
    have hkm : k ≤ m := by have h := hat.le; rw [hL, hm] at h; exact h
    obtain ⟨fs, hfs⟩ : ∃ l, (jf T L k).map finOf = l := ⟨_, rfl⟩
    have HFS : Hid ((jf T L k).map finOf = fs ∧ fs.length ≤ 600) := ⟨hfs, by rw [← hfs, List.length_map]; have := jf_len T L k; omega⟩
    have HAL : Hid (AR.length ≤ 60 * k) := by have h := jn_arcs T k; rw [hAR] at h; exact h
    have HG : Hid (Jg cl L G) := by have h := hjg; rw [hL] at h; exact h
    rw [hfs] at hsr
    have HS : Hid (Jd w wr p4 p5 mb (.slice al m lc) (.slice aA an1 cA) (.slice aG fs.length cG) L (AR.map arcOf) fs G) := by have h := hsr; rw [hm, han1] at h; exact h
    rw [hm]
    clear hsr hjg hat hL hAR hm hfs han1
    by_cases hlt : k < m
    · obtain ⟨r, hr⟩ : ∃ r, L[k]? = some r := ⟨_, List.getElem?_eq_getElem (by rw [HM.out]; exact hlt)⟩
      have hrn : r < n := by
        have h := (HRW.out k).1 r (by rw [HJ.out.1]; exact List.mem_of_getElem? hr)
        rw [HTE.out.1] at h
        exact h
      have HR : Hid (L[k]? = some r ∧ (jn T k).1.getD k 0 = r) := ⟨hr, by rw [HJ.out.1]; exact getD_some hr⟩
      have hlr := HS.out.lrow
      rw [HM.out] at hlr
      obtain ⟨lg, lc2, hle, _, _⟩ := own_some hlr (by omega)
      rw [Value.slice.injEq] at hle
      obtain ⟨rfl, _, rfl⟩ := hle
      have hlk := (hlr.cellAt k (by omega)).trans (ns_at hr)
      obtain ⟨xr, hxr⟩ : ∃ x, X r = x := ⟨_, rfl⟩
      obtain ⟨fr, hfr⟩ : ∃ x, f r = x := ⟨_, rfl⟩
      obtain ⟨dr, hdr⟩ : ∃ x, d r = x := ⟨_, rfl⟩
      have HXI : Hid (X r = xr ∧ f r = fr ∧ d r = dr) := ⟨hxr, hfr, hdr⟩
      have HJ1 : Hid (Jd w wr p4 p5 mb (.slice (some ⟨lg, 0, none⟩) m lc) (.slice aA an1 cA) (.slice aG fs.length cG) L (AR.map arcOf) fs G) := HS.out
      clear hr hlr hxr hfr hdr HS
      go_upto_region 7 with fail
      have HCE : Hid _ := fun (W : World) (hSw : PT W base p g n cap X f d ∧ W.cell? ⟨lg, k, none⟩ = some (.int .i64 (r : Int))) => (And.intro (cell_of_row _ _ 0 _ _ _ hSw.1.box) (hSw.2))
      refine wp_region_held_drew (S := fun W => PT W base p g n cap X f d ∧ W.cell? ⟨lg, k, none⟩ = some (.int .i64 (r : Int))) (by kernel_rfl) (by exact ⟨HPT.out _ (HJ1.out.laid (below_drewN (Below.refl _ _) 1)).below, hlk⟩) (fun hHeld => ?_)
      have hS0 := hHeld
      have HJ1b : Hid (Jd w wr.drew p4 p5 mb (.slice (some ⟨lg, 0, none⟩) m lc) (.slice aA an1 cA) (.slice aG fs.length cG) L (AR.map arcOf) fs G) := HJ1.out.laid (below_drewN (Below.refl _ _) 1)
      clear HJ1 hlk
      have HJ1 := HJ1b
      clear HJ1b
      generalize hV0 : wr.drew = V0 at *
      clear hV0
      refine wpAnyH_take (i := 0) (oi := { dst := some 26, op := Op.move (Operand.tmp 0), type := 85, pos := "sure.go:183", after := #[], guard := none }) (v := ?_) rfl (by kernel_rfl) (by kernel_rfl) (by kernel_rfl) (fun _ _ _ h => h) (Or.inl ⟨by rfl, ?_⟩) (by assumption) ?_
      case refine_2 => intro w hSw; (try dsimp only at hSw); obtain ⟨z0, z1⟩ := HCE.out _ hSw; go_simp; (try with_reducible rfl)
      simp only [Act.put, List.setIfInBounds_toArray, List.set_cons_zero, List.set_cons_succ]
      refine wpAnyH_take (i := 1) (oi := { dst := some 27, op := Op.nilCheck (Operand.tmp 26), type := 0, pos := "sure.go:183", after := #[{ on := 0, ground := Ground.data }], guard := none }) (v := ?_) rfl (by kernel_rfl) (by kernel_rfl) (by kernel_rfl) (fun _ _ _ h => h) (Or.inl ⟨by rfl, ?_⟩) (by assumption) ?_
      case refine_2 => intro w hSw; (try dsimp only at hSw); obtain ⟨z0, z1⟩ := HCE.out _ hSw; go_simp; (try with_reducible rfl)
      simp only [Act.put, List.setIfInBounds_toArray, List.set_cons_zero, List.set_cons_succ]
      refine wpAnyH_take (i := 2) (oi := { dst := some 28, op := Op.fieldAddr 93 (Operand.tmp 27) 0, type := 0, pos := "sure.go:183", after := #[{ on := 1, ground := Ground.data }], guard := none }) (v := ?_) rfl (by kernel_rfl) (by kernel_rfl) (by kernel_rfl) (fun _ _ _ h => h) (Or.inl ⟨by rfl, ?_⟩) (by assumption) ?_
      case refine_2 => intro w hSw; (try dsimp only at hSw); obtain ⟨z0, z1⟩ := HCE.out _ hSw; go_simp; (try with_reducible rfl)
      simp only [Act.put, List.setIfInBounds_toArray, List.set_cons_zero, List.set_cons_succ]
      refine wpAnyH_take (i := 3) (oi := { dst := some 29, op := Op.load 91 (Operand.tmp 28), type := 91, pos := "sure.go:183", after := #[{ on := 2, ground := Ground.data }], guard := none }) (v := ?_) rfl (by kernel_rfl) (by kernel_rfl) (by kernel_rfl) (fun _ _ _ h => h) (Or.inl ⟨by rfl, ?_⟩) (by assumption) ?_
      case refine_2 => intro w hSw; (try dsimp only at hSw); obtain ⟨z0, z1⟩ := HCE.out _ hSw; go_simp; (try with_reducible rfl)
      simp only [Act.put, List.setIfInBounds_toArray, List.set_cons_zero, List.set_cons_succ]
      refine wpAnyH_take (i := 4) (oi := { dst := some 30, op := Op.move (Operand.tmp 7), type := 26, pos := "sure.go:183", after := #[], guard := none }) (v := ?_) rfl (by kernel_rfl) (by kernel_rfl) (by kernel_rfl) (fun _ _ _ h => h) (Or.inl ⟨by rfl, ?_⟩) (by assumption) ?_
      case refine_2 => intro w hSw; (try dsimp only at hSw); obtain ⟨z0, z1⟩ := HCE.out _ hSw; go_simp; (try with_reducible rfl)
      simp only [Act.put, List.setIfInBounds_toArray, List.set_cons_zero, List.set_cons_succ]
      refine wpAnyH_take (i := 5) (oi := { dst := some 31, op := Op.move (Operand.tmp 8), type := 3, pos := "sure.go:183", after := #[], guard := none }) (v := ?_) rfl (by kernel_rfl) (by kernel_rfl) (by kernel_rfl) (fun _ _ _ h => h) (Or.inl ⟨by rfl, ?_⟩) (by assumption) ?_
      case refine_2 => intro w hSw; (try dsimp only at hSw); obtain ⟨z0, z1⟩ := HCE.out _ hSw; go_simp; (try with_reducible rfl)
      simp only [Act.put, List.setIfInBounds_toArray, List.set_cons_zero, List.set_cons_succ]
      refine wpAnyH_take (i := 6) (oi := { dst := some 32, op := Op.indexAddr 26 (Operand.tmp 30) (Operand.tmp 31), type := 0, pos := "sure.go:183", after := #[{ on := 4, ground := Ground.data }, { on := 5, ground := Ground.data }], guard := none }) (v := ?_) rfl (by kernel_rfl) (by kernel_rfl) (by kernel_rfl) (fun _ _ _ h => h) (Or.inl ⟨by rfl, ?_⟩) (by assumption) ?_
      case refine_2 => intro w hSw; (try dsimp only at hSw); obtain ⟨z0, z1⟩ := HCE.out _ hSw; go_simp; (try with_reducible rfl)
      simp only [Act.put, List.setIfInBounds_toArray, List.set_cons_zero, List.set_cons_succ]
      refine wpAnyH_take (i := 7) (oi := { dst := some 33, op := Op.load 3 (Operand.tmp 32), type := 3, pos := "sure.go:183", after := #[{ on := 6, ground := Ground.data }], guard := none }) (v := ?_) rfl (by kernel_rfl) (by kernel_rfl) (by kernel_rfl) (fun _ _ _ h => h) (Or.inl ⟨by rfl, ?_⟩) (by assumption) ?_
      case refine_2 => intro w hSw; (try dsimp only at hSw); obtain ⟨z0, z1⟩ := HCE.out _ hSw; go_simp; (try with_reducible rfl)
      simp only [Act.put, List.setIfInBounds_toArray, List.set_cons_zero, List.set_cons_succ]
      refine wpAnyH_take (i := 8) (oi := { dst := some 34, op := Op.indexAddr 91 (Operand.tmp 29) (Operand.tmp 33), type := 0, pos := "sure.go:183", after := #[{ on := 3, ground := Ground.data }, { on := 7, ground := Ground.data }], guard := none }) (v := ?_) rfl (by kernel_rfl) (by kernel_rfl) (by kernel_rfl) (fun _ _ _ h => h) (Or.inl ⟨by rfl, ?_⟩) (by assumption) ?_
      case refine_2 => intro w hSw; (try dsimp only at hSw); obtain ⟨z0, z1⟩ := HCE.out _ hSw; go_simp; (try with_reducible rfl)
      simp only [Act.put, List.setIfInBounds_toArray, List.set_cons_zero, List.set_cons_succ]
      refine wpAnyH_take (i := 9) (oi := { dst := some 35, op := Op.load 90 (Operand.tmp 34), type := 90, pos := "sure.go:183", after := #[{ on := 8, ground := Ground.data }], guard := none }) (v := .agg (ra xr fr dr)) rfl (by kernel_rfl) (by kernel_rfl) (by kernel_rfl) (fun _ _ _ h => h) (take90 (by rfl) (.tmp 34) rfl g (r * 63) xr fr dr rfl (fun W hW => by have h := hW.1.range hrn; rw [HXI.out.1, HXI.out.2.1, HXI.out.2.2] at h; exact h)) (by assumption) ?_
      simp only [Act.put, List.setIfInBounds_toArray, List.set_cons_zero, List.set_cons_succ]
      refine wpAnyH_ready (rs := [10]) (by kernel_rfl) (by simp) ?_
      refine (AllReadyH.cons (o := { dst := some 9, op := Op.alloc 90, type := 0, pos := "sure.go:183", after := #[], guard := none }) rfl (fun K hK => ?_) AllReadyH.nil)
      go_simp
      have HJA : Hid (Jd w (V0.alloc (.cells (ra (fun _ => 0) false false) 90)) p4 p5 mb (.slice (some ⟨lg, 0, none⟩) m lc) (.slice aA an1 cA) (.slice aG fs.length cG) L (AR.map arcOf) fs G) := HJ1.out.laid (below_al _ _)
      have HRA : Hid (Rw9 (V0.alloc (.cells (ra (fun _ => 0) false false) 90)) V0.heap.size (fun _ => 0) false false) := new90 _ _ _ _
      have hS1 := And.intro (hS0.1.below (below_al V0 (.cells (ra (fun _ => 0) false false) 90))) (((below_al V0 (.cells (ra (fun _ => 0) false false) 90)).cell (World.block_lt_of_cell? _ _ hS0.2)).trans hS0.2)
      refine hK.out _ _ ?_ (fun hHeld => ?_)
      · first | exact hS2 | exact hS1
      clear hK K
      try simp only [Act.put, List.setIfInBounds_toArray, List.set_cons_zero, List.set_cons_succ]
      refine wpAnyH_ready (rs := [11]) (by kernel_rfl) (by simp) ?_
      refine (AllReadyH.cons (o := { dst := none, op := Op.store 90 (Operand.tmp 9) (Operand.tmp 35), type := 0, pos := "sure.go:183", after := #[{ on := 10, ground := Ground.data }, { on := 9, ground := Ground.data }, { on := 0, ground := Ground.phase }, { on := 1, ground := Ground.phase }, { on := 2, ground := Ground.phase }, { on := 3, ground := Ground.phase }, { on := 4, ground := Ground.phase }, { on := 5, ground := Ground.phase }, { on := 6, ground := Ground.phase }, { on := 7, ground := Ground.phase }, { on := 8, ground := Ground.phase }, { on := 9, ground := Ground.phase }, { on := 10, ground := Ground.phase }], guard := none }) rfl (fun K hK => ?_) AllReadyH.nil)
      refine step_st90 rfl (.tmp 9) (.tmp 35) rfl (V0.heap.size) (fun _ => 0) xr false false fr dr rfl rfl HRA.out ?_
      have HKZ : Hid (Kp (fun b => b = V0.heap.size) (V0.alloc (.cells (ra (fun _ => 0) false false) 90)) ((V0.alloc (.cells (ra (fun _ => 0) false false) 90)).setRow V0.heap.size (ra xr fr dr))) := kp_row _ _ _
      have HRX : Hid (Rw9 ((V0.alloc (.cells (ra (fun _ => 0) false false) 90)).setRow V0.heap.size (ra xr fr dr)) V0.heap.size xr fr dr) := HRA.out.row _ _ _
      have HJX : Hid (Jd w ((V0.alloc (.cells (ra (fun _ => 0) false false) 90)).setRow V0.heap.size (ra xr fr dr)) p4 p5 mb (.slice (some ⟨lg, 0, none⟩) m lc) (.slice aA an1 cA) (.slice aG fs.length cG) L (AR.map arcOf) fs G) := HJA.out.row HKZ.out HRA.out HJ1.out.below.size
      have hS2 := And.intro (hS1.1.kept HKZ.out (fun e => by have e2 : p = V0.heap.size := e; have := lt_at hS0.1.box; omega) (fun e => by have e2 : g = V0.heap.size := e; have := hS0.1.lt.2; omega)) ((HKZ.out.cell (World.block_lt_of_cell? _ _ hS1.2) (fun e => by have e2 : lg = V0.heap.size := e; have h9 : lg < V0.heap.size := World.block_lt_of_cell? _ _ hS0.2; omega)).trans hS1.2)
      dsimp only [Act.put]
      refine hK.out _ _ ?_ (fun hHeld => ?_)
      · first | exact hS2 | exact hS1
      clear hK K
      try simp only [Act.put, List.setIfInBounds_toArray, List.set_cons_zero, List.set_cons_succ]
      refine wpAnyH_done (by kernel_rfl) ?_ _
      clear hS0 hS1 hS2 HKZ HJA HRA HJ1
      generalize (V0.alloc (.cells (ra (fun _ => 0) false false) 90)).setRow V0.heap.size (ra xr fr dr) = V1 at *
      obtain ⟨b9, hb9⟩ : ∃ b, V0.heap.size = b := ⟨_, rfl⟩
      rw [hb9] at HRX
      rw [hb9]
      clear hb9
      have r8 := HRX.out.fi
      have HFI : Hid (T.fin r = fr) := by show _ = _; rw [← HXI.out.2.1, HT.out.1.fin r hrn]; rfl
      cases fr with
      | false =>
        go_upto_region 10 with fail
        clear r8
        obtain ⟨s0, hs0⟩ : ∃ s, jn T k = s := ⟨_, rfl⟩
        have HJ0 : Hid (jn T k = s0) := hs0
        have HS2 : Hid (Jd w V1 p4 p5 mb (.slice (some ⟨lg, 0, none⟩) m lc) (.slice aA an1 cA) (.slice aG fs.length cG) (jr T k r s0 (0 - 1)).1 ((jr T k r s0 (0 - 1)).2.map arcOf) fs G ∧ Jg cl (jr T k r s0 (0 - 1)).1 G) := ⟨by have h := HJX.out; rw [← HJ.out.1, ← HJ.out.2, hs0] at h; exact h, by have h := HG.out; rw [← HJ.out.1, hs0] at h; exact h⟩
        have r10 := HRX.out.xrange
        clear hs0
        go_upto_region 11 with (refine ld88 rfl (.tmp 45) rfl b9 0 xr rfl r10 ?_)
        clear r10 HJX HRX
        go_loopw [7, 47] (fun a c wx => ∃ (cc : Nat) (vl va : Value) (G : Nat → Option Nat), a = vl ∧ c = .int .i64 (cc : Int) ∧ cc ≤ 61 ∧ Jd w wx p4 p5 mb vl va (.slice aG fs.length cG) (jr T k r s0 (cc - 1)).1 ((jr T k r s0 (cc - 1)).2.map arcOf) fs G ∧ Jg cl (jr T k r s0 (cc - 1)).1 G) (fun _ c _ => 61 - (intOf c).toNat)
        case atStart => exact ⟨0, _, _, G, rfl, rfl, Nat.zero_le _, HS2.out.1, HS2.out.2⟩
        case round =>
          clear HS2
          obtain ⟨cc, vl, va, G2, rfl, rfl, hcc, hjd, hjg⟩ := hrel
          obtain ⟨al2, cl2, rfl⟩ := oslice hjd.lrow
          obtain ⟨aA2, cA2, rfl⟩ := oslice hjd.arow
          obtain ⟨L2, hL2⟩ : ∃ L, (jr T k r s0 (cc - 1)).1 = L := ⟨_, rfl⟩
          obtain ⟨AR2, hAR2⟩ : ∃ L, (jr T k r s0 (cc - 1)).2 = L := ⟨_, rfl⟩
          have HJ2 : Hid ((jr T k r s0 (cc - 1)).1 = L2 ∧ (jr T k r s0 (cc - 1)).2 = AR2) := ⟨hL2, hAR2⟩
          obtain ⟨a2, ha2⟩ : ∃ a, (AR2.map arcOf).length = a := ⟨_, rfl⟩
          have HAA : Hid ((AR2.map arcOf).length = a2) := ha2
          have HRW2 : Hid (Rows T L2) := by
            rw [← hL2, ← HJ0.out]
            exact jr_rows HTE.out.2 (HRW.out k) (by rw [HTE.out.1]; exact hrn) _
          obtain ⟨m2, hm2⟩ : ∃ m, L2.length = m := ⟨_, rfl⟩
          have HM2 : Hid (L2.length = m2) := hm2
          have hm2n : m2 ≤ n := by have h := HRW2.out.len; rw [HTE.out.1] at h; omega
          have HAN : Hid (a2 ≤ 60 * 500 + 60) := by
            have h1 := jr_arcs T k r s0 (cc - 1)
            have h2 := jn_arcs T k
            rw [hAR2] at h1
            rw [HJ0.out] at h2
            show _ ≤ _
            rw [← ha2, List.length_map]
            omega
          have HJX : Hid (Jd w wr p4 p5 mb (.slice al2 m2 cl2) (.slice aA2 a2 cA2) (.slice aG fs.length cG) L2 (AR2.map arcOf) fs G2) := by have h := hjd; rw [hL2, hAR2, hm2, ha2] at h; exact h
          have HG2 : Hid (Jg cl L2 G2) := by have h := hjg; rw [hL2] at h; exact h
          rw [hL2, hm2]
          clear hjd hjg hL2 hAR2 ha2 hm2
          by_cases hc : cc < 61
          · have hci : (cc : Int) < 61 := by omega
            have hidx := idx88 xr cc hc
            obtain ⟨x, hx⟩ : ∃ x, xr cc = x := ⟨_, rfl⟩
            have HX : Hid (X r cc = x) := by show _ = _; rw [HXI.out.1]; exact hx
            rw [hx] at hidx
            rcases HT.out.1.cases hrn hc with h1 | ⟨j, h1, hj, hc1, hto⟩
            · obtain rfl : x = -1 := by rw [← HX.out]; exact h1
              have HNO : Hid (1 ≤ cc → T.cut.to r cc = none) := fun hc1 => by
                have h2 := HT.out.1.arc r cc hrn hc1 (by omega)
                rw [HX.out] at h2
                exact enc_none.1 h2.symm
              clear h1 hx
              go_wp2
              go_roundw
              case rel => exact ⟨cc + 1, _, _, G2, rfl, by go_num, hc, by rw [jr_skip T k r s0 HNO.out, HJ2.out.1, HJ2.out.2]; exact HJX.out, by rw [jr_skip T k r s0 HNO.out, HJ2.out.1]; exact HG2.out⟩
              case measure => simp [intOf]; omega
            · obtain rfl : x = (j : Int) := by rw [← HX.out]; exact h1
              have HCS : Hid (T.cut.to r cc = some j ∧ 1 ≤ cc) := ⟨hto, hc1⟩
              clear h1 hx hto
              have q1 : ((j : Int) == -1) = false := by have h : ¬ (j : Int) = -1 := (by omega); simp [h]
              obtain ⟨kj, hkj⟩ : ∃ k, cl.getD j 0 = k := ⟨_, rfl⟩
              have HKJ : Hid (cl.getD j 0 = kj ∧ kj ≤ 1000000) := ⟨hkj, by have h := HCL.out.2.1 j hj; omega⟩
              have c7 := ((HV.out _ HJX.out.below).cellAt j (by omega)).trans (ns_getD (by rw [HCL.out.2.2]; exact hj))
              rw [hkj] at c7
              have hlook := look2 HJX.out.nm HKJ.out.2
              clear hkj
              cases hg : G2 kj with
              | some i =>
                rw [hg] at hlook
                dsimp only at hlook
                have HWH : Hid (wh T L2 j = i ∧ i < L2.length) := HG2.out.old_wh HCL.out.1 HRW2.out (by rw [HTE.out.1]; exact hj) (by rw [HKJ.out.1]; exact hg)
                clear hg
                go_upto_region 19 with fail
                clear hlook c7 hidx
                have c8 := cell_of_row _ _ 1 _ _ _ HJX.out.mac
                have har : Hid (wr.ownsRow w.heap.size 64 5 (.slice aA2 a2 cA2) a2 (acs (AR2.map arcOf))) := by have h := HJX.out.arow; rw [HAA.out] at h; exact h
                go_wp2_with (refine wpList_append_own_at _ rfl _ _ 22 rfl w.heap.size 64 i64 (.agg #[.int .i64 0, .int .i64 0, .int .i64 0, .int .i64 0, .int .i64 0]) 5 40 Tryd.underlying22 hi64 hy0 hy1 hy2 rfl (by decide) _ _ _ rfl (har.out.alloc _) ⟨_, 0, none⟩ 1 1 [.int .i64 (k : Int), .int .i64 (i : Int), .int .i64 (cc : Int), .int .i64 (cc : Int), .int .i64 0] rfl rfl (cell_five_new _ _ _ _ _ _ _) (ac_one ((k : Int), (i : Int), (cc : Int), (cc : Int), 0)) (by have := HAN.out; unfold maxLen; omega) (by have := HAN.out; omega) (by have := HJX.out.below.size; simp; omega) ?_; intro v15 w15 ho15 hg15 _ hl15; obtain ⟨g15, c15, rfl, _, _⟩ := own_some ho15 (Nat.succ_pos _); have hld := HJX.out.laid (below_al _ (.cells #[.int .i64 (k : Int), .int .i64 (i : Int), .int .i64 (cc : Int), .int .i64 (cc : Int), .int .i64 0] 64)); have x15 := hld.macGrown hld.arow (by decide) hg15; have y15 := cell_of_row _ _ 1 _ _ _ x15; have z15 := frozen_of_row _ _ 1 _ _ x15; have HSN : Hid _ := hld.addA (a := arcOf (k, cc, i)) (by rw [HAA.out]; exact ho15) hg15; clear ho15 hg15 hl15 x15 hld)
                go_roundw
                case rel =>
                  refine ⟨cc + 1, .slice al2 m2 cl2, .slice (some ⟨g15, 0, none⟩) (a2 + 1) c15, G2, rfl, by go_num, hc, ?_, ?_⟩
                  · rw [jr_next T k r s0 HCS.out.2, js_some HCS.out.1, HJ2.out.1, HJ2.out.2, HWH.out.1, if_neg (by have := HWH.out.2; omega)]
                    dsimp only
                    rw [List.map_append]
                    exact HSN.out
                  · rw [jr_next T k r s0 HCS.out.2, js_some HCS.out.1, HJ2.out.1, HWH.out.1, if_neg (by have := HWH.out.2; omega)]
                    exact HG2.out
                case measure => simp [intOf]; omega
              | none =>
                rw [hg] at hlook
                dsimp only at hlook
                have HWH : Hid (wh T L2 j = L2.length) := HG2.out.new_wh HCL.out.1 HRW2.out (by rw [HTE.out.1]; exact hj) (by rw [HKJ.out.1]; exact hg)
                have HG3 : Hid (Jg cl (L2 ++ [j]) (fun a => if a = kj then some m2 else G2 a)) := by
                  have h := HG2.out.add (x := j) (by rw [HKJ.out.1]; exact hg)
                  rw [HKJ.out.1, HM2.out] at h
                  exact h
                obtain ⟨w13, hr13, hm13, hg13⟩ := HJX.out.nm.store (c := m2) (by rw [HM2.out]; unfold maxLen; omega) (a := kj) HKJ.out.2
                have HMG : Hid (Na.IsNm w13 mb (L2.length + 1) (fun a => if a = kj then some m2 else G2 a) ∧ wr.grownBy w13 (some mb)) := ⟨hm13, hg13⟩
                have HRO : Hid (w13.ownsRow w.heap.size 3 1 (.slice al2 m2 cl2) m2 (ns L2) ∧ Below w.heap.size w w13) := by have h := (HJX.out.class hm13 hg13).1; rw [HM2.out] at h; exact h
                clear hg hm13 hg13
                go_upto_region 17 with fail
                clear hlook
                go_upto_region 18 with fail
                clear hr13 c7 hidx
                go_upto_region 19 with (refine wpList_append_own_at _ rfl _ _ 26 rfl w.heap.size 3 i3 (.int .i64 0) 1 8 Tryd.underlying26 hi3 hx0 hx1 hx2 rfl (by decide) _ _ _ rfl (HRO.out.1.alloc _) ⟨_, 0, none⟩ 1 1 [.int .i64 (j : Int)] rfl rfl (cell_one_new _ _ _) (sl_one _ rfl) (by unfold maxLen; omega) (by omega) (by have := HRO.out.2.size; simp; omega) ?_; intro v14 w14 ho14 hg14 _ hl14; obtain ⟨g14, c14, rfl, _, _⟩ := own_some ho14 (Nat.succ_pos _); have HJ5 : Hid (Jd w w14 p4 p5 mb (.slice (some ⟨g14, 0, none⟩) (m2 + 1) c14) (.slice aA2 a2 cA2) (.slice aG fs.length cG) (L2 ++ [j]) (AR2.map arcOf) fs (fun a => if a = kj then some m2 else G2 a)) := (HJX.out.class HMG.out.1 HMG.out.2).2 rfl (by rw [HM2.out]; exact ho14) hg14; clear ho14 hg14 hl14)
                clear HJX
                have HJX := HJ5
                clear HJ5 HRO HMG
                have c8 := cell_of_row _ _ 1 _ _ _ HJX.out.mac
                have har : Hid (w14.ownsRow w.heap.size 64 5 (.slice aA2 a2 cA2) a2 (acs (AR2.map arcOf))) := by have h := HJX.out.arow; rw [HAA.out] at h; exact h
                go_wp2_with (refine wpList_append_own_at _ rfl _ _ 22 rfl w.heap.size 64 i64 (.agg #[.int .i64 0, .int .i64 0, .int .i64 0, .int .i64 0, .int .i64 0]) 5 40 Tryd.underlying22 hi64 hy0 hy1 hy2 rfl (by decide) _ _ _ rfl (har.out.alloc _) ⟨_, 0, none⟩ 1 1 [.int .i64 (k : Int), .int .i64 (m2 : Int), .int .i64 (cc : Int), .int .i64 (cc : Int), .int .i64 0] rfl rfl (cell_five_new _ _ _ _ _ _ _) (ac_one ((k : Int), (m2 : Int), (cc : Int), (cc : Int), 0)) (by have := HAN.out; unfold maxLen; omega) (by have := HAN.out; omega) (by have := HJX.out.below.size; simp; omega) ?_; intro v15 w15 ho15 hg15 _ hl15; obtain ⟨g15, c15, rfl, _, _⟩ := own_some ho15 (Nat.succ_pos _); have hld := HJX.out.laid (below_al _ (.cells #[.int .i64 (k : Int), .int .i64 (m2 : Int), .int .i64 (cc : Int), .int .i64 (cc : Int), .int .i64 0] 64)); have x15 := hld.macGrown hld.arow (by decide) hg15; have y15 := cell_of_row _ _ 1 _ _ _ x15; have z15 := frozen_of_row _ _ 1 _ _ x15; have HSN : Hid _ := hld.addA (a := arcOf (k, cc, m2)) (by rw [HAA.out]; exact ho15) hg15; clear ho15 hg15 hl15 x15 hld)
                go_roundw
                case rel =>
                  refine ⟨cc + 1, .slice (some ⟨g14, 0, none⟩) (m2 + 1) c14, .slice (some ⟨g15, 0, none⟩) (a2 + 1) c15, (fun a => if a = kj then some m2 else G2 a), rfl, by go_num, hc, ?_, ?_⟩
                  · rw [jr_next T k r s0 HCS.out.2, js_some HCS.out.1, HJ2.out.1, HJ2.out.2, HWH.out, if_pos rfl, HM2.out]
                    dsimp only
                    rw [List.map_append]
                    exact HSN.out
                  · rw [jr_next T k r s0 HCS.out.2, js_some HCS.out.1, HJ2.out.1, HWH.out, if_pos rfl]
                    exact HG3.out
                case measure => simp [intOf]; omega
          · obtain rfl : cc = 61 := by omega
            have HE : Hid (jn T (k + 1) = jr T k r s0 60) := by show _ = _; rw [← HJ0.out, ← HR.out.2]; rfl
            have HE1 : Hid ((jn T (k + 1)).1 = L2 ∧ (jn T (k + 1)).2 = AR2) := by rw [HE.out]; exact HJ2.out
            have HFE : Hid ((jf T (jn T (k + 1)).1 (k + 1)).map finOf = fs) := by
              show _ = _
              have hp := jn_pre T k (k + 1) (Nat.le_succ k)
              rw [jf_up, ← jf_pre T hp k (by rw [HJ.out.1, HM.out]; exact hkm), List.map_append, HJ.out.1, HFS.out.1]
              rw [show (jn T (k + 1)).1.getD k 0 = r from getD_some (pre_at hp (by rw [HJ.out.1]; exact HR.out.1)), HFI.out]
              simp
            have HJU : Hid (JAt T (k + 1)) := HAT.out.up (by rw [HJ.out.1, HM.out]; exact hlt)
            go_wp2
            go_roundw
            case rel => exact ⟨k + 1, _, _, _, G2, rfl, by go_num, by rw [HFE.out, HE1.out.1, HE1.out.2]; exact HJX.out, by rw [HE1.out.1]; exact HG2.out, HJU.out⟩
            case measure => simp [intOf]; omega
      | true =>
        have c8 := cell_of_row _ _ 2 _ _ _ HJX.out.mac
        have hfl := HFS.out.2
        go_upto_region 10 with (refine wpList_append_own_at _ rfl _ _ 23 rfl w.heap.size 66 i66 (.agg #[.int .i64 0, .int .i64 0]) 2 16 Tryd.underlying23 hi66 hz0 hz1 hz2 rfl (by decide) _ _ _ rfl (HJX.out.grow.alloc _) ⟨_, 0, none⟩ 1 1 [.int .i64 (k : Int), .int .i64 0] rfl rfl (cell_two_new _ _ _ _) (fc_one ((k : Int), 0)) (by unfold maxLen; omega) (by omega) (by have := HJX.out.below.size; simp; omega) ?_; intro v15 w15 ho15 hg15 _ hl15; obtain ⟨g15, c15, rfl, _, _⟩ := own_some ho15 (Nat.succ_pos _); have hld := HJX.out.laid (below_al _ (.cells #[.int .i64 (k : Int), .int .i64 0] 66)); have x15 := hld.macGrown hld.grow (by decide) hg15; have y15 := cell_of_row _ _ 2 _ _ _ x15; have z15 := frozen_of_row _ _ 2 _ _ x15; have HSN : Hid (Jd w (w15.setCell ⟨p5, 2, none⟩ (.slice (some ⟨g15, 0, none⟩) (fs.length + 1) c15)) p4 p5 mb (.slice (some ⟨lg, 0, none⟩) m lc) (.slice aA an1 cA) (.slice (some ⟨g15, 0, none⟩) (fs.length + 1) c15) L (AR.map arcOf) (fs ++ [finOf k]) G) := hld.addG (f := finOf k) ho15 hg15; have HRN : Hid (Rw9 (w15.setCell ⟨p5, 2, none⟩ (.slice (some ⟨g15, 0, none⟩) (fs.length + 1) c15)) b9 xr true dr) := rw_cell (rw_grown (HRX.out.laid (below_al _ (.cells #[.int .i64 (k : Int), .int .i64 0] 66))) hld.grow (by decide) hg15) x15; clear ho15 hg15 hl15 x15 hld)
        clear r8 c8 HJX HRX y15 z15
        have HJX := HSN
        have HRX := HRN
        clear HSN HRN
        generalize w15.setCell ⟨p5, 2, none⟩ (.slice (some ⟨g15, 0, none⟩) (fs.length + 1) c15) = V2 at *
        obtain ⟨s0, hs0⟩ : ∃ s, jn T k = s := ⟨_, rfl⟩
        have HJ0 : Hid (jn T k = s0) := hs0
        have HS2 : Hid (Jd w V2 p4 p5 mb (.slice (some ⟨lg, 0, none⟩) m lc) (.slice aA an1 cA) (.slice (some ⟨g15, 0, none⟩) (fs.length + 1) c15) (jr T k r s0 (0 - 1)).1 ((jr T k r s0 (0 - 1)).2.map arcOf) (fs ++ [finOf k]) G ∧ Jg cl (jr T k r s0 (0 - 1)).1 G) := ⟨by have h := HJX.out; rw [← HJ.out.1, ← HJ.out.2, hs0] at h; exact h, by have h := HG.out; rw [← HJ.out.1, hs0] at h; exact h⟩
        have r10 := HRX.out.xrange
        clear hs0
        go_upto_region 11 with (refine ld88 rfl (.tmp 45) rfl b9 0 xr rfl r10 ?_)
        clear r10 HJX HRX
        go_loopw [7, 47] (fun a c wx => ∃ (cc : Nat) (vl va : Value) (G : Nat → Option Nat), a = vl ∧ c = .int .i64 (cc : Int) ∧ cc ≤ 61 ∧ Jd w wx p4 p5 mb vl va (.slice (some ⟨g15, 0, none⟩) (fs.length + 1) c15) (jr T k r s0 (cc - 1)).1 ((jr T k r s0 (cc - 1)).2.map arcOf) (fs ++ [finOf k]) G ∧ Jg cl (jr T k r s0 (cc - 1)).1 G) (fun _ c _ => 61 - (intOf c).toNat)
        case atStart => exact ⟨0, _, _, G, rfl, rfl, Nat.zero_le _, HS2.out.1, HS2.out.2⟩
        case round =>
          clear HS2
          obtain ⟨cc, vl, va, G2, rfl, rfl, hcc, hjd, hjg⟩ := hrel
          obtain ⟨al2, cl2, rfl⟩ := oslice hjd.lrow
          obtain ⟨aA2, cA2, rfl⟩ := oslice hjd.arow
          obtain ⟨L2, hL2⟩ : ∃ L, (jr T k r s0 (cc - 1)).1 = L := ⟨_, rfl⟩
          obtain ⟨AR2, hAR2⟩ : ∃ L, (jr T k r s0 (cc - 1)).2 = L := ⟨_, rfl⟩
          have HJ2 : Hid ((jr T k r s0 (cc - 1)).1 = L2 ∧ (jr T k r s0 (cc - 1)).2 = AR2) := ⟨hL2, hAR2⟩
          obtain ⟨a2, ha2⟩ : ∃ a, (AR2.map arcOf).length = a := ⟨_, rfl⟩
          have HAA : Hid ((AR2.map arcOf).length = a2) := ha2
          have HRW2 : Hid (Rows T L2) := by
            rw [← hL2, ← HJ0.out]
            exact jr_rows HTE.out.2 (HRW.out k) (by rw [HTE.out.1]; exact hrn) _
          obtain ⟨m2, hm2⟩ : ∃ m, L2.length = m := ⟨_, rfl⟩
          have HM2 : Hid (L2.length = m2) := hm2
          have hm2n : m2 ≤ n := by have h := HRW2.out.len; rw [HTE.out.1] at h; omega
          have HAN : Hid (a2 ≤ 60 * 500 + 60) := by
            have h1 := jr_arcs T k r s0 (cc - 1)
            have h2 := jn_arcs T k
            rw [hAR2] at h1
            rw [HJ0.out] at h2
            show _ ≤ _
            rw [← ha2, List.length_map]
            omega
          have HJX : Hid (Jd w wr p4 p5 mb (.slice al2 m2 cl2) (.slice aA2 a2 cA2) (.slice (some ⟨g15, 0, none⟩) (fs.length + 1) c15) L2 (AR2.map arcOf) (fs ++ [finOf k]) G2) := by have h := hjd; rw [hL2, hAR2, hm2, ha2] at h; exact h
          have HG2 : Hid (Jg cl L2 G2) := by have h := hjg; rw [hL2] at h; exact h
          rw [hL2, hm2]
          clear hjd hjg hL2 hAR2 ha2 hm2
          by_cases hc : cc < 61
          · have hci : (cc : Int) < 61 := by omega
            have hidx := idx88 xr cc hc
            obtain ⟨x, hx⟩ : ∃ x, xr cc = x := ⟨_, rfl⟩
            have HX : Hid (X r cc = x) := by show _ = _; rw [HXI.out.1]; exact hx
            rw [hx] at hidx
            rcases HT.out.1.cases hrn hc with h1 | ⟨j, h1, hj, hc1, hto⟩
            · obtain rfl : x = -1 := by rw [← HX.out]; exact h1
              have HNO : Hid (1 ≤ cc → T.cut.to r cc = none) := fun hc1 => by
                have h2 := HT.out.1.arc r cc hrn hc1 (by omega)
                rw [HX.out] at h2
                exact enc_none.1 h2.symm
              clear h1 hx
              go_wp2
              go_roundw
              case rel => exact ⟨cc + 1, _, _, G2, rfl, by go_num, hc, by rw [jr_skip T k r s0 HNO.out, HJ2.out.1, HJ2.out.2]; exact HJX.out, by rw [jr_skip T k r s0 HNO.out, HJ2.out.1]; exact HG2.out⟩
              case measure => simp [intOf]; omega
            · obtain rfl : x = (j : Int) := by rw [← HX.out]; exact h1
              have HCS : Hid (T.cut.to r cc = some j ∧ 1 ≤ cc) := ⟨hto, hc1⟩
              clear h1 hx hto
              have q1 : ((j : Int) == -1) = false := by have h : ¬ (j : Int) = -1 := (by omega); simp [h]
              obtain ⟨kj, hkj⟩ : ∃ k, cl.getD j 0 = k := ⟨_, rfl⟩
              have HKJ : Hid (cl.getD j 0 = kj ∧ kj ≤ 1000000) := ⟨hkj, by have h := HCL.out.2.1 j hj; omega⟩
              have c7 := ((HV.out _ HJX.out.below).cellAt j (by omega)).trans (ns_getD (by rw [HCL.out.2.2]; exact hj))
              rw [hkj] at c7
              have hlook := look2 HJX.out.nm HKJ.out.2
              clear hkj
              cases hg : G2 kj with
              | some i =>
                rw [hg] at hlook
                dsimp only at hlook
                have HWH : Hid (wh T L2 j = i ∧ i < L2.length) := HG2.out.old_wh HCL.out.1 HRW2.out (by rw [HTE.out.1]; exact hj) (by rw [HKJ.out.1]; exact hg)
                clear hg
                go_upto_region 19 with fail
                clear hlook c7 hidx
                have c8 := cell_of_row _ _ 1 _ _ _ HJX.out.mac
                have har : Hid (wr.ownsRow w.heap.size 64 5 (.slice aA2 a2 cA2) a2 (acs (AR2.map arcOf))) := by have h := HJX.out.arow; rw [HAA.out] at h; exact h
                go_wp2_with (refine wpList_append_own_at _ rfl _ _ 22 rfl w.heap.size 64 i64 (.agg #[.int .i64 0, .int .i64 0, .int .i64 0, .int .i64 0, .int .i64 0]) 5 40 Tryd.underlying22 hi64 hy0 hy1 hy2 rfl (by decide) _ _ _ rfl (har.out.alloc _) ⟨_, 0, none⟩ 1 1 [.int .i64 (k : Int), .int .i64 (i : Int), .int .i64 (cc : Int), .int .i64 (cc : Int), .int .i64 0] rfl rfl (cell_five_new _ _ _ _ _ _ _) (ac_one ((k : Int), (i : Int), (cc : Int), (cc : Int), 0)) (by have := HAN.out; unfold maxLen; omega) (by have := HAN.out; omega) (by have := HJX.out.below.size; simp; omega) ?_; intro v15 w15 ho15 hg15 _ hl15; obtain ⟨g15, c15, rfl, _, _⟩ := own_some ho15 (Nat.succ_pos _); have hld := HJX.out.laid (below_al _ (.cells #[.int .i64 (k : Int), .int .i64 (i : Int), .int .i64 (cc : Int), .int .i64 (cc : Int), .int .i64 0] 64)); have x15 := hld.macGrown hld.arow (by decide) hg15; have y15 := cell_of_row _ _ 1 _ _ _ x15; have z15 := frozen_of_row _ _ 1 _ _ x15; have HSN : Hid _ := hld.addA (a := arcOf (k, cc, i)) (by rw [HAA.out]; exact ho15) hg15; clear ho15 hg15 hl15 x15 hld)
                go_roundw
                case rel =>
                  refine ⟨cc + 1, .slice al2 m2 cl2, .slice (some ⟨g15, 0, none⟩) (a2 + 1) c15, G2, rfl, by go_num, hc, ?_, ?_⟩
                  · rw [jr_next T k r s0 HCS.out.2, js_some HCS.out.1, HJ2.out.1, HJ2.out.2, HWH.out.1, if_neg (by have := HWH.out.2; omega)]
                    dsimp only
                    rw [List.map_append]
                    exact HSN.out
                  · rw [jr_next T k r s0 HCS.out.2, js_some HCS.out.1, HJ2.out.1, HWH.out.1, if_neg (by have := HWH.out.2; omega)]
                    exact HG2.out
                case measure => simp [intOf]; omega
              | none =>
                rw [hg] at hlook
                dsimp only at hlook
                have HWH : Hid (wh T L2 j = L2.length) := HG2.out.new_wh HCL.out.1 HRW2.out (by rw [HTE.out.1]; exact hj) (by rw [HKJ.out.1]; exact hg)
                have HG3 : Hid (Jg cl (L2 ++ [j]) (fun a => if a = kj then some m2 else G2 a)) := by
                  have h := HG2.out.add (x := j) (by rw [HKJ.out.1]; exact hg)
                  rw [HKJ.out.1, HM2.out] at h
                  exact h
                obtain ⟨w13, hr13, hm13, hg13⟩ := HJX.out.nm.store (c := m2) (by rw [HM2.out]; unfold maxLen; omega) (a := kj) HKJ.out.2
                have HMG : Hid (Na.IsNm w13 mb (L2.length + 1) (fun a => if a = kj then some m2 else G2 a) ∧ wr.grownBy w13 (some mb)) := ⟨hm13, hg13⟩
                have HRO : Hid (w13.ownsRow w.heap.size 3 1 (.slice al2 m2 cl2) m2 (ns L2) ∧ Below w.heap.size w w13) := by have h := (HJX.out.class hm13 hg13).1; rw [HM2.out] at h; exact h
                clear hg hm13 hg13
                go_upto_region 17 with fail
                clear hlook
                go_upto_region 18 with fail
                clear hr13 c7 hidx
                go_upto_region 19 with (refine wpList_append_own_at _ rfl _ _ 26 rfl w.heap.size 3 i3 (.int .i64 0) 1 8 Tryd.underlying26 hi3 hx0 hx1 hx2 rfl (by decide) _ _ _ rfl (HRO.out.1.alloc _) ⟨_, 0, none⟩ 1 1 [.int .i64 (j : Int)] rfl rfl (cell_one_new _ _ _) (sl_one _ rfl) (by unfold maxLen; omega) (by omega) (by have := HRO.out.2.size; simp; omega) ?_; intro v14 w14 ho14 hg14 _ hl14; obtain ⟨g14, c14, rfl, _, _⟩ := own_some ho14 (Nat.succ_pos _); have HJ5 : Hid (Jd w w14 p4 p5 mb (.slice (some ⟨g14, 0, none⟩) (m2 + 1) c14) (.slice aA2 a2 cA2) (.slice (some ⟨g15, 0, none⟩) (fs.length + 1) c15) (L2 ++ [j]) (AR2.map arcOf) (fs ++ [finOf k]) (fun a => if a = kj then some m2 else G2 a)) := (HJX.out.class HMG.out.1 HMG.out.2).2 rfl (by rw [HM2.out]; exact ho14) hg14; clear ho14 hg14 hl14)
                clear HJX
                have HJX := HJ5
                clear HJ5 HRO HMG
                have c8 := cell_of_row _ _ 1 _ _ _ HJX.out.mac
                have har : Hid (w14.ownsRow w.heap.size 64 5 (.slice aA2 a2 cA2) a2 (acs (AR2.map arcOf))) := by have h := HJX.out.arow; rw [HAA.out] at h; exact h
                go_wp2_with (refine wpList_append_own_at _ rfl _ _ 22 rfl w.heap.size 64 i64 (.agg #[.int .i64 0, .int .i64 0, .int .i64 0, .int .i64 0, .int .i64 0]) 5 40 Tryd.underlying22 hi64 hy0 hy1 hy2 rfl (by decide) _ _ _ rfl (har.out.alloc _) ⟨_, 0, none⟩ 1 1 [.int .i64 (k : Int), .int .i64 (m2 : Int), .int .i64 (cc : Int), .int .i64 (cc : Int), .int .i64 0] rfl rfl (cell_five_new _ _ _ _ _ _ _) (ac_one ((k : Int), (m2 : Int), (cc : Int), (cc : Int), 0)) (by have := HAN.out; unfold maxLen; omega) (by have := HAN.out; omega) (by have := HJX.out.below.size; simp; omega) ?_; intro v15 w15 ho15 hg15 _ hl15; obtain ⟨g15, c15, rfl, _, _⟩ := own_some ho15 (Nat.succ_pos _); have hld := HJX.out.laid (below_al _ (.cells #[.int .i64 (k : Int), .int .i64 (m2 : Int), .int .i64 (cc : Int), .int .i64 (cc : Int), .int .i64 0] 64)); have x15 := hld.macGrown hld.arow (by decide) hg15; have y15 := cell_of_row _ _ 1 _ _ _ x15; have z15 := frozen_of_row _ _ 1 _ _ x15; have HSN : Hid _ := hld.addA (a := arcOf (k, cc, m2)) (by rw [HAA.out]; exact ho15) hg15; clear ho15 hg15 hl15 x15 hld)
                go_roundw
                case rel =>
                  refine ⟨cc + 1, .slice (some ⟨g14, 0, none⟩) (m2 + 1) c14, .slice (some ⟨g15, 0, none⟩) (a2 + 1) c15, (fun a => if a = kj then some m2 else G2 a), rfl, by go_num, hc, ?_, ?_⟩
                  · rw [jr_next T k r s0 HCS.out.2, js_some HCS.out.1, HJ2.out.1, HJ2.out.2, HWH.out, if_pos rfl, HM2.out]
                    dsimp only
                    rw [List.map_append]
                    exact HSN.out
                  · rw [jr_next T k r s0 HCS.out.2, js_some HCS.out.1, HJ2.out.1, HWH.out, if_pos rfl]
                    exact HG3.out
                case measure => simp [intOf]; omega
          · obtain rfl : cc = 61 := by omega
            have HE : Hid (jn T (k + 1) = jr T k r s0 60) := by show _ = _; rw [← HJ0.out, ← HR.out.2]; rfl
            have HE1 : Hid ((jn T (k + 1)).1 = L2 ∧ (jn T (k + 1)).2 = AR2) := by rw [HE.out]; exact HJ2.out
            have HFE : Hid ((jf T (jn T (k + 1)).1 (k + 1)).map finOf = (fs ++ [finOf k])) := by
              show _ = _
              have hp := jn_pre T k (k + 1) (Nat.le_succ k)
              rw [jf_up, ← jf_pre T hp k (by rw [HJ.out.1, HM.out]; exact hkm), List.map_append, HJ.out.1, HFS.out.1]
              rw [show (jn T (k + 1)).1.getD k 0 = r from getD_some (pre_at hp (by rw [HJ.out.1]; exact HR.out.1)), HFI.out]
              simp
            have HJU : Hid (JAt T (k + 1)) := HAT.out.up (by rw [HJ.out.1, HM.out]; exact hlt)
            go_wp2
            go_roundw
            case rel => exact ⟨k + 1, _, _, _, G2, rfl, by go_num, by rw [HFE.out, HE1.out.1, HE1.out.2]; exact HJX.out, by rw [HE1.out.1]; exact HG2.out, HJU.out⟩
            case measure => simp [intOf]; omega
    · obtain rfl : k = m := by omega
      have HFN : Hid _ := Jd.fin (m := k) HS.out (by rw [List.length_map]; have := HAL.out; omega) (by have := HFS.out.2; omega)
      have HB : Hid (w.heap.size ≤ p4) := HS.out.le4
      have c0 := cell_of_row _ _ 0 _ _ _ HS.out.mac
      have f8 := frozen_of_row _ _ 0 _ _ HS.out.mac
      go_upto_region 22 with fail
      clear c0 f8 HS
      generalize wr.setCell ⟨p5, 0, none⟩ (.int .i64 (k : Int)) = W9 at *
      have c0 := cell_of_row _ _ 0 _ _ _ HFN.out.2.1
      have c1 := cell_of_row _ _ 1 _ _ _ HFN.out.2.1
      have c2 := cell_of_row _ _ 2 _ _ _ HFN.out.2.1
      have z0 := cell_of_row _ _ 0 _ _ _ HFN.out.1
      have z1 := cell_of_row _ _ 1 _ _ _ HFN.out.1
      have z2 := cell_of_row _ _ 2 _ _ _ HFN.out.1
      have f0 := frozen_of_row _ _ 0 _ _ HFN.out.1
      have f1 := frozen_of_row _ _ 1 _ _ HFN.out.1
      have f2 := frozen_of_row _ _ 2 _ _ HFN.out.1
      go_wp2
      have hr := ret25 (x := .int .i64 (k : Int)) (y := .slice aA an1 cA) (z := .slice aG fs.length cG) HFN.out.1 HFN.out.2.2.1 HB.out
      have hk1 : Kp (fun b => b = p4) W9 (W9.setCell ⟨p4, 0, none⟩ (.int .i64 (k : Int))) := (Kp.refl _ W9).setCell _ _ _ (fun _ => rfl)
      have hk2 : Kp (fun b => b = p4) W9 ((W9.setCell ⟨p4, 0, none⟩ (.int .i64 (k : Int))).setCell ⟨p4, 1, none⟩ (.slice aA an1 cA)) := hk1.setCell _ _ _ (fun _ => rfl)
      have hkk : Kp (fun b => b = p4) W9 (((W9.setCell ⟨p4, 0, none⟩ (.int .i64 (k : Int))).setCell ⟨p4, 1, none⟩ (.slice aA an1 cA)).setCell ⟨p4, 2, none⟩ (.slice aG fs.length cG)) := hk2.setCell _ _ _ (fun _ => rfl)
      refine bodyPost_ret (results_cell_row rfl _ _ p4 25 _ (0, 0) _ rfl hr.1 Tryd.underlying25 rfl row25) rfl ⟨k, _, _, _, _, _, _, rfl, hr.2, HAT.out, by rw [HJ.out.1, HM.out], fun W hW => ?_⟩
      rw [HJ.out.1, HJ.out.2, HFS.out.1]
      exact HFN.out.2.2.2 _ (kp_then (X := fun b => b = p4 ∨ b < w.heap.size) ⟨hkk.os, hkk.tape, hkk.output, hkk.size, fun q hq hn => hkk.block q hq (fun e => hn (.inl e))⟩ hW (fun _ _ e => .inr e))
end Go.Proofs.YtfjocafepigijaaDoor.Su
