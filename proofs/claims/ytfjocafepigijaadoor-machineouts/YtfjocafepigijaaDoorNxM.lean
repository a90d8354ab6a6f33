/- How the rows of least costs lie in memory while they are made. No conditions. -/
import Derived.Test.YtfjocafepigijaaDoorNwM
import Derived.Deep.Cut
import Derived.Deep.CutRange
import Derived.Deep.DeepCutAuto
import Derived.Deep.RegionHeld
import Derived.Deep.RegionHeld3
namespace Go.Proofs.YtfjocafepigijaaDoor.Cm
open Go.RowKit Mv Wk Qp Sk Po Ps Wd Se Mp St Wg Nw
open CR (nc)

abbrev RowH := Nat × Nat × List Nat
def hdr (S : Nat) (x : RowH) : Value := .slice (some ⟨x.1, 0, none⟩) S x.2.1
/-- a list of rows -/
structure Tb (w : World) (K0 S : Nat) (v : Value) (l : List RowH) : Prop where
  own : w.ownsRow K0 26 1 v l.length (l.map (hdr S))
  rows : ∀ x ∈ l, w.ownsRow K0 3 1 (hdr S x) S (nc x.2.2)
theorem own_ty {w : World} {base e size n : Nat} {v : Value} {xs : List Value} (h : w.ownsRow base e size v n xs) {k : Nat} (hk : v.ownBlock = some k) : ∃ cur, w.heap[k]? = some (.cells cur e (0, 0)) := by
  rcases h.2 with ⟨rfl, _⟩ | ⟨g, cap, cur, rfl, _, hg, _⟩
  · simp [Value.ownBlock] at hk
  · simp [Value.ownBlock] at hk
    subst hk
    exact ⟨cur, hg⟩
theorem ty_ne {w : World} {k : Nat} {c1 c2 : Array Value} {e1 e2 : TypeId} (h1 : w.heap[k]? = some (.cells c1 e1 (0, 0))) (h2 : w.heap[k]? = some (.cells c2 e2 (0, 0))) (hne : e1 ≠ e2) : False := by
  rw [h1] at h2
  simp only [Option.some.injEq, Obj.cells.injEq] at h2
  exact hne h2.2.1
theorem own_kp2 {w w' : World} {base e size n : Nat} {v : Value} {xs : List Value} {X : Nat → Prop} (h : w.ownsRow base e size v n xs) (hk : Kp X w w') (hx : ∀ k, v.ownBlock = some k → ¬ X k) : w'.ownsRow base e size v n xs := by
  refine ⟨h.1, ?_⟩
  rcases h.2 with hn | ⟨g, cap, cur, rfl, hb, hg, rest⟩
  · exact .inl hn
  · exact .inr ⟨g, cap, cur, rfl, hb, (hk.block g (Array.getElem?_eq_some_iff.1 hg).1 (hx g rfl)).trans hg, rest⟩
theorem Tb.kept {w w' : World} {K0 S : Nat} {v : Value} {l : List RowH} {X : Nat → Prop} (h : Tb w K0 S v l) (hk : Kp X w w') (h1 : ∀ k, v.ownBlock = some k → ¬ X k) (h2 : ∀ x ∈ l, ¬ X x.1) : Tb w' K0 S v l :=
  ⟨own_kp2 h.own hk h1, fun x hx => own_kp2 (h.rows x hx) hk (fun k hk' => by simp [hdr, Value.ownBlock] at hk'; subst hk'; exact h2 x hx)⟩
theorem Tb.nil (w : World) (K0 S : Nat) : Tb w K0 S nilS [] := ⟨World.ownsRow_nil _ _ _ _, fun _ h => (List.not_mem_nil h).elim⟩
theorem Tb.lt {w : World} {K0 S : Nat} {v : Value} {l : List RowH} (h : Tb w K0 S v l) : ∀ x ∈ l, x.1 < w.heap.size := fun x hx => ((h.rows x hx).lt x.1 rfl).2

/-- what stands in memory between two places -/
structure Cb (w wr : World) (F K0 mb sb S capS n : Nat) (A : List Arc) (G : Int → Int → Value) (vq va vr : Value) (la lr : List RowH) : Prop where
  field : IsF wr F (.int .i64 S) (.map (some mb)) (.slice (some ⟨sb, 0, none⟩) S capS) vq
  queue : wr.ownsRow K0 192 2 vq 0 (fcs [])
  fld : Fld wr F K0 mb sb S n A G
  ta : Tb wr K0 S va la
  tr : Tb wr K0 S vr lr
  ne : ∀ k, vr.ownBlock = some k → va.ownBlock ≠ some k
  kept : Kp (fun k => k = F ∨ K0 ≤ k) w wr
/-- .. and the row that is being made -/
structure Ch (w wr : World) (F K0 mb sb S capS n : Nat) (A : List Arc) (G : Int → Int → Value) (vq va vr : Value) (la lr : List RowH) (C : Nat) (H : List Nat) : Prop where
  cb : Cb w wr F K0 mb sb S capS n A G vq va vr la lr
  here : wr.ownsRow K0 3 1 (.slice (some ⟨C, 0, none⟩) S S) S (nc H)
  new : ∀ x ∈ la ++ lr, x.1 ≠ C
theorem Cb.carried {w wr w' : World} {F K0 mb sb S capS n : Nat} {A : List Arc} {G : Int → Int → Value} {vq vq' va vr : Value} {la lr : List RowH} {C : Nat} {X : Nat → Prop} (h : Cb w wr F K0 mb sb S capS n A G vq va vr la lr) (hk : Kp X wr w') (hX : ∀ k, k < wr.heap.size → X k → k = F ∨ k = C ∨ vq.ownBlock = some k)
    (hC : (∃ cur, wr.heap[C]? = some (.cells cur 3 (0, 0))) ∨ wr.heap.size ≤ C) (hCK : K0 ≤ C) (hn : ∀ x ∈ la ++ lr, x.1 ≠ C) (h1 : IsF w' F (.int .i64 S) (.map (some mb)) (.slice (some ⟨sb, 0, none⟩) S capS) vq') (h2 : w'.ownsRow K0 192 2 vq' 0 (fcs [])) : Cb w w' F K0 mb sb S capS n A G vq' va vr la lr := by
  have hq : ∀ k, vq.ownBlock = some k → K0 ≤ k := fun k hk => (h.queue.lt k hk).1
  have hXK : ∀ k, k < K0 → k ≠ F → ¬ X k := fun k hk1 hne hx => by
    rcases hX k (Nat.lt_of_lt_of_le hk1 h.fld.sils.size) hx with h3 | h3 | h3
    · exact hne h3
    · omega
    · have := hq k h3; omega
  have hv : ∀ {v : Value} {l : List RowH}, Tb wr K0 S v l → ∀ k, v.ownBlock = some k → ¬ X k := fun {v l} ht k hk1 hx => by
    obtain ⟨cur, hc⟩ := own_ty ht.own hk1
    rcases hX k (ht.own.lt k hk1).2 hx with h3 | h3 | h3
    · subst h3; exact ty_ne hc h.field (by decide)
    · subst h3
      rcases hC with ⟨c2, hC⟩ | hC
      · exact ty_ne hc hC (by decide)
      · have := (ht.own.lt k hk1).2; omega
    · obtain ⟨c2, hc2⟩ := own_ty h.queue h3
      exact ty_ne hc hc2 (by decide)
  have hr : ∀ {v : Value} {l : List RowH}, Tb wr K0 S v l → (∀ x ∈ l, x.1 ≠ C) → ∀ x ∈ l, ¬ X x.1 := fun {v l} ht hnn x hxl hx => by
    obtain ⟨cur, hc⟩ := own_ty (ht.rows x hxl) (k := x.1) rfl
    rcases hX x.1 (ht.lt x hxl) hx with h3 | h3 | h3
    · rw [h3] at hc; exact ty_ne hc h.field (by decide)
    · exact hnn x hxl h3
    · obtain ⟨c2, hc2⟩ := own_ty h.queue h3
      exact ty_ne hc hc2 (by decide)
  refine ⟨h1, h2, h.fld.kept hk hXK, h.ta.kept hk (hv h.ta) (hr h.ta (fun x hx => hn x (List.mem_append_left _ hx))), h.tr.kept hk (hv h.tr) (hr h.tr (fun x hx => hn x (List.mem_append_right _ hx))), h.ne, ?_⟩
  refine h.kept.trans (hk.mono (fun k hk1 hx => ?_))
  rcases hX k hk1 hx with h3 | h3 | h3
  · exact .inl h3
  · exact .inr (by omega)
  · exact .inr (hq k h3)
theorem Ch.kept {w wr w' : World} {F K0 mb sb S capS n : Nat} {A : List Arc} {G : Int → Int → Value} {vq vq' va vr : Value} {la lr : List RowH} {C : Nat} {H H' : List Nat} {X : Nat → Prop} (h : Ch w wr F K0 mb sb S capS n A G vq va vr la lr C H) (hk : Kp X wr w') (hX : ∀ k, k < wr.heap.size → X k → k = F ∨ k = C ∨ vq.ownBlock = some k)
    (h1 : IsF w' F (.int .i64 S) (.map (some mb)) (.slice (some ⟨sb, 0, none⟩) S capS) vq') (h2 : w'.ownsRow K0 192 2 vq' 0 (fcs [])) (h3 : w'.ownsRow K0 3 1 (.slice (some ⟨C, 0, none⟩) S S) S (nc H')) : Ch w w' F K0 mb sb S capS n A G vq' va vr la lr C H' :=
  ⟨h.cb.carried (C := C) hk hX (.inl (own_ty h.here rfl)) (h.here.lt C rfl).1 h.new h1 h2, h3, h.new⟩
/-- a row is laid -/
theorem Cb.laid {w wr w' : World} {F K0 mb sb S capS n : Nat} {A : List Arc} {G : Int → Int → Value} {vq va vr : Value} {la lr : List RowH} {H : List Nat} (h : Cb w wr F K0 mb sb S capS n A G vq va vr la lr) (hb : Below wr.heap.size wr w') (ho : w'.ownsRow wr.heap.size 3 1 (.slice (some ⟨wr.heap.size, 0, none⟩) S S) S (nc H)) : Ch w w' F K0 mb sb S capS n A G vq va vr la lr wr.heap.size H := by
  have hk : Kp (fun _ => False) wr w' := ⟨hb.os, hb.tape, hb.output, hb.size, fun k hk _ => hb.block k hk⟩
  have hn : ∀ x ∈ la ++ lr, x.1 ≠ wr.heap.size := fun x hx => by
    rcases List.mem_append.1 hx with hx | hx
    · have := h.ta.lt x hx; omega
    · have := h.tr.lt x hx; omega
  refine ⟨h.carried (C := wr.heap.size) hk (fun k _ hx => hx.elim) (.inr (Nat.le_refl _)) h.fld.sils.size hn (h.field.kept hk (fun h => h)) (own_kp2 h.queue hk (fun _ _ h => h)), ?_, hn⟩
  rcases ho with ⟨h1, h2⟩
  refine ⟨h1, ?_⟩
  rcases h2 with h2 | ⟨g, cap, cur, hv, hg, rest⟩
  · exact .inl h2
  · exact .inr ⟨g, cap, cur, hv, Nat.le_trans h.fld.sils.size hg, rest⟩
theorem Ch.store {w wr : World} {F K0 mb sb S capS n : Nat} {A : List Arc} {G : Int → Int → Value} {vq va vr : Value} {la lr : List RowH} {C : Nat} {H : List Nat} (h : Ch w wr F K0 mb sb S capS n A G vq va vr la lr C H) (t c : Nat) : Ch w (wr.setCell ⟨C, t, none⟩ (.int .i64 (c : Int))) F K0 mb sb S capS n A G vq va vr la lr C (H.set t c) := by
  obtain ⟨cur, hc⟩ := own_ty h.here (k := C) rfl
  have hCF : F ≠ C := fun e => by subst e; exact ty_ne hc h.cb.field (by decide)
  have hk : Kp (fun k => k = C) wr (wr.setCell ⟨C, t, none⟩ (.int .i64 (c : Int))) := (Kp.refl _ wr).setCell _ _ _ (fun _ => rfl)
  refine h.kept hk (fun k _ hx => .inr (.inl hx)) (h.cb.field.kept hk hCF) (own_kp2 h.cb.queue hk (fun k hk1 hx => ?_)) (put1 h.here t c)
  obtain ⟨c2, hc2⟩ := own_ty h.cb.queue hk1
  subst hx
  exact ty_ne hc hc2 (by decide)
theorem Ch.stepped {w wr w' : World} {F K0 mb sb S capS n : Nat} {A : List Arc} {G : Int → Int → Value} {vq va vr : Value} {la lr : List RowH} {C : Nat} {H H' : List Nat} (h : Ch w wr F K0 mb sb S capS n A G vq va vr la lr C H) (ho : w'.ownsRow K0 3 1 (.slice (some ⟨C, 0, none⟩) S S) S (nc H')) (hk : Kp (fun k => k = C) wr w') : Ch w w' F K0 mb sb S capS n A G vq va vr la lr C H' := by
  obtain ⟨cur, hc⟩ := own_ty h.here (k := C) rfl
  have hCF : F ≠ C := fun e => by subst e; exact ty_ne hc h.cb.field (by decide)
  refine h.kept hk (fun k _ hx => .inr (.inl hx)) (h.cb.field.kept hk hCF) (own_kp2 h.cb.queue hk (fun k hk1 hx => ?_)) ho
  obtain ⟨c2, hc2⟩ := own_ty h.cb.queue hk1
  subst hx
  exact ty_ne hc hc2 (by decide)
theorem Ch.mem {w wr : World} {F K0 mb sb S capS n : Nat} {A : List Arc} {G : Int → Int → Value} {vq va vr : Value} {la lr : List RowH} {C : Nat} {H : List Nat} (h : Ch w wr F K0 mb sb S capS n A G vq va vr la lr C H) : Mem wr wr F K0 C S S (.int .i64 S) (.map (some mb)) (.slice (some ⟨sb, 0, none⟩) S capS) vq vq H [] := by
  obtain ⟨cur, hc⟩ := own_ty h.here (k := C) rfl
  refine ⟨h.cb.field, h.cb.queue, h.here, fun e => ?_, .inl rfl, Kp.refl _ _⟩
  obtain ⟨c2, hc2⟩ := own_ty h.cb.queue e
  exact ty_ne hc hc2 (by decide)
theorem Ch.settled {w wr w' : World} {F K0 mb sb S capS n : Nat} {A : List Arc} {G : Int → Int → Value} {vq vq' va vr : Value} {la lr : List RowH} {C : Nat} {H R : List Nat} (h : Ch w wr F K0 mb sb S capS n A G vq va vr la lr C H) (hm : Mem wr w' F K0 C S S (.int .i64 S) (.map (some mb)) (.slice (some ⟨sb, 0, none⟩) S capS) vq vq' R []) : Ch w w' F K0 mb sb S capS n A G vq' va vr la lr C R :=
  h.kept hm.kept (fun _ _ hx => hx) hm.field hm.queue hm.row
/-- the row that is made joins the others -/
theorem Ch.joined {w wr w' : World} {F K0 mb sb S capS n : Nat} {A : List Arc} {G : Int → Int → Value} {vq va vr vr' : Value} {la lr : List RowH} {C : Nat} {R : List Nat} {o : Obj} (h : Ch w wr F K0 mb sb S capS n A G vq va vr la lr C R) (ho : w'.ownsRow K0 26 1 vr' (lr.length + 1) (lr.map (hdr S) ++ [.slice (some ⟨C, 0, none⟩) S S])) (hg : (wr.alloc o).grownBy w' vr.ownBlock) (hl : vr'.ownBlock = vr.ownBlock ∨ vr'.ownBlock = some (wr.alloc o).heap.size) :
    Cb w w' F K0 mb sb S capS n A G vq va vr' la (lr ++ [(C, S, R)]) := by
  have hk : Kp (fun k => vr.ownBlock = some k) wr w' := ((Kp.refl _ wr).alloc o).grown hg (fun k hk _ => hk)
  have hty : ∀ k, vr.ownBlock = some k → ∃ cur, wr.heap[k]? = some (.cells cur 26 (0, 0)) := fun k hk => own_ty h.cb.tr.own hk
  have nF : ¬ vr.ownBlock = some F := fun e => by obtain ⟨c, hc⟩ := hty F e; exact ty_ne hc h.cb.field (by decide)
  have nq : ∀ k, vq.ownBlock = some k → ¬ vr.ownBlock = some k := fun k hk e => by
    obtain ⟨c, hc⟩ := hty k e
    obtain ⟨c2, hc2⟩ := own_ty h.cb.queue hk
    exact ty_ne hc hc2 (by decide)
  have nr : ∀ {v : Value} {l : List RowH}, Tb wr K0 S v l → ∀ x ∈ l, ¬ vr.ownBlock = some x.1 := fun {v l} ht x hx e => by
    obtain ⟨c, hc⟩ := hty _ e
    obtain ⟨c2, hc2⟩ := own_ty (ht.rows x hx) (k := x.1) rfl
    exact ty_ne hc hc2 (by decide)
  have nC : ¬ vr.ownBlock = some C := fun e => by
    obtain ⟨c, hc⟩ := hty _ e
    obtain ⟨c2, hc2⟩ := own_ty h.here (k := C) rfl
    exact ty_ne hc hc2 (by decide)
  have nK : ∀ k, k < K0 → k ≠ F → ¬ vr.ownBlock = some k := fun k hk1 _ e => by have := (h.cb.tr.own.lt k e).1; omega
  refine ⟨h.cb.field.kept hk nF, own_kp2 h.cb.queue hk nq, h.cb.fld.kept hk nK, h.cb.ta.kept hk (fun k hk1 e => h.cb.ne k e hk1) (nr h.cb.ta), ⟨?_, ?_⟩, ?_, ?_⟩
  · rw [List.length_append, List.map_append]
    exact ho
  · intro x hx
    rcases List.mem_append.1 hx with hx | hx
    · exact own_kp2 (h.cb.tr.rows x hx) hk (fun k hk1 => by simp [hdr, Value.ownBlock] at hk1; subst hk1; exact nr h.cb.tr x hx)
    · simp only [List.mem_singleton] at hx
      subst hx
      exact own_kp2 h.here hk (fun k hk1 => by cases hk1; exact nC)
  · intro k hk1 e
    rcases hl with hl | hl
    · exact h.cb.ne k (hl ▸ hk1) e
    · rw [hl] at hk1
      cases hk1
      have := (h.cb.ta.own.lt _ e).2
      simp at this
      omega
  · exact h.cb.kept.trans (hk.mono (fun k _ e => .inr (h.cb.tr.own.lt k e).1))
/-- the place ahead in the first text -/
theorem Cb.turn {w wr : World} {F K0 mb sb S capS n : Nat} {A : List Arc} {G : Int → Int → Value} {vq va vr : Value} {la lr : List RowH} (h : Cb w wr F K0 mb sb S capS n A G vq va vr la lr) : Cb w wr F K0 mb sb S capS n A G vq vr nilS lr [] :=
  ⟨h.field, h.queue, h.fld, h.tr, Tb.nil _ _ _, fun k hk => by simp [nilS, Value.ownBlock] at hk, h.kept⟩
theorem Cb.drop {w wr : World} {F K0 mb sb S capS n : Nat} {A : List Arc} {G : Int → Int → Value} {vq va vr : Value} {la lr : List RowH} (h : Cb w wr F K0 mb sb S capS n A G vq va vr la lr) : Cb w wr F K0 mb sb S capS n A G vq nilS vr [] lr :=
  ⟨h.field, h.queue, h.fld, Tb.nil _ _ _, h.tr, fun k _ e => by simp [nilS, Value.ownBlock] at e, h.kept⟩
/-- a header of the list of rows -/
theorem Tb.cell {w : World} {K0 S g cap : Nat} {l : List RowH} (h : Tb w K0 S (.slice (some ⟨g, 0, none⟩) l.length cap) l) {j : Nat} {x : RowH} (hx : l[j]? = some x) : w.cell? ⟨g, j, none⟩ = some (.slice (some ⟨x.1, 0, none⟩) S x.2.1) := by
  have hj := (List.getElem?_eq_some_iff.1 hx).1
  rw [h.own.cellAt j (by omega), List.getElem?_map, hx]
  rfl
/-- a list of numbers that is only read -/
def LiesI (w : World) (F K0 : Nat) (a : Option Addr) (l : List Int) : Prop := l.length = 0 ∨ ∃ b off, a = some ⟨b, off, none⟩ ∧ b < K0 ∧ b ≠ F ∧ ∀ j u, l[j]? = some u → w.cell? ⟨b, off + j, none⟩ = some (.int .i64 u)
theorem LiesI.at {w wr : World} {F K0 : Nat} {a : Option Addr} {l : List Int} (h : LiesI w F K0 a l) (hk : Kp (fun k => k = F ∨ K0 ≤ k) w wr) (hs : K0 ≤ w.heap.size) {i : Nat} {s : Int} (hi : l[i]? = some s) : ∃ b off, a = some ⟨b, off, none⟩ ∧ wr.cell? ⟨b, off + i, none⟩ = some (.int .i64 s) := by
  have hl := (List.getElem?_eq_some_iff.1 hi).1
  obtain ⟨b, off, e, hb, hne, hc⟩ := h.resolve_left (by omega)
  exact ⟨b, off, e, (hk.cell (by omega) (fun hx => by rcases hx with hx | hx; exact hne hx; omega)).trans (hc i s hi)⟩
end Go.Proofs.YtfjocafepigijaaDoor.Cm
/- How a field lies in memory while it is made: the arcs of each label and of each state lie in rows apart. No conditions. -/
namespace Go.Proofs.YtfjocafepigijaaDoor.Nm
open Go.RowKit Mv Qp Sk Po Ps Wd Se Mp St Cm

abbrev Key := Int × Int × Int
/-- where an arc lies -/
def key (a : Arc) : Key := if a.2.2.1 = 0 ∧ a.2.2.2.1 = 0 then (0, 0, a.1) else (a.2.2.1, a.2.2.2.1, 0)
def ar (L : List Arc) (k : Key) : List Arc := L.filter fun a => key a == k
theorem ar_snoc (L : List Arc) (a : Arc) (k : Key) : ar (L ++ [a]) k = if key a = k then ar L k ++ [a] else ar L k := by
  unfold ar
  rw [List.filter_append]
  split
  · rename_i h; simp [h]
  · rename_i h; simp [h]
theorem ar_sil (L : List Arc) (f : Nat) : ar L (0, 0, (f : Int)) = sil L f := by
  unfold ar sil
  apply List.filter_congr
  intro a _
  unfold key
  by_cases h : a.2.2.1 = 0 ∧ a.2.2.2.1 = 0
  · rw [if_pos h, Bool.eq_iff_iff]
    simp [h.1, h.2]
  · rw [if_neg h]
    have h1 : ¬ ((a.2.2.1, a.2.2.2.1, (0 : Int)) = (0, 0, (f : Int))) := fun e => h (by simp only [Prod.mk.injEq] at e; exact ⟨e.1, e.2.1⟩)
    have h2 : (a.2.2.1 == 0 && a.2.2.2.1 == 0 && a.1 == (f : Int)) = false := by
      rw [Bool.eq_false_iff]
      intro e
      simp only [Bool.and_eq_true, beq_iff_eq] at e
      exact h e.1
    rw [h2]
    exact beq_eq_false_iff_ne.2 h1
theorem ar_lab (L : List Arc) (i o : Int) (h0 : ¬ (i = 0 ∧ o = 0)) : ar L (i, o, 0) = lab L i o := by
  unfold ar lab
  apply List.filter_congr
  intro a _
  unfold key
  by_cases h : a.2.2.1 = 0 ∧ a.2.2.2.1 = 0
  · rw [if_pos h]
    have h1 : ¬ (((0 : Int), (0 : Int), a.1) = (i, o, 0)) := fun e => h0 (by simp only [Prod.mk.injEq] at e; exact ⟨e.1.symm, e.2.1.symm⟩)
    have h2 : (a.2.2.1 == i && a.2.2.2.1 == o) = false := by
      rw [Bool.eq_false_iff]
      intro e
      simp only [Bool.and_eq_true, beq_iff_eq] at e
      exact h0 ⟨e.1 ▸ h.1, e.2 ▸ h.2⟩
    rw [h2]
    exact beq_eq_false_iff_ne.2 h1
  · rw [if_neg h]
    rw [Bool.eq_iff_iff]
    simp
theorem acs_snoc (L : List Arc) (a : Arc) : acs L ++ ac a = acs (L ++ [a]) := by simp [acs]
/-- V with another value at k -/
def upd (V : Key → Value) (k : Key) (v : Value) : Key → Value := fun k' => if k' = k then v else V k'
structure Nf (w wr : World) (F mb sb S n : Nat) (L : List Arc) (V : Key → Value) (vs : List Value) : Prop where
  field : IsF wr F (.int .i64 S) (.map (some mb)) (.slice (some ⟨sb, 0, none⟩) S S) nilS
  heads : wr.ownsRow w.heap.size 22 1 (.slice (some ⟨sb, 0, none⟩) S S) S vs
  len : vs.length = S
  head : ∀ f, f < S → vs[f]? = some (V (0, 0, (f : Int)))
  mp : IsMp wr mb n (fun i o => if i = 0 ∧ o = 0 then nilS else V (i, o, 0))
  rows : ∀ k, wr.ownsRow w.heap.size 64 5 (V k) (ar L k).length (acs (ar L k))
  apart : ∀ k k', k ≠ k' → ∀ b, (V k).ownBlock = some b → (V k').ownBlock ≠ some b
  below : Below w.heap.size w wr
  lo : w.heap.size ≤ F ∧ w.heap.size ≤ mb
  cnt : n ≤ L.length
theorem mp_ty {wr : World} {mb n : Nat} {G : Int → Int → Value} (h : IsMp wr mb n G) : ∃ es clock, wr.heap[mb]? = some (.map es clock) := by
  obtain ⟨D, ⟨es, clock, h1, _⟩, _⟩ := h
  exact ⟨es, clock, h1⟩
theorem Nf.alloc {w wr : World} {F mb sb S n : Nat} {L : List Arc} {V : Key → Value} {vs : List Value} (h : Nf w wr F mb sb S n L V vs) (o : Obj) : Nf w (wr.alloc o) F mb sb S n L V vs :=
  ⟨h.field.kept ((Kp.refl (fun _ => False) wr).alloc o) (fun h => h), h.heads.alloc o, h.len, h.head, h.mp.kept (heap_alloc_old wr o h.mp.lt), fun k => (h.rows k).alloc o, h.apart, h.below.alloc h.below.size o, h.lo, h.cnt⟩
theorem Nf.drew {w wr : World} {F mb sb S n : Nat} {L : List Arc} {V : Key → Value} {vs : List Value} (h : Nf w wr F mb sb S n L V vs) : Nf w wr.drew F mb sb S n L V vs :=
  ⟨h.field, h.heads, h.len, h.head, h.mp.kept rfl, h.rows, h.apart, h.below.drew, h.lo, h.cnt⟩
theorem apart_upd {V : Key → Value} {k0 : Key} {v1 : Value} {sz : Nat} (hap : ∀ k k', k ≠ k' → ∀ b, (V k).ownBlock = some b → (V k').ownBlock ≠ some b) (hlt : ∀ k b, (V k).ownBlock = some b → b < sz) (hl : v1.ownBlock = (V k0).ownBlock ∨ ∃ g, v1.ownBlock = some g ∧ sz ≤ g) :
    ∀ k k', k ≠ k' → ∀ b, (upd V k0 v1 k).ownBlock = some b → (upd V k0 v1 k').ownBlock ≠ some b := by
  intro k k' hne b hb hb'
  unfold upd at hb hb'
  by_cases e1 : k = k0
  · rw [if_pos e1] at hb
    rw [if_neg (fun e => hne (e1.trans e.symm))] at hb'
    rcases hl with hl | ⟨g, hl, hg⟩
    · rw [hl] at hb
      exact hap k0 k' (fun e => hne (e1.trans e)) b hb hb'
    · rw [hl] at hb
      cases hb
      exact absurd (hlt k' _ hb') (Nat.not_lt.2 hg)
  · rw [if_neg e1] at hb
    by_cases e2 : k' = k0
    · rw [if_pos e2] at hb'
      rcases hl with hl | ⟨g, hl, hg⟩
      · rw [hl] at hb'
        exact hap k k0 e1 b hb hb'
      · rw [hl] at hb'
        cases hb'
        exact absurd (hlt k _ hb) (Nat.not_lt.2 hg)
    · rw [if_neg e2] at hb'
      exact hap k k' hne b hb hb'
/-- an arc more, where it is silent -/
theorem Nf.addS {w wr w1 : World} {F mb sb S n f : Nat} {L : List Arc} {V : Key → Value} {vs : List Value} {a : Arc} {v1 : Value} (h : Nf w wr F mb sb S n L V vs) (hk : key a = (0, 0, (f : Int))) (hf : f < S)
    (ho : w1.ownsRow w.heap.size 64 5 v1 ((ar L (0, 0, (f : Int))).length + 1) (acs (ar L (0, 0, (f : Int))) ++ ac a)) (hg : wr.grownBy w1 (V (0, 0, (f : Int))).ownBlock) (hl : v1.ownBlock = (V (0, 0, (f : Int))).ownBlock ∨ ∃ g, v1.ownBlock = some g ∧ wr.heap.size ≤ g) :
    (w1.cell? ⟨sb, f, none⟩ = some (V (0, 0, (f : Int))) ∧ w1.frozen? ⟨sb, f, none⟩ = false) ∧ Nf w (w1.setCell ⟨sb, f, none⟩ v1) F mb sb S n (L ++ [a]) (upd V (0, 0, (f : Int)) v1) (vs.set f v1) := by
  have hty : ∀ b, (V (0, 0, (f : Int))).ownBlock = some b → ∃ cur, wr.heap[b]? = some (.cells cur 64 (0, 0)) := fun b hb => own_ty (h.rows _) hb
  have hk1 : Kp (fun b => (V (0, 0, (f : Int))).ownBlock = some b) wr w1 := (Kp.refl _ wr).grown hg (fun b hb _ => hb)
  have nF : ¬ (V (0, 0, (f : Int))).ownBlock = some F := fun e => by obtain ⟨c, hc⟩ := hty F e; exact ty_ne hc h.field (by decide)
  obtain ⟨cs, hcs⟩ := own_ty h.heads (k := sb) rfl
  have nS : ¬ (V (0, 0, (f : Int))).ownBlock = some sb := fun e => by obtain ⟨c, hc⟩ := hty sb e; exact ty_ne hc hcs (by decide)
  obtain ⟨es, clock, hmb⟩ := mp_ty h.mp
  have nM : ¬ (V (0, 0, (f : Int))).ownBlock = some mb := fun e => by obtain ⟨c, hc⟩ := hty mb e; rw [hmb] at hc; cases hc
  have heads1 := own_kp h.heads hk1 nS
  have field1 := h.field.kept hk1 nF
  have mp1 := h.mp.kept (hk1.block mb h.mp.lt nM)
  obtain ⟨cs1, hcs1⟩ := own_ty heads1 (k := sb) rfl
  have sF : F ≠ sb := fun e => by subst e; exact ty_ne hcs1 field1 (by decide)
  have sM : mb ≠ sb := fun e => by subst e; obtain ⟨es1, clock1, hmb1⟩ := mp_ty mp1; rw [hcs1] at hmb1; cases hmb1
  have hlt : ∀ k b, (V k).ownBlock = some b → b < wr.heap.size := fun k b hb => ((h.rows k).lt b hb).2
  have hsl : w.heap.size ≤ sb := (h.heads.lt sb rfl).1
  have hk2 : Kp (fun b => b = sb) w1 (w1.setCell ⟨sb, f, none⟩ v1) := (Kp.refl _ w1).setCell _ _ _ (fun _ => rfl)
  have rows1 : ∀ k, k ≠ (0, 0, (f : Int)) → w1.ownsRow w.heap.size 64 5 (V k) (ar L k).length (acs (ar L k)) := fun k hne => own_kp2 (h.rows k) hk1 (fun b hb e => h.apart k _ hne b hb e)
  have nsb : ∀ {v : Value} {m : Nat} {xs : List Value}, w1.ownsRow w.heap.size 64 5 v m xs → ∀ b, v.ownBlock = some b → ¬ b = sb := fun {v m xs} hr b hb e => by
    obtain ⟨c, hc⟩ := own_ty hr hb
    subst e
    exact ty_ne hc hcs1 (by decide)
  refine ⟨⟨?_, heads1.frozenAt f⟩, field1.kept hk2 sF, (heads1.stored f v1).1, by rw [List.length_set]; exact h.len, fun g hg' => ?_, ?_, fun k => ?_, apart_upd h.apart hlt hl, ?_, h.lo, by simp; exact Nat.le_succ_of_le h.cnt⟩
  · rw [heads1.cellAt f (by omega)]
    exact h.head f hf
  · rw [List.getElem?_set]
    unfold upd
    by_cases e : f = g
    · subst e
      simp [h.len, hf]
    · rw [if_neg e, if_neg (fun e2 => e (by simp only [Prod.mk.injEq] at e2; omega))]
      exact h.head g hg'
  · have hm2 := mp1.kept (hk2.block mb mp1.lt sM)
    obtain ⟨D, hD, hG⟩ := hm2
    refine ⟨D, hD, fun i o hi ho => ?_⟩
    rw [hG i o hi ho]
    dsimp only
    by_cases e : i = 0 ∧ o = 0
    · rw [if_pos e, if_pos e]
    · rw [if_neg e, if_neg e]
      unfold upd
      rw [if_neg (fun e2 => e (by simp only [Prod.mk.injEq] at e2; exact ⟨e2.1, e2.2.1⟩))]
  · rw [ar_snoc, hk]
    unfold upd
    by_cases e : k = (0, 0, (f : Int))
    · rw [if_pos e.symm, if_pos e]
      subst e
      rw [← acs_snoc, List.length_append]
      exact own_kp2 ho hk2 (nsb ho)
    · have e' : ¬ (0, 0, (f : Int)) = k := fun h => e h.symm
      rw [if_neg e', if_neg e]
      exact own_kp2 (rows1 k e) hk2 (nsb (rows1 k e))
  · exact (h.below.grown hg h.below.size (fun b hb => ((h.rows _).lt b hb).1)).setCell hsl _
/-- an arc more, of a label -/
theorem Nf.addL {w wr w1 w2 : World} {F mb sb S n : Nat} {L : List Arc} {V : Key → Value} {vs : List Value} {a : Arc} {v1 : Value} {i o : Int} {o1 o2 : Obj} (h : Nf w wr F mb sb S n L V vs) (hk : key a = (i, o, 0)) (hio : ¬ (i = 0 ∧ o = 0)) (hes : ∃ es clock, o1 = .map es clock)
    (ho : w1.ownsRow w.heap.size 64 5 v1 ((ar L (i, o, 0)).length + 1) (acs (ar L (i, o, 0)) ++ ac a)) (hg : (ChangeMaps.setBlock wr mb o1).grownBy w1 (V (i, o, 0)).ownBlock) (hl : v1.ownBlock = (V (i, o, 0)).ownBlock ∨ ∃ g, v1.ownBlock = some g ∧ wr.heap.size ≤ g)
    (hw2 : w2 = ChangeMaps.setBlock w1 mb o2) (hm : IsMp w2 mb (n + 1) (fun i' o' => if i' = i ∧ o' = o then v1 else (if i' = 0 ∧ o' = 0 then nilS else V (i', o', 0)))) : Nf w w2 F mb sb S (n + 1) (L ++ [a]) (upd V (i, o, 0) v1) vs := by
  obtain ⟨es, clock, hmb⟩ := mp_ty h.mp
  have hty : ∀ b, (V (i, o, 0)).ownBlock = some b → ∃ cur, wr.heap[b]? = some (.cells cur 64 (0, 0)) := fun b hb => own_ty (h.rows _) hb
  have nM : ¬ (V (i, o, 0)).ownBlock = some mb := fun e => by obtain ⟨c, hc⟩ := hty mb e; rw [hmb] at hc; cases hc
  have hk0 : Kp (fun b => b = mb) wr (ChangeMaps.setBlock wr mb o1) := ⟨rfl, rfl, rfl, by simp [ChangeMaps.setBlock], fun k _ hne => ChangeMaps.heap_setBlock_other hmb _ hne⟩
  have hsz : (ChangeMaps.setBlock wr mb o1).heap.size = wr.heap.size := by simp [ChangeMaps.setBlock]
  have hmb1 : w1.heap[mb]? = some o1 := (hg.block mb (by rw [hsz]; exact h.mp.lt) (fun e => nM e.symm)).trans (ChangeMaps.heap_setBlock_same hmb _)
  obtain ⟨es1, clock1, rfl⟩ := hes
  have hk1 : Kp (fun b => b = mb ∨ (V (i, o, 0)).ownBlock = some b) wr w1 := (hk0.mono (fun _ _ e => .inl e)).grown hg (fun b hb _ => .inr hb)
  have hk2 : Kp (fun b => b = mb) w1 w2 := by rw [hw2]; exact ⟨rfl, rfl, rfl, by simp [ChangeMaps.setBlock], fun k _ hne => ChangeMaps.heap_setBlock_other hmb1 _ hne⟩
  have hk : key a = (i, o, 0) := hk
  have nF : ¬ (F = mb ∨ (V (i, o, 0)).ownBlock = some F) := fun e => by
    rcases e with e | e
    · subst e; have := h.field; unfold IsF at this; rw [hmb] at this; cases this
    · obtain ⟨c, hc⟩ := hty F e; exact ty_ne hc h.field (by decide)
  obtain ⟨cs, hcs⟩ := own_ty h.heads (k := sb) rfl
  have nS : ¬ (sb = mb ∨ (V (i, o, 0)).ownBlock = some sb) := fun e => by
    rcases e with e | e
    · rw [e, hmb] at hcs; cases hcs
    · obtain ⟨c, hc⟩ := hty sb e; exact ty_ne hc hcs (by decide)
  have hlt : ∀ k b, (V k).ownBlock = some b → b < wr.heap.size := fun k b hb => ((h.rows k).lt b hb).2
  have rows1 : ∀ k, k ≠ (i, o, 0) → w1.ownsRow w.heap.size 64 5 (V k) (ar L k).length (acs (ar L k)) := fun k hne => own_kp2 (h.rows k) hk1 (fun b hb e => by
    rcases e with e | e
    · obtain ⟨c, hc⟩ := own_ty (h.rows k) hb; rw [e, hmb] at hc; cases hc
    · exact h.apart k _ hne b hb e)
  have nmb : ∀ {v : Value} {m : Nat} {xs : List Value}, w1.ownsRow w.heap.size 64 5 v m xs → ∀ b, v.ownBlock = some b → ¬ b = mb := fun {v m xs} hr b hb e => by
    obtain ⟨c, hc⟩ := own_ty hr hb
    rw [e, hmb1] at hc
    cases hc
  refine ⟨(h.field.kept hk1 nF).kept hk2 (fun e => nF (.inl e)), own_kp (own_kp h.heads hk1 nS) hk2 (fun e => nS (.inl e)), h.len, fun g hg' => ?_, ?_, fun k => ?_, apart_upd h.apart hlt hl, ?_, h.lo, by simp; exact h.cnt⟩
  · unfold upd
    rw [if_neg (fun e2 => hio (by simp only [Prod.mk.injEq] at e2; exact ⟨e2.1.symm, e2.2.1.symm⟩))]
    exact h.head g hg'
  · obtain ⟨D, hD, hG⟩ := hm
    refine ⟨D, hD, fun i' o' hi ho' => ?_⟩
    rw [hG i' o' hi ho']
    unfold upd
    dsimp only
    by_cases e : i' = 0 ∧ o' = 0
    · have e4 : ¬ (i' = i ∧ o' = o) := fun e2 => hio ⟨e2.1 ▸ e.1, e2.2 ▸ e.2⟩
      rw [if_neg e4, if_pos e, if_pos e]
    · rw [if_neg e, if_neg e]
      by_cases e3 : i' = i ∧ o' = o
      · rw [if_pos e3, if_pos (by rw [e3.1, e3.2])]
      · rw [if_neg e3, if_neg (fun e2 => e3 (by simp only [Prod.mk.injEq] at e2; exact ⟨e2.1, e2.2.1⟩))]
  · rw [ar_snoc, hk]
    unfold upd
    by_cases e : k = (i, o, 0)
    · rw [if_pos e.symm, if_pos e]
      subst e
      rw [← acs_snoc, List.length_append]
      exact own_kp2 ho hk2 (nmb ho)
    · have e' : ¬ (i, o, 0) = k := fun h => e h.symm
      rw [if_neg e', if_neg e]
      exact own_kp2 (rows1 k e) hk2 (nmb (rows1 k e))
  · have b1 : Below w.heap.size w (ChangeMaps.setBlock wr mb (.map es1 clock1)) := ⟨h.below.os, h.below.tape, h.below.output, by rw [hsz]; exact h.below.size, fun k hk' => (ChangeMaps.heap_setBlock_other hmb _ (by have := h.lo.2; omega)).trans (h.below.block k hk')⟩
    have b2 := b1.grown hg b1.size (fun b hb => ((h.rows _).lt b hb).1)
    rw [hw2]
    exact ⟨b2.os, b2.tape, b2.output, by simp [ChangeMaps.setBlock]; exact b2.size, fun k hk' => (ChangeMaps.heap_setBlock_other hmb1 _ (by have := h.lo.2; omega)).trans (b2.block k hk')⟩
open Go.WideMaps Go.WideElems in
open Go.ChangeMaps (setBlock heap_setBlock_same heap_setBlock_other) in
open Go.Maps (Keyed) in
/-- an entry of the map, and a store at it -/
theorem entry2 {w : World} {b n : Nat} {G : Int → Int → Value} (h : IsMp w b n G) (hn : n < maxLen) {i o : Int} (hi : W64 i) (ho : W64 o) :
    ∃ (st : Nat) (o1 : Obj), (∃ es clock, o1 = .map es clock) ∧ (Instr.mapEntry 163 (.map (some b)) (.agg #[.int .i64 i, .int .i64 o])).run Tryd.prog w = .ok (.tuple #[G i o, .int .i64 (st : Int)]) (setBlock w b o1) ∧
      ∀ (w2 : World) (val : Value), w2.heap[b]? = some o1 → ∃ o2, (Instr.entryStore 163 (.map (some b)) (.int .i64 (st : Int)) val).run Tryd.prog w2 = .ok () (setBlock w2 b o2) ∧ IsMp (setBlock w2 b o2) b (n + 1) (fun i' o' => if i' = i ∧ o' = o then val else G i' o') := by
  have hlk := h.look hi ho
  obtain ⟨D, ⟨es, clock, hb, F, hs, hD⟩, hG⟩ := h
  obtain ⟨v0, st, es1, clock1, hE, hv0, hS⟩ := entry_then_store law61 Tryd.underlying163 (fun u => zero22 u) hb F (keyOf_label i o hi ho)
  have hv : v0 = G i o := by
    rcases Maps.fit_look false keyed Tryd.underlying163 (zero22 w) hb F (keyOf_label i o hi ho) with ⟨hr, hno, _⟩ | ⟨e0, y, hm, hk, hr, _⟩
    · rw [hlk] at hr
      simp only [Result.ok.injEq, and_true, Bool.false_eq_true, if_false] at hr
      rcases hv0 with ⟨e0, hm, hk, _⟩ | ⟨_, hz⟩
      · exact absurd hk (hno e0 hm)
      · rw [hz, hr]
    · rw [hlk] at hr
      simp only [Result.ok.injEq, and_true, Bool.false_eq_true, if_false] at hr
      rcases hv0 with ⟨e1, hm1, hk1, hz⟩ | ⟨hno, _⟩
      · rw [hz, hr]
        have hp := ((MapKept.stamped_iff es clock).1 F.stamped).2.2
        obtain ⟨a, ha, rfl⟩ := List.getElem_of_mem hm
        obtain ⟨c, hc, rfl⟩ := List.getElem_of_mem hm1
        by_cases e : a = c
        · subst e; rfl
        · rcases Nat.lt_or_gt_of_ne e with h1 | h1
          · exact absurd (hk.trans hk1.symm) (List.pairwise_iff_getElem.1 hp a c ha hc h1)
          · exact absurd (hk1.trans hk.symm) (List.pairwise_iff_getElem.1 hp c a hc ha h1)
      · exact absurd hk (hno e0 hm)
  subst hv
  refine ⟨st, .map es1 clock1, ⟨es1, clock1, rfl⟩, hE, fun w2 val hw2 => ?_⟩
  obtain ⟨es', clock', hrun, hup⟩ := hS w2 val hw2
  have hown : w.ownsMap Tryd.prog 169 El b n D := ⟨es, clock, hb, F, hs, hD⟩
  obtain ⟨w', hr', ho', _⟩ := hown.update keyed Tryd.underlying163 hn (keyOf_label i o hi ho) (val := val) (d := .held val) (ps := []) rfl
  rw [hup] at hr'
  have hw' : setBlock w b (.map es' clock') = w' := by simpa using hr'
  refine ⟨.map es' clock', hrun, D.put (kl i o) (.held val), ?_, ?_⟩
  · obtain ⟨es3, clock3, h31, h32⟩ := ho'
    rw [← hw', heap_setBlock_same hb] at h31
    simp only [Option.some.injEq, Obj.map.injEq] at h31
    obtain ⟨rfl, rfl⟩ := h31
    exact ⟨es', clock', heap_setBlock_same hw2 _, h32⟩
  · intro i' o' hi' ho2
    by_cases e : i' = i ∧ o' = o
    · obtain ⟨rfl, rfl⟩ := e
      simp only [and_self, if_true]
      exact Maps.atKey_put_same (by rw [hD]; exact ⟨_, rfl⟩) (keyed.key (keyOf_label i' o' hi ho)) _ _
    · show _ = DataW.held (if i' = i ∧ o' = o then val else G i' o')
      rw [if_neg e, Maps.atKey_put_other (fun h => e (kl_inj hi' ho2 hi ho h))]
      exact hG i' o' hi' ho2
/-- as it begins: the two orders in which its parts are laid -/
theorem begunA (w : World) (bx : Obj) (S : Nat) (hS : S ≤ 40) (MC : Array Value) (hM : MC.toList = List.replicate S nilS) : Nf w ((((w.alloc bx).alloc (.map #[] 0)).alloc (.cells MC 22)).alloc (.cells #[.int .i64 S, .map (some (w.heap.size + 1)), .slice (some ⟨w.heap.size + 1 + 1, 0, none⟩) S S, nilS] 167)) (w.heap.size + 1 + 1 + 1) (w.heap.size + 1) (w.heap.size + 1 + 1) S 0 [] (fun _ => nilS) (List.replicate S nilS) := by
  have hms : MC.size = S * 1 := by rw [← Array.length_toList, hM]; simp
  refine ⟨?_, ?_, by simp, fun f hf => by simp [hf], ?_, fun _ => World.ownsRow_nil _ _ _ _, fun _ _ _ b hb => by simp [nilS, Value.ownBlock] at hb, ?_, ⟨by omega, by omega⟩, Nat.le_refl _⟩
  · have := heap_alloc_new (((w.alloc bx).alloc (.map #[] 0)).alloc (.cells MC 22)) (.cells #[.int .i64 S, .map (some (w.heap.size + 1)), .slice (some ⟨w.heap.size + 1 + 1, 0, none⟩) S S, nilS] 167)
    simpa [IsF] using this
  · have := World.ownsRow_lit (base := w.heap.size) (e := 22) (size := 1) ((w.alloc bx).alloc (.map #[] 0)) MC S (by simp; omega) (by unfold maxLen; omega) hms
    rw [hM] at this
    have h2 := this.alloc (.cells #[.int .i64 S, .map (some (w.heap.size + 1)), .slice (some ⟨w.heap.size + 1 + 1, 0, none⟩) S S, nilS] 167)
    simpa using h2
  · have h0 := made (w.alloc bx)
    have e : (w.alloc bx).heap.size = w.heap.size + 1 := by simp
    rw [e] at h0
    have h1 := (h0.kept (heap_alloc_old _ (.cells MC 22) h0.lt))
    have h2 := (h1.kept (heap_alloc_old _ (.cells #[.int .i64 S, .map (some (w.heap.size + 1)), .slice (some ⟨w.heap.size + 1 + 1, 0, none⟩) S S, nilS] 167) h1.lt))
    obtain ⟨D, hD, hG⟩ := h2
    exact ⟨D, hD, fun i o hi ho => by rw [hG i o hi ho]; dsimp only; split <;> rfl⟩
  · exact ((((Below.refl _ w).alloc (Nat.le_refl _) _).alloc (by simp) _).alloc (by simp; omega) _).alloc (by simp; omega) _
theorem begunB (w : World) (bx : Obj) (S : Nat) (hS : S ≤ 40) (MC : Array Value) (hM : MC.toList = List.replicate S nilS) : Nf w ((((w.alloc bx).alloc (.cells MC 22)).alloc (.map #[] 0)).alloc (.cells #[.int .i64 S, .map (some (w.heap.size + 1 + 1)), .slice (some ⟨w.heap.size + 1, 0, none⟩) S S, nilS] 167)) (w.heap.size + 1 + 1 + 1) (w.heap.size + 1 + 1) (w.heap.size + 1) S 0 [] (fun _ => nilS) (List.replicate S nilS) := by
  have hms : MC.size = S * 1 := by rw [← Array.length_toList, hM]; simp
  refine ⟨?_, ?_, by simp, fun f hf => by simp [hf], ?_, fun _ => World.ownsRow_nil _ _ _ _, fun _ _ _ b hb => by simp [nilS, Value.ownBlock] at hb, ?_, ⟨by omega, by omega⟩, Nat.le_refl _⟩
  · have := heap_alloc_new (((w.alloc bx).alloc (.cells MC 22)).alloc (.map #[] 0)) (.cells #[.int .i64 S, .map (some (w.heap.size + 1 + 1)), .slice (some ⟨w.heap.size + 1, 0, none⟩) S S, nilS] 167)
    simpa [IsF] using this
  · have := World.ownsRow_lit (base := w.heap.size) (e := 22) (size := 1) (w.alloc bx) MC S (by simp) (by unfold maxLen; omega) hms
    rw [hM] at this
    have h2 := (this.alloc (.map #[] 0)).alloc (.cells #[.int .i64 S, .map (some (w.heap.size + 1 + 1)), .slice (some ⟨w.heap.size + 1, 0, none⟩) S S, nilS] 167)
    simpa using h2
  · have h0 := made ((w.alloc bx).alloc (.cells MC 22))
    have e : ((w.alloc bx).alloc (.cells MC 22)).heap.size = w.heap.size + 1 + 1 := by simp
    rw [e] at h0
    have h2 := (h0.kept (heap_alloc_old _ (.cells #[.int .i64 S, .map (some (w.heap.size + 1 + 1)), .slice (some ⟨w.heap.size + 1, 0, none⟩) S S, nilS] 167) h0.lt))
    obtain ⟨D, hD, hG⟩ := h2
    exact ⟨D, hD, fun i o hi ho => by rw [hG i o hi ho]; dsimp only; split <;> rfl⟩
  · exact ((((Below.refl _ w).alloc (Nat.le_refl _) _).alloc (by simp) _).alloc (by simp; omega) _).alloc (by simp; omega) _
/-- the field is made -/
theorem Nf.fld {w wr : World} {F mb sb S n : Nat} {L : List Arc} {V : Key → Value} {vs : List Value} (h : Nf w wr F mb sb S n L V vs) : Fld wr F wr.heap.size mb sb S n L (fun i o => if i = 0 ∧ o = 0 then nilS else V (i, o, 0)) := by
  have lies : ∀ k, Lies wr F wr.heap.size (V k) (ar L k) := fun k => by
    rcases (h.rows k).2 with ⟨hv, h0⟩ | ⟨g, cap, cur, hv, _, hg, _⟩
    · exact ⟨none, 0, by rw [hv, h0], .inl h0⟩
    · refine ⟨_, cap, hv, .inr ⟨g, rfl, (Array.getElem?_eq_some_iff.1 hg).1, fun e => ?_, fun j u hu => ?_⟩⟩
      · subst e; exact ty_ne hg h.field (by decide)
      · have hr := h.rows k
        rw [hv] at hr
        rw [hr.cellAt j (by have := (List.getElem?_eq_some_iff.1 hu).1; rw [acs_length] at this; exact this)]
        exact hu
  obtain ⟨es, clock, hmb⟩ := mp_ty h.mp
  obtain ⟨cs, hcs⟩ := own_ty h.heads (k := sb) rfl
  refine ⟨⟨(h.heads.lt sb rfl).2, fun e => ?_, Nat.le_refl _, fun f hf => ⟨V (0, 0, (f : Int)), ?_, ?_⟩⟩, h.mp.lt, fun e => ?_, h.mp, fun i o _ _ _ _ hio => ?_⟩
  · subst e; exact ty_ne hcs h.field (by decide)
  · rw [h.heads.cellAt f (by omega)]; exact h.head f hf
  · rw [← ar_sil]; exact lies _
  · subst e; have := h.field; unfold IsF at this; rw [hmb] at this; cases this
  · show Lies wr F wr.heap.size (if i = 0 ∧ o = 0 then nilS else V (i, o, 0)) (lab L i o)
    rw [if_neg hio, ← ar_lab L i o hio]
    exact lies _
end Go.Proofs.YtfjocafepigijaaDoor.Nm
/- The program's newField: a machine's arcs by label and by state. Condition: the machine is right and small. -/
namespace Go.Proofs.YtfjocafepigijaaDoor.Nx
open Go.RowKit Mv Qp Sk Po Ps Wd Se Mp St Cm Nm

theorem info22 : (Tryd.prog.info? 22).map (fun i => (i.zero, i.size, i.bytes)) = some (some (.slice none 0 0), 1, 24) := by kernel_rfl
theorem info36 : (Tryd.prog.info? 64).map (fun i => (i.zero, i.size, i.bytes)) = some (some (.agg #[.int .i64 0, .int .i64 0, .int .i64 0, .int .i64 0, .int .i64 0]), 5, 40) := by kernel_rfl
def mc (S : Nat) : Array Value := madeCells #[.slice none 0 0] S
theorem run_mk (S : Nat) (hS : S ≤ 40) (W : World) : (Instr.makeSlice 73 (.int .i64 (S : Int)) (.int .i64 (S : Int))).run Tryd.prog W = .ok (.slice (some ⟨W.heap.size, 0, none⟩) S S) (W.alloc (.cells (mc S) 22)) := by
  obtain ⟨i0, hi, hz0, hz1, hz2⟩ := info_parts info22
  have hr := run_make (P := Tryd.prog) W 73 22 i0 (.slice none 0 0) Tryd.underlying73 hi hz0 .i64 .i64 (S : Int) (S : Int) (by omega) (Int.le_refl _) (by rw [hz2]; omega) (by omega)
  simp only [Int.toNat_natCast, hz1, Nat.mul_one] at hr
  exact hr
theorem mc_list (S : Nat) : (mc S).toList = List.replicate S nilS := by
  unfold mc
  rw [toList_madeCells_one]
  rfl

theorem boxA (w : World) (o1 o2 o3 : Obj) (a b c : Value) : ((((w.alloc (.cells #[a, b, c] 25)).alloc o1).alloc o2).alloc o3).drew.cell? ⟨w.heap.size, 1, none⟩ = some b := by
  have e : ((((w.alloc (.cells #[a, b, c] 25)).alloc o1).alloc o2).alloc o3).drew.heap[w.heap.size]? = some (.cells #[a, b, c] 25 (0, 0)) := by
    show ((((w.alloc (.cells #[a, b, c] 25)).alloc o1).alloc o2).alloc o3).heap[w.heap.size]? = _
    rw [heap_alloc_old _ _ (by simp; omega), heap_alloc_old _ _ (by simp; omega), heap_alloc_old _ _ (by simp)]
    exact heap_alloc_new _ _
  exact cell_of_row _ _ 1 _ 25 (0, 0) e
theorem sx_grown {Y w1 : World} {row : Option Nat} (h : Y.grownBy w1 row) {b j : Nat} {x : Value} (hb : b < Y.heap.size) (hne : some b ≠ row) (hx : Y.cell? ⟨b, j, none⟩ = some x) : w1.cell? ⟨b, j, none⟩ = some x := (World.cell?_of_block (w := Y) (h.block b hb hne)).trans hx
theorem sx_set {w1 : World} {sb f b j : Nat} {u x : Value} (hne : ¬ b = sb) (hx : w1.cell? ⟨b, j, none⟩ = some x) : (w1.setCell ⟨sb, f, none⟩ u).cell? ⟨b, j, none⟩ = some x := (World.cell?_of_block (w := w1) (Below.heap_setCell _ _ _ _ hne)).trans hx
theorem setCell5 {w wr : World} {F mb sb S n : Nat} {L : List Arc} {V : Key → Value} {vs : List Value} (h : Nf w wr F mb sb S n L V vs) {o : Obj} {g j : Nat} {u : Value} (hc : wr.cell? ((⟨g, 0, none⟩ : Addr).add j) = some u) (hne : g ≠ mb) : (ChangeMaps.setBlock wr mb o).cell? ((⟨g, 0, none⟩ : Addr).add j) = some u := by
  obtain ⟨es, clock, hmb⟩ := mp_ty h.mp
  have e : (⟨g, 0, none⟩ : Addr).add j = ⟨g, j, none⟩ := by unfold Addr.add; split <;> simp_all
  rw [e] at hc ⊢
  exact (World.cell?_of_block (w := wr) (ChangeMaps.heap_setBlock_other hmb _ hne)).trans hc
theorem mbKept {w wr w1 : World} {F mb sb S n : Nat} {L : List Arc} {V : Key → Value} {vs : List Value} {o : Obj} {k : Key} (h : Nf w wr F mb sb S n L V vs) (hg : (ChangeMaps.setBlock wr mb o).grownBy w1 (V k).ownBlock) : w1.heap[mb]? = some o := by
  obtain ⟨es, clock, hmb⟩ := mp_ty h.mp
  refine (hg.block mb (by simp [ChangeMaps.setBlock]; exact h.mp.lt) (fun e => ?_)).trans (ChangeMaps.heap_setBlock_same hmb _)
  obtain ⟨c, hc⟩ := own_ty (h.rows k) e.symm
  rw [hmb] at hc
  cases hc
theorem five_one (a b c d e : Int) : ∀ x ∈ [Value.int .i64 a, .int .i64 b, .int .i64 c, .int .i64 d, .int .i64 e], x.oneCell' = true := by
  intro x hx
  simp at hx
  rcases hx with rfl | rfl | rfl | rfl | rfl <;> rfl
theorem cell_five_at (w : World) (g : Nat) (a b c d e : Value) (t : TypeId) (hg : g = w.heap.size) : ∀ j u, [a, b, c, d, e][j]? = some u → (w.alloc (.cells #[a, b, c, d, e] t)).cell? ((⟨g, 0, none⟩ : Addr).add j) = some u := by
  intro j u hj
  subst hg
  match j, hj with
  | 0, hj => simp at hj; subst hj; simp [Addr.add]
  | 1, hj => simp at hj; subst hj; simp [Addr.add]
  | 2, hj => simp at hj; subst hj; simp [Addr.add]
  | 3, hj => simp at hj; subst hj; simp [Addr.add]
  | 4, hj => simp at hj; subst hj; simp [Addr.add]

set_option maxHeartbeats 4000000 in
set_option maxRecDepth 100000 in
theorem field_any (S : Nat) (A : List Arc) (va vf : Value) (w : World) (hrow : Mv.Row w va 5 A.length (acs A)) (hA : ∀ a ∈ A, arcB (S : Int) a = true) (hS : S ≤ 40) (_ : 0 < S) (hAl : A.length ≤ 120) :
    Calls Tryd.prog 55 #[.agg #[.int .i64 S, va, vf]] w fun e w' => ∃ F mb sb n V vs, e = .returned (.pointer (some ⟨F, 0, none⟩)) ∧ Nf w w' F mb sb S n A V vs := by
  obtain ⟨hxl, aa, ca, rfl, _, hAx⟩ := hrow
  have hmm := @run_makeMap Tryd.prog
  have hmk := run_mk S hS
  have HA : Hid (∀ a ∈ A, arcB (S : Int) a = true) := hA
  have HAx : Hid (A.length = 0 ∨ ∃ b off, aa = some ⟨b, off, none⟩ ∧ b < w.heap.size ∧ ∀ j u, (acs A)[j]? = some u → w.cell? ⟨b, off + j, none⟩ = some u) := hAx
  clear hA hAx hxl
  obtain ⟨MC, hMC⟩ : ∃ m, m = mc S := ⟨_, rfl⟩
  rw [← hMC] at hmk
  have HMC : Hid (MC = mc S) := hMC
  clear hMC
  obtain ⟨i0, hi, hz0, hz1, hz2⟩ := info_parts info36
  go_enter Tryd.func55, Tryd.ntmps55
  go_upto_region 1 with fail
  go_cut [3] from 7 to 14 (fun s3 wx => ∃ (F mb sb : Nat) (V : Key → Value) (vs : List Value), s3 = .pointer (some ⟨F, 0, none⟩) ∧ Nf w wx F mb sb S 0 [] V vs ∧ wx.cell? ⟨w.heap.size, 1, none⟩ = some (.slice aa A.length ca))
  case first =>
    go_region
    · go_wp2_with fail
      go_meet
      case rel => exact ⟨_, _, _, _, _, rfl, (begunA w (.cells #[.int .i64 S, .slice aa A.length ca, vf] 25) S hS MC (by rw [HMC.out]; exact mc_list S)).drew, boxA _ _ _ _ _ _ _⟩
    · go_wp2_with fail
      go_meet
      case rel => exact ⟨_, _, _, _, _, rfl, (begunB w (.cells #[.int .i64 S, .slice aa A.length ca, vf] 25) S hS MC (by rw [HMC.out]; exact mc_list S)).drew, boxA _ _ _ _ _ _ _⟩
  case rest =>
  obtain ⟨F, mb, sb, V, vs, rfl, hN0, hb1⟩ := hcut
  go_wp2
  go_loopw [18] (fun a wr => ∃ (y n : Nat) (V : Key → Value) (vs : List Value), a = .int .i64 y ∧ y ≤ A.length ∧ Nf w wr F mb sb S n (A.take y) V vs) (fun a _ => A.length - (intOf a).toNat)
  case atStart => exact ⟨0, 0, V, vs, rfl, Nat.zero_le _, hN0⟩
  case round =>
    clear hN0 hb1
    obtain ⟨y, n, V, vs, rfl, hy, hN⟩ := hrel
    by_cases hlt : y < A.length
    · obtain ⟨b, off, rfl, hbl, hcs⟩ : ∃ b off, aa = some ⟨b, off, none⟩ ∧ b < w.heap.size ∧ ∀ j u, (acs A)[j]? = some u → wr.cell? ⟨b, off + j, none⟩ = some u := by
        obtain ⟨b, off, e, hb, hc⟩ := HAx.out.resolve_left (by omega)
        exact ⟨b, off, e, hb, fun j u hu => (hN.below.cell hb).trans (hc j u hu)⟩
      have u := acs_at A y hlt
      have hab := HA.out _ (List.getElem_mem hlt)
      obtain ⟨fI, tI, iI, oI, xI, ea⟩ : ∃ f t i1 o1 x, A[y] = (f, t, i1, o1, x) := ⟨_, _, _, _, _, rfl⟩
      have htk : A.take (y + 1) = A.take y ++ [(fI, tI, iI, oI, xI)] := by rw [← ea]; exact (List.take_append_getElem hlt).symm
      rw [ea] at u hab
      unfold arcB at hab
      simp only [decide_eq_true_eq] at hab
      obtain ⟨g0, g1, g2, g3, g4, g5, g6, g7, g8, g9⟩ := hab
      obtain ⟨f, rfl⟩ : ∃ n : Nat, fI = (n : Int) := ⟨fI.toNat, by omega⟩
      have hf : f < S := Int.ofNat_lt.1 g1
      have p0 := hcs _ _ u.1
      have p1 := hcs _ _ u.2.1
      have p2 := hcs _ _ u.2.2.1
      have p3 := hcs _ _ u.2.2.2.1
      have p4 := hcs _ _ u.2.2.2.2
      rw [← Nat.add_assoc] at p1 p2 p3 p4
      have HTK : Hid (A.take (y + 1) = A.take y ++ [((f : Int), tI, iI, oI, xI)]) := htk
      have HNN : Hid (Nf w wr F mb sb S n (A.take y) V vs) := hN
      have hRl : ∀ k, (ar (A.take y) k).length ≤ 120 := fun k => Nat.le_trans (List.length_filter_le _ _) (Nat.le_trans (by rw [List.length_take]; omega) hAl)
      have hWs : w.heap.size ≤ wr.heap.size := hN.below.size
      have q11 : ∀ o1, (wr.alloc o1).cell? ⟨F, 1, none⟩ = some (.map (some mb)) := fun o1 => (hN.alloc o1).field.cell 1
      have q12 : ∀ o1 o2, ((wr.alloc o1).alloc o2).cell? ⟨F, 1, none⟩ = some (.map (some mb)) := fun o1 o2 => ((hN.alloc o1).alloc o2).field.cell 1
      have q13 : ∀ o1 o2 o3, (((wr.alloc o1).alloc o2).alloc o3).cell? ⟨F, 1, none⟩ = some (.map (some mb)) := fun o1 o2 o3 => (((hN.alloc o1).alloc o2).alloc o3).field.cell 1
      have q21 : ∀ o1, (wr.alloc o1).cell? ⟨F, 2, none⟩ = some (.slice (some ⟨sb, 0, none⟩) S S) := fun o1 => (hN.alloc o1).field.cell 2
      have q22 : ∀ o1 o2, ((wr.alloc o1).alloc o2).cell? ⟨F, 2, none⟩ = some (.slice (some ⟨sb, 0, none⟩) S S) := fun o1 o2 => ((hN.alloc o1).alloc o2).field.cell 2
      clear u hcs ea htk hN
      by_cases hsil : iI = 0 ∧ oI = 0
      · obtain ⟨rfl, rfl⟩ := hsil
        have hkey : key ((f : Int), tI, 0, 0, xI) = (0, 0, (f : Int)) := by simp [key]
        have HKY : Hid (key ((f : Int), tI, 0, 0, xI) = (0, 0, (f : Int))) := hkey
        have c1 : ∀ o1, (wr.alloc o1).cell? ⟨sb, f, none⟩ = some (V (0, 0, (f : Int))) := fun o1 => by rw [(HNN.out.alloc o1).heads.cellAt f (by omega)]; exact HNN.out.head f hf
        have c2 : ∀ o1 o2, ((wr.alloc o1).alloc o2).cell? ⟨sb, f, none⟩ = some (V (0, 0, (f : Int))) := fun o1 o2 => by rw [((HNN.out.alloc o1).alloc o2).heads.cellAt f (by omega)]; exact HNN.out.head f hf
        obtain ⟨v0, hv0⟩ : ∃ v, V (0, 0, (f : Int)) = v := ⟨_, rfl⟩
        have HV0 : Hid (V (0, 0, (f : Int)) = v0) := hv0
        rw [hv0] at c1 c2
        clear hv0 hkey
        have hbs : wr.heap.size < (wr.alloc (.cells #[.int .i64 (f : Int), .int .i64 tI, .int .i64 0, .int .i64 0, .int .i64 xI] 64)).heap.size := by simp
        have hd0 : (wr.alloc (.cells #[.int .i64 (f : Int), .int .i64 tI, .int .i64 0, .int .i64 0, .int .i64 xI] 64)).cell? ⟨F, 2, none⟩ = some (.slice (some ⟨sb, 0, none⟩) S S) ∧ (wr.alloc (.cells #[.int .i64 (f : Int), .int .i64 tI, .int .i64 0, .int .i64 0, .int .i64 xI] 64)).cell? ⟨wr.heap.size, 0, none⟩ = some (.int .i64 (f : Int)) ∧ (wr.alloc (.cells #[.int .i64 (f : Int), .int .i64 tI, .int .i64 0, .int .i64 0, .int .i64 xI] 64)).cell? ⟨wr.heap.size, 1, none⟩ = some (.int .i64 tI) ∧ (wr.alloc (.cells #[.int .i64 (f : Int), .int .i64 tI, .int .i64 0, .int .i64 0, .int .i64 xI] 64)).cell? ⟨wr.heap.size, 2, none⟩ = some (.int .i64 0) ∧ (wr.alloc (.cells #[.int .i64 (f : Int), .int .i64 tI, .int .i64 0, .int .i64 0, .int .i64 xI] 64)).cell? ⟨wr.heap.size, 3, none⟩ = some (.int .i64 0) ∧ (wr.alloc (.cells #[.int .i64 (f : Int), .int .i64 tI, .int .i64 0, .int .i64 0, .int .i64 xI] 64)).cell? ⟨wr.heap.size, 4, none⟩ = some (.int .i64 xI) := ⟨q21 _, cell_of_row _ _ 0 _ 64 (0, 0) (heap_alloc_new _ _), cell_of_row _ _ 1 _ 64 (0, 0) (heap_alloc_new _ _), cell_of_row _ _ 2 _ 64 (0, 0) (heap_alloc_new _ _), cell_of_row _ _ 3 _ 64 (0, 0) (heap_alloc_new _ _), cell_of_row _ _ 4 _ 64 (0, 0) (heap_alloc_new _ _)⟩
        have hd1 : ∀ o1, ((wr.alloc (.cells #[.int .i64 (f : Int), .int .i64 tI, .int .i64 0, .int .i64 0, .int .i64 xI] 64)).alloc o1).cell? ⟨F, 2, none⟩ = some (.slice (some ⟨sb, 0, none⟩) S S) ∧ ((wr.alloc (.cells #[.int .i64 (f : Int), .int .i64 tI, .int .i64 0, .int .i64 0, .int .i64 xI] 64)).alloc o1).cell? ⟨wr.heap.size, 0, none⟩ = some (.int .i64 (f : Int)) ∧ ((wr.alloc (.cells #[.int .i64 (f : Int), .int .i64 tI, .int .i64 0, .int .i64 0, .int .i64 xI] 64)).alloc o1).cell? ⟨wr.heap.size, 1, none⟩ = some (.int .i64 tI) ∧ ((wr.alloc (.cells #[.int .i64 (f : Int), .int .i64 tI, .int .i64 0, .int .i64 0, .int .i64 xI] 64)).alloc o1).cell? ⟨wr.heap.size, 2, none⟩ = some (.int .i64 0) ∧ ((wr.alloc (.cells #[.int .i64 (f : Int), .int .i64 tI, .int .i64 0, .int .i64 0, .int .i64 xI] 64)).alloc o1).cell? ⟨wr.heap.size, 3, none⟩ = some (.int .i64 0) ∧ ((wr.alloc (.cells #[.int .i64 (f : Int), .int .i64 tI, .int .i64 0, .int .i64 0, .int .i64 xI] 64)).alloc o1).cell? ⟨wr.heap.size, 4, none⟩ = some (.int .i64 xI) := fun o1 => ⟨q22 _ _, (World.cell?_alloc_past _ _ _ hbs).trans hd0.2.1, (World.cell?_alloc_past _ _ _ hbs).trans hd0.2.2.1, (World.cell?_alloc_past _ _ _ hbs).trans hd0.2.2.2.1, (World.cell?_alloc_past _ _ _ hbs).trans hd0.2.2.2.2.1, (World.cell?_alloc_past _ _ _ hbs).trans hd0.2.2.2.2.2⟩
        have hvF : ¬ v0.ownBlock = some F := fun e => by rw [← HV0.out] at e; obtain ⟨c, hc⟩ := own_ty (HNN.out.rows _) e; exact ty_ne hc HNN.out.field (by decide)
        have hvB : ¬ v0.ownBlock = some wr.heap.size := fun e => by rw [← HV0.out] at e; have := ((HNN.out.rows _).lt _ e).2; omega
        have hFs : F < wr.heap.size := HNN.out.field.lt
        clear q11 q12 q13
        have hsF : ¬ F = sb := fun e => by obtain ⟨c, hc⟩ := own_ty HNN.out.heads (k := sb) rfl; rw [← e] at hc; exact ty_ne hc HNN.out.field (by decide)
        have hsB : ¬ wr.heap.size = sb := fun e => by have := (HNN.out.heads.lt sb rfl).2; omega
        go_wp2
        refine wp_region_held_drew (S := fun W => W.cell? ⟨F, 2, none⟩ = some (.slice (some ⟨sb, 0, none⟩) S S) ∧ W.cell? ⟨wr.heap.size, 0, none⟩ = some (.int .i64 (f : Int)) ∧ W.cell? ⟨wr.heap.size, 1, none⟩ = some (.int .i64 tI) ∧ W.cell? ⟨wr.heap.size, 2, none⟩ = some (.int .i64 0) ∧ W.cell? ⟨wr.heap.size, 3, none⟩ = some (.int .i64 0) ∧ W.cell? ⟨wr.heap.size, 4, none⟩ = some (.int .i64 xI)) (by kernel_rfl) hd0 (fun hHeld => ?_)
        refine wpAnyH_take (i := 0) (oi := { dst := some 30, op := Op.move (Operand.tmp 3), type := 108, pos := "cost.go:56", after := #[], guard := none }) (v := ?_) rfl (by kernel_rfl) (by kernel_rfl) (by kernel_rfl) (fun _ _ _ h => h) (Or.inl ⟨by rfl, ?_⟩) (by assumption) ?_
        case refine_2 => intro w hSw; (try dsimp only at hSw); go_simp; (try with_reducible rfl)
        simp only [Act.put, List.setIfInBounds_toArray, List.set_cons_zero, List.set_cons_succ]
        refine wpAnyH_take (i := 1) (oi := { dst := some 31, op := Op.nilCheck (Operand.tmp 30), type := 0, pos := "cost.go:56", after := #[{ on := 0, ground := Ground.data }], guard := none }) (v := ?_) rfl (by kernel_rfl) (by kernel_rfl) (by kernel_rfl) (fun _ _ _ h => h) (Or.inl ⟨by rfl, ?_⟩) (by assumption) ?_
        case refine_2 => intro w hSw; (try dsimp only at hSw); go_simp; (try with_reducible rfl)
        simp only [Act.put, List.setIfInBounds_toArray, List.set_cons_zero, List.set_cons_succ]
        refine wpAnyH_take (i := 2) (oi := { dst := some 32, op := Op.fieldAddr 167 (Operand.tmp 31) 2, type := 0, pos := "cost.go:56", after := #[{ on := 1, ground := Ground.data }], guard := none }) (v := ?_) rfl (by kernel_rfl) (by kernel_rfl) (by kernel_rfl) (fun _ _ _ h => h) (Or.inl ⟨by rfl, ?_⟩) (by assumption) ?_
        case refine_2 => intro w hSw; (try dsimp only at hSw); go_simp; (try with_reducible rfl)
        simp only [Act.put, List.setIfInBounds_toArray, List.set_cons_zero, List.set_cons_succ]
        refine wpAnyH_take (i := 3) (oi := { dst := some 33, op := Op.load 73 (Operand.tmp 32), type := 73, pos := "cost.go:56", after := #[{ on := 2, ground := Ground.data }], guard := none }) (v := ?_) rfl (by kernel_rfl) (by kernel_rfl) (by kernel_rfl) (fun _ _ _ h => h) (Or.inl ⟨by rfl, ?_⟩) (by assumption) ?_
        case refine_2 => intro w hSw; (try dsimp only at hSw); go_simp; (try with_reducible rfl)
        simp only [Act.put, List.setIfInBounds_toArray, List.set_cons_zero, List.set_cons_succ]
        refine wpAnyH_take (i := 4) (oi := { dst := some 34, op := Op.fieldAddr 64 (Operand.tmp 5) 0, type := 0, pos := "cost.go:56", after := #[], guard := none }) (v := ?_) rfl (by kernel_rfl) (by kernel_rfl) (by kernel_rfl) (fun _ _ _ h => h) (Or.inl ⟨by rfl, ?_⟩) (by assumption) ?_
        case refine_2 => intro w hSw; (try dsimp only at hSw); go_simp; (try with_reducible rfl)
        simp only [Act.put, List.setIfInBounds_toArray, List.set_cons_zero, List.set_cons_succ]
        refine wpAnyH_take (i := 5) (oi := { dst := some 35, op := Op.load 3 (Operand.tmp 34), type := 3, pos := "cost.go:56", after := #[{ on := 4, ground := Ground.data }], guard := none }) (v := ?_) rfl (by kernel_rfl) (by kernel_rfl) (by kernel_rfl) (fun _ _ _ h => h) (Or.inl ⟨by rfl, ?_⟩) (by assumption) ?_
        case refine_2 => intro w hSw; (try dsimp only at hSw); go_simp; (try with_reducible rfl)
        simp only [Act.put, List.setIfInBounds_toArray, List.set_cons_zero, List.set_cons_succ]
        refine wpAnyH_take (i := 6) (oi := { dst := some 36, op := Op.move (Operand.tmp 3), type := 108, pos := "cost.go:56", after := #[], guard := none }) (v := ?_) rfl (by kernel_rfl) (by kernel_rfl) (by kernel_rfl) (fun _ _ _ h => h) (Or.inl ⟨by rfl, ?_⟩) (by assumption) ?_
        case refine_2 => intro w hSw; (try dsimp only at hSw); go_simp; (try with_reducible rfl)
        simp only [Act.put, List.setIfInBounds_toArray, List.set_cons_zero, List.set_cons_succ]
        refine wpAnyH_take (i := 7) (oi := { dst := some 37, op := Op.nilCheck (Operand.tmp 36), type := 0, pos := "cost.go:56", after := #[{ on := 6, ground := Ground.data }], guard := none }) (v := ?_) rfl (by kernel_rfl) (by kernel_rfl) (by kernel_rfl) (fun _ _ _ h => h) (Or.inl ⟨by rfl, ?_⟩) (by assumption) ?_
        case refine_2 => intro w hSw; (try dsimp only at hSw); go_simp; (try with_reducible rfl)
        simp only [Act.put, List.setIfInBounds_toArray, List.set_cons_zero, List.set_cons_succ]
        refine wpAnyH_take (i := 8) (oi := { dst := some 38, op := Op.fieldAddr 167 (Operand.tmp 37) 2, type := 0, pos := "cost.go:56", after := #[{ on := 7, ground := Ground.data }], guard := none }) (v := ?_) rfl (by kernel_rfl) (by kernel_rfl) (by kernel_rfl) (fun _ _ _ h => h) (Or.inl ⟨by rfl, ?_⟩) (by assumption) ?_
        case refine_2 => intro w hSw; (try dsimp only at hSw); go_simp; (try with_reducible rfl)
        simp only [Act.put, List.setIfInBounds_toArray, List.set_cons_zero, List.set_cons_succ]
        refine wpAnyH_take (i := 9) (oi := { dst := some 39, op := Op.load 73 (Operand.tmp 38), type := 73, pos := "cost.go:56", after := #[{ on := 8, ground := Ground.data }], guard := none }) (v := ?_) rfl (by kernel_rfl) (by kernel_rfl) (by kernel_rfl) (fun _ _ _ h => h) (Or.inl ⟨by rfl, ?_⟩) (by assumption) ?_
        case refine_2 => intro w hSw; (try dsimp only at hSw); go_simp; (try with_reducible rfl)
        simp only [Act.put, List.setIfInBounds_toArray, List.set_cons_zero, List.set_cons_succ]
        refine wpAnyH_take (i := 10) (oi := { dst := some 40, op := Op.fieldAddr 64 (Operand.tmp 5) 0, type := 0, pos := "cost.go:56", after := #[], guard := none }) (v := ?_) rfl (by kernel_rfl) (by kernel_rfl) (by kernel_rfl) (fun _ _ _ h => h) (Or.inl ⟨by rfl, ?_⟩) (by assumption) ?_
        case refine_2 => intro w hSw; (try dsimp only at hSw); go_simp; (try with_reducible rfl)
        simp only [Act.put, List.setIfInBounds_toArray, List.set_cons_zero, List.set_cons_succ]
        refine wpAnyH_take (i := 11) (oi := { dst := some 41, op := Op.load 3 (Operand.tmp 40), type := 3, pos := "cost.go:56", after := #[{ on := 10, ground := Ground.data }], guard := none }) (v := ?_) rfl (by kernel_rfl) (by kernel_rfl) (by kernel_rfl) (fun _ _ _ h => h) (Or.inl ⟨by rfl, ?_⟩) (by assumption) ?_
        case refine_2 => intro w hSw; (try dsimp only at hSw); go_simp; (try with_reducible rfl)
        simp only [Act.put, List.setIfInBounds_toArray, List.set_cons_zero, List.set_cons_succ]
        refine wpAnyH_take (i := 12) (oi := { dst := some 42, op := Op.indexAddr 73 (Operand.tmp 39) (Operand.tmp 41), type := 0, pos := "cost.go:56", after := #[{ on := 9, ground := Ground.data }, { on := 11, ground := Ground.data }], guard := none }) (v := ?_) rfl (by kernel_rfl) (by kernel_rfl) (by kernel_rfl) (fun _ _ _ h => h) (Or.inl ⟨by rfl, ?_⟩) (by assumption) ?_
        case refine_2 => intro w hSw; (try dsimp only at hSw); go_simp; (try with_reducible rfl)
        simp only [Act.put, List.setIfInBounds_toArray, List.set_cons_zero, List.set_cons_succ]
        refine wpAnyH_take (i := 14) (oi := { dst := some 44, op := Op.load 64 (Operand.tmp 5), type := 64, pos := "cost.go:56", after := #[], guard := none }) (v := ?_) rfl (by kernel_rfl) (by kernel_rfl) (by kernel_rfl) (fun _ _ _ h => h) (Or.inl ⟨by rfl, ?_⟩) (by assumption) ?_
        case refine_2 => intro w hSw; (try dsimp only at hSw); go_simp; (try with_reducible rfl)
        simp only [Act.put, List.setIfInBounds_toArray, List.set_cons_zero, List.set_cons_succ]
        refine wpAnyH_ready (rs := [13, 15]) (by kernel_rfl) (by simp) ?_
        refine AllReadyH.cons (o := { dst := some 43, op := Op.load 22 (Operand.tmp 42), type := 22, pos := "cost.go:56", after := #[{ on := 12, ground := Ground.data }], guard := none }) rfl (fun K hK => ?_) (AllReadyH.cons (o := { dst := some 45, op := Op.buildSlice 22 1 #[(0, Operand.tmp 44)], type := 22, pos := "cost.go:56", after := #[{ on := 14, ground := Ground.data }], guard := none }) rfl (fun K hK => ?_) AllReadyH.nil)
        · skip
          go_simp
          refine hK.out _ _ ?_ (fun hHeld => ?_)
          · first | exact hd0 | exact hd1 _
          clear hK K
          refine wpAnyH_ready (rs := [15]) (by kernel_rfl) (by simp) ?_
          refine AllReadyH.cons (o := { dst := some 45, op := Op.buildSlice 22 1 #[(0, Operand.tmp 44)], type := 22, pos := "cost.go:56", after := #[{ on := 14, ground := Ground.data }], guard := none }) rfl (fun K hK => ?_) AllReadyH.nil
          go_simp
          refine hK.out _ _ ?_ (fun hHeld => ?_)
          · first | exact hd1 _ | exact hd0
          clear hK K
          refine wpAnyH_ready (rs := [16]) (by kernel_rfl) (by simp) ?_
          refine AllReadyH.cons (o := { dst := some 46, op := Op.call { callee := Callee.builtin Builtin.append, args := #[Operand.tmp 43, Operand.tmp 45], argTypes := #[22, 22] }, type := 22, pos := "cost.go:56", after := #[{ on := 13, ground := Ground.data }, { on := 15, ground := Ground.data }], guard := none }) rfl (fun K hK => ?_) AllReadyH.nil
          refine step_append_at rfl (.tmp 43) (.tmp 45) 22 rfl w.heap.size 64 i0 (.agg #[.int .i64 0, .int .i64 0, .int .i64 0, .int .i64 0, .int .i64 0]) 5 40 Tryd.underlying22 hi hz0 hz1 hz2 rfl (by decide) v0 _ _ rfl (by rw [← HV0.out]; exact ((HNN.out.alloc _).alloc _).drew.rows (0, 0, (f : Int))) ⟨_, 0, none⟩ 1 1 [.int .i64 (f : Int), .int .i64 tI, .int .i64 0, .int .i64 0, .int .i64 xI] rfl rfl (cell_five_at _ _ _ _ _ _ _ _ (by simp)) (five_one _ _ _ _ _) (by have := hRl (0, 0, (f : Int)); unfold maxLen; omega) (by have := hRl (0, 0, (f : Int)); omega) (by simp; omega) ?_; intro v1 w1 ho1 hg1 hl1; obtain ⟨gg, cc, rfl, _, _⟩ := own_some ho1 (Nat.succ_pos _); have hN2 := ((HNN.out.alloc _).alloc _).drew.addS HKY.out hf ho1 (by rw [HV0.out]; exact hg1) (by rw [HV0.out]; exact hl1.imp id (fun h => ⟨_, h, Nat.le_refl _⟩)); have z1 := hN2.1.1; have z2 := hN2.1.2; have HN2 : Hid _ := hN2.2; rw [HV0.out] at z1; have hw1 : w1.cell? ⟨F, 2, none⟩ = some (.slice (some ⟨sb, 0, none⟩) S S) ∧ w1.cell? ⟨wr.heap.size, 0, none⟩ = some (.int .i64 (f : Int)) ∧ w1.cell? ⟨wr.heap.size, 1, none⟩ = some (.int .i64 tI) ∧ w1.cell? ⟨wr.heap.size, 2, none⟩ = some (.int .i64 0) ∧ w1.cell? ⟨wr.heap.size, 3, none⟩ = some (.int .i64 0) ∧ w1.cell? ⟨wr.heap.size, 4, none⟩ = some (.int .i64 xI) := ⟨sx_grown hg1 (by simp; omega) (fun e => hvF e.symm) (hd1 _).1, sx_grown hg1 (by simp; omega) (fun e => hvB e.symm) (hd1 _).2.1, sx_grown hg1 (by simp; omega) (fun e => hvB e.symm) (hd1 _).2.2.1, sx_grown hg1 (by simp; omega) (fun e => hvB e.symm) (hd1 _).2.2.2.1, sx_grown hg1 (by simp; omega) (fun e => hvB e.symm) (hd1 _).2.2.2.2.1, sx_grown hg1 (by simp; omega) (fun e => hvB e.symm) (hd1 _).2.2.2.2.2⟩; have hw2 : ∀ u, (w1.setCell ⟨sb, f, none⟩ u).cell? ⟨F, 2, none⟩ = some (.slice (some ⟨sb, 0, none⟩) S S) ∧ (w1.setCell ⟨sb, f, none⟩ u).cell? ⟨wr.heap.size, 0, none⟩ = some (.int .i64 (f : Int)) ∧ (w1.setCell ⟨sb, f, none⟩ u).cell? ⟨wr.heap.size, 1, none⟩ = some (.int .i64 tI) ∧ (w1.setCell ⟨sb, f, none⟩ u).cell? ⟨wr.heap.size, 2, none⟩ = some (.int .i64 0) ∧ (w1.setCell ⟨sb, f, none⟩ u).cell? ⟨wr.heap.size, 3, none⟩ = some (.int .i64 0) ∧ (w1.setCell ⟨sb, f, none⟩ u).cell? ⟨wr.heap.size, 4, none⟩ = some (.int .i64 xI) := fun u => ⟨sx_set hsF hw1.1, sx_set hsB hw1.2.1, sx_set hsB hw1.2.2.1, sx_set hsB hw1.2.2.2.1, sx_set hsB hw1.2.2.2.2.1, sx_set hsB hw1.2.2.2.2.2⟩; clear hN2 ho1 hg1 hl1
          refine hK.out _ _ ?_ (fun hHeld => ?_)
          · exact hw1
          clear hK K
          simp only [Act.put, List.setIfInBounds_toArray, List.set_cons_zero, List.set_cons_succ]
          refine wpAnyH_take (i := 17) (oi := { dst := some 47, op := Op.indexAddr 73 (Operand.tmp 33) (Operand.tmp 35), type := 0, pos := "cost.go:56", after := #[{ on := 3, ground := Ground.data }, { on := 5, ground := Ground.data }, { on := 0, ground := Ground.phase }, { on := 1, ground := Ground.phase }, { on := 2, ground := Ground.phase }, { on := 3, ground := Ground.phase }, { on := 4, ground := Ground.phase }, { on := 5, ground := Ground.phase }, { on := 6, ground := Ground.phase }, { on := 7, ground := Ground.phase }, { on := 8, ground := Ground.phase }, { on := 9, ground := Ground.phase }, { on := 10, ground := Ground.phase }, { on := 11, ground := Ground.phase }, { on := 12, ground := Ground.phase }, { on := 13, ground := Ground.phase }, { on := 14, ground := Ground.phase }, { on := 15, ground := Ground.phase }, { on := 16, ground := Ground.phase }], guard := none }) (v := ?_) rfl (by kernel_rfl) (by kernel_rfl) (by kernel_rfl) (fun _ _ _ h => h) (Or.inl ⟨by rfl, ?_⟩) (by assumption) ?_
          case refine_2 => intro w hSw; (try dsimp only at hSw); go_simp; (try with_reducible rfl)
          simp only [Act.put, List.setIfInBounds_toArray, List.set_cons_zero, List.set_cons_succ]
          refine wpAnyH_ready (rs := [18]) (by kernel_rfl) (by simp) ?_
          refine AllReadyH.cons (o := { dst := none, op := Op.store 22 (Operand.tmp 47) (Operand.tmp 46), type := 0, pos := "cost.go:56", after := #[{ on := 17, ground := Ground.data }, { on := 16, ground := Ground.data }, { on := 16, ground := Ground.chain }, { on := 0, ground := Ground.phase }, { on := 1, ground := Ground.phase }, { on := 2, ground := Ground.phase }, { on := 3, ground := Ground.phase }, { on := 4, ground := Ground.phase }, { on := 5, ground := Ground.phase }, { on := 6, ground := Ground.phase }, { on := 7, ground := Ground.phase }, { on := 8, ground := Ground.phase }, { on := 9, ground := Ground.phase }, { on := 10, ground := Ground.phase }, { on := 11, ground := Ground.phase }, { on := 12, ground := Ground.phase }, { on := 13, ground := Ground.phase }, { on := 14, ground := Ground.phase }, { on := 15, ground := Ground.phase }, { on := 16, ground := Ground.phase }], guard := none }) rfl (fun K hK => ?_) AllReadyH.nil
          go_simp
          refine hK.out _ _ ?_ (fun hHeld => ?_)
          · exact hw2 _
          clear hK K
          refine wpAnyH_done (by kernel_rfl) ?_ _
          go_wp2
          exact ⟨⟨y + 1, _, _, _, by go_num, by omega, by rw [HTK.out]; exact HN2.out⟩, by simp [intOf]; omega⟩
        · skip
          go_simp
          refine hK.out _ _ ?_ (fun hHeld => ?_)
          · first | exact hd1 _ | exact hd0
          clear hK K
          refine wpAnyH_ready (rs := [13]) (by kernel_rfl) (by simp) ?_
          refine AllReadyH.cons (o := { dst := some 43, op := Op.load 22 (Operand.tmp 42), type := 22, pos := "cost.go:56", after := #[{ on := 12, ground := Ground.data }], guard := none }) rfl (fun K hK => ?_) AllReadyH.nil
          go_simp
          refine hK.out _ _ ?_ (fun hHeld => ?_)
          · first | exact hd0 | exact hd1 _
          clear hK K
          refine wpAnyH_ready (rs := [16]) (by kernel_rfl) (by simp) ?_
          refine AllReadyH.cons (o := { dst := some 46, op := Op.call { callee := Callee.builtin Builtin.append, args := #[Operand.tmp 43, Operand.tmp 45], argTypes := #[22, 22] }, type := 22, pos := "cost.go:56", after := #[{ on := 13, ground := Ground.data }, { on := 15, ground := Ground.data }], guard := none }) rfl (fun K hK => ?_) AllReadyH.nil
          refine step_append_at rfl (.tmp 43) (.tmp 45) 22 rfl w.heap.size 64 i0 (.agg #[.int .i64 0, .int .i64 0, .int .i64 0, .int .i64 0, .int .i64 0]) 5 40 Tryd.underlying22 hi hz0 hz1 hz2 rfl (by decide) v0 _ _ rfl (by rw [← HV0.out]; exact ((HNN.out.alloc _).alloc _).drew.rows (0, 0, (f : Int))) ⟨_, 0, none⟩ 1 1 [.int .i64 (f : Int), .int .i64 tI, .int .i64 0, .int .i64 0, .int .i64 xI] rfl rfl (cell_five_at _ _ _ _ _ _ _ _ (by simp)) (five_one _ _ _ _ _) (by have := hRl (0, 0, (f : Int)); unfold maxLen; omega) (by have := hRl (0, 0, (f : Int)); omega) (by simp; omega) ?_; intro v1 w1 ho1 hg1 hl1; obtain ⟨gg, cc, rfl, _, _⟩ := own_some ho1 (Nat.succ_pos _); have hN2 := ((HNN.out.alloc _).alloc _).drew.addS HKY.out hf ho1 (by rw [HV0.out]; exact hg1) (by rw [HV0.out]; exact hl1.imp id (fun h => ⟨_, h, Nat.le_refl _⟩)); have z1 := hN2.1.1; have z2 := hN2.1.2; have HN2 : Hid _ := hN2.2; rw [HV0.out] at z1; have hw1 : w1.cell? ⟨F, 2, none⟩ = some (.slice (some ⟨sb, 0, none⟩) S S) ∧ w1.cell? ⟨wr.heap.size, 0, none⟩ = some (.int .i64 (f : Int)) ∧ w1.cell? ⟨wr.heap.size, 1, none⟩ = some (.int .i64 tI) ∧ w1.cell? ⟨wr.heap.size, 2, none⟩ = some (.int .i64 0) ∧ w1.cell? ⟨wr.heap.size, 3, none⟩ = some (.int .i64 0) ∧ w1.cell? ⟨wr.heap.size, 4, none⟩ = some (.int .i64 xI) := ⟨sx_grown hg1 (by simp; omega) (fun e => hvF e.symm) (hd1 _).1, sx_grown hg1 (by simp; omega) (fun e => hvB e.symm) (hd1 _).2.1, sx_grown hg1 (by simp; omega) (fun e => hvB e.symm) (hd1 _).2.2.1, sx_grown hg1 (by simp; omega) (fun e => hvB e.symm) (hd1 _).2.2.2.1, sx_grown hg1 (by simp; omega) (fun e => hvB e.symm) (hd1 _).2.2.2.2.1, sx_grown hg1 (by simp; omega) (fun e => hvB e.symm) (hd1 _).2.2.2.2.2⟩; have hw2 : ∀ u, (w1.setCell ⟨sb, f, none⟩ u).cell? ⟨F, 2, none⟩ = some (.slice (some ⟨sb, 0, none⟩) S S) ∧ (w1.setCell ⟨sb, f, none⟩ u).cell? ⟨wr.heap.size, 0, none⟩ = some (.int .i64 (f : Int)) ∧ (w1.setCell ⟨sb, f, none⟩ u).cell? ⟨wr.heap.size, 1, none⟩ = some (.int .i64 tI) ∧ (w1.setCell ⟨sb, f, none⟩ u).cell? ⟨wr.heap.size, 2, none⟩ = some (.int .i64 0) ∧ (w1.setCell ⟨sb, f, none⟩ u).cell? ⟨wr.heap.size, 3, none⟩ = some (.int .i64 0) ∧ (w1.setCell ⟨sb, f, none⟩ u).cell? ⟨wr.heap.size, 4, none⟩ = some (.int .i64 xI) := fun u => ⟨sx_set hsF hw1.1, sx_set hsB hw1.2.1, sx_set hsB hw1.2.2.1, sx_set hsB hw1.2.2.2.1, sx_set hsB hw1.2.2.2.2.1, sx_set hsB hw1.2.2.2.2.2⟩; clear hN2 ho1 hg1 hl1
          refine hK.out _ _ ?_ (fun hHeld => ?_)
          · exact hw1
          clear hK K
          simp only [Act.put, List.setIfInBounds_toArray, List.set_cons_zero, List.set_cons_succ]
          refine wpAnyH_take (i := 17) (oi := { dst := some 47, op := Op.indexAddr 73 (Operand.tmp 33) (Operand.tmp 35), type := 0, pos := "cost.go:56", after := #[{ on := 3, ground := Ground.data }, { on := 5, ground := Ground.data }, { on := 0, ground := Ground.phase }, { on := 1, ground := Ground.phase }, { on := 2, ground := Ground.phase }, { on := 3, ground := Ground.phase }, { on := 4, ground := Ground.phase }, { on := 5, ground := Ground.phase }, { on := 6, ground := Ground.phase }, { on := 7, ground := Ground.phase }, { on := 8, ground := Ground.phase }, { on := 9, ground := Ground.phase }, { on := 10, ground := Ground.phase }, { on := 11, ground := Ground.phase }, { on := 12, ground := Ground.phase }, { on := 13, ground := Ground.phase }, { on := 14, ground := Ground.phase }, { on := 15, ground := Ground.phase }, { on := 16, ground := Ground.phase }], guard := none }) (v := ?_) rfl (by kernel_rfl) (by kernel_rfl) (by kernel_rfl) (fun _ _ _ h => h) (Or.inl ⟨by rfl, ?_⟩) (by assumption) ?_
          case refine_2 => intro w hSw; (try dsimp only at hSw); go_simp; (try with_reducible rfl)
          simp only [Act.put, List.setIfInBounds_toArray, List.set_cons_zero, List.set_cons_succ]
          refine wpAnyH_ready (rs := [18]) (by kernel_rfl) (by simp) ?_
          refine AllReadyH.cons (o := { dst := none, op := Op.store 22 (Operand.tmp 47) (Operand.tmp 46), type := 0, pos := "cost.go:56", after := #[{ on := 17, ground := Ground.data }, { on := 16, ground := Ground.data }, { on := 16, ground := Ground.chain }, { on := 0, ground := Ground.phase }, { on := 1, ground := Ground.phase }, { on := 2, ground := Ground.phase }, { on := 3, ground := Ground.phase }, { on := 4, ground := Ground.phase }, { on := 5, ground := Ground.phase }, { on := 6, ground := Ground.phase }, { on := 7, ground := Ground.phase }, { on := 8, ground := Ground.phase }, { on := 9, ground := Ground.phase }, { on := 10, ground := Ground.phase }, { on := 11, ground := Ground.phase }, { on := 12, ground := Ground.phase }, { on := 13, ground := Ground.phase }, { on := 14, ground := Ground.phase }, { on := 15, ground := Ground.phase }, { on := 16, ground := Ground.phase }], guard := none }) rfl (fun K hK => ?_) AllReadyH.nil
          go_simp
          refine hK.out _ _ ?_ (fun hHeld => ?_)
          · exact hw2 _
          clear hK K
          refine wpAnyH_done (by kernel_rfl) ?_ _
          go_wp2
          exact ⟨⟨y + 1, _, _, _, by go_num, by omega, by rw [HTK.out]; exact HN2.out⟩, by simp [intOf]; omega⟩
      · have hkey : key ((f : Int), tI, iI, oI, xI) = (iI, oI, 0) := by unfold key; rw [if_neg hsil]
        have HKY : Hid (key ((f : Int), tI, iI, oI, xI) = (iI, oI, 0)) := hkey
        have HIO : Hid (¬ (iI = 0 ∧ oI = 0)) := hsil
        have hn : n < maxLen := by have := HNN.out.cnt; rw [List.length_take] at this; unfold maxLen; omega
        obtain ⟨v0, hv0⟩ : ∃ v, V (iI, oI, 0) = v := ⟨_, rfl⟩
        have HV0 : Hid (V (iI, oI, 0) = v0) := hv0
        have eG : (if iI = 0 ∧ oI = 0 then nilS else V (iI, oI, 0)) = v0 := by rw [if_neg hsil]; exact hv0
        obtain ⟨s2, o2, hm2, hE2, hS2⟩ := entry2 (((HNN.out.alloc (.cells #[.int .i64 (f : Int), .int .i64 tI, .int .i64 iI, .int .i64 oI, .int .i64 xI] 64)).alloc (.cells #[.int .i64 iI, .int .i64 oI] 169)).alloc (.cells #[.int .i64 (f : Int), .int .i64 tI, .int .i64 iI, .int .i64 oI, .int .i64 xI] 64)).drew.mp hn (w64 g4 g5) (w64 g6 g7)
        simp only [eG] at hE2
        have HM2 : Hid (∃ es clock, o2 = .map es clock) := hm2
        have HS2 : Hid (∀ (w2 : World) (val : Value), w2.heap[mb]? = some o2 → ∃ o3, (Instr.entryStore 163 (.map (some mb)) (.int .i64 (s2 : Int)) val).run Tryd.prog w2 = .ok () (ChangeMaps.setBlock w2 mb o3) ∧ IsMp (ChangeMaps.setBlock w2 mb o3) mb (n + 1) (fun i' o' => if i' = iI ∧ o' = oI then val else (if i' = 0 ∧ o' = 0 then nilS else V (i', o', 0)))) := hS2
        have HNY : Hid (Nf w ((((wr.alloc (.cells #[.int .i64 (f : Int), .int .i64 tI, .int .i64 iI, .int .i64 oI, .int .i64 xI] 64)).alloc (.cells #[.int .i64 iI, .int .i64 oI] 169)).alloc (.cells #[.int .i64 (f : Int), .int .i64 tI, .int .i64 iI, .int .i64 oI, .int .i64 xI] 64)).drew) F mb sb S n (A.take y) V vs) := (((HNN.out.alloc _).alloc _).alloc _).drew
        have HCE : Hid (∀ j u, [Value.int .i64 (f : Int), .int .i64 tI, .int .i64 iI, .int .i64 oI, .int .i64 xI][j]? = some u → (ChangeMaps.setBlock ((((wr.alloc (.cells #[.int .i64 (f : Int), .int .i64 tI, .int .i64 iI, .int .i64 oI, .int .i64 xI] 64)).alloc (.cells #[.int .i64 iI, .int .i64 oI] 169)).alloc (.cells #[.int .i64 (f : Int), .int .i64 tI, .int .i64 iI, .int .i64 oI, .int .i64 xI] 64)).drew) mb o2).cell? ((⟨wr.heap.size + 1 + 1, 0, none⟩ : Addr).add j) = some u) := fun j u hu => setCell5 HNY.out (cell_five_at _ _ _ _ _ _ _ 64 (by simp) j u hu) (by have := HNN.out.mp.lt; omega)
        have HSZ : Hid (w.heap.size ≤ (ChangeMaps.setBlock ((((wr.alloc (.cells #[.int .i64 (f : Int), .int .i64 tI, .int .i64 iI, .int .i64 oI, .int .i64 xI] 64)).alloc (.cells #[.int .i64 iI, .int .i64 oI] 169)).alloc (.cells #[.int .i64 (f : Int), .int .i64 tI, .int .i64 iI, .int .i64 oI, .int .i64 xI] 64)).drew) mb o2).heap.size) := by show _ ≤ _; simp [ChangeMaps.setBlock]; omega
        clear hm2 hS2 hkey eG hv0 q21 q22
        by_cases hi0 : iI = 0
        · have hi1 : (iI == 0) = true := by rw [hi0]; rfl
          have ho1 : ¬ oI = 0 := fun e => hsil ⟨hi0, e⟩
          have ho2 : (oI == 0) = false := by simpa using ho1
          have HI0 : Hid (iI = 0) := hi0
          clear hi0 hsil
          go_wp2
          go_region_law (refine step_append_at rfl (.tmp 58) (.tmp 60) 22 rfl w.heap.size 64 i0 (.agg #[.int .i64 0, .int .i64 0, .int .i64 0, .int .i64 0, .int .i64 0]) 5 40 Tryd.underlying22 hi hz0 hz1 hz2 rfl (by decide) v0 _ _ rfl (by rw [← HV0.out]; exact HNY.out.rowsSet (iI, oI, 0) o2) ⟨_, 0, none⟩ 1 1 [.int .i64 (f : Int), .int .i64 tI, .int .i64 iI, .int .i64 oI, .int .i64 xI] rfl rfl HCE.out (five_one _ _ _ _ _) (by have := hRl (iI, oI, 0); unfold maxLen; omega) (by have := hRl (iI, oI, 0); omega) HSZ.out ?_; intro v1 w1 ho1 hg1 hl1; obtain ⟨gg, cc, rfl, _, _⟩ := own_some ho1 (Nat.succ_pos _); obtain ⟨o3, hS3, hM3⟩ := HS2.out w1 _ (mbKept HNY.out (HV0.out ▸ hg1)); have HN2 : Hid _ := HNY.out.addL HKY.out HIO.out HM2.out ho1 (HV0.out.symm ▸ hg1) (by rw [HV0.out]; exact hl1.imp id (fun h => ⟨_, h, by simp [ChangeMaps.setBlock]⟩)) rfl hM3; clear ho1 hg1 hl1 hM3)
          all_goals go_wp2
          all_goals exact ⟨⟨y + 1, _, _, _, by go_num, by omega, by rw [HTK.out]; exact HN2.out⟩, by simp [intOf]; omega⟩
        · have hi1 : (iI == 0) = false := by simpa using hi0
          clear hsil
          go_wp2
          go_region_law (refine step_append_at rfl (.tmp 58) (.tmp 60) 22 rfl w.heap.size 64 i0 (.agg #[.int .i64 0, .int .i64 0, .int .i64 0, .int .i64 0, .int .i64 0]) 5 40 Tryd.underlying22 hi hz0 hz1 hz2 rfl (by decide) v0 _ _ rfl (by rw [← HV0.out]; exact HNY.out.rowsSet (iI, oI, 0) o2) ⟨_, 0, none⟩ 1 1 [.int .i64 (f : Int), .int .i64 tI, .int .i64 iI, .int .i64 oI, .int .i64 xI] rfl rfl HCE.out (five_one _ _ _ _ _) (by have := hRl (iI, oI, 0); unfold maxLen; omega) (by have := hRl (iI, oI, 0); omega) HSZ.out ?_; intro v1 w1 ho1 hg1 hl1; obtain ⟨gg, cc, rfl, _, _⟩ := own_some ho1 (Nat.succ_pos _); obtain ⟨o3, hS3, hM3⟩ := HS2.out w1 _ (mbKept HNY.out (HV0.out ▸ hg1)); have HN2 : Hid _ := HNY.out.addL HKY.out HIO.out HM2.out ho1 (HV0.out.symm ▸ hg1) (by rw [HV0.out]; exact hl1.imp id (fun h => ⟨_, h, by simp [ChangeMaps.setBlock]⟩)) rfl hM3; clear ho1 hg1 hl1 hM3)
          all_goals go_wp2
          all_goals exact ⟨⟨y + 1, _, _, _, by go_num, by omega, by rw [HTK.out]; exact HN2.out⟩, by simp [intOf]; omega⟩
    · have ey : y = A.length := by omega
      have HNN : Hid (Nf w wr F mb sb S n A V vs) := by rw [ey, List.take_length] at hN; exact hN
      clear hN ey
      go_wp2
      go_ret
      exact ⟨F, mb, sb, n, V, vs, rfl, HNN.out⟩
end Go.Proofs.YtfjocafepigijaaDoor.Nx
