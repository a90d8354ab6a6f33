/- How the rows of least costs lie in memory while they are made. No conditions. -/
import Derived.Test.YtfjocafepigijaaDoorNw
namespace Go.Proofs.YtfjocafepigijaaDoor.Cm
open Go.RowKit Mv Wk Qp Sk Po Ps Wd Se Mp St Wg Nw
open CR (nc)

abbrev RowH := Nat × Nat × List Nat
def hdr (S : Nat) (x : RowH) : Value := .slice (some ⟨x.1, 0, none⟩) S x.2.1
/-- a list of rows -/
structure Tb (w : World) (K0 S : Nat) (v : Value) (l : List RowH) : Prop where
  own : w.ownsRow K0 26 1 v l.length (l.map (hdr S))
  rows : ∀ x ∈ l, w.ownsRow K0 3 1 (hdr S x) S (nc x.2.2)
theorem own_ty {w : World} {base e size n : Nat} {v : Value} {xs : List Value} (h : w.ownsRow base e size v n xs) {k : Nat} (hk : v.ownBlock = some k) : ∃ cur, w.heap[k]? = some (.cells cur e (0, 0)) := by
  rcases h.2 with ⟨rfl, _⟩ | ⟨g, cap, cur, rfl, _, hg, _⟩
  · simp [Value.ownBlock] at hk
  · simp [Value.ownBlock] at hk
    subst hk
    exact ⟨cur, hg⟩
theorem ty_ne {w : World} {k : Nat} {c1 c2 : Array Value} {e1 e2 : TypeId} (h1 : w.heap[k]? = some (.cells c1 e1 (0, 0))) (h2 : w.heap[k]? = some (.cells c2 e2 (0, 0))) (hne : e1 ≠ e2) : False := by
  rw [h1] at h2
  simp only [Option.some.injEq, Obj.cells.injEq] at h2
  exact hne h2.2.1
theorem own_kp2 {w w' : World} {base e size n : Nat} {v : Value} {xs : List Value} {X : Nat → Prop} (h : w.ownsRow base e size v n xs) (hk : Kp X w w') (hx : ∀ k, v.ownBlock = some k → ¬ X k) : w'.ownsRow base e size v n xs := by
  refine ⟨h.1, ?_⟩
  rcases h.2 with hn | ⟨g, cap, cur, rfl, hb, hg, rest⟩
  · exact .inl hn
  · exact .inr ⟨g, cap, cur, rfl, hb, (hk.block g (Array.getElem?_eq_some_iff.1 hg).1 (hx g rfl)).trans hg, rest⟩
theorem Tb.kept {w w' : World} {K0 S : Nat} {v : Value} {l : List RowH} {X : Nat → Prop} (h : Tb w K0 S v l) (hk : Kp X w w') (h1 : ∀ k, v.ownBlock = some k → ¬ X k) (h2 : ∀ x ∈ l, ¬ X x.1) : Tb w' K0 S v l :=
  ⟨own_kp2 h.own hk h1, fun x hx => own_kp2 (h.rows x hx) hk (fun k hk' => by simp [hdr, Value.ownBlock] at hk'; subst hk'; exact h2 x hx)⟩
theorem Tb.nil (w : World) (K0 S : Nat) : Tb w K0 S nilS [] := ⟨World.ownsRow_nil _ _ _ _, fun _ h => (List.not_mem_nil h).elim⟩
theorem Tb.lt {w : World} {K0 S : Nat} {v : Value} {l : List RowH} (h : Tb w K0 S v l) : ∀ x ∈ l, x.1 < w.heap.size := fun x hx => ((h.rows x hx).lt x.1 rfl).2

/-- what stands in memory between two places -/
structure Cb (w wr : World) (F K0 mb sb S capS n : Nat) (A : List Arc) (G : Int → Int → Value) (vq va vr : Value) (la lr : List RowH) : Prop where
  field : IsF wr F (.int .i64 S) (.map (some mb)) (.slice (some ⟨sb, 0, none⟩) S capS) vq
  queue : wr.ownsRow K0 192 2 vq 0 (fcs [])
  fld : Fld wr F K0 mb sb S n A G
  ta : Tb wr K0 S va la
  tr : Tb wr K0 S vr lr
  ne : ∀ k, vr.ownBlock = some k → va.ownBlock ≠ some k
  kept : Kp (fun k => k = F ∨ K0 ≤ k) w wr
/-- .. and the row that is being made -/
structure Ch (w wr : World) (F K0 mb sb S capS n : Nat) (A : List Arc) (G : Int → Int → Value) (vq va vr : Value) (la lr : List RowH) (C : Nat) (H : List Nat) : Prop where
  cb : Cb w wr F K0 mb sb S capS n A G vq va vr la lr
  here : wr.ownsRow K0 3 1 (.slice (some ⟨C, 0, none⟩) S S) S (nc H)
  new : ∀ x ∈ la ++ lr, x.1 ≠ C
theorem Cb.carried {w wr w' : World} {F K0 mb sb S capS n : Nat} {A : List Arc} {G : Int → Int → Value} {vq vq' va vr : Value} {la lr : List RowH} {C : Nat} {X : Nat → Prop} (h : Cb w wr F K0 mb sb S capS n A G vq va vr la lr) (hk : Kp X wr w') (hX : ∀ k, k < wr.heap.size → X k → k = F ∨ k = C ∨ vq.ownBlock = some k)
    (hC : (∃ cur, wr.heap[C]? = some (.cells cur 3 (0, 0))) ∨ wr.heap.size ≤ C) (hCK : K0 ≤ C) (hn : ∀ x ∈ la ++ lr, x.1 ≠ C) (h1 : IsF w' F (.int .i64 S) (.map (some mb)) (.slice (some ⟨sb, 0, none⟩) S capS) vq') (h2 : w'.ownsRow K0 192 2 vq' 0 (fcs [])) : Cb w w' F K0 mb sb S capS n A G vq' va vr la lr := by
  have hq : ∀ k, vq.ownBlock = some k → K0 ≤ k := fun k hk => (h.queue.lt k hk).1
  have hXK : ∀ k, k < K0 → k ≠ F → ¬ X k := fun k hk1 hne hx => by
    rcases hX k (Nat.lt_of_lt_of_le hk1 h.fld.sils.size) hx with h3 | h3 | h3
    · exact hne h3
    · omega
    · have := hq k h3; omega
  have hv : ∀ {v : Value} {l : List RowH}, Tb wr K0 S v l → ∀ k, v.ownBlock = some k → ¬ X k := fun {v l} ht k hk1 hx => by
    obtain ⟨cur, hc⟩ := own_ty ht.own hk1
    rcases hX k (ht.own.lt k hk1).2 hx with h3 | h3 | h3
    · subst h3; exact ty_ne hc h.field (by decide)
    · subst h3
      rcases hC with ⟨c2, hC⟩ | hC
      · exact ty_ne hc hC (by decide)
      · have := (ht.own.lt k hk1).2; omega
    · obtain ⟨c2, hc2⟩ := own_ty h.queue h3
      exact ty_ne hc hc2 (by decide)
  have hr : ∀ {v : Value} {l : List RowH}, Tb wr K0 S v l → (∀ x ∈ l, x.1 ≠ C) → ∀ x ∈ l, ¬ X x.1 := fun {v l} ht hnn x hxl hx => by
    obtain ⟨cur, hc⟩ := own_ty (ht.rows x hxl) (k := x.1) rfl
    rcases hX x.1 (ht.lt x hxl) hx with h3 | h3 | h3
    · rw [h3] at hc; exact ty_ne hc h.field (by decide)
    · exact hnn x hxl h3
    · obtain ⟨c2, hc2⟩ := own_ty h.queue h3
      exact ty_ne hc hc2 (by decide)
  refine ⟨h1, h2, h.fld.kept hk hXK, h.ta.kept hk (hv h.ta) (hr h.ta (fun x hx => hn x (List.mem_append_left _ hx))), h.tr.kept hk (hv h.tr) (hr h.tr (fun x hx => hn x (List.mem_append_right _ hx))), h.ne, ?_⟩
  refine h.kept.trans (hk.mono (fun k hk1 hx => ?_))
  rcases hX k hk1 hx with h3 | h3 | h3
  · exact .inl h3
  · exact .inr (by omega)
  · exact .inr (hq k h3)
theorem Ch.kept {w wr w' : World} {F K0 mb sb S capS n : Nat} {A : List Arc} {G : Int → Int → Value} {vq vq' va vr : Value} {la lr : List RowH} {C : Nat} {H H' : List Nat} {X : Nat → Prop} (h : Ch w wr F K0 mb sb S capS n A G vq va vr la lr C H) (hk : Kp X wr w') (hX : ∀ k, k < wr.heap.size → X k → k = F ∨ k = C ∨ vq.ownBlock = some k)
    (h1 : IsF w' F (.int .i64 S) (.map (some mb)) (.slice (some ⟨sb, 0, none⟩) S capS) vq') (h2 : w'.ownsRow K0 192 2 vq' 0 (fcs [])) (h3 : w'.ownsRow K0 3 1 (.slice (some ⟨C, 0, none⟩) S S) S (nc H')) : Ch w w' F K0 mb sb S capS n A G vq' va vr la lr C H' :=
  ⟨h.cb.carried (C := C) hk hX (.inl (own_ty h.here rfl)) (h.here.lt C rfl).1 h.new h1 h2, h3, h.new⟩
/-- a row is laid -/
theorem Cb.laid {w wr w' : World} {F K0 mb sb S capS n : Nat} {A : List Arc} {G : Int → Int → Value} {vq va vr : Value} {la lr : List RowH} {H : List Nat} (h : Cb w wr F K0 mb sb S capS n A G vq va vr la lr) (hb : Below wr.heap.size wr w') (ho : w'.ownsRow wr.heap.size 3 1 (.slice (some ⟨wr.heap.size, 0, none⟩) S S) S (nc H)) : Ch w w' F K0 mb sb S capS n A G vq va vr la lr wr.heap.size H := by
  have hk : Kp (fun _ => False) wr w' := ⟨hb.os, hb.tape, hb.output, hb.size, fun k hk _ => hb.block k hk⟩
  have hn : ∀ x ∈ la ++ lr, x.1 ≠ wr.heap.size := fun x hx => by
    rcases List.mem_append.1 hx with hx | hx
    · have := h.ta.lt x hx; omega
    · have := h.tr.lt x hx; omega
  refine ⟨h.carried (C := wr.heap.size) hk (fun k _ hx => hx.elim) (.inr (Nat.le_refl _)) h.fld.sils.size hn (h.field.kept hk (fun h => h)) (own_kp2 h.queue hk (fun _ _ h => h)), ?_, hn⟩
  rcases ho with ⟨h1, h2⟩
  refine ⟨h1, ?_⟩
  rcases h2 with h2 | ⟨g, cap, cur, hv, hg, rest⟩
  · exact .inl h2
  · exact .inr ⟨g, cap, cur, hv, Nat.le_trans h.fld.sils.size hg, rest⟩
theorem Ch.store {w wr : World} {F K0 mb sb S capS n : Nat} {A : List Arc} {G : Int → Int → Value} {vq va vr : Value} {la lr : List RowH} {C : Nat} {H : List Nat} (h : Ch w wr F K0 mb sb S capS n A G vq va vr la lr C H) (t c : Nat) : Ch w (wr.setCell ⟨C, t, none⟩ (.int .i64 (c : Int))) F K0 mb sb S capS n A G vq va vr la lr C (H.set t c) := by
  obtain ⟨cur, hc⟩ := own_ty h.here (k := C) rfl
  have hCF : F ≠ C := fun e => by subst e; exact ty_ne hc h.cb.field (by decide)
  have hk : Kp (fun k => k = C) wr (wr.setCell ⟨C, t, none⟩ (.int .i64 (c : Int))) := (Kp.refl _ wr).setCell _ _ _ (fun _ => rfl)
  refine h.kept hk (fun k _ hx => .inr (.inl hx)) (h.cb.field.kept hk hCF) (own_kp2 h.cb.queue hk (fun k hk1 hx => ?_)) (put1 h.here t c)
  obtain ⟨c2, hc2⟩ := own_ty h.cb.queue hk1
  subst hx
  exact ty_ne hc hc2 (by decide)
theorem Ch.stepped {w wr w' : World} {F K0 mb sb S capS n : Nat} {A : List Arc} {G : Int → Int → Value} {vq va vr : Value} {la lr : List RowH} {C : Nat} {H H' : List Nat} (h : Ch w wr F K0 mb sb S capS n A G vq va vr la lr C H) (ho : w'.ownsRow K0 3 1 (.slice (some ⟨C, 0, none⟩) S S) S (nc H')) (hk : Kp (fun k => k = C) wr w') : Ch w w' F K0 mb sb S capS n A G vq va vr la lr C H' := by
  obtain ⟨cur, hc⟩ := own_ty h.here (k := C) rfl
  have hCF : F ≠ C := fun e => by subst e; exact ty_ne hc h.cb.field (by decide)
  refine h.kept hk (fun k _ hx => .inr (.inl hx)) (h.cb.field.kept hk hCF) (own_kp2 h.cb.queue hk (fun k hk1 hx => ?_)) ho
  obtain ⟨c2, hc2⟩ := own_ty h.cb.queue hk1
  subst hx
  exact ty_ne hc hc2 (by decide)
theorem Ch.mem {w wr : World} {F K0 mb sb S capS n : Nat} {A : List Arc} {G : Int → Int → Value} {vq va vr : Value} {la lr : List RowH} {C : Nat} {H : List Nat} (h : Ch w wr F K0 mb sb S capS n A G vq va vr la lr C H) : Mem wr wr F K0 C S S (.int .i64 S) (.map (some mb)) (.slice (some ⟨sb, 0, none⟩) S capS) vq vq H [] := by
  obtain ⟨cur, hc⟩ := own_ty h.here (k := C) rfl
  refine ⟨h.cb.field, h.cb.queue, h.here, fun e => ?_, .inl rfl, Kp.refl _ _⟩
  obtain ⟨c2, hc2⟩ := own_ty h.cb.queue e
  exact ty_ne hc hc2 (by decide)
theorem Ch.settled {w wr w' : World} {F K0 mb sb S capS n : Nat} {A : List Arc} {G : Int → Int → Value} {vq vq' va vr : Value} {la lr : List RowH} {C : Nat} {H R : List Nat} (h : Ch w wr F K0 mb sb S capS n A G vq va vr la lr C H) (hm : Mem wr w' F K0 C S S (.int .i64 S) (.map (some mb)) (.slice (some ⟨sb, 0, none⟩) S capS) vq vq' R []) : Ch w w' F K0 mb sb S capS n A G vq' va vr la lr C R :=
  h.kept hm.kept (fun _ _ hx => hx) hm.field hm.queue hm.row
/-- the row that is made joins the others -/
theorem Ch.joined {w wr w' : World} {F K0 mb sb S capS n : Nat} {A : List Arc} {G : Int → Int → Value} {vq va vr vr' : Value} {la lr : List RowH} {C : Nat} {R : List Nat} {o : Obj} (h : Ch w wr F K0 mb sb S capS n A G vq va vr la lr C R) (ho : w'.ownsRow K0 26 1 vr' (lr.length + 1) (lr.map (hdr S) ++ [.slice (some ⟨C, 0, none⟩) S S])) (hg : (wr.alloc o).grownBy w' vr.ownBlock) (hl : vr'.ownBlock = vr.ownBlock ∨ vr'.ownBlock = some (wr.alloc o).heap.size) :
    Cb w w' F K0 mb sb S capS n A G vq va vr' la (lr ++ [(C, S, R)]) := by
  have hk : Kp (fun k => vr.ownBlock = some k) wr w' := ((Kp.refl _ wr).alloc o).grown hg (fun k hk _ => hk)
  have hty : ∀ k, vr.ownBlock = some k → ∃ cur, wr.heap[k]? = some (.cells cur 26 (0, 0)) := fun k hk => own_ty h.cb.tr.own hk
  have nF : ¬ vr.ownBlock = some F := fun e => by obtain ⟨c, hc⟩ := hty F e; exact ty_ne hc h.cb.field (by decide)
  have nq : ∀ k, vq.ownBlock = some k → ¬ vr.ownBlock = some k := fun k hk e => by
    obtain ⟨c, hc⟩ := hty k e
    obtain ⟨c2, hc2⟩ := own_ty h.cb.queue hk
    exact ty_ne hc hc2 (by decide)
  have nr : ∀ {v : Value} {l : List RowH}, Tb wr K0 S v l → ∀ x ∈ l, ¬ vr.ownBlock = some x.1 := fun {v l} ht x hx e => by
    obtain ⟨c, hc⟩ := hty _ e
    obtain ⟨c2, hc2⟩ := own_ty (ht.rows x hx) (k := x.1) rfl
    exact ty_ne hc hc2 (by decide)
  have nC : ¬ vr.ownBlock = some C := fun e => by
    obtain ⟨c, hc⟩ := hty _ e
    obtain ⟨c2, hc2⟩ := own_ty h.here (k := C) rfl
    exact ty_ne hc hc2 (by decide)
  have nK : ∀ k, k < K0 → k ≠ F → ¬ vr.ownBlock = some k := fun k hk1 _ e => by have := (h.cb.tr.own.lt k e).1; omega
  refine ⟨h.cb.field.kept hk nF, own_kp2 h.cb.queue hk nq, h.cb.fld.kept hk nK, h.cb.ta.kept hk (fun k hk1 e => h.cb.ne k e hk1) (nr h.cb.ta), ⟨?_, ?_⟩, ?_, ?_⟩
  · rw [List.length_append, List.map_append]
    exact ho
  · intro x hx
    rcases List.mem_append.1 hx with hx | hx
    · exact own_kp2 (h.cb.tr.rows x hx) hk (fun k hk1 => by simp [hdr, Value.ownBlock] at hk1; subst hk1; exact nr h.cb.tr x hx)
    · simp only [List.mem_singleton] at hx
      subst hx
      exact own_kp2 h.here hk (fun k hk1 => by cases hk1; exact nC)
  · intro k hk1 e
    rcases hl with hl | hl
    · exact h.cb.ne k (hl ▸ hk1) e
    · rw [hl] at hk1
      cases hk1
      have := (h.cb.ta.own.lt _ e).2
      simp at this
      omega
  · exact h.cb.kept.trans (hk.mono (fun k _ e => .inr (h.cb.tr.own.lt k e).1))
/-- the place ahead in the first text -/
theorem Cb.turn {w wr : World} {F K0 mb sb S capS n : Nat} {A : List Arc} {G : Int → Int → Value} {vq va vr : Value} {la lr : List RowH} (h : Cb w wr F K0 mb sb S capS n A G vq va vr la lr) : Cb w wr F K0 mb sb S capS n A G vq vr nilS lr [] :=
  ⟨h.field, h.queue, h.fld, h.tr, Tb.nil _ _ _, fun k hk => by simp [nilS, Value.ownBlock] at hk, h.kept⟩
theorem Cb.drop {w wr : World} {F K0 mb sb S capS n : Nat} {A : List Arc} {G : Int → Int → Value} {vq va vr : Value} {la lr : List RowH} (h : Cb w wr F K0 mb sb S capS n A G vq va vr la lr) : Cb w wr F K0 mb sb S capS n A G vq nilS vr [] lr :=
  ⟨h.field, h.queue, h.fld, Tb.nil _ _ _, h.tr, fun k _ e => by simp [nilS, Value.ownBlock] at e, h.kept⟩
/-- a header of the list of rows -/
theorem Tb.cell {w : World} {K0 S g cap : Nat} {l : List RowH} (h : Tb w K0 S (.slice (some ⟨g, 0, none⟩) l.length cap) l) {j : Nat} {x : RowH} (hx : l[j]? = some x) : w.cell? ⟨g, j, none⟩ = some (.slice (some ⟨x.1, 0, none⟩) S x.2.1) := by
  have hj := (List.getElem?_eq_some_iff.1 hx).1
  rw [h.own.cellAt j (by omega), List.getElem?_map, hx]
  rfl
/-- a list of numbers that is only read -/
def LiesI (w : World) (F K0 : Nat) (a : Option Addr) (l : List Int) : Prop := l.length = 0 ∨ ∃ b off, a = some ⟨b, off, none⟩ ∧ b < K0 ∧ b ≠ F ∧ ∀ j u, l[j]? = some u → w.cell? ⟨b, off + j, none⟩ = some (.int .i64 u)
theorem LiesI.at {w wr : World} {F K0 : Nat} {a : Option Addr} {l : List Int} (h : LiesI w F K0 a l) (hk : Kp (fun k => k = F ∨ K0 ≤ k) w wr) (hs : K0 ≤ w.heap.size) {i : Nat} {s : Int} (hi : l[i]? = some s) : ∃ b off, a = some ⟨b, off, none⟩ ∧ wr.cell? ⟨b, off + i, none⟩ = some (.int .i64 s) := by
  have hl := (List.getElem?_eq_some_iff.1 hi).1
  obtain ⟨b, off, e, hb, hne, hc⟩ := h.resolve_left (by omega)
  exact ⟨b, off, e, (hk.cell (by omega) (fun hx => by rcases hx with hx | hx; exact hne hx; omega)).trans (hc i s hi)⟩
end Go.Proofs.YtfjocafepigijaaDoor.Cm
