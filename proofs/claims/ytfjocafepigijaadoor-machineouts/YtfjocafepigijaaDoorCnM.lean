/- How the rows of least costs lie in memory while they are made. No conditions. -/
import Derived.Test.YtfjocafepigijaaDoorNaM
namespace Go.Proofs.YtfjocafepigijaaDoor.Cm
open Go.RowKit Mv Wk Qp Sk Po Ps Wd Se Mp St Wg Nw
open CR (nc)

abbrev RowH := Nat × Nat × List Nat
def hdr (S : Nat) (x : RowH) : Value := .slice (some ⟨x.1, 0, none⟩) S x.2.1
/-- a list of rows -/
structure Tb (w : World) (K0 S : Nat) (v : Value) (l : List RowH) : Prop where
  own : w.ownsRow K0 26 1 v l.length (l.map (hdr S))
  rows : ∀ x ∈ l, w.ownsRow K0 3 1 (hdr S x) S (nc x.2.2)
theorem own_ty {w : World} {base e size n : Nat} {v : Value} {xs : List Value} (h : w.ownsRow base e size v n xs) {k : Nat} (hk : v.ownBlock = some k) : ∃ cur, w.heap[k]? = some (.cells cur e (0, 0)) := by
  rcases h.2 with ⟨rfl, _⟩ | ⟨g, cap, cur, rfl, _, hg, _⟩
  · simp [Value.ownBlock] at hk
  · simp [Value.ownBlock] at hk
    subst hk
    exact ⟨cur, hg⟩
theorem ty_ne {w : World} {k : Nat} {c1 c2 : Array Value} {e1 e2 : TypeId} (h1 : w.heap[k]? = some (.cells c1 e1 (0, 0))) (h2 : w.heap[k]? = some (.cells c2 e2 (0, 0))) (hne : e1 ≠ e2) : False := by
  rw [h1] at h2
  simp only [Option.some.injEq, Obj.cells.injEq] at h2
  exact hne h2.2.1
theorem own_kp2 {w w' : World} {base e size n : Nat} {v : Value} {xs : List Value} {X : Nat → Prop} (h : w.ownsRow base e size v n xs) (hk : Kp X w w') (hx : ∀ k, v.ownBlock = some k → ¬ X k) : w'.ownsRow base e size v n xs := by
  refine ⟨h.1, ?_⟩
  rcases h.2 with hn | ⟨g, cap, cur, rfl, hb, hg, rest⟩
  · exact .inl hn
  · exact .inr ⟨g, cap, cur, rfl, hb, (hk.block g (Array.getElem?_eq_some_iff.1 hg).1 (hx g rfl)).trans hg, rest⟩
theorem Tb.kept {w w' : World} {K0 S : Nat} {v : Value} {l : List RowH} {X : Nat → Prop} (h : Tb w K0 S v l) (hk : Kp X w w') (h1 : ∀ k, v.ownBlock = some k → ¬ X k) (h2 : ∀ x ∈ l, ¬ X x.1) : Tb w' K0 S v l :=
  ⟨own_kp2 h.own hk h1, fun x hx => own_kp2 (h.rows x hx) hk (fun k hk' => by simp [hdr, Value.ownBlock] at hk'; subst hk'; exact h2 x hx)⟩
theorem Tb.nil (w : World) (K0 S : Nat) : Tb w K0 S nilS [] := ⟨World.ownsRow_nil _ _ _ _, fun _ h => (List.not_mem_nil h).elim⟩
theorem Tb.lt {w : World} {K0 S : Nat} {v : Value} {l : List RowH} (h : Tb w K0 S v l) : ∀ x ∈ l, x.1 < w.heap.size := fun x hx => ((h.rows x hx).lt x.1 rfl).2

/-- what stands in memory between two places -/
structure Cb (w wr : World) (F K0 mb sb S capS n : Nat) (A : List Arc) (G : Int → Int → Value) (vq va vr : Value) (la lr : List RowH) : Prop where
  field : IsF wr F (.int .i64 S) (.map (some mb)) (.slice (some ⟨sb, 0, none⟩) S capS) vq
  queue : wr.ownsRow K0 192 2 vq 0 (fcs [])
  fld : Fld wr F K0 mb sb S n A G
  ta : Tb wr K0 S va la
  tr : Tb wr K0 S vr lr
  ne : ∀ k, vr.ownBlock = some k → va.ownBlock ≠ some k
  kept : Kp (fun k => k = F ∨ K0 ≤ k) w wr
/-- .. and the row that is being made -/
structure Ch (w wr : World) (F K0 mb sb S capS n : Nat) (A : List Arc) (G : Int → Int → Value) (vq va vr : Value) (la lr : List RowH) (C : Nat) (H : List Nat) : Prop where
  cb : Cb w wr F K0 mb sb S capS n A G vq va vr la lr
  here : wr.ownsRow K0 3 1 (.slice (some ⟨C, 0, none⟩) S S) S (nc H)
  new : ∀ x ∈ la ++ lr, x.1 ≠ C
theorem Cb.carried {w wr w' : World} {F K0 mb sb S capS n : Nat} {A : List Arc} {G : Int → Int → Value} {vq vq' va vr : Value} {la lr : List RowH} {C : Nat} {X : Nat → Prop} (h : Cb w wr F K0 mb sb S capS n A G vq va vr la lr) (hk : Kp X wr w') (hX : ∀ k, k < wr.heap.size → X k → k = F ∨ k = C ∨ vq.ownBlock = some k)
    (hC : (∃ cur, wr.heap[C]? = some (.cells cur 3 (0, 0))) ∨ wr.heap.size ≤ C) (hCK : K0 ≤ C) (hn : ∀ x ∈ la ++ lr, x.1 ≠ C) (h1 : IsF w' F (.int .i64 S) (.map (some mb)) (.slice (some ⟨sb, 0, none⟩) S capS) vq') (h2 : w'.ownsRow K0 192 2 vq' 0 (fcs [])) : Cb w w' F K0 mb sb S capS n A G vq' va vr la lr := by
  have hq : ∀ k, vq.ownBlock = some k → K0 ≤ k := fun k hk => (h.queue.lt k hk).1
  have hXK : ∀ k, k < K0 → k ≠ F → ¬ X k := fun k hk1 hne hx => by
    rcases hX k (Nat.lt_of_lt_of_le hk1 h.fld.sils.size) hx with h3 | h3 | h3
    · exact hne h3
    · omega
    · have := hq k h3; omega
  have hv : ∀ {v : Value} {l : List RowH}, Tb wr K0 S v l → ∀ k, v.ownBlock = some k → ¬ X k := fun {v l} ht k hk1 hx => by
    obtain ⟨cur, hc⟩ := own_ty ht.own hk1
    rcases hX k (ht.own.lt k hk1).2 hx with h3 | h3 | h3
    · subst h3; exact ty_ne hc h.field (by decide)
    · subst h3
      rcases hC with ⟨c2, hC⟩ | hC
      · exact ty_ne hc hC (by decide)
      · have := (ht.own.lt k hk1).2; omega
    · obtain ⟨c2, hc2⟩ := own_ty h.queue h3
      exact ty_ne hc hc2 (by decide)
  have hr : ∀ {v : Value} {l : List RowH}, Tb wr K0 S v l → (∀ x ∈ l, x.1 ≠ C) → ∀ x ∈ l, ¬ X x.1 := fun {v l} ht hnn x hxl hx => by
    obtain ⟨cur, hc⟩ := own_ty (ht.rows x hxl) (k := x.1) rfl
    rcases hX x.1 (ht.lt x hxl) hx with h3 | h3 | h3
    · rw [h3] at hc; exact ty_ne hc h.field (by decide)
    · exact hnn x hxl h3
    · obtain ⟨c2, hc2⟩ := own_ty h.queue h3
      exact ty_ne hc hc2 (by decide)
  refine ⟨h1, h2, h.fld.kept hk hXK, h.ta.kept hk (hv h.ta) (hr h.ta (fun x hx => hn x (List.mem_append_left _ hx))), h.tr.kept hk (hv h.tr) (hr h.tr (fun x hx => hn x (List.mem_append_right _ hx))), h.ne, ?_⟩
  refine h.kept.trans (hk.mono (fun k hk1 hx => ?_))
  rcases hX k hk1 hx with h3 | h3 | h3
  · exact .inl h3
  · exact .inr (by omega)
  · exact .inr (hq k h3)
theorem Ch.kept {w wr w' : World} {F K0 mb sb S capS n : Nat} {A : List Arc} {G : Int → Int → Value} {vq vq' va vr : Value} {la lr : List RowH} {C : Nat} {H H' : List Nat} {X : Nat → Prop} (h : Ch w wr F K0 mb sb S capS n A G vq va vr la lr C H) (hk : Kp X wr w') (hX : ∀ k, k < wr.heap.size → X k → k = F ∨ k = C ∨ vq.ownBlock = some k)
    (h1 : IsF w' F (.int .i64 S) (.map (some mb)) (.slice (some ⟨sb, 0, none⟩) S capS) vq') (h2 : w'.ownsRow K0 192 2 vq' 0 (fcs [])) (h3 : w'.ownsRow K0 3 1 (.slice (some ⟨C, 0, none⟩) S S) S (nc H')) : Ch w w' F K0 mb sb S capS n A G vq' va vr la lr C H' :=
  ⟨h.cb.carried (C := C) hk hX (.inl (own_ty h.here rfl)) (h.here.lt C rfl).1 h.new h1 h2, h3, h.new⟩
/-- a row is laid -/
theorem Cb.laid {w wr w' : World} {F K0 mb sb S capS n : Nat} {A : List Arc} {G : Int → Int → Value} {vq va vr : Value} {la lr : List RowH} {H : List Nat} (h : Cb w wr F K0 mb sb S capS n A G vq va vr la lr) (hb : Below wr.heap.size wr w') (ho : w'.ownsRow wr.heap.size 3 1 (.slice (some ⟨wr.heap.size, 0, none⟩) S S) S (nc H)) : Ch w w' F K0 mb sb S capS n A G vq va vr la lr wr.heap.size H := by
  have hk : Kp (fun _ => False) wr w' := ⟨hb.os, hb.tape, hb.output, hb.size, fun k hk _ => hb.block k hk⟩
  have hn : ∀ x ∈ la ++ lr, x.1 ≠ wr.heap.size := fun x hx => by
    rcases List.mem_append.1 hx with hx | hx
    · have := h.ta.lt x hx; omega
    · have := h.tr.lt x hx; omega
  refine ⟨h.carried (C := wr.heap.size) hk (fun k _ hx => hx.elim) (.inr (Nat.le_refl _)) h.fld.sils.size hn (h.field.kept hk (fun h => h)) (own_kp2 h.queue hk (fun _ _ h => h)), ?_, hn⟩
  rcases ho with ⟨h1, h2⟩
  refine ⟨h1, ?_⟩
  rcases h2 with h2 | ⟨g, cap, cur, hv, hg, rest⟩
  · exact .inl h2
  · exact .inr ⟨g, cap, cur, hv, Nat.le_trans h.fld.sils.size hg, rest⟩
theorem Ch.store {w wr : World} {F K0 mb sb S capS n : Nat} {A : List Arc} {G : Int → Int → Value} {vq va vr : Value} {la lr : List RowH} {C : Nat} {H : List Nat} (h : Ch w wr F K0 mb sb S capS n A G vq va vr la lr C H) (t c : Nat) : Ch w (wr.setCell ⟨C, t, none⟩ (.int .i64 (c : Int))) F K0 mb sb S capS n A G vq va vr la lr C (H.set t c) := by
  obtain ⟨cur, hc⟩ := own_ty h.here (k := C) rfl
  have hCF : F ≠ C := fun e => by subst e; exact ty_ne hc h.cb.field (by decide)
  have hk : Kp (fun k => k = C) wr (wr.setCell ⟨C, t, none⟩ (.int .i64 (c : Int))) := (Kp.refl _ wr).setCell _ _ _ (fun _ => rfl)
  refine h.kept hk (fun k _ hx => .inr (.inl hx)) (h.cb.field.kept hk hCF) (own_kp2 h.cb.queue hk (fun k hk1 hx => ?_)) (put1 h.here t c)
  obtain ⟨c2, hc2⟩ := own_ty h.cb.queue hk1
  subst hx
  exact ty_ne hc hc2 (by decide)
theorem Ch.stepped {w wr w' : World} {F K0 mb sb S capS n : Nat} {A : List Arc} {G : Int → Int → Value} {vq va vr : Value} {la lr : List RowH} {C : Nat} {H H' : List Nat} (h : Ch w wr F K0 mb sb S capS n A G vq va vr la lr C H) (ho : w'.ownsRow K0 3 1 (.slice (some ⟨C, 0, none⟩) S S) S (nc H')) (hk : Kp (fun k => k = C) wr w') : Ch w w' F K0 mb sb S capS n A G vq va vr la lr C H' := by
  obtain ⟨cur, hc⟩ := own_ty h.here (k := C) rfl
  have hCF : F ≠ C := fun e => by subst e; exact ty_ne hc h.cb.field (by decide)
  refine h.kept hk (fun k _ hx => .inr (.inl hx)) (h.cb.field.kept hk hCF) (own_kp2 h.cb.queue hk (fun k hk1 hx => ?_)) ho
  obtain ⟨c2, hc2⟩ := own_ty h.cb.queue hk1
  subst hx
  exact ty_ne hc hc2 (by decide)
theorem Ch.mem {w wr : World} {F K0 mb sb S capS n : Nat} {A : List Arc} {G : Int → Int → Value} {vq va vr : Value} {la lr : List RowH} {C : Nat} {H : List Nat} (h : Ch w wr F K0 mb sb S capS n A G vq va vr la lr C H) : Mem wr wr F K0 C S S (.int .i64 S) (.map (some mb)) (.slice (some ⟨sb, 0, none⟩) S capS) vq vq H [] := by
  obtain ⟨cur, hc⟩ := own_ty h.here (k := C) rfl
  refine ⟨h.cb.field, h.cb.queue, h.here, fun e => ?_, .inl rfl, Kp.refl _ _⟩
  obtain ⟨c2, hc2⟩ := own_ty h.cb.queue e
  exact ty_ne hc hc2 (by decide)
theorem Ch.settled {w wr w' : World} {F K0 mb sb S capS n : Nat} {A : List Arc} {G : Int → Int → Value} {vq vq' va vr : Value} {la lr : List RowH} {C : Nat} {H R : List Nat} (h : Ch w wr F K0 mb sb S capS n A G vq va vr la lr C H) (hm : Mem wr w' F K0 C S S (.int .i64 S) (.map (some mb)) (.slice (some ⟨sb, 0, none⟩) S capS) vq vq' R []) : Ch w w' F K0 mb sb S capS n A G vq' va vr la lr C R :=
  h.kept hm.kept (fun _ _ hx => hx) hm.field hm.queue hm.row
/-- the row that is made joins the others -/
theorem Ch.joined {w wr w' : World} {F K0 mb sb S capS n : Nat} {A : List Arc} {G : Int → Int → Value} {vq va vr vr' : Value} {la lr : List RowH} {C : Nat} {R : List Nat} {o : Obj} (h : Ch w wr F K0 mb sb S capS n A G vq va vr la lr C R) (ho : w'.ownsRow K0 26 1 vr' (lr.length + 1) (lr.map (hdr S) ++ [.slice (some ⟨C, 0, none⟩) S S])) (hg : (wr.alloc o).grownBy w' vr.ownBlock) (hl : vr'.ownBlock = vr.ownBlock ∨ vr'.ownBlock = some (wr.alloc o).heap.size) :
    Cb w w' F K0 mb sb S capS n A G vq va vr' la (lr ++ [(C, S, R)]) := by
  have hk : Kp (fun k => vr.ownBlock = some k) wr w' := ((Kp.refl _ wr).alloc o).grown hg (fun k hk _ => hk)
  have hty : ∀ k, vr.ownBlock = some k → ∃ cur, wr.heap[k]? = some (.cells cur 26 (0, 0)) := fun k hk => own_ty h.cb.tr.own hk
  have nF : ¬ vr.ownBlock = some F := fun e => by obtain ⟨c, hc⟩ := hty F e; exact ty_ne hc h.cb.field (by decide)
  have nq : ∀ k, vq.ownBlock = some k → ¬ vr.ownBlock = some k := fun k hk e => by
    obtain ⟨c, hc⟩ := hty k e
    obtain ⟨c2, hc2⟩ := own_ty h.cb.queue hk
    exact ty_ne hc hc2 (by decide)
  have nr : ∀ {v : Value} {l : List RowH}, Tb wr K0 S v l → ∀ x ∈ l, ¬ vr.ownBlock = some x.1 := fun {v l} ht x hx e => by
    obtain ⟨c, hc⟩ := hty _ e
    obtain ⟨c2, hc2⟩ := own_ty (ht.rows x hx) (k := x.1) rfl
    exact ty_ne hc hc2 (by decide)
  have nC : ¬ vr.ownBlock = some C := fun e => by
    obtain ⟨c, hc⟩ := hty _ e
    obtain ⟨c2, hc2⟩ := own_ty h.here (k := C) rfl
    exact ty_ne hc hc2 (by decide)
  have nK : ∀ k, k < K0 → k ≠ F → ¬ vr.ownBlock = some k := fun k hk1 _ e => by have := (h.cb.tr.own.lt k e).1; omega
  refine ⟨h.cb.field.kept hk nF, own_kp2 h.cb.queue hk nq, h.cb.fld.kept hk nK, h.cb.ta.kept hk (fun k hk1 e => h.cb.ne k e hk1) (nr h.cb.ta), ⟨?_, ?_⟩, ?_, ?_⟩
  · rw [List.length_append, List.map_append]
    exact ho
  · intro x hx
    rcases List.mem_append.1 hx with hx | hx
    · exact own_kp2 (h.cb.tr.rows x hx) hk (fun k hk1 => by simp [hdr, Value.ownBlock] at hk1; subst hk1; exact nr h.cb.tr x hx)
    · simp only [List.mem_singleton] at hx
      subst hx
      exact own_kp2 h.here hk (fun k hk1 => by cases hk1; exact nC)
  · intro k hk1 e
    rcases hl with hl | hl
    · exact h.cb.ne k (hl ▸ hk1) e
    · rw [hl] at hk1
      cases hk1
      have := (h.cb.ta.own.lt _ e).2
      simp at this
      omega
  · exact h.cb.kept.trans (hk.mono (fun k _ e => .inr (h.cb.tr.own.lt k e).1))
/-- the place ahead in the first text -/
theorem Cb.turn {w wr : World} {F K0 mb sb S capS n : Nat} {A : List Arc} {G : Int → Int → Value} {vq va vr : Value} {la lr : List RowH} (h : Cb w wr F K0 mb sb S capS n A G vq va vr la lr) : Cb w wr F K0 mb sb S capS n A G vq vr nilS lr [] :=
  ⟨h.field, h.queue, h.fld, h.tr, Tb.nil _ _ _, fun k hk => by simp [nilS, Value.ownBlock] at hk, h.kept⟩
theorem Cb.drop {w wr : World} {F K0 mb sb S capS n : Nat} {A : List Arc} {G : Int → Int → Value} {vq va vr : Value} {la lr : List RowH} (h : Cb w wr F K0 mb sb S capS n A G vq va vr la lr) : Cb w wr F K0 mb sb S capS n A G vq nilS vr [] lr :=
  ⟨h.field, h.queue, h.fld, Tb.nil _ _ _, h.tr, fun k _ e => by simp [nilS, Value.ownBlock] at e, h.kept⟩
/-- a header of the list of rows -/
theorem Tb.cell {w : World} {K0 S g cap : Nat} {l : List RowH} (h : Tb w K0 S (.slice (some ⟨g, 0, none⟩) l.length cap) l) {j : Nat} {x : RowH} (hx : l[j]? = some x) : w.cell? ⟨g, j, none⟩ = some (.slice (some ⟨x.1, 0, none⟩) S x.2.1) := by
  have hj := (List.getElem?_eq_some_iff.1 hx).1
  rw [h.own.cellAt j (by omega), List.getElem?_map, hx]
  rfl
/-- a list of numbers that is only read -/
def LiesI (w : World) (F K0 : Nat) (a : Option Addr) (l : List Int) : Prop := l.length = 0 ∨ ∃ b off, a = some ⟨b, off, none⟩ ∧ b < K0 ∧ b ≠ F ∧ ∀ j u, l[j]? = some u → w.cell? ⟨b, off + j, none⟩ = some (.int .i64 u)
theorem LiesI.at {w wr : World} {F K0 : Nat} {a : Option Addr} {l : List Int} (h : LiesI w F K0 a l) (hk : Kp (fun k => k = F ∨ K0 ≤ k) w wr) (hs : K0 ≤ w.heap.size) {i : Nat} {s : Int} (hi : l[i]? = some s) : ∃ b off, a = some ⟨b, off, none⟩ ∧ wr.cell? ⟨b, off + i, none⟩ = some (.int .i64 s) := by
  have hl := (List.getElem?_eq_some_iff.1 hi).1
  obtain ⟨b, off, e, hb, hne, hc⟩ := h.resolve_left (by omega)
  exact ⟨b, off, e, (hk.cell (by omega) (fun hx => by rcases hx with hx | hx; exact hne hx; omega)).trans (hc i s hi)⟩
end Go.Proofs.YtfjocafepigijaaDoor.Cm
/- What a step and what is settled make of good rows, as the walk of costs takes it. No conditions beyond that the machine is right. -/
namespace Go.Proofs.YtfjocafepigijaaDoor.Cn
open Go.RowKit Mv Wk Qp Sk Po Ps Wd Se Mp St Wg Nw Cm
open CR (nc)

theorem _root_.Go.Proofs.YtfjocafepigijaaDoor.Cm.Ch.drew {w wr : World} {F K0 mb sb S capS n : Nat} {A : List Arc} {G : Int → Int → Value} {vq va vr : Value} {la lr : List RowH} {C : Nat} {H : List Nat} (h : Ch w wr F K0 mb sb S capS n A G vq va vr la lr C H) : Ch w wr.drew F K0 mb sb S capS n A G vq va vr la lr C H :=
  h.kept (X := fun _ => False) ⟨rfl, rfl, rfl, Nat.le_refl _, fun _ _ _ => rfl⟩ (fun _ _ hx => hx.elim) h.cb.field h.cb.queue h.here
def FineL (m : M) (inn out : List Int) (S i : Nat) (l : List RowH) : Prop := ∀ j x, l[j]? = some x → Fine m inn out S i j x.2.2
theorem FineL.snoc {m : M} {inn out : List Int} {S i j : Nat} {l : List RowH} {x : RowH} (h : FineL m inn out S i l) (hl : l.length = j) (hx : Fine m inn out S i j x.2.2) : FineL m inn out S i (l ++ [x]) := by
  intro k y hy
  by_cases hk : k < l.length
  · rw [List.getElem?_append_left hk] at hy
    exact h k y hy
  · rw [List.getElem?_append_right (by omega)] at hy
    obtain ⟨h0, e⟩ := List.getElem?_eq_some_iff.1 hy
    simp at h0
    have : k = j := by omega
    subst this
    subst hl
    simp at e
    subst e
    exact hx
theorem fine_small {m : M} {inn out : List Int} {S i j : Nat} {R : List Nat} (h : Fine m inn out S i j R) (hS : S ≤ 40) (hp : i + j + 1 ≤ 122) : ∀ s, cv R s < far → cv R s ≤ 100000000000 := fun s hs => by
  have h1 := h.top2 s hs
  have h2 := Bd_le (S := S) hS hp
  omega
theorem far_big : 1000000000000 < far := by unfold far; omega
theorem mem_lab {A : List Arc} {a b : Int} {x : Arc} (h : x ∈ lab A a b) : x.2.2.1 = a ∧ x.2.2.2.1 = b := by
  have := (List.mem_filter.1 h).2
  simpa using this
theorem mv1 {A : List Arc} {inn out : List Int} {i j : Nat} {a : Int} (h : inn[i]? = some a) (ha : 1 ≤ a) : ∀ x ∈ lab A a 0, Wk.Move inn out true x i j (i + 1) j := fun x hx => by
  obtain ⟨e1, e2⟩ := mem_lab hx
  exact ⟨.inr ⟨by omega, by rw [e1]; exact h, rfl⟩, .inl ⟨.inl e2, rfl⟩⟩
theorem mv2 {A : List Arc} {inn out : List Int} {i j : Nat} {b : Int} (h : out[j]? = some b) (hb : 1 ≤ b) : ∀ x ∈ lab A 0 b, Wk.Move inn out true x i j i (j + 1) := fun x hx => by
  obtain ⟨e1, e2⟩ := mem_lab hx
  exact ⟨.inl ⟨e1, rfl⟩, .inr ⟨by omega, rfl, by rw [e2]; exact h, rfl⟩⟩
theorem mv3 {A : List Arc} {inn out : List Int} {i j : Nat} {a b : Int} (h : inn[i]? = some a) (ha : 1 ≤ a) (h' : out[j]? = some b) (hb : 1 ≤ b) : ∀ x ∈ lab A a b, Wk.Move inn out true x i j (i + 1) (j + 1) := fun x hx => by
  obtain ⟨e1, e2⟩ := mem_lab hx
  exact ⟨.inr ⟨by omega, by rw [e1]; exact h, rfl⟩, .inr ⟨by omega, rfl, by rw [e2]; exact h', rfl⟩⟩
/-- a step, in one word -/
theorem step_of {m : M} {inn out : List Int} {S i j i' j' : Nat} {Rf H H' : List Nat} {a b : Int} (hr : Right m S) (hS : S ≤ 40) (hp2 : i + j ≤ 122) (hg : Fine m inn out S i' j' Rf) (hp : Pre S (Pl m inn out i j) (Bd S (i + j)) H) (hs : Stp S (lab m.arcs a b) Rf H (lab m.arcs a b).length H') (hij : i' + j' + 1 ≤ i + j) (hm : ∀ x ∈ lab m.arcs a b, Wk.Move inn out true x i' j' i j) :
    Pre S (Pl m inn out i j) (Bd S (i + j)) H' ∧ (∀ s, cv H' s ≤ cv H s) ∧ From m inn out H' a b i' j' := by
  obtain ⟨h1, h2, h3⟩ := stepped hr hg hp hs hij hm
  refine ⟨h1, h2, fun x hx f t W c e1 e2 e3 hR => ?_⟩
  have h4 := h3 x hx f t W c e1 e2 e3 hR
  have h5 := Bd_le (S := S) hS hp2
  have h6 := far_big
  omega
theorem silent {m : M} {inn out : List Int} {i j : Nat} : ∀ a ∈ m.arcs, ∀ f t c W : Nat, a.2.2.1 = 0 → a.2.2.2.1 = 0 → a.1 = (f : Int) → a.2.1 = (t : Int) → a.2.2.2.2 = (W : Int) → Pl m inn out i j f c → Pl m inn out i j t (c + W) := by
  intro a ha f t c W h1 h2 h3 h4 h5 hp
  obtain ⟨k, hk, rfl⟩ := List.getElem_of_mem ha
  obtain ⟨n, hn⟩ := hp
  exact ⟨n + 1, f, i, j, c, k, hk, hn, h3, h4, ⟨.inl ⟨h1, rfl⟩, .inl ⟨.inl h2, rfl⟩⟩, by rw [h5]; omega⟩
theorem right_all {m : M} {S : Nat} (hr : Right m S) : ∀ a ∈ m.arcs, arcB (S : Int) a = true := fun a ha => by
  obtain ⟨k, hk, rfl⟩ := List.getElem_of_mem ha
  have := hr.2.2 k hk
  rw [hr.1] at this
  exact this
theorem settled_of {m : M} {inn out : List Int} {S i j : Nat} {H R : List Nat} (hr : Right m S) (hS : S ≤ 40) (hp : i + j ≤ 122) (hs : Settled m.arcs S (Pl m inn out i j) (Bd S (i + j)) H R) (h0 : i = 0 → j = 0 → cv H 0 = 0) (hc : Comp m inn out i j H) : Fine m inn out S i j R :=
  settled hr hs h0 hc (by have h1 := Bd_le (S := S) hS hp; have h2 := far_big; omega)
/-- the first place -/
theorem pre_first {m : M} {inn out : List Int} {S : Nat} (h0 : 0 < S) : Pre S (Pl m inn out 0 0) (Bd S (0 + 0)) ((List.replicate S far).set 0 0) ∧ cv ((List.replicate S far).set 0 0) 0 = 0 := by
  have hl : 0 < (List.replicate S far).length := by simpa using h0
  have e : ∀ s, cv ((List.replicate S far).set 0 0) s = if 0 = s then 0 else far := fun s => by rw [cv_set _ 0 0 s hl, cv_none]
  refine ⟨⟨by simp, fun s => ?_, fun s _ hd => ?_, fun s hd => ?_⟩, by rw [e]; rfl⟩
  · rw [e]; split <;> simp
  · rw [e] at hd ⊢
    split at hd
    · rename_i h
      subst h
      rw [if_pos rfl]
      exact ⟨0, rfl, rfl, rfl, rfl⟩
    · exact absurd hd (Nat.lt_irrefl _)
  · rw [e] at hd ⊢
    split at hd
    · rw [if_pos (by assumption)]; omega
    · exact absurd hd (Nat.lt_irrefl _)
theorem compB {m : M} {inn out : List Int} {j : Nat} {b : Int} {H : List Nat} (hb : out[j]? = some b) (h : From m inn out H 0 b 0 j) : Comp m inn out 0 (j + 1) H :=
  comp_of (fun _ _ h => by omega) (fun j2 b2 hj hb2 => by
    obtain rfl : j2 = j := by omega
    rw [hb] at hb2
    cases hb2
    exact h) (fun _ _ _ _ h => by omega)
theorem compC {m : M} {inn out : List Int} {i : Nat} {a : Int} {H : List Nat} (ha : inn[i]? = some a) (h : From m inn out H a 0 i 0) : Comp m inn out (i + 1) 0 H :=
  comp_of (fun i2 a2 hi ha2 => by
    obtain rfl : i2 = i := by omega
    rw [ha] at ha2
    cases ha2
    exact h) (fun _ _ h => by omega) (fun _ _ _ _ _ h => by omega)
theorem compD {m : M} {inn out : List Int} {i j : Nat} {a b : Int} {H1 H2 H3 : List Nat} (ha : inn[i]? = some a) (hb : out[j]? = some b) (h1 : From m inn out H1 a 0 i (j + 1)) (h2 : From m inn out H2 0 b (i + 1) j) (h3 : From m inn out H3 a b i j) (l2 : ∀ s, cv H2 s ≤ cv H1 s) (l3 : ∀ s, cv H3 s ≤ cv H2 s) : Comp m inn out (i + 1) (j + 1) H3 :=
  comp_of (fun i2 a2 hi ha2 => by
    obtain rfl : i2 = i := by omega
    rw [ha] at ha2
    cases ha2
    exact (h1.le l2).le l3) (fun j2 b2 hj hb2 => by
    obtain rfl : j2 = j := by omega
    rw [hb] at hb2
    cases hb2
    exact h2.le l3) (fun i2 j2 a2 b2 hi hj ha2 hb2 => by
    obtain rfl : i2 = i := by omega
    obtain rfl : j2 = j := by omega
    rw [ha] at ha2
    rw [hb] at hb2
    cases ha2
    cases hb2
    exact h3)
theorem info26 : (Tryd.prog.info? 26).map (fun i => (i.zero, i.size, i.bytes)) = some (some (.slice none 0 0), 1, 24) := by kernel_rfl
theorem slice_one (v : Value) (h : v.oneCell' = true) : ∀ u ∈ [v], u.oneCell' = true := fun u hu => by
  simp only [List.mem_singleton] at hu
  rw [hu]
  exact h
end Go.Proofs.YtfjocafepigijaaDoor.Cn
