/- How the rows of least costs lie in memory while they are made. No conditions. -/
import Derived.Test.YtfjocafepigijaaDoorNwM
import Derived.Test.YtfjocafepigijaaDoorCeM
import Derived.WalkKit
namespace Go.Proofs.YtfjocafepigijaaDoor.Cm
open Go.RowKit Mv Wk Qp Sk Po Ps Wd Se Mp St Wg Nw
open CR (nc)

abbrev RowH := Nat × Nat × List Nat
def hdr (S : Nat) (x : RowH) : Value := .slice (some ⟨x.1, 0, none⟩) S x.2.1
/-- a list of rows -/
structure Tb (w : World) (K0 S : Nat) (v : Value) (l : List RowH) : Prop where
  own : w.ownsRow K0 26 1 v l.length (l.map (hdr S))
  rows : ∀ x ∈ l, w.ownsRow K0 3 1 (hdr S x) S (nc x.2.2)
theorem own_ty {w : World} {base e size n : Nat} {v : Value} {xs : List Value} (h : w.ownsRow base e size v n xs) {k : Nat} (hk : v.ownBlock = some k) : ∃ cur, w.heap[k]? = some (.cells cur e (0, 0)) := by
  rcases h.2 with ⟨rfl, _⟩ | ⟨g, cap, cur, rfl, _, hg, _⟩
  · simp [Value.ownBlock] at hk
  · simp [Value.ownBlock] at hk
    subst hk
    exact ⟨cur, hg⟩
theorem ty_ne {w : World} {k : Nat} {c1 c2 : Array Value} {e1 e2 : TypeId} (h1 : w.heap[k]? = some (.cells c1 e1 (0, 0))) (h2 : w.heap[k]? = some (.cells c2 e2 (0, 0))) (hne : e1 ≠ e2) : False := by
  rw [h1] at h2
  simp only [Option.some.injEq, Obj.cells.injEq] at h2
  exact hne h2.2.1
theorem own_kp2 {w w' : World} {base e size n : Nat} {v : Value} {xs : List Value} {X : Nat → Prop} (h : w.ownsRow base e size v n xs) (hk : Kp X w w') (hx : ∀ k, v.ownBlock = some k → ¬ X k) : w'.ownsRow base e size v n xs := by
  refine ⟨h.1, ?_⟩
  rcases h.2 with hn | ⟨g, cap, cur, rfl, hb, hg, rest⟩
  · exact .inl hn
  · exact .inr ⟨g, cap, cur, rfl, hb, (hk.block g (Array.getElem?_eq_some_iff.1 hg).1 (hx g rfl)).trans hg, rest⟩
theorem Tb.kept {w w' : World} {K0 S : Nat} {v : Value} {l : List RowH} {X : Nat → Prop} (h : Tb w K0 S v l) (hk : Kp X w w') (h1 : ∀ k, v.ownBlock = some k → ¬ X k) (h2 : ∀ x ∈ l, ¬ X x.1) : Tb w' K0 S v l :=
  ⟨own_kp2 h.own hk h1, fun x hx => own_kp2 (h.rows x hx) hk (fun k hk' => by simp [hdr, Value.ownBlock] at hk'; subst hk'; exact h2 x hx)⟩
theorem Tb.nil (w : World) (K0 S : Nat) : Tb w K0 S nilS [] := ⟨World.ownsRow_nil _ _ _ _, fun _ h => (List.not_mem_nil h).elim⟩
theorem Tb.lt {w : World} {K0 S : Nat} {v : Value} {l : List RowH} (h : Tb w K0 S v l) : ∀ x ∈ l, x.1 < w.heap.size := fun x hx => ((h.rows x hx).lt x.1 rfl).2

/-- what stands in memory between two places -/
structure Cb (w wr : World) (F K0 mb sb S capS n : Nat) (A : List Arc) (G : Int → Int → Value) (vq va vr : Value) (la lr : List RowH) : Prop where
  field : IsF wr F (.int .i64 S) (.map (some mb)) (.slice (some ⟨sb, 0, none⟩) S capS) vq
  queue : wr.ownsRow K0 192 2 vq 0 (fcs [])
  fld : Fld wr F K0 mb sb S n A G
  ta : Tb wr K0 S va la
  tr : Tb wr K0 S vr lr
  ne : ∀ k, vr.ownBlock = some k → va.ownBlock ≠ some k
  kept : Kp (fun k => k = F ∨ K0 ≤ k) w wr
/-- .. and the row that is being made -/
structure Ch (w wr : World) (F K0 mb sb S capS n : Nat) (A : List Arc) (G : Int → Int → Value) (vq va vr : Value) (la lr : List RowH) (C : Nat) (H : List Nat) : Prop where
  cb : Cb w wr F K0 mb sb S capS n A G vq va vr la lr
  here : wr.ownsRow K0 3 1 (.slice (some ⟨C, 0, none⟩) S S) S (nc H)
  new : ∀ x ∈ la ++ lr, x.1 ≠ C
theorem Cb.carried {w wr w' : World} {F K0 mb sb S capS n : Nat} {A : List Arc} {G : Int → Int → Value} {vq vq' va vr : Value} {la lr : List RowH} {C : Nat} {X : Nat → Prop} (h : Cb w wr F K0 mb sb S capS n A G vq va vr la lr) (hk : Kp X wr w') (hX : ∀ k, k < wr.heap.size → X k → k = F ∨ k = C ∨ vq.ownBlock = some k)
    (hC : (∃ cur, wr.heap[C]? = some (.cells cur 3 (0, 0))) ∨ wr.heap.size ≤ C) (hCK : K0 ≤ C) (hn : ∀ x ∈ la ++ lr, x.1 ≠ C) (h1 : IsF w' F (.int .i64 S) (.map (some mb)) (.slice (some ⟨sb, 0, none⟩) S capS) vq') (h2 : w'.ownsRow K0 192 2 vq' 0 (fcs [])) : Cb w w' F K0 mb sb S capS n A G vq' va vr la lr := by
  have hq : ∀ k, vq.ownBlock = some k → K0 ≤ k := fun k hk => (h.queue.lt k hk).1
  have hXK : ∀ k, k < K0 → k ≠ F → ¬ X k := fun k hk1 hne hx => by
    rcases hX k (Nat.lt_of_lt_of_le hk1 h.fld.sils.size) hx with h3 | h3 | h3
    · exact hne h3
    · omega
    · have := hq k h3; omega
  have hv : ∀ {v : Value} {l : List RowH}, Tb wr K0 S v l → ∀ k, v.ownBlock = some k → ¬ X k := fun {v l} ht k hk1 hx => by
    obtain ⟨cur, hc⟩ := own_ty ht.own hk1
    rcases hX k (ht.own.lt k hk1).2 hx with h3 | h3 | h3
    · subst h3; exact ty_ne hc h.field (by decide)
    · subst h3
      rcases hC with ⟨c2, hC⟩ | hC
      · exact ty_ne hc hC (by decide)
      · have := (ht.own.lt k hk1).2; omega
    · obtain ⟨c2, hc2⟩ := own_ty h.queue h3
      exact ty_ne hc hc2 (by decide)
  have hr : ∀ {v : Value} {l : List RowH}, Tb wr K0 S v l → (∀ x ∈ l, x.1 ≠ C) → ∀ x ∈ l, ¬ X x.1 := fun {v l} ht hnn x hxl hx => by
    obtain ⟨cur, hc⟩ := own_ty (ht.rows x hxl) (k := x.1) rfl
    rcases hX x.1 (ht.lt x hxl) hx with h3 | h3 | h3
    · rw [h3] at hc; exact ty_ne hc h.field (by decide)
    · exact hnn x hxl h3
    · obtain ⟨c2, hc2⟩ := own_ty h.queue h3
      exact ty_ne hc hc2 (by decide)
  refine ⟨h1, h2, h.fld.kept hk hXK, h.ta.kept hk (hv h.ta) (hr h.ta (fun x hx => hn x (List.mem_append_left _ hx))), h.tr.kept hk (hv h.tr) (hr h.tr (fun x hx => hn x (List.mem_append_right _ hx))), h.ne, ?_⟩
  refine h.kept.trans (hk.mono (fun k hk1 hx => ?_))
  rcases hX k hk1 hx with h3 | h3 | h3
  · exact .inl h3
  · exact .inr (by omega)
  · exact .inr (hq k h3)
theorem Ch.kept {w wr w' : World} {F K0 mb sb S capS n : Nat} {A : List Arc} {G : Int → Int → Value} {vq vq' va vr : Value} {la lr : List RowH} {C : Nat} {H H' : List Nat} {X : Nat → Prop} (h : Ch w wr F K0 mb sb S capS n A G vq va vr la lr C H) (hk : Kp X wr w') (hX : ∀ k, k < wr.heap.size → X k → k = F ∨ k = C ∨ vq.ownBlock = some k)
    (h1 : IsF w' F (.int .i64 S) (.map (some mb)) (.slice (some ⟨sb, 0, none⟩) S capS) vq') (h2 : w'.ownsRow K0 192 2 vq' 0 (fcs [])) (h3 : w'.ownsRow K0 3 1 (.slice (some ⟨C, 0, none⟩) S S) S (nc H')) : Ch w w' F K0 mb sb S capS n A G vq' va vr la lr C H' :=
  ⟨h.cb.carried (C := C) hk hX (.inl (own_ty h.here rfl)) (h.here.lt C rfl).1 h.new h1 h2, h3, h.new⟩
/-- a row is laid -/
theorem Cb.laid {w wr w' : World} {F K0 mb sb S capS n : Nat} {A : List Arc} {G : Int → Int → Value} {vq va vr : Value} {la lr : List RowH} {H : List Nat} (h : Cb w wr F K0 mb sb S capS n A G vq va vr la lr) (hb : Below wr.heap.size wr w') (ho : w'.ownsRow wr.heap.size 3 1 (.slice (some ⟨wr.heap.size, 0, none⟩) S S) S (nc H)) : Ch w w' F K0 mb sb S capS n A G vq va vr la lr wr.heap.size H := by
  have hk : Kp (fun _ => False) wr w' := ⟨hb.os, hb.tape, hb.output, hb.size, fun k hk _ => hb.block k hk⟩
  have hn : ∀ x ∈ la ++ lr, x.1 ≠ wr.heap.size := fun x hx => by
    rcases List.mem_append.1 hx with hx | hx
    · have := h.ta.lt x hx; omega
    · have := h.tr.lt x hx; omega
  refine ⟨h.carried (C := wr.heap.size) hk (fun k _ hx => hx.elim) (.inr (Nat.le_refl _)) h.fld.sils.size hn (h.field.kept hk (fun h => h)) (own_kp2 h.queue hk (fun _ _ h => h)), ?_, hn⟩
  rcases ho with ⟨h1, h2⟩
  refine ⟨h1, ?_⟩
  rcases h2 with h2 | ⟨g, cap, cur, hv, hg, rest⟩
  · exact .inl h2
  · exact .inr ⟨g, cap, cur, hv, Nat.le_trans h.fld.sils.size hg, rest⟩
theorem Ch.store {w wr : World} {F K0 mb sb S capS n : Nat} {A : List Arc} {G : Int → Int → Value} {vq va vr : Value} {la lr : List RowH} {C : Nat} {H : List Nat} (h : Ch w wr F K0 mb sb S capS n A G vq va vr la lr C H) (t c : Nat) : Ch w (wr.setCell ⟨C, t, none⟩ (.int .i64 (c : Int))) F K0 mb sb S capS n A G vq va vr la lr C (H.set t c) := by
  obtain ⟨cur, hc⟩ := own_ty h.here (k := C) rfl
  have hCF : F ≠ C := fun e => by subst e; exact ty_ne hc h.cb.field (by decide)
  have hk : Kp (fun k => k = C) wr (wr.setCell ⟨C, t, none⟩ (.int .i64 (c : Int))) := (Kp.refl _ wr).setCell _ _ _ (fun _ => rfl)
  refine h.kept hk (fun k _ hx => .inr (.inl hx)) (h.cb.field.kept hk hCF) (own_kp2 h.cb.queue hk (fun k hk1 hx => ?_)) (put1 h.here t c)
  obtain ⟨c2, hc2⟩ := own_ty h.cb.queue hk1
  subst hx
  exact ty_ne hc hc2 (by decide)
theorem Ch.stepped {w wr w' : World} {F K0 mb sb S capS n : Nat} {A : List Arc} {G : Int → Int → Value} {vq va vr : Value} {la lr : List RowH} {C : Nat} {H H' : List Nat} (h : Ch w wr F K0 mb sb S capS n A G vq va vr la lr C H) (ho : w'.ownsRow K0 3 1 (.slice (some ⟨C, 0, none⟩) S S) S (nc H')) (hk : Kp (fun k => k = C) wr w') : Ch w w' F K0 mb sb S capS n A G vq va vr la lr C H' := by
  obtain ⟨cur, hc⟩ := own_ty h.here (k := C) rfl
  have hCF : F ≠ C := fun e => by subst e; exact ty_ne hc h.cb.field (by decide)
  refine h.kept hk (fun k _ hx => .inr (.inl hx)) (h.cb.field.kept hk hCF) (own_kp2 h.cb.queue hk (fun k hk1 hx => ?_)) ho
  obtain ⟨c2, hc2⟩ := own_ty h.cb.queue hk1
  subst hx
  exact ty_ne hc hc2 (by decide)
theorem Ch.mem {w wr : World} {F K0 mb sb S capS n : Nat} {A : List Arc} {G : Int → Int → Value} {vq va vr : Value} {la lr : List RowH} {C : Nat} {H : List Nat} (h : Ch w wr F K0 mb sb S capS n A G vq va vr la lr C H) : Mem wr wr F K0 C S S (.int .i64 S) (.map (some mb)) (.slice (some ⟨sb, 0, none⟩) S capS) vq vq H [] := by
  obtain ⟨cur, hc⟩ := own_ty h.here (k := C) rfl
  refine ⟨h.cb.field, h.cb.queue, h.here, fun e => ?_, .inl rfl, Kp.refl _ _⟩
  obtain ⟨c2, hc2⟩ := own_ty h.cb.queue e
  exact ty_ne hc hc2 (by decide)
theorem Ch.settled {w wr w' : World} {F K0 mb sb S capS n : Nat} {A : List Arc} {G : Int → Int → Value} {vq vq' va vr : Value} {la lr : List RowH} {C : Nat} {H R : List Nat} (h : Ch w wr F K0 mb sb S capS n A G vq va vr la lr C H) (hm : Mem wr w' F K0 C S S (.int .i64 S) (.map (some mb)) (.slice (some ⟨sb, 0, none⟩) S capS) vq vq' R []) : Ch w w' F K0 mb sb S capS n A G vq' va vr la lr C R :=
  h.kept hm.kept (fun _ _ hx => hx) hm.field hm.queue hm.row
/-- the row that is made joins the others -/
theorem Ch.joined {w wr w' : World} {F K0 mb sb S capS n : Nat} {A : List Arc} {G : Int → Int → Value} {vq va vr vr' : Value} {la lr : List RowH} {C : Nat} {R : List Nat} {o : Obj} (h : Ch w wr F K0 mb sb S capS n A G vq va vr la lr C R) (ho : w'.ownsRow K0 26 1 vr' (lr.length + 1) (lr.map (hdr S) ++ [.slice (some ⟨C, 0, none⟩) S S])) (hg : (wr.alloc o).grownBy w' vr.ownBlock) (hl : vr'.ownBlock = vr.ownBlock ∨ vr'.ownBlock = some (wr.alloc o).heap.size) :
    Cb w w' F K0 mb sb S capS n A G vq va vr' la (lr ++ [(C, S, R)]) := by
  have hk : Kp (fun k => vr.ownBlock = some k) wr w' := ((Kp.refl _ wr).alloc o).grown hg (fun k hk _ => hk)
  have hty : ∀ k, vr.ownBlock = some k → ∃ cur, wr.heap[k]? = some (.cells cur 26 (0, 0)) := fun k hk => own_ty h.cb.tr.own hk
  have nF : ¬ vr.ownBlock = some F := fun e => by obtain ⟨c, hc⟩ := hty F e; exact ty_ne hc h.cb.field (by decide)
  have nq : ∀ k, vq.ownBlock = some k → ¬ vr.ownBlock = some k := fun k hk e => by
    obtain ⟨c, hc⟩ := hty k e
    obtain ⟨c2, hc2⟩ := own_ty h.cb.queue hk
    exact ty_ne hc hc2 (by decide)
  have nr : ∀ {v : Value} {l : List RowH}, Tb wr K0 S v l → ∀ x ∈ l, ¬ vr.ownBlock = some x.1 := fun {v l} ht x hx e => by
    obtain ⟨c, hc⟩ := hty _ e
    obtain ⟨c2, hc2⟩ := own_ty (ht.rows x hx) (k := x.1) rfl
    exact ty_ne hc hc2 (by decide)
  have nC : ¬ vr.ownBlock = some C := fun e => by
    obtain ⟨c, hc⟩ := hty _ e
    obtain ⟨c2, hc2⟩ := own_ty h.here (k := C) rfl
    exact ty_ne hc hc2 (by decide)
  have nK : ∀ k, k < K0 → k ≠ F → ¬ vr.ownBlock = some k := fun k hk1 _ e => by have := (h.cb.tr.own.lt k e).1; omega
  refine ⟨h.cb.field.kept hk nF, own_kp2 h.cb.queue hk nq, h.cb.fld.kept hk nK, h.cb.ta.kept hk (fun k hk1 e => h.cb.ne k e hk1) (nr h.cb.ta), ⟨?_, ?_⟩, ?_, ?_⟩
  · rw [List.length_append, List.map_append]
    exact ho
  · intro x hx
    rcases List.mem_append.1 hx with hx | hx
    · exact own_kp2 (h.cb.tr.rows x hx) hk (fun k hk1 => by simp [hdr, Value.ownBlock] at hk1; subst hk1; exact nr h.cb.tr x hx)
    · simp only [List.mem_singleton] at hx
      subst hx
      exact own_kp2 h.here hk (fun k hk1 => by cases hk1; exact nC)
  · intro k hk1 e
    rcases hl with hl | hl
    · exact h.cb.ne k (hl ▸ hk1) e
    · rw [hl] at hk1
      cases hk1
      have := (h.cb.ta.own.lt _ e).2
      simp at this
      omega
  · exact h.cb.kept.trans (hk.mono (fun k _ e => .inr (h.cb.tr.own.lt k e).1))
/-- the place ahead in the first text -/
theorem Cb.turn {w wr : World} {F K0 mb sb S capS n : Nat} {A : List Arc} {G : Int → Int → Value} {vq va vr : Value} {la lr : List RowH} (h : Cb w wr F K0 mb sb S capS n A G vq va vr la lr) : Cb w wr F K0 mb sb S capS n A G vq vr nilS lr [] :=
  ⟨h.field, h.queue, h.fld, h.tr, Tb.nil _ _ _, fun k hk => by simp [nilS, Value.ownBlock] at hk, h.kept⟩
theorem Cb.drop {w wr : World} {F K0 mb sb S capS n : Nat} {A : List Arc} {G : Int → Int → Value} {vq va vr : Value} {la lr : List RowH} (h : Cb w wr F K0 mb sb S capS n A G vq va vr la lr) : Cb w wr F K0 mb sb S capS n A G vq nilS vr [] lr :=
  ⟨h.field, h.queue, h.fld, Tb.nil _ _ _, h.tr, fun k _ e => by simp [nilS, Value.ownBlock] at e, h.kept⟩
/-- a header of the list of rows -/
theorem Tb.cell {w : World} {K0 S g cap : Nat} {l : List RowH} (h : Tb w K0 S (.slice (some ⟨g, 0, none⟩) l.length cap) l) {j : Nat} {x : RowH} (hx : l[j]? = some x) : w.cell? ⟨g, j, none⟩ = some (.slice (some ⟨x.1, 0, none⟩) S x.2.1) := by
  have hj := (List.getElem?_eq_some_iff.1 hx).1
  rw [h.own.cellAt j (by omega), List.getElem?_map, hx]
  rfl
/-- a list of numbers that is only read -/
def LiesI (w : World) (F K0 : Nat) (a : Option Addr) (l : List Int) : Prop := l.length = 0 ∨ ∃ b off, a = some ⟨b, off, none⟩ ∧ b < K0 ∧ b ≠ F ∧ ∀ j u, l[j]? = some u → w.cell? ⟨b, off + j, none⟩ = some (.int .i64 u)
theorem LiesI.at {w wr : World} {F K0 : Nat} {a : Option Addr} {l : List Int} (h : LiesI w F K0 a l) (hk : Kp (fun k => k = F ∨ K0 ≤ k) w wr) (hs : K0 ≤ w.heap.size) {i : Nat} {s : Int} (hi : l[i]? = some s) : ∃ b off, a = some ⟨b, off, none⟩ ∧ wr.cell? ⟨b, off + i, none⟩ = some (.int .i64 s) := by
  have hl := (List.getElem?_eq_some_iff.1 hi).1
  obtain ⟨b, off, e, hb, hne, hc⟩ := h.resolve_left (by omega)
  exact ⟨b, off, e, (hk.cell (by omega) (fun hx => by rcases hx with hx | hx; exact hne hx; omega)).trans (hc i s hi)⟩
end Go.Proofs.YtfjocafepigijaaDoor.Cm
/- Sets of states as lists of yes and no: how one lies, to be read and as the call's own; a right machine in plain words; an arc read. No conditions. -/
namespace Go.Proofs.YtfjocafepigijaaDoor.Su
open Go.RowKit Mv Po Ps Cm

theorem below_al (W : World) (o : Obj) : Below W.heap.size W (W.alloc o) := (Below.refl _ _).alloc (Nat.le_refl _) _
theorem lt_at {w : World} {g : Nat} {o : Obj} (h : w.heap[g]? = some o) : g < w.heap.size := (Array.getElem?_eq_some_iff.1 h).1
theorem oslice {w : World} {base e size n : Nat} {v : Value} {xs : List Value} (h : w.ownsRow base e size v n xs) : ∃ a cap, v = .slice a n cap := by
  rcases h.2 with ⟨rfl, rfl⟩ | ⟨g, cap, cur, hv, _⟩
  · exact ⟨none, 0, rfl⟩
  · exact ⟨_, _, hv⟩
theorem kp_below {w w' : World} (h : Below w.heap.size w w') (X : Nat → Prop) : Kp X w w' := ⟨h.os, h.tape, h.output, h.size, fun k hk _ => h.block k hk⟩
theorem below_kp {w w1 w2 : World} {X : Nat → Prop} (h : Below w.heap.size w w1) (k : Kp X w1 w2) (hX : ∀ b, b < w.heap.size → ¬ X b) : Below w.heap.size w w2 :=
  ⟨k.os.trans h.os, k.tape.trans h.tape, k.output.trans h.output, Nat.le_trans h.size k.size, fun b hb => (k.block b (Nat.lt_of_lt_of_le hb h.size) (hX b hb)).trans (h.block b hb)⟩
theorem own_le {w : World} {b b' e s n : Nat} {v : Value} {xs : List Value} (h : w.ownsRow b e s v n xs) (hb : b' ≤ b) : w.ownsRow b' e s v n xs := by
  refine ⟨h.1, ?_⟩
  rcases h.2 with h' | ⟨g, cap, cur, hv, hg, hrest⟩
  · exact .inl h'
  · exact .inr ⟨g, cap, cur, hv, Nat.le_trans hb hg, hrest⟩
/-- a right machine -/
structure Gd (S : Nat) (A : List (Int × Int × Int × Int × Int)) : Prop where
  pos : 0 < S
  few : S ≤ 3000
  len : A.length ≤ 20000
  arc : ∀ k (h : k < A.length), arcB (S : Int) A[k] = true
theorem Gd.nat {S : Nat} {A : List (Int × Int × Int × Int × Int)} (h : Gd S A) {k : Nat} (hk : k < A.length) : ∃ f t i o x : Nat, A[k] = ((f : Int), (t : Int), (i : Int), (o : Int), (x : Int)) ∧ f < S ∧ t < S ∧ i ≤ 60 ∧ o ≤ 60 ∧ x ≤ 1000000 := by
  have h1 := h.arc k hk
  unfold arcB at h1
  have h1 := of_decide_eq_true h1
  obtain ⟨a1, a2, a3, a4, a5, hA⟩ : ∃ a1 a2 a3 a4 a5, A[k] = (a1, a2, a3, a4, a5) := ⟨_, _, _, _, _, rfl⟩
  rw [hA] at h1 ⊢
  dsimp only at h1
  refine ⟨a1.toNat, a2.toNat, a3.toNat, a4.toNat, a5.toNat, ?_, by omega, by omega, by omega, by omega, by omega⟩
  simp only [Prod.mk.injEq]
  omega
/-- an arc's five cells -/
theorem arc_cells {w : World} {a : Option Addr} {c : Nat} {A : List (Int × Int × Int × Int × Int)} (h : Mv.Row w (.slice a A.length c) 5 A.length (acs A)) {k : Nat} (hk : k < A.length) {f t i o x : Int} (he : A[k] = (f, t, i, o, x)) :
    ∃ b off, a = some ⟨b, off, none⟩ ∧ b < w.heap.size ∧ w.cell? ⟨b, off + k * 5, none⟩ = some (.int .i64 f) ∧ w.cell? ⟨b, off + k * 5 + 1, none⟩ = some (.int .i64 t) ∧ w.cell? ⟨b, off + k * 5 + 2, none⟩ = some (.int .i64 i) ∧ w.cell? ⟨b, off + k * 5 + 3, none⟩ = some (.int .i64 o) ∧ w.cell? ⟨b, off + k * 5 + 4, none⟩ = some (.int .i64 x) := by
  obtain ⟨_, a', c', e, _, hx⟩ := h
  rw [Value.slice.injEq] at e
  obtain ⟨rfl, _, rfl⟩ := e
  obtain ⟨b, off, rfl, hb, hc⟩ := hx.resolve_left (by omega)
  have u := acs_at A k hk
  rw [he] at u
  have p1 := hc _ _ u.2.1
  have p2 := hc _ _ u.2.2.1
  have p3 := hc _ _ u.2.2.2.1
  have p4 := hc _ _ u.2.2.2.2
  rw [← Nat.add_assoc] at p1 p2 p3 p4
  exact ⟨b, off, rfl, hb, hc _ _ u.1, p1, p2, p3, p4⟩
end Go.Proofs.YtfjocafepigijaaDoor.Su
/- How a field lies in memory while it is made: the arcs of each label and of each state lie in rows apart. No conditions. -/
namespace Go.Proofs.YtfjocafepigijaaDoor.Nm
open Go.RowKit Mv Qp Sk Po Ps Wd Se Mp St Cm

abbrev Key := Int × Int × Int
/-- where an arc lies -/
def key (a : Arc) : Key := if a.2.2.1 = 0 ∧ a.2.2.2.1 = 0 then (0, 0, a.1) else (a.2.2.1, a.2.2.2.1, 0)
def ar (L : List Arc) (k : Key) : List Arc := L.filter fun a => key a == k
theorem ar_snoc (L : List Arc) (a : Arc) (k : Key) : ar (L ++ [a]) k = if key a = k then ar L k ++ [a] else ar L k := by
  unfold ar
  rw [List.filter_append]
  split
  · rename_i h; simp [h]
  · rename_i h; simp [h]
theorem ar_sil (L : List Arc) (f : Nat) : ar L (0, 0, (f : Int)) = sil L f := by
  unfold ar sil
  apply List.filter_congr
  intro a _
  unfold key
  by_cases h : a.2.2.1 = 0 ∧ a.2.2.2.1 = 0
  · rw [if_pos h, Bool.eq_iff_iff]
    simp [h.1, h.2]
  · rw [if_neg h]
    have h1 : ¬ ((a.2.2.1, a.2.2.2.1, (0 : Int)) = (0, 0, (f : Int))) := fun e => h (by simp only [Prod.mk.injEq] at e; exact ⟨e.1, e.2.1⟩)
    have h2 : (a.2.2.1 == 0 && a.2.2.2.1 == 0 && a.1 == (f : Int)) = false := by
      rw [Bool.eq_false_iff]
      intro e
      simp only [Bool.and_eq_true, beq_iff_eq] at e
      exact h e.1
    rw [h2]
    exact beq_eq_false_iff_ne.2 h1
theorem ar_lab (L : List Arc) (i o : Int) (h0 : ¬ (i = 0 ∧ o = 0)) : ar L (i, o, 0) = lab L i o := by
  unfold ar lab
  apply List.filter_congr
  intro a _
  unfold key
  by_cases h : a.2.2.1 = 0 ∧ a.2.2.2.1 = 0
  · rw [if_pos h]
    have h1 : ¬ (((0 : Int), (0 : Int), a.1) = (i, o, 0)) := fun e => h0 (by simp only [Prod.mk.injEq] at e; exact ⟨e.1.symm, e.2.1.symm⟩)
    have h2 : (a.2.2.1 == i && a.2.2.2.1 == o) = false := by
      rw [Bool.eq_false_iff]
      intro e
      simp only [Bool.and_eq_true, beq_iff_eq] at e
      exact h0 ⟨e.1 ▸ h.1, e.2 ▸ h.2⟩
    rw [h2]
    exact beq_eq_false_iff_ne.2 h1
  · rw [if_neg h]
    rw [Bool.eq_iff_iff]
    simp
theorem acs_snoc (L : List Arc) (a : Arc) : acs L ++ ac a = acs (L ++ [a]) := by simp [acs]
/-- V with another value at k -/
def upd (V : Key → Value) (k : Key) (v : Value) : Key → Value := fun k' => if k' = k then v else V k'
structure Nf (w wr : World) (F mb sb S n : Nat) (L : List Arc) (V : Key → Value) (vs : List Value) : Prop where
  field : IsF wr F (.int .i64 S) (.map (some mb)) (.slice (some ⟨sb, 0, none⟩) S S) nilS
  heads : wr.ownsRow w.heap.size 22 1 (.slice (some ⟨sb, 0, none⟩) S S) S vs
  len : vs.length = S
  head : ∀ f, f < S → vs[f]? = some (V (0, 0, (f : Int)))
  mp : IsMp wr mb n (fun i o => if i = 0 ∧ o = 0 then nilS else V (i, o, 0))
  rows : ∀ k, wr.ownsRow w.heap.size 64 5 (V k) (ar L k).length (acs (ar L k))
  apart : ∀ k k', k ≠ k' → ∀ b, (V k).ownBlock = some b → (V k').ownBlock ≠ some b
  below : Below w.heap.size w wr
  lo : w.heap.size ≤ F ∧ w.heap.size ≤ mb
  cnt : n ≤ L.length
theorem mp_ty {wr : World} {mb n : Nat} {G : Int → Int → Value} (h : IsMp wr mb n G) : ∃ es clock, wr.heap[mb]? = some (.map es clock) := by
  obtain ⟨D, ⟨es, clock, h1, _⟩, _⟩ := h
  exact ⟨es, clock, h1⟩
theorem Nf.alloc {w wr : World} {F mb sb S n : Nat} {L : List Arc} {V : Key → Value} {vs : List Value} (h : Nf w wr F mb sb S n L V vs) (o : Obj) : Nf w (wr.alloc o) F mb sb S n L V vs :=
  ⟨h.field.kept ((Kp.refl (fun _ => False) wr).alloc o) (fun h => h), h.heads.alloc o, h.len, h.head, h.mp.kept (heap_alloc_old wr o h.mp.lt), fun k => (h.rows k).alloc o, h.apart, h.below.alloc h.below.size o, h.lo, h.cnt⟩
theorem Nf.drew {w wr : World} {F mb sb S n : Nat} {L : List Arc} {V : Key → Value} {vs : List Value} (h : Nf w wr F mb sb S n L V vs) : Nf w wr.drew F mb sb S n L V vs :=
  ⟨h.field, h.heads, h.len, h.head, h.mp.kept rfl, h.rows, h.apart, h.below.drew, h.lo, h.cnt⟩
theorem apart_upd {V : Key → Value} {k0 : Key} {v1 : Value} {sz : Nat} (hap : ∀ k k', k ≠ k' → ∀ b, (V k).ownBlock = some b → (V k').ownBlock ≠ some b) (hlt : ∀ k b, (V k).ownBlock = some b → b < sz) (hl : v1.ownBlock = (V k0).ownBlock ∨ ∃ g, v1.ownBlock = some g ∧ sz ≤ g) :
    ∀ k k', k ≠ k' → ∀ b, (upd V k0 v1 k).ownBlock = some b → (upd V k0 v1 k').ownBlock ≠ some b := by
  intro k k' hne b hb hb'
  unfold upd at hb hb'
  by_cases e1 : k = k0
  · rw [if_pos e1] at hb
    rw [if_neg (fun e => hne (e1.trans e.symm))] at hb'
    rcases hl with hl | ⟨g, hl, hg⟩
    · rw [hl] at hb
      exact hap k0 k' (fun e => hne (e1.trans e)) b hb hb'
    · rw [hl] at hb
      cases hb
      exact absurd (hlt k' _ hb') (Nat.not_lt.2 hg)
  · rw [if_neg e1] at hb
    by_cases e2 : k' = k0
    · rw [if_pos e2] at hb'
      rcases hl with hl | ⟨g, hl, hg⟩
      · rw [hl] at hb'
        exact hap k k0 e1 b hb hb'
      · rw [hl] at hb'
        cases hb'
        exact absurd (hlt k _ hb) (Nat.not_lt.2 hg)
    · rw [if_neg e2] at hb'
      exact hap k k' hne b hb hb'
/-- an arc more, where it is silent -/
theorem Nf.addS {w wr w1 : World} {F mb sb S n f : Nat} {L : List Arc} {V : Key → Value} {vs : List Value} {a : Arc} {v1 : Value} (h : Nf w wr F mb sb S n L V vs) (hk : key a = (0, 0, (f : Int))) (hf : f < S)
    (ho : w1.ownsRow w.heap.size 64 5 v1 ((ar L (0, 0, (f : Int))).length + 1) (acs (ar L (0, 0, (f : Int))) ++ ac a)) (hg : wr.grownBy w1 (V (0, 0, (f : Int))).ownBlock) (hl : v1.ownBlock = (V (0, 0, (f : Int))).ownBlock ∨ ∃ g, v1.ownBlock = some g ∧ wr.heap.size ≤ g) :
    (w1.cell? ⟨sb, f, none⟩ = some (V (0, 0, (f : Int))) ∧ w1.frozen? ⟨sb, f, none⟩ = false) ∧ Nf w (w1.setCell ⟨sb, f, none⟩ v1) F mb sb S n (L ++ [a]) (upd V (0, 0, (f : Int)) v1) (vs.set f v1) := by
  have hty : ∀ b, (V (0, 0, (f : Int))).ownBlock = some b → ∃ cur, wr.heap[b]? = some (.cells cur 64 (0, 0)) := fun b hb => own_ty (h.rows _) hb
  have hk1 : Kp (fun b => (V (0, 0, (f : Int))).ownBlock = some b) wr w1 := (Kp.refl _ wr).grown hg (fun b hb _ => hb)
  have nF : ¬ (V (0, 0, (f : Int))).ownBlock = some F := fun e => by obtain ⟨c, hc⟩ := hty F e; exact ty_ne hc h.field (by decide)
  obtain ⟨cs, hcs⟩ := own_ty h.heads (k := sb) rfl
  have nS : ¬ (V (0, 0, (f : Int))).ownBlock = some sb := fun e => by obtain ⟨c, hc⟩ := hty sb e; exact ty_ne hc hcs (by decide)
  obtain ⟨es, clock, hmb⟩ := mp_ty h.mp
  have nM : ¬ (V (0, 0, (f : Int))).ownBlock = some mb := fun e => by obtain ⟨c, hc⟩ := hty mb e; rw [hmb] at hc; cases hc
  have heads1 := own_kp h.heads hk1 nS
  have field1 := h.field.kept hk1 nF
  have mp1 := h.mp.kept (hk1.block mb h.mp.lt nM)
  obtain ⟨cs1, hcs1⟩ := own_ty heads1 (k := sb) rfl
  have sF : F ≠ sb := fun e => by subst e; exact ty_ne hcs1 field1 (by decide)
  have sM : mb ≠ sb := fun e => by subst e; obtain ⟨es1, clock1, hmb1⟩ := mp_ty mp1; rw [hcs1] at hmb1; cases hmb1
  have hlt : ∀ k b, (V k).ownBlock = some b → b < wr.heap.size := fun k b hb => ((h.rows k).lt b hb).2
  have hsl : w.heap.size ≤ sb := (h.heads.lt sb rfl).1
  have hk2 : Kp (fun b => b = sb) w1 (w1.setCell ⟨sb, f, none⟩ v1) := (Kp.refl _ w1).setCell _ _ _ (fun _ => rfl)
  have rows1 : ∀ k, k ≠ (0, 0, (f : Int)) → w1.ownsRow w.heap.size 64 5 (V k) (ar L k).length (acs (ar L k)) := fun k hne => own_kp2 (h.rows k) hk1 (fun b hb e => h.apart k _ hne b hb e)
  have nsb : ∀ {v : Value} {m : Nat} {xs : List Value}, w1.ownsRow w.heap.size 64 5 v m xs → ∀ b, v.ownBlock = some b → ¬ b = sb := fun {v m xs} hr b hb e => by
    obtain ⟨c, hc⟩ := own_ty hr hb
    subst e
    exact ty_ne hc hcs1 (by decide)
  refine ⟨⟨?_, heads1.frozenAt f⟩, field1.kept hk2 sF, (heads1.stored f v1).1, by rw [List.length_set]; exact h.len, fun g hg' => ?_, ?_, fun k => ?_, apart_upd h.apart hlt hl, ?_, h.lo, by simp; exact Nat.le_succ_of_le h.cnt⟩
  · rw [heads1.cellAt f (by omega)]
    exact h.head f hf
  · rw [List.getElem?_set]
    unfold upd
    by_cases e : f = g
    · subst e
      simp [h.len, hf]
    · rw [if_neg e, if_neg (fun e2 => e (by simp only [Prod.mk.injEq] at e2; omega))]
      exact h.head g hg'
  · have hm2 := mp1.kept (hk2.block mb mp1.lt sM)
    obtain ⟨D, hD, hG⟩ := hm2
    refine ⟨D, hD, fun i o hi ho => ?_⟩
    rw [hG i o hi ho]
    dsimp only
    by_cases e : i = 0 ∧ o = 0
    · rw [if_pos e, if_pos e]
    · rw [if_neg e, if_neg e]
      unfold upd
      rw [if_neg (fun e2 => e (by simp only [Prod.mk.injEq] at e2; exact ⟨e2.1, e2.2.1⟩))]
  · rw [ar_snoc, hk]
    unfold upd
    by_cases e : k = (0, 0, (f : Int))
    · rw [if_pos e.symm, if_pos e]
      subst e
      rw [← acs_snoc, List.length_append]
      exact own_kp2 ho hk2 (nsb ho)
    · have e' : ¬ (0, 0, (f : Int)) = k := fun h => e h.symm
      rw [if_neg e', if_neg e]
      exact own_kp2 (rows1 k e) hk2 (nsb (rows1 k e))
  · exact (h.below.grown hg h.below.size (fun b hb => ((h.rows _).lt b hb).1)).setCell hsl _
/-- an arc more, of a label -/
theorem Nf.addL {w wr w1 w2 : World} {F mb sb S n : Nat} {L : List Arc} {V : Key → Value} {vs : List Value} {a : Arc} {v1 : Value} {i o : Int} {o1 o2 : Obj} (h : Nf w wr F mb sb S n L V vs) (hk : key a = (i, o, 0)) (hio : ¬ (i = 0 ∧ o = 0)) (hes : ∃ es clock, o1 = .map es clock)
    (ho : w1.ownsRow w.heap.size 64 5 v1 ((ar L (i, o, 0)).length + 1) (acs (ar L (i, o, 0)) ++ ac a)) (hg : (ChangeMaps.setBlock wr mb o1).grownBy w1 (V (i, o, 0)).ownBlock) (hl : v1.ownBlock = (V (i, o, 0)).ownBlock ∨ ∃ g, v1.ownBlock = some g ∧ wr.heap.size ≤ g)
    (hw2 : w2 = ChangeMaps.setBlock w1 mb o2) (hm : IsMp w2 mb (n + 1) (fun i' o' => if i' = i ∧ o' = o then v1 else (if i' = 0 ∧ o' = 0 then nilS else V (i', o', 0)))) : Nf w w2 F mb sb S (n + 1) (L ++ [a]) (upd V (i, o, 0) v1) vs := by
  obtain ⟨es, clock, hmb⟩ := mp_ty h.mp
  have hty : ∀ b, (V (i, o, 0)).ownBlock = some b → ∃ cur, wr.heap[b]? = some (.cells cur 64 (0, 0)) := fun b hb => own_ty (h.rows _) hb
  have nM : ¬ (V (i, o, 0)).ownBlock = some mb := fun e => by obtain ⟨c, hc⟩ := hty mb e; rw [hmb] at hc; cases hc
  have hk0 : Kp (fun b => b = mb) wr (ChangeMaps.setBlock wr mb o1) := ⟨rfl, rfl, rfl, by simp [ChangeMaps.setBlock], fun k _ hne => ChangeMaps.heap_setBlock_other hmb _ hne⟩
  have hsz : (ChangeMaps.setBlock wr mb o1).heap.size = wr.heap.size := by simp [ChangeMaps.setBlock]
  have hmb1 : w1.heap[mb]? = some o1 := (hg.block mb (by rw [hsz]; exact h.mp.lt) (fun e => nM e.symm)).trans (ChangeMaps.heap_setBlock_same hmb _)
  obtain ⟨es1, clock1, rfl⟩ := hes
  have hk1 : Kp (fun b => b = mb ∨ (V (i, o, 0)).ownBlock = some b) wr w1 := (hk0.mono (fun _ _ e => .inl e)).grown hg (fun b hb _ => .inr hb)
  have hk2 : Kp (fun b => b = mb) w1 w2 := by rw [hw2]; exact ⟨rfl, rfl, rfl, by simp [ChangeMaps.setBlock], fun k _ hne => ChangeMaps.heap_setBlock_other hmb1 _ hne⟩
  have hk : key a = (i, o, 0) := hk
  have nF : ¬ (F = mb ∨ (V (i, o, 0)).ownBlock = some F) := fun e => by
    rcases e with e | e
    · subst e; have := h.field; unfold IsF at this; rw [hmb] at this; cases this
    · obtain ⟨c, hc⟩ := hty F e; exact ty_ne hc h.field (by decide)
  obtain ⟨cs, hcs⟩ := own_ty h.heads (k := sb) rfl
  have nS : ¬ (sb = mb ∨ (V (i, o, 0)).ownBlock = some sb) := fun e => by
    rcases e with e | e
    · rw [e, hmb] at hcs; cases hcs
    · obtain ⟨c, hc⟩ := hty sb e; exact ty_ne hc hcs (by decide)
  have hlt : ∀ k b, (V k).ownBlock = some b → b < wr.heap.size := fun k b hb => ((h.rows k).lt b hb).2
  have rows1 : ∀ k, k ≠ (i, o, 0) → w1.ownsRow w.heap.size 64 5 (V k) (ar L k).length (acs (ar L k)) := fun k hne => own_kp2 (h.rows k) hk1 (fun b hb e => by
    rcases e with e | e
    · obtain ⟨c, hc⟩ := own_ty (h.rows k) hb; rw [e, hmb] at hc; cases hc
    · exact h.apart k _ hne b hb e)
  have nmb : ∀ {v : Value} {m : Nat} {xs : List Value}, w1.ownsRow w.heap.size 64 5 v m xs → ∀ b, v.ownBlock = some b → ¬ b = mb := fun {v m xs} hr b hb e => by
    obtain ⟨c, hc⟩ := own_ty hr hb
    rw [e, hmb1] at hc
    cases hc
  refine ⟨(h.field.kept hk1 nF).kept hk2 (fun e => nF (.inl e)), own_kp (own_kp h.heads hk1 nS) hk2 (fun e => nS (.inl e)), h.len, fun g hg' => ?_, ?_, fun k => ?_, apart_upd h.apart hlt hl, ?_, h.lo, by simp; exact h.cnt⟩
  · unfold upd
    rw [if_neg (fun e2 => hio (by simp only [Prod.mk.injEq] at e2; exact ⟨e2.1.symm, e2.2.1.symm⟩))]
    exact h.head g hg'
  · obtain ⟨D, hD, hG⟩ := hm
    refine ⟨D, hD, fun i' o' hi ho' => ?_⟩
    rw [hG i' o' hi ho']
    unfold upd
    dsimp only
    by_cases e : i' = 0 ∧ o' = 0
    · have e4 : ¬ (i' = i ∧ o' = o) := fun e2 => hio ⟨e2.1 ▸ e.1, e2.2 ▸ e.2⟩
      rw [if_neg e4, if_pos e, if_pos e]
    · rw [if_neg e, if_neg e]
      by_cases e3 : i' = i ∧ o' = o
      · rw [if_pos e3, if_pos (by rw [e3.1, e3.2])]
      · rw [if_neg e3, if_neg (fun e2 => e3 (by simp only [Prod.mk.injEq] at e2; exact ⟨e2.1, e2.2.1⟩))]
  · rw [ar_snoc, hk]
    unfold upd
    by_cases e : k = (i, o, 0)
    · rw [if_pos e.symm, if_pos e]
      subst e
      rw [← acs_snoc, List.length_append]
      exact own_kp2 ho hk2 (nmb ho)
    · have e' : ¬ (i, o, 0) = k := fun h => e h.symm
      rw [if_neg e', if_neg e]
      exact own_kp2 (rows1 k e) hk2 (nmb (rows1 k e))
  · have b1 : Below w.heap.size w (ChangeMaps.setBlock wr mb (.map es1 clock1)) := ⟨h.below.os, h.below.tape, h.below.output, by rw [hsz]; exact h.below.size, fun k hk' => (ChangeMaps.heap_setBlock_other hmb _ (by have := h.lo.2; omega)).trans (h.below.block k hk')⟩
    have b2 := b1.grown hg b1.size (fun b hb => ((h.rows _).lt b hb).1)
    rw [hw2]
    exact ⟨b2.os, b2.tape, b2.output, by simp [ChangeMaps.setBlock]; exact b2.size, fun k hk' => (ChangeMaps.heap_setBlock_other hmb1 _ (by have := h.lo.2; omega)).trans (b2.block k hk')⟩
open Go.WideMaps Go.WideElems in
open Go.ChangeMaps (setBlock heap_setBlock_same heap_setBlock_other) in
open Go.Maps (Keyed) in
/-- an entry of the map, and a store at it -/
theorem entry2 {w : World} {b n : Nat} {G : Int → Int → Value} (h : IsMp w b n G) (hn : n < maxLen) {i o : Int} (hi : W64 i) (ho : W64 o) :
    ∃ (st : Nat) (o1 : Obj), (∃ es clock, o1 = .map es clock) ∧ (Instr.mapEntry 163 (.map (some b)) (.agg #[.int .i64 i, .int .i64 o])).run Tryd.prog w = .ok (.tuple #[G i o, .int .i64 (st : Int)]) (setBlock w b o1) ∧
      ∀ (w2 : World) (val : Value), w2.heap[b]? = some o1 → ∃ o2, (Instr.entryStore 163 (.map (some b)) (.int .i64 (st : Int)) val).run Tryd.prog w2 = .ok () (setBlock w2 b o2) ∧ IsMp (setBlock w2 b o2) b (n + 1) (fun i' o' => if i' = i ∧ o' = o then val else G i' o') := by
  have hlk := h.look hi ho
  obtain ⟨D, ⟨es, clock, hb, F, hs, hD⟩, hG⟩ := h
  obtain ⟨v0, st, es1, clock1, hE, hv0, hS⟩ := entry_then_store law61 Tryd.underlying163 (fun u => zero22 u) hb F (keyOf_label i o hi ho)
  have hv : v0 = G i o := by
    rcases Maps.fit_look false keyed Tryd.underlying163 (zero22 w) hb F (keyOf_label i o hi ho) with ⟨hr, hno, _⟩ | ⟨e0, y, hm, hk, hr, _⟩
    · rw [hlk] at hr
      simp only [Result.ok.injEq, and_true, Bool.false_eq_true, if_false] at hr
      rcases hv0 with ⟨e0, hm, hk, _⟩ | ⟨_, hz⟩
      · exact absurd hk (hno e0 hm)
      · rw [hz, hr]
    · rw [hlk] at hr
      simp only [Result.ok.injEq, and_true, Bool.false_eq_true, if_false] at hr
      rcases hv0 with ⟨e1, hm1, hk1, hz⟩ | ⟨hno, _⟩
      · rw [hz, hr]
        have hp := ((MapKept.stamped_iff es clock).1 F.stamped).2.2
        obtain ⟨a, ha, rfl⟩ := List.getElem_of_mem hm
        obtain ⟨c, hc, rfl⟩ := List.getElem_of_mem hm1
        by_cases e : a = c
        · subst e; rfl
        · rcases Nat.lt_or_gt_of_ne e with h1 | h1
          · exact absurd (hk.trans hk1.symm) (List.pairwise_iff_getElem.1 hp a c ha hc h1)
          · exact absurd (hk1.trans hk.symm) (List.pairwise_iff_getElem.1 hp c a hc ha h1)
      · exact absurd hk (hno e0 hm)
  subst hv
  refine ⟨st, .map es1 clock1, ⟨es1, clock1, rfl⟩, hE, fun w2 val hw2 => ?_⟩
  obtain ⟨es', clock', hrun, hup⟩ := hS w2 val hw2
  have hown : w.ownsMap Tryd.prog 169 El b n D := ⟨es, clock, hb, F, hs, hD⟩
  obtain ⟨w', hr', ho', _⟩ := hown.update keyed Tryd.underlying163 hn (keyOf_label i o hi ho) (val := val) (d := .held val) (ps := []) rfl
  rw [hup] at hr'
  have hw' : setBlock w b (.map es' clock') = w' := by simpa using hr'
  refine ⟨.map es' clock', hrun, D.put (kl i o) (.held val), ?_, ?_⟩
  · obtain ⟨es3, clock3, h31, h32⟩ := ho'
    rw [← hw', heap_setBlock_same hb] at h31
    simp only [Option.some.injEq, Obj.map.injEq] at h31
    obtain ⟨rfl, rfl⟩ := h31
    exact ⟨es', clock', heap_setBlock_same hw2 _, h32⟩
  · intro i' o' hi' ho2
    by_cases e : i' = i ∧ o' = o
    · obtain ⟨rfl, rfl⟩ := e
      simp only [and_self, if_true]
      exact Maps.atKey_put_same (by rw [hD]; exact ⟨_, rfl⟩) (keyed.key (keyOf_label i' o' hi ho)) _ _
    · show _ = DataW.held (if i' = i ∧ o' = o then val else G i' o')
      rw [if_neg e, Maps.atKey_put_other (fun h => e (kl_inj hi' ho2 hi ho h))]
      exact hG i' o' hi' ho2
/-- as it begins: the two orders in which its parts are laid -/
theorem begunA (w : World) (bx : Obj) (S : Nat) (hS : S ≤ 40) (MC : Array Value) (hM : MC.toList = List.replicate S nilS) : Nf w ((((w.alloc bx).alloc (.map #[] 0)).alloc (.cells MC 22)).alloc (.cells #[.int .i64 S, .map (some (w.heap.size + 1)), .slice (some ⟨w.heap.size + 1 + 1, 0, none⟩) S S, nilS] 167)) (w.heap.size + 1 + 1 + 1) (w.heap.size + 1) (w.heap.size + 1 + 1) S 0 [] (fun _ => nilS) (List.replicate S nilS) := by
  have hms : MC.size = S * 1 := by rw [← Array.length_toList, hM]; simp
  refine ⟨?_, ?_, by simp, fun f hf => by simp [hf], ?_, fun _ => World.ownsRow_nil _ _ _ _, fun _ _ _ b hb => by simp [nilS, Value.ownBlock] at hb, ?_, ⟨by omega, by omega⟩, Nat.le_refl _⟩
  · have := heap_alloc_new (((w.alloc bx).alloc (.map #[] 0)).alloc (.cells MC 22)) (.cells #[.int .i64 S, .map (some (w.heap.size + 1)), .slice (some ⟨w.heap.size + 1 + 1, 0, none⟩) S S, nilS] 167)
    simpa [IsF] using this
  · have := World.ownsRow_lit (base := w.heap.size) (e := 22) (size := 1) ((w.alloc bx).alloc (.map #[] 0)) MC S (by simp; omega) (by unfold maxLen; omega) hms
    rw [hM] at this
    have h2 := this.alloc (.cells #[.int .i64 S, .map (some (w.heap.size + 1)), .slice (some ⟨w.heap.size + 1 + 1, 0, none⟩) S S, nilS] 167)
    simpa using h2
  · have h0 := made (w.alloc bx)
    have e : (w.alloc bx).heap.size = w.heap.size + 1 := by simp
    rw [e] at h0
    have h1 := (h0.kept (heap_alloc_old _ (.cells MC 22) h0.lt))
    have h2 := (h1.kept (heap_alloc_old _ (.cells #[.int .i64 S, .map (some (w.heap.size + 1)), .slice (some ⟨w.heap.size + 1 + 1, 0, none⟩) S S, nilS] 167) h1.lt))
    obtain ⟨D, hD, hG⟩ := h2
    exact ⟨D, hD, fun i o hi ho => by rw [hG i o hi ho]; dsimp only; split <;> rfl⟩
  · exact ((((Below.refl _ w).alloc (Nat.le_refl _) _).alloc (by simp) _).alloc (by simp; omega) _).alloc (by simp; omega) _
theorem begunB (w : World) (bx : Obj) (S : Nat) (hS : S ≤ 40) (MC : Array Value) (hM : MC.toList = List.replicate S nilS) : Nf w ((((w.alloc bx).alloc (.cells MC 22)).alloc (.map #[] 0)).alloc (.cells #[.int .i64 S, .map (some (w.heap.size + 1 + 1)), .slice (some ⟨w.heap.size + 1, 0, none⟩) S S, nilS] 167)) (w.heap.size + 1 + 1 + 1) (w.heap.size + 1 + 1) (w.heap.size + 1) S 0 [] (fun _ => nilS) (List.replicate S nilS) := by
  have hms : MC.size = S * 1 := by rw [← Array.length_toList, hM]; simp
  refine ⟨?_, ?_, by simp, fun f hf => by simp [hf], ?_, fun _ => World.ownsRow_nil _ _ _ _, fun _ _ _ b hb => by simp [nilS, Value.ownBlock] at hb, ?_, ⟨by omega, by omega⟩, Nat.le_refl _⟩
  · have := heap_alloc_new (((w.alloc bx).alloc (.cells MC 22)).alloc (.map #[] 0)) (.cells #[.int .i64 S, .map (some (w.heap.size + 1 + 1)), .slice (some ⟨w.heap.size + 1, 0, none⟩) S S, nilS] 167)
    simpa [IsF] using this
  · have := World.ownsRow_lit (base := w.heap.size) (e := 22) (size := 1) (w.alloc bx) MC S (by simp) (by unfold maxLen; omega) hms
    rw [hM] at this
    have h2 := (this.alloc (.map #[] 0)).alloc (.cells #[.int .i64 S, .map (some (w.heap.size + 1 + 1)), .slice (some ⟨w.heap.size + 1, 0, none⟩) S S, nilS] 167)
    simpa using h2
  · have h0 := made ((w.alloc bx).alloc (.cells MC 22))
    have e : ((w.alloc bx).alloc (.cells MC 22)).heap.size = w.heap.size + 1 + 1 := by simp
    rw [e] at h0
    have h2 := (h0.kept (heap_alloc_old _ (.cells #[.int .i64 S, .map (some (w.heap.size + 1 + 1)), .slice (some ⟨w.heap.size + 1, 0, none⟩) S S, nilS] 167) h0.lt))
    obtain ⟨D, hD, hG⟩ := h2
    exact ⟨D, hD, fun i o hi ho => by rw [hG i o hi ho]; dsimp only; split <;> rfl⟩
  · exact ((((Below.refl _ w).alloc (Nat.le_refl _) _).alloc (by simp) _).alloc (by simp; omega) _).alloc (by simp; omega) _
/-- the field is made -/
theorem Nf.fld {w wr : World} {F mb sb S n : Nat} {L : List Arc} {V : Key → Value} {vs : List Value} (h : Nf w wr F mb sb S n L V vs) : Fld wr F wr.heap.size mb sb S n L (fun i o => if i = 0 ∧ o = 0 then nilS else V (i, o, 0)) := by
  have lies : ∀ k, Lies wr F wr.heap.size (V k) (ar L k) := fun k => by
    rcases (h.rows k).2 with ⟨hv, h0⟩ | ⟨g, cap, cur, hv, _, hg, _⟩
    · exact ⟨none, 0, by rw [hv, h0], .inl h0⟩
    · refine ⟨_, cap, hv, .inr ⟨g, rfl, (Array.getElem?_eq_some_iff.1 hg).1, fun e => ?_, fun j u hu => ?_⟩⟩
      · subst e; exact ty_ne hg h.field (by decide)
      · have hr := h.rows k
        rw [hv] at hr
        rw [hr.cellAt j (by have := (List.getElem?_eq_some_iff.1 hu).1; rw [acs_length] at this; exact this)]
        exact hu
  obtain ⟨es, clock, hmb⟩ := mp_ty h.mp
  obtain ⟨cs, hcs⟩ := own_ty h.heads (k := sb) rfl
  refine ⟨⟨(h.heads.lt sb rfl).2, fun e => ?_, Nat.le_refl _, fun f hf => ⟨V (0, 0, (f : Int)), ?_, ?_⟩⟩, h.mp.lt, fun e => ?_, h.mp, fun i o _ _ _ _ hio => ?_⟩
  · subst e; exact ty_ne hcs h.field (by decide)
  · rw [h.heads.cellAt f (by omega)]; exact h.head f hf
  · rw [← ar_sil]; exact lies _
  · subst e; have := h.field; unfold IsF at this; rw [hmb] at this; cases this
  · show Lies wr F wr.heap.size (if i = 0 ∧ o = 0 then nilS else V (i, o, 0)) (lab L i o)
    rw [if_neg hio, ← ar_lab L i o hio]
    exact lies _
end Go.Proofs.YtfjocafepigijaaDoor.Nm
/- The map from arcs (without their cost) to numbers. Condition: an arc's numbers have 64 bits. -/
namespace Go.Proofs.YtfjocafepigijaaDoor.Am
open Go.RowKit Mv Po Se Wd Mp
open Go.WideMaps Go.WideElems
open Go.ChangeMaps (setBlock heap_setBlock_same heap_setBlock_other)
open Go.Maps (Keyed)

theorem zero3 (w : World) : (zeroValue 3).run Tryd.prog w = .ok (.int .i64 0) w := by kernel_rfl
end Go.Proofs.YtfjocafepigijaaDoor.Am
/- The map from pairs to their numbers. Condition: the pairs' numbers are small. -/
namespace Go.Proofs.YtfjocafepigijaaDoor.Na
open Go.RowKit Mv Po Se Wd Mp Am
open Go.WideMaps Go.WideElems
open Go.Maps (Keyed)

theorem wf_small (k : Nat) (h : k ≤ 1000000) : (Lit.int .i64 (k : Int)).wf = true := by
  have h1 : IntKind.i64.min = -9223372036854775808 := by decide
  have h2 : IntKind.i64.max = 9223372036854775807 := by decide
  simp [Lit.wf, h1, h2]
  omega
theorem keyed3 : Keyed Tryd.prog 3 := Maps.int_keyed Tryd.underlying3
theorem keyOf3 (k : Nat) (h : k ≤ 1000000) : keyOf Tryd.prog 3 (.int .i64 (k : Int)) = some (.int .i64 (k : Int)) := Maps.keyOf_int_mk Tryd.underlying3 (wf_small k h)
/-- block b is a map that has G at each number -/
def IsNm (w : World) (b n : Nat) (G : Nat → Option Nat) : Prop :=
  ∃ D : DataW Value, w.ownsMap Tryd.prog 3 El b n D ∧ ∀ a : Nat, a ≤ 1000000 → ∀ z, D.atKey (.int .i64 (a : Int)) z = (match G a with | some c => .held (.int .i64 (c : Int)) | none => z)
theorem IsNm.lt {w : World} {b n : Nat} {G : Nat → Option Nat} (h : IsNm w b n G) : b < w.heap.size := by
  obtain ⟨D, h, _⟩ := h
  exact h.lt
theorem IsNm.kept {w w' : World} {b n : Nat} {G : Nat → Option Nat} (h : IsNm w b n G) (hb : w'.heap[b]? = w.heap[b]?) : IsNm w' b n G := by
  obtain ⟨D, ⟨es, clock, h1, h2⟩, h3⟩ := h
  exact ⟨D, ⟨es, clock, hb.trans h1, h2⟩, h3⟩
theorem IsNm.ty {w : World} {b n : Nat} {G : Nat → Option Nat} (h : IsNm w b n G) : ∃ es clock, w.heap[b]? = some (.map es clock) := by
  obtain ⟨D, ⟨es, clock, h1, _⟩, _⟩ := h
  exact ⟨es, clock, h1⟩
theorem made (w : World) : IsNm (w.alloc (.map #[] 0)) w.heap.size 0 (fun _ => none) :=
  ⟨_, World.ownsMap_made w Tryd.prog 3 El, fun _ _ _ => rfl⟩
theorem IsNm.store {w : World} {b n c : Nat} {G : Nat → Option Nat} (h : IsNm w b n G) (hn : n < maxLen) {a : Nat} (ha : a ≤ 1000000) :
    ∃ w', (Instr.mapUpdate 138 (.map (some b)) (.int .i64 (a : Int)) (.int .i64 (c : Int))).run Tryd.prog w = .ok () w' ∧ IsNm w' b (n + 1) (fun a' => if a' = a then some c else G a') ∧ w.grownBy w' (some b) := by
  obtain ⟨D, hown, hG⟩ := h
  obtain ⟨w', hr, ho, hg⟩ := hown.update keyed3 Tryd.underlying138 hn (keyOf3 a ha) (val := .int .i64 (c : Int)) (d := .held (.int .i64 (c : Int))) (ps := []) rfl
  refine ⟨w', hr, ⟨_, ho, fun a' ha' z => ?_⟩, hg⟩
  obtain ⟨es, clock, _, _, _, hD⟩ := hown
  by_cases e : a' = a
  · subst e
    simp only [if_true]
    exact Maps.atKey_put_same (by rw [hD]; exact ⟨_, rfl⟩) (keyed3.key (keyOf3 a' ha)) _ _
  · simp only [if_neg e]
    rw [Maps.atKey_put_other (fun h => e (by simp only [Lit.int.injEq, true_and] at h; omega))]
    exact hG a' ha' z
end Go.Proofs.YtfjocafepigijaaDoor.Na
/- What a step and what is settled make of good rows, as the walk of costs takes it. No conditions beyond that the machine is right. -/
namespace Go.Proofs.YtfjocafepigijaaDoor.Cn
open Go.RowKit Mv Wk Qp Sk Po Ps Wd Se Mp St Wg Nw Cm
open CR (nc)

theorem _root_.Go.Proofs.YtfjocafepigijaaDoor.Cm.Ch.drew {w wr : World} {F K0 mb sb S capS n : Nat} {A : List Arc} {G : Int → Int → Value} {vq va vr : Value} {la lr : List RowH} {C : Nat} {H : List Nat} (h : Ch w wr F K0 mb sb S capS n A G vq va vr la lr C H) : Ch w wr.drew F K0 mb sb S capS n A G vq va vr la lr C H :=
  h.kept (X := fun _ => False) ⟨rfl, rfl, rfl, Nat.le_refl _, fun _ _ _ => rfl⟩ (fun _ _ hx => hx.elim) h.cb.field h.cb.queue h.here
def FineL (m : M) (inn out : List Int) (S i : Nat) (l : List RowH) : Prop := ∀ j x, l[j]? = some x → Fine m inn out S i j x.2.2
theorem FineL.snoc {m : M} {inn out : List Int} {S i j : Nat} {l : List RowH} {x : RowH} (h : FineL m inn out S i l) (hl : l.length = j) (hx : Fine m inn out S i j x.2.2) : FineL m inn out S i (l ++ [x]) := by
  intro k y hy
  by_cases hk : k < l.length
  · rw [List.getElem?_append_left hk] at hy
    exact h k y hy
  · rw [List.getElem?_append_right (by omega)] at hy
    obtain ⟨h0, e⟩ := List.getElem?_eq_some_iff.1 hy
    simp at h0
    have : k = j := by omega
    subst this
    subst hl
    simp at e
    subst e
    exact hx
theorem fine_small {m : M} {inn out : List Int} {S i j : Nat} {R : List Nat} (h : Fine m inn out S i j R) (hS : S ≤ 40) (hp : i + j + 1 ≤ 122) : ∀ s, cv R s < far → cv R s ≤ 100000000000 := fun s hs => by
  have h1 := h.top2 s hs
  have h2 := Bd_le (S := S) hS hp
  omega
theorem far_big : 1000000000000 < far := by unfold far; omega
theorem mem_lab {A : List Arc} {a b : Int} {x : Arc} (h : x ∈ lab A a b) : x.2.2.1 = a ∧ x.2.2.2.1 = b := by
  have := (List.mem_filter.1 h).2
  simpa using this
theorem mv1 {A : List Arc} {inn out : List Int} {i j : Nat} {a : Int} (h : inn[i]? = some a) (ha : 1 ≤ a) : ∀ x ∈ lab A a 0, Wk.Move inn out true x i j (i + 1) j := fun x hx => by
  obtain ⟨e1, e2⟩ := mem_lab hx
  exact ⟨.inr ⟨by omega, by rw [e1]; exact h, rfl⟩, .inl ⟨.inl e2, rfl⟩⟩
theorem mv2 {A : List Arc} {inn out : List Int} {i j : Nat} {b : Int} (h : out[j]? = some b) (hb : 1 ≤ b) : ∀ x ∈ lab A 0 b, Wk.Move inn out true x i j i (j + 1) := fun x hx => by
  obtain ⟨e1, e2⟩ := mem_lab hx
  exact ⟨.inl ⟨e1, rfl⟩, .inr ⟨by omega, rfl, by rw [e2]; exact h, rfl⟩⟩
theorem mv3 {A : List Arc} {inn out : List Int} {i j : Nat} {a b : Int} (h : inn[i]? = some a) (ha : 1 ≤ a) (h' : out[j]? = some b) (hb : 1 ≤ b) : ∀ x ∈ lab A a b, Wk.Move inn out true x i j (i + 1) (j + 1) := fun x hx => by
  obtain ⟨e1, e2⟩ := mem_lab hx
  exact ⟨.inr ⟨by omega, by rw [e1]; exact h, rfl⟩, .inr ⟨by omega, rfl, by rw [e2]; exact h', rfl⟩⟩
/-- a step, in one word -/
theorem step_of {m : M} {inn out : List Int} {S i j i' j' : Nat} {Rf H H' : List Nat} {a b : Int} (hr : Right m S) (hS : S ≤ 40) (hp2 : i + j ≤ 122) (hg : Fine m inn out S i' j' Rf) (hp : Pre S (Pl m inn out i j) (Bd S (i + j)) H) (hs : Stp S (lab m.arcs a b) Rf H (lab m.arcs a b).length H') (hij : i' + j' + 1 ≤ i + j) (hm : ∀ x ∈ lab m.arcs a b, Wk.Move inn out true x i' j' i j) :
    Pre S (Pl m inn out i j) (Bd S (i + j)) H' ∧ (∀ s, cv H' s ≤ cv H s) ∧ From m inn out H' a b i' j' := by
  obtain ⟨h1, h2, h3⟩ := stepped hr hg hp hs hij hm
  refine ⟨h1, h2, fun x hx f t W c e1 e2 e3 hR => ?_⟩
  have h4 := h3 x hx f t W c e1 e2 e3 hR
  have h5 := Bd_le (S := S) hS hp2
  have h6 := far_big
  omega
theorem silent {m : M} {inn out : List Int} {i j : Nat} : ∀ a ∈ m.arcs, ∀ f t c W : Nat, a.2.2.1 = 0 → a.2.2.2.1 = 0 → a.1 = (f : Int) → a.2.1 = (t : Int) → a.2.2.2.2 = (W : Int) → Pl m inn out i j f c → Pl m inn out i j t (c + W) := by
  intro a ha f t c W h1 h2 h3 h4 h5 hp
  obtain ⟨k, hk, rfl⟩ := List.getElem_of_mem ha
  obtain ⟨n, hn⟩ := hp
  exact ⟨n + 1, f, i, j, c, k, hk, hn, h3, h4, ⟨.inl ⟨h1, rfl⟩, .inl ⟨.inl h2, rfl⟩⟩, by rw [h5]; omega⟩
theorem right_all {m : M} {S : Nat} (hr : Right m S) : ∀ a ∈ m.arcs, arcB (S : Int) a = true := fun a ha => by
  obtain ⟨k, hk, rfl⟩ := List.getElem_of_mem ha
  have := hr.2.2 k hk
  rw [hr.1] at this
  exact this
theorem settled_of {m : M} {inn out : List Int} {S i j : Nat} {H R : List Nat} (hr : Right m S) (hS : S ≤ 40) (hp : i + j ≤ 122) (hs : Settled m.arcs S (Pl m inn out i j) (Bd S (i + j)) H R) (h0 : i = 0 → j = 0 → cv H 0 = 0) (hc : Comp m inn out i j H) : Fine m inn out S i j R :=
  settled hr hs h0 hc (by have h1 := Bd_le (S := S) hS hp; have h2 := far_big; omega)
/-- the first place -/
theorem pre_first {m : M} {inn out : List Int} {S : Nat} (h0 : 0 < S) : Pre S (Pl m inn out 0 0) (Bd S (0 + 0)) ((List.replicate S far).set 0 0) ∧ cv ((List.replicate S far).set 0 0) 0 = 0 := by
  have hl : 0 < (List.replicate S far).length := by simpa using h0
  have e : ∀ s, cv ((List.replicate S far).set 0 0) s = if 0 = s then 0 else far := fun s => by rw [cv_set _ 0 0 s hl, cv_none]
  refine ⟨⟨by simp, fun s => ?_, fun s _ hd => ?_, fun s hd => ?_⟩, by rw [e]; rfl⟩
  · rw [e]; split <;> simp
  · rw [e] at hd ⊢
    split at hd
    · rename_i h
      subst h
      rw [if_pos rfl]
      exact ⟨0, rfl, rfl, rfl, rfl⟩
    · exact absurd hd (Nat.lt_irrefl _)
  · rw [e] at hd ⊢
    split at hd
    · rw [if_pos (by assumption)]; omega
    · exact absurd hd (Nat.lt_irrefl _)
theorem compB {m : M} {inn out : List Int} {j : Nat} {b : Int} {H : List Nat} (hb : out[j]? = some b) (h : From m inn out H 0 b 0 j) : Comp m inn out 0 (j + 1) H :=
  comp_of (fun _ _ h => by omega) (fun j2 b2 hj hb2 => by
    obtain rfl : j2 = j := by omega
    rw [hb] at hb2
    cases hb2
    exact h) (fun _ _ _ _ h => by omega)
theorem compC {m : M} {inn out : List Int} {i : Nat} {a : Int} {H : List Nat} (ha : inn[i]? = some a) (h : From m inn out H a 0 i 0) : Comp m inn out (i + 1) 0 H :=
  comp_of (fun i2 a2 hi ha2 => by
    obtain rfl : i2 = i := by omega
    rw [ha] at ha2
    cases ha2
    exact h) (fun _ _ h => by omega) (fun _ _ _ _ _ h => by omega)
theorem compD {m : M} {inn out : List Int} {i j : Nat} {a b : Int} {H1 H2 H3 : List Nat} (ha : inn[i]? = some a) (hb : out[j]? = some b) (h1 : From m inn out H1 a 0 i (j + 1)) (h2 : From m inn out H2 0 b (i + 1) j) (h3 : From m inn out H3 a b i j) (l2 : ∀ s, cv H2 s ≤ cv H1 s) (l3 : ∀ s, cv H3 s ≤ cv H2 s) : Comp m inn out (i + 1) (j + 1) H3 :=
  comp_of (fun i2 a2 hi ha2 => by
    obtain rfl : i2 = i := by omega
    rw [ha] at ha2
    cases ha2
    exact (h1.le l2).le l3) (fun j2 b2 hj hb2 => by
    obtain rfl : j2 = j := by omega
    rw [hb] at hb2
    cases hb2
    exact h2.le l3) (fun i2 j2 a2 b2 hi hj ha2 hb2 => by
    obtain rfl : i2 = i := by omega
    obtain rfl : j2 = j := by omega
    rw [ha] at ha2
    rw [hb] at hb2
    cases ha2
    cases hb2
    exact h3)
theorem info26 : (Tryd.prog.info? 26).map (fun i => (i.zero, i.size, i.bytes)) = some (some (.slice none 0 0), 1, 24) := by kernel_rfl
theorem slice_one (v : Value) (h : v.oneCell' = true) : ∀ u ∈ [v], u.oneCell' = true := fun u hu => by
  simp only [List.mem_singleton] at hu
  rw [hu]
  exact h
end Go.Proofs.YtfjocafepigijaaDoor.Cn
/- choose: a place below n. Condition: the number is one of 64 bits, n is no more than 100000. -/
namespace Go.Proofs.YtfjocafepigijaaDoor.Su
open Go.RowKit Mv Po Ps Cm

theorem wrap_neg {c : Int} (h1 : -9223372036854775808 ≤ c) (h2 : c < 0) : wrap64 (-(wrap64 (c + 1))) = -(c + 1) ∧ wrap64 (c + 1) = c + 1 := by
  have e : wrap64 (c + 1) = c + 1 := by unfold wrap64; omega
  rw [e]
  refine ⟨?_, rfl⟩
  unfold wrap64
  omega
set_option maxRecDepth 100000 in
theorem choose_any (c : Int) (n : Nat) (w : World) (hn : 0 < n) (hn2 : n ≤ 100000) (h1 : -9223372036854775808 ≤ c) (h2 : c ≤ 9223372036854775807) :
    Calls Tryd.prog 57 #[.int .i64 c, .int .i64 n] w fun e w' => ∃ k : Nat, k < n ∧ e = .returned (.int .i64 k) ∧ Below w.heap.size w w' := by
  have key : ∀ x : Int, 0 ≤ x → ∃ k : Nat, k < n ∧ x.tmod n = (k : Int) := fun x hx => by
    have h3 : 0 ≤ x.tmod n := Int.tmod_nonneg _ hx
    have h4 : x.tmod n < n := Int.tmod_lt_of_pos _ (by omega)
    exact ⟨(x.tmod n).toNat, by omega, by omega⟩
  have hn0 : ¬ (n : Int) = 0 := by omega
  by_cases hc : c < 0
  · obtain ⟨e1, e2⟩ := wrap_neg h1 hc
    obtain ⟨x, hx⟩ : ∃ x, -(c + 1) = x := ⟨_, rfl⟩
    obtain ⟨k, hk, hm⟩ := key x (by omega)
    rw [hx] at e1
    rw [e2, hx] at e1
    have HK : Hid (k < n ∧ wrap64 x = x ∧ x.tmod n = (k : Int)) := ⟨hk, e1, hm⟩
    clear hk key h1 h2 hn hn2 hm e1
    go_enter Tryd.func57, Tryd.ntmps57
    go_wp2
    go_ret
    exact ⟨k, HK.out.1, by rw [HK.out.2.1, HK.out.2.2]; rfl, Below.refl _ _⟩
  · obtain ⟨k, hk, hm⟩ := key c (by omega)
    have HK : Hid (k < n) := hk
    clear hk key h1 h2 hn hn2
    go_enter Tryd.func57, Tryd.ntmps57
    go_wp2
    go_ret
    exact ⟨k, HK.out, rfl, Below.refl _ _⟩
end Go.Proofs.YtfjocafepigijaaDoor.Su
