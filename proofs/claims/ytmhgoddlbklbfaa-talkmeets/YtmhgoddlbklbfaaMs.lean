/- How all lies in memory while two talk who are looked at. No conditions. -/
import Derived.Test.YtmhgoddlbklbfaaMo
import Derived.Test.YtmhgoddlbklbfaaLi
namespace Go.Proofs.Ytmhgoddlbklbfaa.Ms
open Go.RowKit Ta Tb Ra Lb Mm Mo

structure Fm where
  P : Nat
  Y : Nat
  S : Nat
  T : Nat
  ms : Nat
  ml : Nat
  p : Nat → Nat
  b2 : Nat
abbrev No : Nat → Prop := fun _ => False
structure Sm (w : World) (N : Nat) (F : Fm) (es : Nat → List Sl) (LL : Nat → List (List To)) (D : To → Prop) (la : Nat → Nat → To) (ns nl : Nat) (wr : World) : Prop where
  bel : Below w.heap.size w wr
  lo : w.heap.size ≤ F.P ∧ F.P < F.p 0 ∧ F.p 0 < F.p 1 ∧ F.p 1 < F.Y ∧ F.Y < F.ms ∧ F.ms < F.S ∧ F.S < F.ml ∧ F.ml < F.T ∧ F.T < F.b2
  hi : F.b2 ≤ wr.heap.size
  pb : ∀ k, k < 2 → wr.cell? ⟨F.P, k, none⟩ = some (.pointer (some ⟨F.p k, 0, none⟩))
  sb : wr.cell? ⟨F.S, 0, none⟩ = some (.map (some F.ms))
  tb : wr.cell? ⟨F.T, 0, none⟩ = some (.map (some F.ml))
  tk : ∀ k, k < 2 → Tk wr (F.p k) ((k : Int) + 1) (N : Int) (es k)
  wy : ∀ k, k < 2 → ∃ (x : Option Addr) (n m : Nat), wr.cell? ⟨F.Y, k, none⟩ = some (.slice x n m) ∧ Lb.Way wr F.b2 No (.slice x n m) (LL k)
  sep : ∀ g v0 v1, wr.cell? ⟨F.Y, 0, none⟩ = some v0 → wr.cell? ⟨F.Y, 1, none⟩ = some v1 → v0.ownBlock = some g → v1.ownBlock ≠ some g
  yf : ∀ k, wr.frozen? ⟨F.Y, k, none⟩ = false
  sd : IsSaid wr F.ms ns D
  ls : IsLast wr F.ml nl la

variable {w wr W' : World} {N : Nat} {F : Fm} {es : Nat → List Sl} {LL : Nat → List (List To)} {D : To → Prop} {la : Nat → Nat → To} {ns nl : Nat}
theorem ko_grown {W W' : World} {X : Nat} (h : W.grownBy W' (some X)) : Ko W W' X := ⟨h.size, fun b hb hl => h.block b hl (fun e => hb (by cases e; rfl)), h.os, h.tape, h.output⟩
theorem Sm.ords (h : Sm w N F es LL D la ns nl wr) {k : Nat} (hk : k < 2) : F.P < F.p k ∧ F.p k < F.Y := by
  have := h.lo
  rcases k with _ | _ | k
  · omega
  · simp only [Nat.zero_add]; omega
  · omega
theorem Sm.diff (h : Sm w N F es LL D la ns nl wr) {j k : Nat} (hj : j < 2) (hk : k < 2) (hne : j ≠ k) : F.p j ≠ F.p k := by
  have := h.lo
  rcases j with _ | _ | j <;> rcases k with _ | _ | k <;> (try simp only [Nat.zero_add]) <;> omega
/-- one block has turned that is none of the boxes -/
theorem Sm.keep (h : Sm w N F es LL D la ns nl wr) {X : Nat} (hk : Ko wr W' X) (hX : F.P < X) (hY : X ≠ F.Y) (hS : X ≠ F.S) (hT : X ≠ F.T) (hb : X < F.b2 ∨ wr.heap.size ≤ X) {es' : Nat → List Sl} {D' : To → Prop} {la' : Nat → Nat → To} {ns' nl' : Nat}
    (htk : ∀ k, k < 2 → Tk W' (F.p k) ((k : Int) + 1) (N : Int) (es' k)) (hsd : IsSaid W' F.ms ns' D') (hls : IsLast W' F.ml nl' la') : Sm w N F es' LL D' la' ns' nl' W' := by
  have l := h.lo
  have hi := h.hi
  have hs := hk.1
  have kY : W'.heap[F.Y]? = wr.heap[F.Y]? := hk.2 _ (Ne.symm hY) (by omega)
  refine ⟨⟨hk.os.trans h.bel.os, hk.tape.trans h.bel.tape, hk.output.trans h.bel.output, Nat.le_trans h.bel.size hs, fun c hc => (hk.2 c (by omega) (by have := h.bel.size; omega)).trans (h.bel.block c hc)⟩, l, by omega, fun j hj => (cell_same (hk.2 F.P (by omega) (by omega))).trans (h.pb j hj), (cell_same (hk.2 F.S (Ne.symm hS) (by omega))).trans h.sb, (cell_same (hk.2 F.T (Ne.symm hT) (by omega))).trans h.tb, htk, fun j hj => ?_, fun g v0 v1 h0 h1 => h.sep g v0 v1 ((cell_same kY).symm.trans h0) ((cell_same kY).symm.trans h1), fun j => (frozen_same kY).trans (h.yf j), hsd, hls⟩
  obtain ⟨x, n, m, h1, h2⟩ := h.wy j hj
  refine ⟨x, n, m, (cell_same kY).trans h1, h2.keep (fun g o hg hh => hk.2 g ?_ (Array.getElem?_eq_some_iff.1 hh).1)⟩
  have := (Array.getElem?_eq_some_iff.1 hh).1
  omega
/-- one talker has turned -/
theorem Sm.upd (h : Sm w N F es LL D la ns nl wr) {k : Nat} (hk : k < 2) (hx : Ko wr W' (F.p k)) {e' : List Sl} (hT : Tk W' (F.p k) ((k : Int) + 1) (N : Int) e') : Sm w N F (Lb.upd es k e') LL D la ns nl W' := by
  have o := h.ords hk
  have l := h.lo
  have hi := h.hi
  refine h.keep hx o.1 (by omega) (by omega) (by omega) (.inl (by omega)) (fun j hj => ?_) (h.sd.kept (hx.2 _ (by omega) (by omega))) (h.ls.kept (hx.2 _ (by omega) (by omega)))
  by_cases e : j = k
  · subst e; rw [upd_same]; exact hT
  · rw [upd_other _ _ e]
    exact (h.tk j hj).ko hx (h.diff hj hk e)
/-- only new memory was laid -/
theorem Sm.below (h : Sm w N F es LL D la ns nl wr) (hb : Below wr.heap.size wr W') : Sm w N F es LL D la ns nl W' := by
  have := h.upd (k := 0) (by omega) (ko_below hb) ((h.tk 0 (by omega)).below hb)
  rwa [upd_id] at this
/-- one thing more was said -/
theorem Sm.said (h : Sm w N F es LL D la ns nl wr) (hx : Ko wr W' F.ms) {D' : To → Prop} {ns' : Nat} (hd : IsSaid W' F.ms ns' D') : Sm w N F es LL D' la ns' nl W' := by
  have l := h.lo
  have hi := h.hi
  exact h.keep hx (by omega) (by omega) (by omega) (by omega) (.inl (by omega)) (fun j hj => (h.tk j hj).ko hx (by have := h.ords hj; omega)) hd (h.ls.kept (hx.2 _ (by omega) (by omega)))
/-- one was looked at -/
theorem Sm.last (h : Sm w N F es LL D la ns nl wr) (hx : Ko wr W' F.ml) {la' : Nat → Nat → To} {nl' : Nat} (hl : IsLast W' F.ml nl' la') : Sm w N F es LL D la' ns nl' W' := by
  have l := h.lo
  have hi := h.hi
  exact h.keep hx (by omega) (by omega) (by omega) (by omega) (.inl (by omega)) (fun j hj => (h.tk j hj).ko hx (by have := h.ords hj; omega)) (h.sd.kept (hx.2 _ (by omega) (by omega))) hl
theorem Sm.sub (h : Sm w N F es LL D la ns nl wr) {E : To → Prop} (hs : ∀ t, E t → D t) : Sm w N F es LL E la ns nl wr :=
  ⟨h.bel, h.lo, h.hi, h.pb, h.sb, h.tb, h.tk, h.wy, h.sep, h.yf, h.sd.sub hs, h.ls⟩
theorem Sm.mono (h : Sm w N F es LL D la ns nl wr) {ns' nl' : Nat} (h1 : ns ≤ ns') (h2 : nl ≤ nl') : Sm w N F es LL D la ns' nl' wr :=
  ⟨h.bel, h.lo, h.hi, h.pb, h.sb, h.tb, h.tk, h.wy, h.sep, h.yf, h.sd.mono h1, h.ls.mono h2⟩
/-- the way of one talker is set anew -/
theorem Sm.setWay (h : Sm w N F es LL D la ns nl wr) {k : Nat} (hk : k < 2) {W1 : World} (hlow : Below F.b2 wr W1) {x' : Option Addr} {n' m' : Nat} {L' : List (List To)}
    (hoth : ∀ j, j < 2 → j ≠ k → ∀ x n m, wr.cell? ⟨F.Y, j, none⟩ = some (.slice x n m) → Lb.Way wr F.b2 No (.slice x n m) (LL j) → Lb.Way W1 F.b2 No (.slice x n m) (LL j)) (hnew : Lb.Way W1 F.b2 No (.slice x' n' m') L')
    (hsep : ∀ j, j < 2 → j ≠ k → ∀ v, wr.cell? ⟨F.Y, j, none⟩ = some v → ∀ g, (Value.slice x' n' m').ownBlock = some g → v.ownBlock ≠ some g) :
    Sm w N F es (Lb.upd LL k L') D la ns nl (W1.setCell ⟨F.Y, k, none⟩ (.slice x' n' m')) := by
  have l := h.lo
  have hi := h.hi
  have keep : ∀ c, c < F.b2 → c ≠ F.Y → (W1.setCell ⟨F.Y, k, none⟩ (.slice x' n' m')).heap[c]? = wr.heap[c]? := fun c hc hne => (heap_setCell_other _ _ _ _ hne).trans (hlow.block c hc)
  have hYc : ∀ j, W1.cell? ⟨F.Y, j, none⟩ = wr.cell? ⟨F.Y, j, none⟩ := fun j => cell_same (hlow.block _ (by omega))
  have hYk : (W1.setCell ⟨F.Y, k, none⟩ (.slice x' n' m')).cell? ⟨F.Y, k, none⟩ = some (.slice x' n' m') := by
    obtain ⟨x, n, m, h1, _⟩ := h.wy k hk
    exact World.cell?_setCell_same _ _ _ ((hYc k).trans h1)
  have hYj : ∀ j, j ≠ k → (W1.setCell ⟨F.Y, k, none⟩ (.slice x' n' m')).cell? ⟨F.Y, j, none⟩ = wr.cell? ⟨F.Y, j, none⟩ := fun j hne => (World.cell?_setCell_other _ _ _ _ (fun e => by cases e; exact hne rfl)).trans (hYc j)
  have wkeep : ∀ {v : Value} {L : List (List To)}, Lb.Way W1 F.b2 No v L → Lb.Way (W1.setCell ⟨F.Y, k, none⟩ (.slice x' n' m')) F.b2 No v L := fun hw => hw.keep (fun g o hg _ => heap_setCell_other _ _ _ _ (by show g ≠ F.Y; omega))
  have hbel : Below w.heap.size w (W1.setCell ⟨F.Y, k, none⟩ (.slice x' n' m')) := (h.bel.trans (hlow.mono (by omega))).setCell (p := ⟨F.Y, k, none⟩) (by show w.heap.size ≤ F.Y; omega) _
  refine ⟨hbel, l, by have := hlow.size; simp; omega, fun j hj => (cell_same (keep _ (by omega) (by omega))).trans (h.pb j hj), (cell_same (keep _ (by omega) (by omega))).trans h.sb, (cell_same (keep _ (by omega) (by omega))).trans h.tb, fun j hj => ?_, fun j hj => ?_, fun g v0 v1 h0 h1 => ?_, fun j => ?_, h.sd.kept (keep _ (by omega) (by omega)), h.ls.kept (keep _ (by omega) (by omega))⟩
  · have o := h.ords hj
    have t := h.tk j hj
    exact ⟨(keep (F.p j) (by omega) (by omega)).trans t.1, t.2⟩
  · by_cases e : j = k
    · subst e
      rw [upd_same]
      exact ⟨x', n', m', hYk, wkeep hnew⟩
    · rw [upd_other _ _ e]
      obtain ⟨x, n, m, h1, h2⟩ := h.wy j hj
      exact ⟨x, n, m, (hYj j e).trans h1, wkeep (hoth j hj e x n m h1 h2)⟩
  · rcases k with _ | _ | k
    · rw [hYk] at h0
      rw [hYj 1 (by omega)] at h1
      cases h0
      exact hsep 1 (by omega) (by omega) v1 h1 g
    · simp only [Nat.zero_add] at hYk hYj h0 h1 hsep
      rw [hYk] at h1
      rw [hYj 0 (by omega)] at h0
      cases h1
      exact fun e1 e2 => hsep 0 (by omega) (by omega) v0 h0 g e2 e1
    · omega
  · rw [World.frozen?_setCell]
    exact (frozen_same (hlow.block _ (by omega))).trans (h.yf j)
/-- the way of one talker is one list longer -/
theorem Sm.push {w4 W5 W6 : World} (h : Sm w N F es LL D la ns nl w4) {k' : Nat} (hk' : k' < 2) {wx : Option Addr} {wn wm : Nat} (hc : w4.cell? ⟨F.Y, k', none⟩ = some (.slice wx wn wm)) {vs : List Value} (hwo : w4.ownsRow F.b2 36 1 (.slice wx wn wm) (LL k').length vs) (hwl : vs.length = (LL k').length) (hwi : ∀ j (h : j < (LL k').length) (h' : j < vs.length), w4.ownsRow F.b2 44 5 vs[j] (LL k')[j].length (tls (LL k')[j]) ∧ ∀ g, vs[j].ownBlock = some g → ¬ No g)
    {nv : Value} {L : List To} (hoc : W5.ownsRow F.b2 44 5 nv L.length (tls L)) (hb5 : Below w4.heap.size w4 W5) {g6 c6 : Nat} {o : Obj} (ho6 : W6.ownsRow F.b2 36 1 (.slice (some ⟨g6, 0, none⟩) ((LL k').length + 1) c6) ((LL k').length + 1) (vs ++ [nv])) (hg6 : (W5.alloc o).grownBy W6 (Value.slice wx wn wm).ownBlock) (hat : some g6 = (Value.slice wx wn wm).ownBlock ∨ some g6 = some (W5.alloc o).heap.size) :
    Sm w N F es (Lb.upd LL k' (LL k' ++ [L])) D la ns nl (W6.setCell ⟨F.Y, k', none⟩ (.slice (some ⟨g6, 0, none⟩) ((LL k').length + 1) c6)) := by
  have l := h.lo
  have hi := h.hi
  have hs5 := hb5.size
  have hba : Below w4.heap.size w4 (W5.alloc o) := hb5.alloc hs5 o
  have hsz : (W5.alloc o).heap.size = W5.heap.size + 1 := by simp
  have own_lo : ∀ g, (Value.slice wx wn wm).ownBlock = some g → F.b2 ≤ g ∧ g < w4.heap.size := fun g hg => hwo.lt g hg
  have hb6 : Below F.b2 w4 W6 := (hba.mono (by omega)).grown hg6 (by omega) (fun q hq => (own_lo q hq).1)
  have k6 : ∀ g, g < w4.heap.size → some g ≠ (Value.slice wx wn wm).ownBlock → W6.heap[g]? = w4.heap[g]? := fun g hl hne => (hg6.block g (by omega) hne).trans (hba.block g hl)
  refine h.setWay hk' hb6 (fun j hj hne x n m hcj hw => ?_) ?_ (fun j hj hne v hv g hg => ?_)
  · refine hw.other hwo k6 (fun g hg1 hg2 => ?_)
    rcases k' with _ | _ | k'
    · have : j = 1 := by omega
      subst this
      exact h.sep g _ _ hc hcj hg2 hg1
    · have : j = 0 := by omega
      subst this
      exact h.sep g _ _ hcj hc hg1 hg2
    · omega
  · have ow := own_below hwo hba
    exact Lb.Way.push (w := W5.alloc o) ow hwl (fun j hj hj' => ⟨own_below (hwi j hj hj').1 hba, (hwi j hj hj').2⟩) (hoc.alloc o) (fun _ _ hB => hB) ho6 hg6
  · intro hv2
    have hgl : g = g6 := by cases hg; rfl
    subst hgl
    have hvl : g < w4.heap.size ∧ (Value.slice wx wn wm).ownBlock ≠ some g := by
      obtain ⟨x, n, m, hcj, hwj⟩ := h.wy j hj
      rw [hv] at hcj
      cases hcj
      obtain ⟨vs2, h1, _, _⟩ := hwj
      refine ⟨(h1.lt g hv2).2, fun e => ?_⟩
      rcases k' with _ | _ | k'
      · have : j = 1 := by omega
        subst this
        exact h.sep g _ _ hc hv e hv2
      · have : j = 0 := by omega
        subst this
        exact h.sep g _ _ hv hc hv2 e
      · omega
    rcases hat with h' | h'
    · exact hvl.2 h'.symm
    · simp only [Option.some.injEq] at h'
      have := hvl.1
      omega
end Go.Proofs.Ytmhgoddlbklbfaa.Ms
