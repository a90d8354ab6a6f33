/- How all lies in memory while two talk: the two talkers of either kind, the boxes, and what is on the way. No conditions. -/
import Derived.Test.YtmhgoddlbklbfaaLa
namespace Go.Proofs.Ytmhgoddlbklbfaa.Lb
open Go.RowKit Ta Tb Ra

/-- all but two blocks is as it was -/
structure Kx (W W' : World) (A B : Nat) : Prop where
  size : W.heap.size ≤ W'.heap.size
  block : ∀ b, b ≠ A → b ≠ B → b < W.heap.size → W'.heap[b]? = W.heap[b]?
  os : W'.os = W.os
  tape : W'.tape = W.tape
  output : W'.output = W.output
theorem kx_of {W W1 W2 : World} {A B : Nat} (h : Ko W W1 A) (k : Ko W1 W2 B) : Kx W W2 A B := ⟨Nat.le_trans h.1 k.1, fun b h1 h2 hl => (k.2 b h2 (Nat.lt_of_lt_of_le hl h.1)).trans (h.2 b h1 hl), k.os.trans h.os, k.tape.trans h.tape, k.output.trans h.output⟩
theorem kx_of' {W W1 W2 : World} {A B : Nat} (h : Ko W W1 B) (k : Ko W1 W2 A) : Kx W W2 A B := ⟨Nat.le_trans h.1 k.1, fun b h1 h2 hl => (k.2 b h1 (Nat.lt_of_lt_of_le hl h.1)).trans (h.2 b h2 hl), k.os.trans h.os, k.tape.trans h.tape, k.output.trans h.output⟩
theorem Kx.then {W W1 W2 : World} {A B : Nat} (h : Kx W W1 A B) (k : Below W1.heap.size W1 W2) : Kx W W2 A B := ⟨Nat.le_trans h.1 k.size, fun b h1 h2 hl => (k.block b (Nat.lt_of_lt_of_le hl h.1)).trans (h.2 b h1 h2 hl), k.os.trans h.os, k.tape.trans h.tape, k.output.trans h.output⟩
theorem kx_below {W W1 : World} {A B : Nat} (k : Below W.heap.size W W1) : Kx W W1 A B := ⟨k.size, fun b _ _ hl => k.block b hl, k.os, k.tape, k.output⟩

theorem own_keep {w w' : World} {base e size : Nat} {v : Value} {n : Nat} {xs : List Value} (h : w.ownsRow base e size v n xs) (hk : ∀ g cur, v.ownBlock = some g → base ≤ g → w.heap[g]? = some (.cells cur e (0, 0)) → w'.heap[g]? = w.heap[g]?) : w'.ownsRow base e size v n xs := by
  obtain ⟨h1, h | ⟨g, cap, cur, hv, hg, hh, h2⟩⟩ := h
  · exact ⟨h1, .inl h⟩
  · exact ⟨h1, .inr ⟨g, cap, cur, hv, hg, (hk g cur (by rw [hv]; rfl) hg hh).trans hh, h2⟩⟩
theorem own_type {w : World} {base e size : Nat} {v : Value} {n g : Nat} {xs : List Value} (h : w.ownsRow base e size v n xs) (hg : v.ownBlock = some g) : ∃ cur, w.heap[g]? = some (.cells cur e (0, 0)) := by
  obtain ⟨_, h | ⟨g', cap, cur, hv, _, hh, _⟩⟩ := h
  · rw [h.1] at hg; cases hg
  · rw [hv] at hg
    cases hg
    exact ⟨cur, hh⟩
/-- lists of what was told that are on the way; none lies in a block that is to be left out -/
def Way (w : World) (b2 : Nat) (A : Nat → Prop) (v : Value) (LL : List (List To)) : Prop := ∃ vs : List Value, w.ownsRow b2 36 1 v LL.length vs ∧ vs.length = LL.length ∧ ∀ j (h : j < LL.length) (h' : j < vs.length), w.ownsRow b2 44 5 vs[j] LL[j].length (tls LL[j]) ∧ ∀ g, vs[j].ownBlock = some g → ¬ A g
theorem Way.keep {w w' : World} {b2 : Nat} {A : Nat → Prop} {v : Value} {LL : List (List To)} (h : Way w b2 A v LL) (hk : ∀ g o, b2 ≤ g → w.heap[g]? = some o → w'.heap[g]? = w.heap[g]?) : Way w' b2 A v LL := by
  obtain ⟨vs, h1, h2, h3⟩ := h
  exact ⟨vs, own_keep h1 (fun g cur _ hg hh => hk g _ hg hh), h2, fun j hj hj' => ⟨own_keep (h3 j hj hj').1 (fun g cur _ hg hh => hk g _ hg hh), (h3 j hj hj').2⟩⟩
theorem Way.zero {w w' : World} {b2 X : Nat} {A : Nat → Prop} {v : Value} {LL : List (List To)} {cur : Array Value} (h : Way w b2 A v LL) (hk : Ko w w' X) (hA : A X) (hX : w.heap[X]? = some (.cells cur 44 (0, 0))) : Way w' b2 A v LL := by
  obtain ⟨vs, h1, h2, h3⟩ := h
  refine ⟨vs, own_keep h1 (fun g cur' _ hg hh => hk.2 g ?_ (Array.getElem?_eq_some_iff.1 hh).1), h2, fun j hj hj' => ⟨own_keep (h3 j hj hj').1 (fun g cur' hv hg hh => hk.2 g ?_ (Array.getElem?_eq_some_iff.1 hh).1), (h3 j hj hj').2⟩⟩
  · rintro rfl
    rw [hX] at hh
    simp at hh
  · rintro rfl
    exact (h3 j hj hj').2 _ hv hA
theorem Way.sub {w : World} {b2 : Nat} {A B : Nat → Prop} {v : Value} {LL : List (List To)} (h : Way w b2 A v LL) (hAB : ∀ g, B g → A g) : Way w b2 B v LL := by
  obtain ⟨vs, h1, h2, h3⟩ := h
  exact ⟨vs, h1, h2, fun j hj hj' => ⟨(h3 j hj hj').1, fun g hg hB => (h3 j hj hj').2 g hg (hAB g hB)⟩⟩
theorem Way.fresh {w : World} {b2 : Nat} {A : Nat → Prop} {v : Value} {LL : List (List To)} (h : Way w b2 A v LL) : Way w b2 (fun g => w.heap.size ≤ g) v LL := by
  obtain ⟨vs, h1, h2, h3⟩ := h
  refine ⟨vs, h1, h2, fun j hj hj' => ⟨(h3 j hj hj').1, fun g hg hB => ?_⟩⟩
  obtain ⟨cur, hh⟩ := own_type (h3 j hj hj').1 hg
  have := (Array.getElem?_eq_some_iff.1 hh).1
  omega
/-- one more is on the way -/
theorem Way.push {w w' : World} {b2 : Nat} {A : Nat → Prop} {v v' nv : Value} {LL : List (List To)} {l : List To} {vs : List Value} (h1 : w.ownsRow b2 36 1 v LL.length vs) (h2 : vs.length = LL.length) (h3 : ∀ j (h : j < LL.length) (h' : j < vs.length), w.ownsRow b2 44 5 vs[j] LL[j].length (tls LL[j]) ∧ ∀ g, vs[j].ownBlock = some g → ¬ A g) (hn : w.ownsRow b2 44 5 nv l.length (tls l)) (hA : ∀ g, nv.ownBlock = some g → ¬ A g) (ho : w'.ownsRow b2 36 1 v' (LL.length + 1) (vs ++ [nv])) (hg : w.grownBy w' v.ownBlock) : Way w' b2 A v' (LL ++ [l]) := by
  have kp : ∀ {u : Value} {n : Nat} {xs : List Value}, w.ownsRow b2 44 5 u n xs → w'.ownsRow b2 44 5 u n xs := fun hu => own_keep hu (fun g cur _ _ hh => hg.block g (Array.getElem?_eq_some_iff.1 hh).1 (fun e => by
    obtain ⟨c2, hh2⟩ := own_type h1 e.symm
    rw [hh2] at hh
    simp at hh))
  refine ⟨vs ++ [nv], by rw [List.length_append]; exact ho, by simp [h2], fun j hj hj' => ?_⟩
  by_cases e : j < LL.length
  · have e' : j < vs.length := by omega
    rw [List.getElem_append_left e, List.getElem_append_left e']
    exact ⟨kp (h3 j e e').1, (h3 j e e').2⟩
  · have e2 : j = LL.length := by simp at hj; omega
    subst e2
    simp only [List.getElem_append_right (Nat.le_refl _), Nat.sub_self, List.getElem_cons_zero]
    rw [List.getElem_append_right (by omega)]
    simp only [h2, Nat.sub_self, List.getElem_cons_zero]
    exact ⟨kp hn, hA⟩

def upd {α : Type} (f : Nat → α) (k : Nat) (x : α) : Nat → α := fun j => if j = k then x else f j
theorem upd_same {α : Type} (f : Nat → α) (k : Nat) (x : α) : upd f k x k = x := by simp [upd]
theorem upd_other {α : Type} (f : Nat → α) {k j : Nat} (x : α) (h : j ≠ k) : upd f k x j = f j := by simp [upd, h]

/-- the blocks that stay -/
structure Fix where
  P : Nat
  Q : Nat
  Y : Nat
  p : Nat → Nat
  q : Nat → Nat
  s : Nat → Nat
  c : Nat → Nat
  b2 : Nat
  base : Nat
structure St (w : World) (N : Nat) (Wh : Nat → Int) (F : Fix) (es : Nat → List Sl) (rs : Nat → List En) (LL : Nat → List (List To)) (A : Nat → Prop) (wr : World) : Prop where
  bel : Below w.heap.size w wr
  lo : w.heap.size ≤ F.P ∧ F.P < F.Q ∧ F.Q < F.p 0 ∧ F.p 0 < F.q 0 ∧ F.q 0 < F.s 0 ∧ F.s 0 < F.p 1 ∧ F.p 1 < F.q 1 ∧ F.q 1 < F.s 1 ∧ F.s 1 < F.Y ∧ F.Y < F.b2 ∧ F.b2 ≤ wr.heap.size
  pb : ∀ k, k < 2 → wr.cell? ⟨F.P, k, none⟩ = some (.pointer (some ⟨F.p k, 0, none⟩))
  qb : ∀ k, k < 2 → wr.cell? ⟨F.Q, k, none⟩ = some (.pointer (some ⟨F.q k, 0, none⟩))
  tk : ∀ k, k < 2 → Tk wr (F.p k) (Wh k) (N : Int) (es k)
  rk : ∀ k, k < 2 → Rk wr F.base (F.q k) (F.s k) (F.c k) (Wh k) (rs k)
  sim : ∀ k, k < 2 → Sim N (es k) (rs k)
  wy : ∀ k, k < 2 → ∃ (x : Option Addr) (n m : Nat), wr.cell? ⟨F.Y, k, none⟩ = some (.slice x n m) ∧ Way wr F.b2 A (.slice x n m) (LL k)
  sep : ∀ g v0 v1, wr.cell? ⟨F.Y, 0, none⟩ = some v0 → wr.cell? ⟨F.Y, 1, none⟩ = some v1 → v0.ownBlock = some g → v1.ownBlock ≠ some g
  yf : ∀ k, wr.frozen? ⟨F.Y, k, none⟩ = false

variable {w wr W' : World} {N : Nat} {Wh : Nat → Int} {F : Fix} {es : Nat → List Sl} {rs : Nat → List En} {LL : Nat → List (List To)} {A : Nat → Prop}
theorem St.ords (h : St w N Wh F es rs LL A wr) {k : Nat} (hk : k < 2) : F.Q < F.p k ∧ F.p k < F.q k ∧ F.q k < F.s k ∧ F.s k < F.Y ∧ F.P < F.p k := by
  have := h.lo
  rcases k with _ | _ | k
  · omega
  · simp only [Nat.zero_add]; omega
  · omega
theorem St.diff (h : St w N Wh F es rs LL A wr) {j k : Nat} (hj : j < 2) (hk : k < 2) (hne : j ≠ k) : F.p j ≠ F.p k ∧ F.p j ≠ F.s k ∧ F.q j ≠ F.p k ∧ F.q j ≠ F.s k ∧ F.s j ≠ F.p k ∧ F.s j ≠ F.s k := by
  have := h.lo
  rcases j with _ | _ | j <;> rcases k with _ | _ | k <;> (try simp only [Nat.zero_add]) <;> omega
theorem frozen_same {W W' : World} {b q : Nat} (h : W'.heap[b]? = W.heap[b]?) : W'.frozen? ⟨b, q, none⟩ = W.frozen? ⟨b, q, none⟩ := by
  unfold World.frozen?
  rw [h]
theorem cell_lt {w : World} {a : Addr} {u : Value} (h : w.cell? a = some u) : a.block < w.heap.size := World.block_lt_of_cell? w a h
/-- one talker, of either kind, has turned -/
theorem St.upd (h : St w N Wh F es rs LL A wr) {k : Nat} (hk : k < 2) (hx : Kx wr W' (F.p k) (F.s k)) {e' : List Sl} {r' : List En} (hT : Tk W' (F.p k) (Wh k) (N : Int) e') (hR : Rk W' F.base (F.q k) (F.s k) (F.c k) (Wh k) r') (hS : Sim N e' r') : St w N Wh F (Lb.upd es k e') (Lb.upd rs k r') LL A W' := by
  have o := h.ords hk
  have l := h.lo
  have hs := hx.1
  have keepY : W'.heap[F.Y]? = wr.heap[F.Y]? := hx.2 F.Y (by omega) (by omega) (by omega)
  refine ⟨⟨hx.os.trans h.bel.os, hx.tape.trans h.bel.tape, hx.output.trans h.bel.output, Nat.le_trans h.bel.size hx.1, fun c hc => (hx.2 c (by omega) (by omega) (by have := h.bel.size; omega)).trans (h.bel.block c hc)⟩, ⟨l.1, l.2.1, l.2.2.1, l.2.2.2.1, l.2.2.2.2.1, l.2.2.2.2.2.1, l.2.2.2.2.2.2.1, l.2.2.2.2.2.2.2.1, l.2.2.2.2.2.2.2.2.1, l.2.2.2.2.2.2.2.2.2.1, by omega⟩, ?_, ?_, ?_, ?_, ?_, ?_, ?_, ?_⟩
  · intro j hj
    exact (cell_same (hx.2 F.P (by omega) (by omega) (by omega))).trans (h.pb j hj)
  · intro j hj
    exact (cell_same (hx.2 F.Q (by omega) (by omega) (by omega))).trans (h.qb j hj)
  · intro j hj
    by_cases e : j = k
    · subst e; rw [upd_same]; exact hT
    · rw [upd_other _ _ e]
      have d := h.diff hj hk e
      have t := h.tk j hj
      exact ⟨(hx.2 _ d.1 d.2.1 t.lt).trans t.1, t.2⟩
  · intro j hj
    by_cases e : j = k
    · subst e; rw [upd_same]; exact hR
    · rw [upd_other _ _ e]
      have d := h.diff hj hk e
      have t := h.rk j hj
      refine ⟨(hx.2 _ d.2.2.1 d.2.2.2.1 t.lt.1).trans t.1, own_keep t.2.1 (fun g cur hg _ hh => ?_), t.2.2⟩
      cases hg
      exact hx.2 _ d.2.2.2.2.1 d.2.2.2.2.2 t.lt.2
  · intro j hj
    by_cases e : j = k
    · subst e; rw [upd_same, upd_same]; exact hS
    · rw [upd_other _ _ e, upd_other _ _ e]; exact h.sim j hj
  · intro j hj
    obtain ⟨x, n, m, h1, h2⟩ := h.wy j hj
    exact ⟨x, n, m, (cell_same keepY).trans h1, h2.keep (fun g o hg hh => hx.2 g (by omega) (by omega) (Array.getElem?_eq_some_iff.1 hh).1)⟩
  · intro g v0 v1 h0 h1
    exact h.sep g v0 v1 ((cell_same keepY).symm.trans h0) ((cell_same keepY).symm.trans h1)
  · intro j
    exact (frozen_same keepY).trans (h.yf j)
theorem upd_id {α : Type} (f : Nat → α) (k : Nat) : Lb.upd f k (f k) = f := by
  funext j
  unfold Lb.upd
  split
  · rename_i h; rw [h]
  · rfl
theorem Rk.kx {base q s cap : Nat} {W : Int} {l : List En} {A B : Nat} (t : Rk wr base q s cap W l) (hx : Kx wr W' A B) (h1 : q ≠ A) (h2 : q ≠ B) (h3 : s ≠ A) (h4 : s ≠ B) : Rk W' base q s cap W l := by
  refine ⟨(hx.2 _ h1 h2 t.lt.1).trans t.1, own_keep t.2.1 (fun g cur hg _ hh => ?_), t.2.2⟩
  cases hg
  exact hx.2 _ h3 h4 t.lt.2
/-- only new memory was laid -/
theorem St.below (h : St w N Wh F es rs LL A wr) (hb : Below wr.heap.size wr W') : St w N Wh F es rs LL A W' := by
  have := h.upd (k := 0) (by omega) (kx_below hb) ((h.tk 0 (by omega)).below hb) ((h.rk 0 (by omega)).below hb) (h.sim 0 (by omega))
  rwa [upd_id, upd_id] at this
theorem St.fresh (h : St w N Wh F es rs LL A wr) : St w N Wh F es rs LL (fun g => wr.heap.size ≤ g) wr :=
  ⟨h.bel, h.lo, h.pb, h.qb, h.tk, h.rk, h.sim, fun k hk => by obtain ⟨x, n, m, h1, h2⟩ := h.wy k hk; exact ⟨x, n, m, h1, h2.fresh⟩, h.sep, h.yf⟩
theorem St.sub {B : Nat → Prop} (h : St w N Wh F es rs LL A wr) (hAB : ∀ g, B g → A g) : St w N Wh F es rs LL B wr :=
  ⟨h.bel, h.lo, h.pb, h.qb, h.tk, h.rk, h.sim, fun k hk => by obtain ⟨x, n, m, h1, h2⟩ := h.wy k hk; exact ⟨x, n, m, h1, h2.sub hAB⟩, h.sep, h.yf⟩
/-- a list that is the caller's was written over -/
theorem St.zero (h : St w N Wh F es rs LL A wr) {X : Nat} {cur : Array Value} (hk : Ko wr W' X) (hA : A X) (hX : wr.heap[X]? = some (.cells cur 44 (0, 0))) (hb : F.b2 ≤ X) : St w N Wh F es rs LL A W' := by
  have l := h.lo
  have hs := hk.1
  have keep : ∀ c, c < F.b2 → W'.heap[c]? = wr.heap[c]? := fun c hc => hk.2 c (by omega) (by omega)
  have o0 := h.ords (k := 0) (by omega)
  have o1 := h.ords (k := 1) (by omega)
  have os : ∀ k, k < 2 → F.p k < F.b2 ∧ F.q k < F.b2 ∧ F.s k < F.b2 := fun k hk => by have := h.ords hk; omega
  refine ⟨⟨hk.os.trans h.bel.os, hk.tape.trans h.bel.tape, hk.output.trans h.bel.output, Nat.le_trans h.bel.size hk.1, fun c hc => (keep c (by omega)).trans (h.bel.block c hc)⟩, ⟨l.1, l.2.1, l.2.2.1, l.2.2.2.1, l.2.2.2.2.1, l.2.2.2.2.2.1, l.2.2.2.2.2.2.1, l.2.2.2.2.2.2.2.1, l.2.2.2.2.2.2.2.2.1, l.2.2.2.2.2.2.2.2.2.1, by omega⟩, fun j hj => (cell_same (keep _ (by omega))).trans (h.pb j hj), fun j hj => (cell_same (keep _ (by omega))).trans (h.qb j hj), fun j hj => (h.tk j hj).ko hk (by have := os j hj; omega), fun j hj => (h.rk j hj).ko hk (by have := os j hj; omega) (by have := os j hj; omega), h.sim, fun j hj => ?_, fun g v0 v1 h0 h1 => h.sep g v0 v1 ((cell_same (keep _ (by omega))).symm.trans h0) ((cell_same (keep _ (by omega))).symm.trans h1), fun j => (frozen_same (keep _ (by omega))).trans (h.yf j)⟩
  obtain ⟨x, n, m, h1, h2⟩ := h.wy j hj
  exact ⟨x, n, m, (cell_same (keep _ (by omega))).trans h1, h2.zero hk hA hX⟩
end Go.Proofs.Ytmhgoddlbklbfaa.Lb
