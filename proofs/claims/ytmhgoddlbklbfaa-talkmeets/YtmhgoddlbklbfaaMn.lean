/- When all comes through for three turns of both, both have the same and are silent: in plain words. No conditions. -/
import Derived.Test.YtmhgoddlbklbfaaMm
namespace Go.Proofs.Ytmhgoddlbklbfaa.Mm
open Go.RowKit Ta Tb Ra Lb

/-- f hears what is told of e -/
def hearO (f e : Sl) : Sl := if (e.op || e.ow) = true then hearS f e.to else f
theorem told_g {es fs : List Sl} (he : es.length = 20) (hf : fs.length = 20) (hsl : ∀ s, s < 20 → (g es s).op || (g es s).ow → (g es s).sl = (s : Int)) : ∀ j, j ≤ 20 → ∀ s, s < 20 → g (hearAll fs (toldL (es.take j))) s = if s < j then hearO (g fs s) (g es s) else g fs s := by
  intro j
  induction j with
  | zero => intro _ s _; simp [toldL, hearAll]
  | succ j ih =>
    intro hj s hs
    have ih := ih (by omega)
    rw [toldL_succ (show j < es.length by omega), ← g_eq (show j < es.length by omega)]
    by_cases ho : ((g es j).op || (g es j).ow) = true
    · rw [if_pos ho]
      have e1 : hearAll fs (toldL (es.take j) ++ [(g es j).to]) = Tb.hear1 (hearAll fs (toldL (es.take j))) (g es j).to := by simp [hearAll]
      have hs0 := hsl j (by omega) ho
      have e2 : (g es j).to.sl.toNat = j := by show (g es j).sl.toNat = j; rw [hs0]; rfl
      rw [e1, hear1_g (by rw [e2, hearAll_length]; omega), e2, ih s hs]
      by_cases e : s = j
      · subst e
        rw [if_pos rfl, if_neg (by omega), if_pos (by omega)]
        unfold hearO
        rw [if_pos ho]
      · rw [if_neg e]
        by_cases h1 : s < j
        · rw [if_pos h1, if_pos (by omega)]
        · rw [if_neg h1, if_neg (by omega)]
    · rw [if_neg ho, ih s hs]
      by_cases e : s = j
      · subst e
        rw [if_neg (by omega), if_pos (by omega)]
        unfold hearO
        rw [if_neg ho]
      · by_cases h1 : s < j
        · rw [if_pos h1, if_pos (by omega)]
        · rw [if_neg h1, if_neg (by omega)]
/-- one turn of both -/
def rnd (p : Sl × Sl) : Sl × Sl := (hearO (calm p.1) (hearO p.2 p.1), calm (hearO p.2 p.1))
theorem hearO_ge {e f : Sl} (h : e.op = false → leT e.to f.to) : leT e.to (hearO f e).to := by
  unfold hearO
  split
  · unfold hearS
    split
    · rename_i h1
      unfold leT; omega
    · split
      · exact le_refl e.to
      · rename_i h1 h2
        unfold leT
        show cmpT e.to f.to ≤ 0
        omega
  · rename_i h1
    exact h (by cases hh : e.op <;> simp_all)
theorem hearO_kn {e f : Sl} (h : f.op = false → leT f.to e.to) : (hearO f e).op = false → leT (hearO f e).to e.to := by
  unfold hearO
  split
  · exact hear_known (le_refl _) h
  · exact h
theorem rnd_same {e f : Sl} (h : e.op = false → leT e.to f.to) (h' : f.op = false → leT f.to e.to) : cmpT (rnd (e, f)).1.to (rnd (e, f)).2.to = 0 := by
  have h1 := hearO_ge h
  have h2 := hearO_kn h'
  have e1 : (calm e).to = e.to := rfl
  have e2 : (calm (hearO f e)).to = (hearO f e).to := rfl
  show cmpT (hearO (calm e) (hearO f e)).to (calm (hearO f e)).to = 0
  rw [e2]
  have h3 : leT (hearO f e).to (hearO (calm e) (hearO f e)).to := hearO_ge (by rw [e1]; exact h2)
  refine le_antisymm ?_ h3
  generalize hearO f e = f1 at *
  unfold hearO
  split
  · unfold hearS
    split
    · rename_i c
      rw [e1] at c ⊢
      exact h1
    · split
      · exact le_refl f1.to
      · exact h1
  · exact h1
theorem hearS_self (f : Sl) (t : To) (h : t.ver = f.ver) (h1 : t.who = f.who) (h2 : t.val = f.val) : hearS f t = { f with op := false, ow := f.ow || t.op } := by
  have : cmpT t f.to = 0 := (cmpT_zero _ _).2 ⟨h, h1, h2⟩
  unfold hearS
  rw [if_neg (by omega), if_neg (by omega)]
theorem rnd_calm {e f : Sl} (h : cmpT e.to f.to = 0) : (rnd (rnd (e, f))).1 = { e with op := false, ow := false } ∧ (rnd (rnd (e, f))).2 = { f with op := false, ow := false } := by
  obtain ⟨h1, h2, h3⟩ := (cmpT_zero _ _).1 h
  obtain ⟨s, v, w, x, oa, wa⟩ := e
  obtain ⟨s', v', w', x', ob, wb⟩ := f
  simp only [Sl.to] at h1 h2 h3
  subst h1 h2 h3
  have q : ∀ (a b : Int) (o1 w1 o2 w2 : Bool), hearO ⟨a, v, w, x, o1, w1⟩ ⟨b, v, w, x, o2, w2⟩ = if (o2 || w2) = true then ⟨a, v, w, x, false, w1 || o2⟩ else ⟨a, v, w, x, o1, w1⟩ := fun a b o1 w1 o2 w2 => by
    unfold hearO
    split
    · rw [hearS_self _ _ rfl rfl rfl]; rfl
    · rfl
  have c : ∀ (a : Int) (o1 w1 : Bool), calm ⟨a, v, w, x, o1, w1⟩ = ⟨a, v, w, x, o1, false⟩ := fun _ _ _ => rfl
  unfold rnd
  cases oa <;> cases wa <;> cases ob <;> cases wb <;> simp [q, c]

/-- both in every slot -/
def Pairs (N : Nat) (a b : List Sl) (f : Nat → Sl × Sl) : Prop := ∀ s, s < N → (g a s, g b s) = f s
theorem tell_same {N : Nat} {a b : List Sl} (ha : a.length = 20) (hb : b.length = 20) (h : ∀ s, s < N → shutT (g a s) = shutT (g b s)) : ∀ j, j ≤ N → j ≤ 20 → tellL (a.take j) = tellL (b.take j) := by
  intro j
  induction j with
  | zero => intro _ _; rfl
  | succ j ih =>
    intro h1 h2
    have ih := ih (by omega) (by omega)
    have hs := h j (by omega)
    have hv : (g a j).ver = (g b j).ver := congrArg To.ver hs
    rw [tellL_succ (show j < a.length by omega), tellL_succ (show j < b.length by omega), ← g_eq (show j < a.length by omega), ← g_eq (show j < b.length by omega), ih, hs, hv]
/-- so many turns of both -/
def Turns (N : Nat) (es0 : Nat → List Sl) : Nat → (Nat → List Sl) → Prop
  | 0, es => es = es0
  | m + 1, es => ∃ e, Turns N es0 m e ∧ ∀ s, s < N → (g (es 0) s, g (es 1) s) = rnd (g (e 0) s, g (e 1) s)
theorem told_none {N : Nat} {a : List Sl} (ha : a.length = 20) (h : ∀ s, s < N → (g a s).op = false ∧ (g a s).ow = false) : ∀ j, j ≤ N → j ≤ 20 → toldL (a.take j) = [] := by
  intro j
  induction j with
  | zero => intro _ _; rfl
  | succ j ih =>
    intro h1 h2
    have hs := h j (by omega)
    rw [toldL_succ (show j < a.length by omega), ← g_eq (show j < a.length by omega), ih (by omega) (by omega), if_neg (by rw [hs.1, hs.2]; simp)]

variable {N i : Nat} {es : Nat → List Sl} {LL : Nat → List (List To)} {D : To → Prop} {la : Nat → Nat → To}
/-- what b hears of what a takes -/
theorem Inv.pass (h : Inv N i es LL D la) {k : Nat} (hk : k < 2) {e' f' : List Sl} (he : e' = takeS N (es k)) (hf : f' = hearAll (es (1 - k)) (toldL ((es k).take N))) :
    Tb.hearE N (toldL ((es k).take N)) = 0 ∧ Inv N i (upd (upd es k e') (1 - k) f') LL D la ∧ ∀ s, s < N → g e' s = calm (g (es k) s) ∧ g f' s = hearO (g (es (1 - k)) s) (g (es k) s) := by
  subst he hf
  obtain ⟨h1, hm, hm'⟩ := h.take hk
  have hk1 : 1 - k ≠ k := by omega
  have hk2 : 1 - (1 - k) = k := by omega
  refine ⟨h.hearE hm, ?_, fun s hs => ?_⟩
  · have h2 := h1.hear (k := 1 - k) (by omega) (l := toldL ((es k).take N)) (fun t ht => by rw [hk2, upd_same]; exact hm'.2 t ht)
    rwa [upd_other _ _ hk1] at h2
  · have hf := h.few
    refine ⟨by rw [take_g (h.len k hk) hf, if_pos hs], ?_⟩
    have e1 : (es k).take N = ((es k).take N ++ List.replicate (20 - N) Tb.zeroS).take N := by
      rw [List.take_append_of_le_length (by rw [List.length_take, h.len k hk]; omega), List.take_take, Nat.min_self]
    have hl : ((es k).take N ++ List.replicate (20 - N) Tb.zeroS).length = 20 := by
      rw [List.length_append, List.length_take, h.len k hk, List.length_replicate]; omega
    have gg : ∀ s, s < 20 → g ((es k).take N ++ List.replicate (20 - N) Tb.zeroS) s = if s < N then g (es k) s else Tb.zeroS := fun s hs => by
      rw [g_eq (by omega), List.getElem_append]
      by_cases c : s < N
      · have c' : s < ((es k).take N).length := by rw [List.length_take, h.len k hk]; omega
        rw [dif_pos c', if_pos c, List.getElem_take, g_eq (by rw [h.len k hk]; omega)]
      · have c' : ¬ s < ((es k).take N).length := by rw [List.length_take, h.len k hk]; omega
        rw [dif_neg c', if_neg c, List.getElem_replicate]
    rw [e1, told_g hl (h.len (1 - k) (by omega)) (fun s hs ho => ?_) N hf s (by omega), if_pos hs, gg s (by omega), if_pos hs]
    rw [gg s hs] at ho ⊢
    split at ho
    · rename_i c
      rw [if_pos c]
      exact (h.ok k hk s c).sl
    · cases ho
/-- one turn of both: what became of each slot -/
structure Turn (N : Nat) (es es' : Nat → List Sl) : Prop where
  turn : ∀ s, s < N → (g (es' 0) s, g (es' 1) s) = rnd (g (es 0) s, g (es 1) s)
theorem turn_of {a b c d : List Sl} (ha : es 0 = a) (hb : es 1 = b) (h : Inv N i es LL D la) (hc : c = hearAll b (toldL (a.take N))) (hd : d = hearAll (takeS N a) (toldL (c.take N))) :
    Tb.hearE N (toldL (a.take N)) = 0 ∧ Tb.hearE N (toldL (c.take N)) = 0 ∧ Inv N i (upd (upd es 0 d) 1 (takeS N c)) LL D la ∧ Turn N es (upd (upd es 0 d) 1 (takeS N c)) := by
  subst ha hb
  obtain ⟨h1, i1, g1⟩ := h.pass (k := 0) (by omega) rfl rfl
  have u0 : upd (upd es 0 (takeS N (es 0))) (1 - 0) (hearAll (es (1 - 0)) (toldL ((es 0).take N))) 1 = c := by rw [hc]; exact upd_same _ _ _
  have u1 : upd (upd es 0 (takeS N (es 0))) (1 - 0) (hearAll (es (1 - 0)) (toldL ((es 0).take N))) 0 = takeS N (es 0) := by rw [upd_other _ _ (by omega), upd_same]
  obtain ⟨h2, i2, g2⟩ := i1.pass (k := 1) (by omega) (e' := takeS N c) (f' := d) (by rw [u0]) (by rw [hd, show (1 - 1 : Nat) = 0 from rfl, u0, u1])
  rw [u0] at h2
  have e1 : upd (upd (upd (upd es 0 (takeS N (es 0))) (1 - 0) (hearAll (es (1 - 0)) (toldL ((es 0).take N)))) 1 (takeS N c)) (1 - 1) d = upd (upd es 0 d) 1 (takeS N c) := by
    funext j
    unfold upd
    by_cases e0 : j = 0
    · subst e0; simp
    · by_cases e1 : j = 1
      · subst e1; simp
      · simp [e0, e1]
  rw [e1] at i2
  refine ⟨h1, h2, i2, ⟨fun s hs => ?_⟩⟩
  obtain ⟨a1, a2⟩ := g1 s hs
  obtain ⟨b1, b2⟩ := g2 s hs
  rw [show (1 - 1 : Nat) = 0 from rfl, u0, u1] at b2
  rw [u0] at b1
  have a2' : g c s = hearO (g (es 1) s) (g (es 0) s) := by rw [hc]; exact a2
  have v0 : upd (upd es 0 d) 1 (takeS N c) 0 = d := by rw [upd_other _ _ (by omega), upd_same]
  have v1 : upd (upd es 0 d) 1 (takeS N c) 1 = takeS N c := upd_same _ _ _
  rw [v0, v1, b1, b2, a1, a2']
  rfl
/-- three turns -/
theorem three {es0 es1 es2 es3 : Nat → List Sl} {la3 : Nat → Nat → To} (h : Inv N i es0 LL D la) (h3 : Inv N i es3 LL D la3) (t1 : Turn N es0 es1) (t2 : Turn N es1 es2) (t3 : Turn N es2 es3) :
    tellL ((es3 0).take N) = tellL ((es3 1).take N) ∧ toldL ((es3 0).take N) = [] ∧ toldL ((es3 1).take N) = [] := by
  have hf := h.few
  have key : ∀ s, s < N → ∃ x y : Sl, cmpT x.to y.to = 0 ∧ g (es3 0) s = { x with op := false, ow := false } ∧ g (es3 1) s = { y with op := false, ow := false } := by
    intro s hs
    have k0 := h.kn 0 (by omega) s hs
    have k1 := h.kn 1 (by omega) s hs
    have r := rnd_same k0 k1
    rw [show ((1 - 0 : Nat)) = 1 from rfl] at r
    have q1 := t1.turn s hs
    have q2 := t2.turn s hs
    have q3 := t3.turn s hs
    rw [← q1] at r
    have c := rnd_calm r
    dsimp only at c
    rw [← q2, ← q3] at c
    exact ⟨_, _, r, c.1, c.2⟩
  refine ⟨tell_same (h3.len 0 (by omega)) (h3.len 1 (by omega)) (fun s hs => ?_) N (Nat.le_refl _) hf, told_none (h3.len 0 (by omega)) (fun s hs => ?_) N (Nat.le_refl _) hf, told_none (h3.len 1 (by omega)) (fun s hs => ?_) N (Nat.le_refl _) hf⟩
  · obtain ⟨x, y, hc, hx, hy⟩ := key s hs
    obtain ⟨c1, c2, c3⟩ := (cmpT_zero _ _).1 hc
    have s0 := (h3.ok 0 (by omega) s hs).sl
    have s1 := (h3.ok 1 (by omega) s hs).sl
    rw [hx] at s0
    rw [hy] at s1
    rw [hx, hy]
    obtain ⟨x0, x1, x2, x3, x4, x5⟩ := x
    obtain ⟨y0, y1, y2, y3, y4, y5⟩ := y
    simp only [Sl.to] at c1 c2 c3 s0 s1
    subst c1 c2 c3 s0 s1
    rfl
  · obtain ⟨x, y, _, hx, _⟩ := key s hs
    rw [hx]; exact ⟨rfl, rfl⟩
  · obtain ⟨x, y, _, _, hy⟩ := key s hs
    rw [hy]; exact ⟨rfl, rfl⟩
theorem turns_three {es0 es3 : Nat → List Sl} {la3 : Nat → Nat → To} (h : Inv N i es0 LL D la) (h3 : Inv N i es3 LL D la3) (t : Turns N es0 3 es3) :
    tellL ((es3 0).take N) = tellL ((es3 1).take N) ∧ toldL ((es3 0).take N) = [] ∧ toldL ((es3 1).take N) = [] := by
  obtain ⟨e2, ⟨e1, ⟨e0, h0, t1⟩, t2⟩, t3⟩ := t
  have h0' : e0 = es0 := h0
  subst h0'
  exact three h h3 ⟨t1⟩ ⟨t2⟩ ⟨t3⟩
end Go.Proofs.Ytmhgoddlbklbfaa.Mm
