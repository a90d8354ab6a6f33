/- The calls of a talker who is looked at, as all lies in memory; the beginning. No conditions. -/
import Derived.Test.YtmhgoddlbklbfaaMt
import Derived.Test.YtmhgoddlbklbfaaLi
namespace Go.Proofs.Ytmhgoddlbklbfaa.Ms
open Go.RowKit Ta Tb Ra Lb Mm Mo
variable {w wr W' : World} {N i : Nat} {F : Fm} {es : Nat → List Sl} {LL : Nat → List (List To)} {D : To → Prop} {la : Nat → Nat → To} {ns nl : Nat}

theorem take_sm (h : Sm w N F es LL D la ns nl wr) (hN : N ≤ 20) {k : Nat} (hk : k < 2) {L : List To} (hL : toldL ((es k).take N) = L) : Calls Try.prog 11 #[.pointer (some ⟨F.p k, 0, none⟩)] wr fun e w' => ∃ a c, e = .returned (.slice a L.length c) ∧ IsT w' a L ∧ (∀ p, a = some p → F.b2 ≤ p.block) ∧ w'.ownsRow wr.heap.size 44 5 (.slice a L.length c) L.length (tls L) ∧ Ko wr w' (F.p k) ∧ Sm w N F (Lb.upd es k (takeS N (es k))) LL D la ns nl w' := by
  refine (take_any (h.tk k hk) hN).mono fun e w' ⟨v, he, ho, hT, hko⟩ => ?_
  rw [hL] at ho
  have hl : L.length ≤ 20 := by rw [← hL]; exact Nat.le_trans (toldL_le _) (by rw [List.length_take, (h.tk k hk).2]; omega)
  have ho2 := ho
  obtain ⟨a, c, rfl, hi, hp⟩ := isT_own ho2 (by omega)
  exact ⟨a, c, he, hi, fun p hq => Nat.le_trans h.hi (hp p hq).1, ho, hko, h.upd hk hko hT⟩
theorem hear_sm (h : Sm w N F es LL D la ns nl wr) (hN : N ≤ 20) {k : Nat} (hk : k < 2) {a : Option Addr} {l : List To} {c : Nat} (hT : IsT wr a l) (ha : ∀ p, a = some p → F.b2 ≤ p.block) (hE : hearE N l = 0) : Calls Try.prog 14 #[.pointer (some ⟨F.p k, 0, none⟩), .slice a l.length c] wr fun e w' => e = .returned (.int .i64 0) ∧ Ko wr w' (F.p k) ∧ Sm w N F (Lb.upd es k (hearAll (es k) l)) LL D la ns nl w' := by
  have o := h.ords hk
  have lo := h.lo
  refine (hear_all (c := c) (h.tk k hk) hN hT (fun p hp => by have := ha p hp; omega)).mono fun e w' ⟨he, hT', hko⟩ => ?_
  rw [hE] at he hT'
  rw [if_pos rfl] at hT'
  exact ⟨he, hko, h.upd hk hko hT'⟩
theorem tell_sm (h : Sm w N F es LL D la ns nl wr) (hN : N ≤ 20) {k : Nat} (hk : k < 2) {L : List To} (hL : tellL ((es k).take N) = L) : Calls Try.prog 16 #[.pointer (some ⟨F.p k, 0, none⟩)] wr fun e w' => ∃ a c, e = .returned (.slice a L.length c) ∧ IsT w' a L ∧ (∀ p, a = some p → F.b2 ≤ p.block) ∧ Below wr.heap.size wr w' := by
  refine (tell_any (h.tk k hk) hN).mono fun e w' ⟨v, he, ho, hb⟩ => ?_
  rw [hL] at ho
  have hl : L.length ≤ 20 := by rw [← hL]; exact Nat.le_trans (tellL_le _) (by rw [List.length_take, (h.tk k hk).2]; omega)
  obtain ⟨a, c, rfl, hi, hp⟩ := isT_own ho (by omega)
  exact ⟨a, c, he, hi, fun p hq => Nat.le_trans h.hi (hp p hq).1, hb⟩
def two (a b : List Sl) : Nat → List Sl := fun k => if k = 0 then a else b
theorem Sm.ext (h : Sm w N F es LL D la ns nl wr) {es' : Nat → List Sl} (h0 : es' 0 = es 0) (h1 : es' 1 = es 1) : Sm w N F es' LL D la ns nl wr := by
  refine ⟨h.bel, h.lo, h.hi, h.pb, h.sb, h.tb, fun k hk => ?_, h.wy, h.sep, h.yf, h.sd, h.ls⟩
  rcases k with _ | _ | k
  · rw [h0]; exact h.tk 0 hk
  · rw [h1]; exact h.tk 1 hk
  · omega
theorem _root_.Go.Proofs.Ytmhgoddlbklbfaa.Mm.Inv.ext (h : Inv N i es LL D la) {es' : Nat → List Sl} (h0 : es' 0 = es 0) (h1 : es' 1 = es 1) : Inv N i es' LL D la := by
  have e : ∀ k, k < 2 → es' k = es k := fun k hk => by
    rcases k with _ | _ | k
    · exact h0
    · exact h1
    · omega
  exact ⟨h.few, fun k hk => by rw [e k hk]; exact h.len k hk, fun k hk => by rw [e k hk]; exact h.ok k hk, fun k hk => by rw [e k hk]; exact h.vers k hk, h.d, fun k hk => by rw [e k hk, e (1 - k) (by omega)]; exact h.kn k hk, fun k hk => by rw [e k hk]; exact h.la k hk, fun k hk => by rw [e (1 - k) (by omega)]; exact h.msg k hk⟩
variable {a b : List Sl}
theorem take0 (h : Sm w N F (two a b) LL D la ns nl wr) (hN : N ≤ 20) {L : List To} (hL : toldL (a.take N) = L) : Calls Try.prog 11 #[.pointer (some ⟨F.p 0, 0, none⟩)] wr fun e w' => ∃ x c, e = .returned (.slice x L.length c) ∧ IsT w' x L ∧ (∀ p, x = some p → F.b2 ≤ p.block) ∧ Sm w N F (two (takeS N a) b) LL D la ns nl w' :=
  (take_sm h hN (k := 0) (by omega) hL).mono fun _ _ ⟨x, c, he, hi, hp, _, _, hs⟩ => ⟨x, c, he, hi, hp, hs.ext (by rw [upd_same]; rfl) (by rw [upd_other _ _ (by omega)]; rfl)⟩
theorem take1 (h : Sm w N F (two a b) LL D la ns nl wr) (hN : N ≤ 20) {L : List To} (hL : toldL (b.take N) = L) : Calls Try.prog 11 #[.pointer (some ⟨F.p 1, 0, none⟩)] wr fun e w' => ∃ x c, e = .returned (.slice x L.length c) ∧ IsT w' x L ∧ (∀ p, x = some p → F.b2 ≤ p.block) ∧ Sm w N F (two a (takeS N b)) LL D la ns nl w' :=
  (take_sm h hN (k := 1) (by omega) hL).mono fun _ _ ⟨x, c, he, hi, hp, _, _, hs⟩ => ⟨x, c, he, hi, hp, hs.ext (by rw [upd_other _ _ (by omega)]; rfl) (by rw [upd_same]; rfl)⟩
theorem hear0 (h : Sm w N F (two a b) LL D la ns nl wr) (hN : N ≤ 20) {x : Option Addr} {l : List To} {c : Nat} (hT : IsT wr x l) (ha : ∀ p, x = some p → F.b2 ≤ p.block) (hE : hearE N l = 0) : Calls Try.prog 14 #[.pointer (some ⟨F.p 0, 0, none⟩), .slice x l.length c] wr fun e w' => e = .returned (.int .i64 0) ∧ Sm w N F (two (hearAll a l) b) LL D la ns nl w' :=
  (hear_sm h hN (k := 0) (by omega) hT ha hE).mono fun _ _ ⟨he, _, hs⟩ => ⟨he, hs.ext (by rw [upd_same]; rfl) (by rw [upd_other _ _ (by omega)]; rfl)⟩
theorem hear1' (h : Sm w N F (two a b) LL D la ns nl wr) (hN : N ≤ 20) {x : Option Addr} {l : List To} {c : Nat} (hT : IsT wr x l) (ha : ∀ p, x = some p → F.b2 ≤ p.block) (hE : hearE N l = 0) : Calls Try.prog 14 #[.pointer (some ⟨F.p 1, 0, none⟩), .slice x l.length c] wr fun e w' => e = .returned (.int .i64 0) ∧ Sm w N F (two a (hearAll b l)) LL D la ns nl w' :=
  (hear_sm h hN (k := 1) (by omega) hT ha hE).mono fun _ _ ⟨he, _, hs⟩ => ⟨he, hs.ext (by rw [upd_other _ _ (by omega)]; rfl) (by rw [upd_same]; rfl)⟩
theorem tell0 (h : Sm w N F (two a b) LL D la ns nl wr) (hN : N ≤ 20) {L : List To} (hL : tellL (a.take N) = L) : Calls Try.prog 16 #[.pointer (some ⟨F.p 0, 0, none⟩)] wr fun e w' => ∃ x c, e = .returned (.slice x L.length c) ∧ IsT w' x L ∧ Below wr.heap.size wr w' :=
  (tell_sm h hN (k := 0) (by omega) hL).mono fun _ _ ⟨x, c, he, hi, _, hb⟩ => ⟨x, c, he, hi, hb⟩
theorem tell1 (h : Sm w N F (two a b) LL D la ns nl wr) (hN : N ≤ 20) {L : List To} (hL : tellL (b.take N) = L) : Calls Try.prog 16 #[.pointer (some ⟨F.p 1, 0, none⟩)] wr fun e w' => ∃ x c, e = .returned (.slice x L.length c) ∧ IsT w' x L ∧ Below wr.heap.size wr w' :=
  (tell_sm h hN (k := 1) (by omega) hL).mono fun _ _ ⟨x, c, he, hi, _, hb⟩ => ⟨x, c, he, hi, hb⟩
theorem turn_two (h : Inv N i (two a b) LL D la) {es0 : Nat → List Sl} {m : Nat} (ht : Turns N es0 m (two a b)) {c d : List Sl} (hc : c = hearAll b (toldL (a.take N))) (hd : d = hearAll (takeS N a) (toldL (c.take N))) :
    Tb.hearE N (toldL (a.take N)) = 0 ∧ Tb.hearE N (toldL (c.take N)) = 0 ∧ Inv N i (two d (takeS N c)) LL D la ∧ Turns N es0 (m + 1) (two d (takeS N c)) := by
  obtain ⟨h1, h2, h3, h4⟩ := turn_of (es := two a b) rfl rfl h hc hd
  have u0 : two d (takeS N c) 0 = Lb.upd (Lb.upd (two a b) 0 d) 1 (takeS N c) 0 := by rw [upd_other _ _ (by omega), upd_same]; rfl
  have u1 : two d (takeS N c) 1 = Lb.upd (Lb.upd (two a b) 0 d) 1 (takeS N c) 1 := by rw [upd_same]; rfl
  exact ⟨h1, h2, h3.ext u0 u1, two a b, ht, fun s hs => by rw [u0, u1]; exact h4.turn s hs⟩
theorem way_nil' (w : World) (b2 : Nat) : Lb.Way w b2 No (.slice none 0 0) [] := ⟨[], ⟨by simp, .inl ⟨rfl, rfl⟩⟩, rfl, fun j h => by simp at h⟩
/-- at the beginning: two talkers in their box -/
structure Two (w : World) (P : Nat) (N : Nat) (p0 p1 : Nat) (W : World) : Prop where
  bel : Below w.heap.size w W
  lo : w.heap.size ≤ P ∧ P < p0 ∧ p0 < p1
  box : W.heap[P]? = some (.cells #[.pointer (some ⟨p0, 0, none⟩), .pointer (some ⟨p1, 0, none⟩)] 25 (0, 0))
  t0 : Tk W p0 1 (N : Int) (newS N)
  t1 : Tk W p1 2 (N : Int) (newS N)
theorem Two.low {P p0 p1 : Nat} {W W' : World} (h : Two w P N p0 p1 W) (hb : Below W.heap.size W W') : Two w P N p0 p1 W' :=
  ⟨h.bel.trans (hb.mono h.bel.size), h.lo, (hb.block P (by have := h.t1.lt; have := h.lo; omega)).trans h.box, h.t0.below hb, h.t1.below hb⟩
/-- all is laid -/
theorem Two.start {P p0 p1 : Nat} {W W1 W2 W3 : World} (h : Two w P N p0 p1 W) (e1 : W1 = W.alloc (.cells #[.slice none 0 0, .slice none 0 0] 35)) (e2 : W2 = (W1.alloc (.map #[] 0)).alloc (.cells #[.map (some W1.heap.size)] 47)) (e3 : W3 = (W2.alloc (.map #[] 0)).alloc (.cells #[.map (some W2.heap.size)] 48)) :
    Sm w N ⟨P, W.heap.size, W1.heap.size + 1, W2.heap.size + 1, W1.heap.size, W2.heap.size, fun k => if k = 0 then p0 else p1, W3.heap.size⟩ (fun _ => newS N) (fun _ => []) (fun _ => False) (fun _ _ => zeroT) 0 0 W3 := by
  have s1 : W1.heap.size = W.heap.size + 1 := by rw [e1]; simp
  have s2 : W2.heap.size = W.heap.size + 3 := by rw [e2]; simp; omega
  have s3 : W3.heap.size = W.heap.size + 5 := by rw [e3]; simp; omega
  have b1 : Below W.heap.size W W1 := by rw [e1]; exact (Below.refl _ W).alloc (Nat.le_refl _) _
  have b2a : Below W1.heap.size W1 (W1.alloc (.map #[] 0)) := (Below.refl _ W1).alloc (Nat.le_refl _) _
  have b2b : Below (W1.alloc (.map #[] 0)).heap.size (W1.alloc (.map #[] 0)) W2 := by rw [e2]; exact (Below.refl _ _).alloc (Nat.le_refl _) _
  have b3a : Below W2.heap.size W2 (W2.alloc (.map #[] 0)) := (Below.refl _ W2).alloc (Nat.le_refl _) _
  have b3b : Below (W2.alloc (.map #[] 0)).heap.size (W2.alloc (.map #[] 0)) W3 := by rw [e3]; exact (Below.refl _ _).alloc (Nat.le_refl _) _
  have b2 : Below W1.heap.size W1 W2 := b2a.trans (b2b.mono b2a.size)
  have b3 : Below W2.heap.size W2 W3 := b3a.trans (b3b.mono b3a.size)
  have b23 : Below W1.heap.size W1 W3 := b2.trans (b3.mono b2.size)
  have b13 : Below W.heap.size W W3 := b1.trans (b23.mono b1.size)
  have t := h.low b13
  have lo := h.lo
  have l1 := h.t1.lt
  have hy : W3.heap[W.heap.size]? = some (.cells #[.slice none 0 0, .slice none 0 0] 35 (0, 0)) := by
    rw [b23.block _ (by omega), e1]
    exact heap_alloc_new _ _
  have hS : W3.heap[W1.heap.size + 1]? = some (.cells #[.map (some W1.heap.size)] 47 (0, 0)) := by
    rw [b3.block _ (by omega), e2]
    have := heap_alloc_new (W1.alloc (.map #[] 0)) (.cells #[.map (some W1.heap.size)] 47)
    simpa using this
  have hT : W3.heap[W2.heap.size + 1]? = some (.cells #[.map (some W2.heap.size)] 48 (0, 0)) := by
    rw [e3]
    have := heap_alloc_new (W2.alloc (.map #[] 0)) (.cells #[.map (some W2.heap.size)] 48)
    simpa using this
  refine ⟨t.bel, ?_, Nat.le_refl _, ?_, cell_of_row _ _ 0 _ _ _ hS, cell_of_row _ _ 0 _ _ _ hT, ?_, ?_, ?_, ?_, ?_, ?_⟩
  · simp; omega
  · intro k hk
    rcases k with _ | _ | k
    · exact cell_of_row _ _ 0 _ _ _ t.box
    · exact cell_of_row _ _ 1 _ _ _ t.box
    · omega
  · intro k hk
    rcases k with _ | _ | k
    · exact t.t0
    · exact t.t1
    · omega
  · intro k hk
    rcases k with _ | _ | k
    · exact ⟨none, 0, 0, cell_of_row _ _ 0 _ _ _ hy, way_nil' _ _⟩
    · exact ⟨none, 0, 0, cell_of_row _ _ 1 _ _ _ hy, way_nil' _ _⟩
    · omega
  · intro g v0 v1 h0 h1 hg
    rw [cell_of_row _ _ 0 _ _ _ hy] at h0
    simp at h0
    subst h0
    cases hg
  · intro k
    exact frozen_of_row _ _ k _ _ hy
  · refine (said_made W1).kept ?_
    exact (b3.block _ (by omega)).trans (b2b.block _ (by simp))
  · exact (last_made W2).kept (b3b.block _ (by simp))
end Go.Proofs.Ytmhgoddlbklbfaa.Ms
