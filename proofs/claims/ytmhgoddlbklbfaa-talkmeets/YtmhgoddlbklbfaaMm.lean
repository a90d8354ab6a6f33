/- Two who talk come to the same, in plain words. No conditions. -/
import Derived.Test.YtmhgoddlbklbfaaRg
import Derived.Test.YtmhgoddlbklbfaaLb
namespace Go.Proofs.Ytmhgoddlbklbfaa.Mm
open Go.RowKit Ta Tb Ra Lb

theorem cmpI_swap (a b : Int) : cmpI b a = - cmpI a b := by unfold cmpI; split <;> split <;> (try split) <;> omega
theorem comp_swap : ∀ x y : List UInt8, Lib.compareBytes y x = - Lib.compareBytes x y
  | [], [] => rfl
  | [], _ :: _ => rfl
  | _ :: _, [] => rfl
  | a :: x, b :: y => by
    unfold Lib.compareBytes
    by_cases h : a < b
    · rw [if_pos h, if_neg (u8_asym h).1, if_pos h]; rfl
    · rw [if_neg h]
      by_cases h' : b < a
      · rw [if_pos h', if_pos h', if_neg h]
      · rw [if_neg h', if_neg h', if_neg h, comp_swap x y]
theorem or3_neg (a b c : Int) : or3 (-a) (-b) (-c) = - or3 a b c := by
  unfold or3
  by_cases h : a = 0
  · subst h
    by_cases h : b = 0
    · subst h; simp
    · simp [h]
  · simp [h]
theorem cmp_swap (x y : To) : cmpT y x = - cmpT x y := by
  unfold cmpT
  rw [cmpI_swap x.ver, cmpI_swap x.who, comp_swap x.val.data.toList, or3_neg]
theorem comp_trans : ∀ x y z : List UInt8, Lib.compareBytes x y ≤ 0 → Lib.compareBytes y z ≤ 0 → Lib.compareBytes x z ≤ 0
  | [], _, [], _, _ => by simp [Lib.compareBytes]
  | [], _, _ :: _, _, _ => by simp [Lib.compareBytes]
  | _ :: _, [], _, h, _ => by simp [Lib.compareBytes] at h
  | _ :: _, _ :: _, [], _, h => by simp [Lib.compareBytes] at h
  | a :: x, b :: y, c :: z, h1, h2 => by
    unfold Lib.compareBytes at *
    by_cases ab : a < b
    · by_cases bc : b < c
      · have : a < c := by simp only [UInt8.lt_iff_toNat_lt] at *; omega
        rw [if_pos this]; omega
      · rw [if_neg bc] at h2
        by_cases cb : c < b
        · rw [if_pos cb] at h2; omega
        · have : a < c := by simp only [UInt8.lt_iff_toNat_lt] at *; omega
          rw [if_pos this]; omega
    · rw [if_neg ab] at h1
      by_cases ba : b < a
      · rw [if_pos ba] at h1; omega
      · rw [if_neg ba] at h1
        have e : a = b := by rcases u8_tri a b with h | h | h; exact absurd h ab; exact h; exact absurd h ba
        subst e
        by_cases bc : a < c
        · rw [if_pos bc]; omega
        · rw [if_neg bc] at h2 ⊢
          by_cases cb : c < a
          · rw [if_pos cb] at h2; omega
          · rw [if_neg cb] at h2 ⊢
            exact comp_trans x y z h1 h2

/-- not later -/
def leT (x y : To) : Prop := cmpT x y ≤ 0
theorem cmpI_neg {a b : Int} : cmpI a b < 0 ↔ a < b := by unfold cmpI; split <;> (try split) <;> omega
theorem le_iff (x y : To) : leT x y ↔ x.ver < y.ver ∨ (x.ver = y.ver ∧ (x.who < y.who ∨ (x.who = y.who ∧ Lib.compareBytes x.val.data.toList y.val.data.toList ≤ 0))) := by
  unfold leT cmpT or3
  by_cases h1 : x.ver = y.ver
  · rw [if_neg (show ¬ (cmpI x.ver y.ver ≠ 0) from fun h => h (cmpI_zero.2 h1))]
    by_cases h2 : x.who = y.who
    · rw [if_neg (show ¬ (cmpI x.who y.who ≠ 0) from fun h => h (cmpI_zero.2 h2))]
      simp [h1, h2]
    · have h3 : cmpI x.who y.who ≠ 0 := fun h => h2 (cmpI_zero.1 h)
      rw [if_pos h3]
      have := cmpI_neg (a := x.who) (b := y.who)
      omega
  · have h3 : cmpI x.ver y.ver ≠ 0 := fun h => h1 (cmpI_zero.1 h)
    rw [if_pos h3]
    have := cmpI_neg (a := x.ver) (b := y.ver)
    omega
theorem cmp_self (x : To) : cmpT x x = 0 := (cmpT_zero x x).2 ⟨rfl, rfl, rfl⟩
theorem le_refl (x : To) : leT x x := by unfold leT; rw [cmp_self]; omega
theorem le_trans {x y z : To} (h1 : leT x y) (h2 : leT y z) : leT x z := by
  rw [le_iff] at *
  rcases h1 with h1 | ⟨e1, h1⟩
  · left; omega
  · rcases h2 with h2 | ⟨e2, h2⟩
    · left; omega
    · refine .inr ⟨by omega, ?_⟩
      rcases h1 with h1 | ⟨f1, h1⟩
      · left; omega
      · rcases h2 with h2 | ⟨f2, h2⟩
        · left; omega
        · exact .inr ⟨by omega, comp_trans _ _ _ h1 h2⟩
theorem le_antisymm {x y : To} (h1 : leT x y) (h2 : leT y x) : cmpT x y = 0 := by
  unfold leT at *
  have := cmp_swap x y
  omega
theorem le_ver {x y : To} (h : x.ver < y.ver) : leT x y := (le_iff x y).2 (.inl h)
/-- of the same entry -/
theorem le_of {x x' y y' : To} (h : leT x y) (a : x.ver = x'.ver) (b : x.who = x'.who) (c : x.val = x'.val) (d : y.ver = y'.ver) (e : y.who = y'.who) (f : y.val = y'.val) : leT x' y' := by
  rw [le_iff] at *
  rwa [← a, ← b, ← c, ← d, ← e, ← f]
theorem le_of_cmp {x y : To} (h : cmpT x y = 0) : leT x y := by unfold leT; omega

def zeroT : To := ⟨0, 0, 0, ByteArray.empty, false⟩
def shut (t : To) : To := { t with op := false }
/-- the slot s -/
def g (es : List Sl) (s : Nat) : Sl := es.getD s Tb.zeroS
theorem g_eq {es : List Sl} {s : Nat} (h : s < es.length) : g es s = es[s] := by unfold g; rw [List.getD_eq_getElem?_getD, List.getElem?_eq_getElem h]; rfl
theorem g_some {es : List Sl} {s : Nat} (h : s < es.length) : es[s]? = some (g es s) := by rw [g_eq h, List.getElem?_eq_getElem h]
theorem g_set {es : List Sl} {j : Nat} (hj : j < es.length) (x : Sl) (s : Nat) : g (es.set j x) s = if s = j then x else g es s := by
  unfold g
  rw [List.getD_eq_getElem?_getD, List.getElem?_set, List.getD_eq_getElem?_getD]
  by_cases e : s = j
  · subst e; simp [hj]
  · rw [if_neg (Ne.symm e), if_neg e]
theorem hear1_g {es : List Sl} {t : To} (h : t.sl.toNat < es.length) (s : Nat) : g (hear1 es t) s = if s = t.sl.toNat then hearS (g es s) t else g es s := by
  unfold hear1
  rw [g_some h]
  dsimp only
  rw [g_set h]
  split
  · rename_i e; rw [e]
  · rfl
theorem take_g {N : Nat} {es : List Sl} (h : es.length = 20) (hN : N ≤ 20) (s : Nat) : g (takeS N es) s = if s < N then calm (g es s) else g es s := by
  unfold takeS g
  simp only [List.getD_eq_getElem?_getD, List.getElem?_append, List.length_map, List.length_take, List.getElem?_map, List.getElem?_take, List.getElem?_drop]
  by_cases e : s < N
  · rw [if_pos (by omega), if_pos e, if_pos e, List.getElem?_eq_getElem (show s < es.length by omega)]
    rfl
  · rw [if_neg (by omega), if_neg e, show N + (s - min N es.length) = s by omega]
theorem take_range {N : Nat} {es : List Sl} (h : es.length = 20) (hN : N ≤ 20) {e : Sl} (he : e ∈ es.take N) : ∃ s, s < N ∧ e = g es s := by
  obtain ⟨i, hi, rfl⟩ := List.getElem_of_mem he
  rw [List.length_take] at hi
  refine ⟨i, by omega, ?_⟩
  rw [g_eq (by omega), List.getElem_take]
theorem range_take {N : Nat} {es : List Sl} (h : es.length = 20) (hN : N ≤ 20) {s : Nat} (hs : s < N) : g es s ∈ es.take N := by
  rw [g_eq (by omega)]
  exact List.mem_take_iff_getElem.2 ⟨s, by omega, rfl⟩

/-! ### hearing one entry -/
theorem hear_sl (e : Sl) (t : To) : (hearS e t).sl = e.sl := by unfold hearS; split <;> (try split) <;> rfl
theorem hear_up (e : Sl) (t : To) : leT e.to (hearS e t).to := by
  unfold hearS
  split
  · exact le_refl _
  · split
    · rename_i h1 h2
      have : leT e.to t := by unfold leT; have := cmp_swap t e.to; omega
      exact this
    · exact le_refl e.to
theorem hear_known {e f : Sl} {t : To} (ht : leT t f.to) (hk : e.op = false → leT e.to f.to) : (hearS e t).op = false → leT (hearS e t).to f.to := by
  unfold hearS
  split
  · exact hk
  · split
    · exact fun _ => ht
    · rename_i h1 h2
      intro _
      have h0 : cmpT t e.to = 0 := by omega
      have : leT e.to t := by unfold leT; have := cmp_swap t e.to; omega
      exact le_trans this ht
theorem hear_shut {e : Sl} {t : To} (hs : e.sl = t.sl) : shutT (hearS e t) = shutT e ∨ shutT (hearS e t) = shut t := by
  unfold hearS
  split
  · exact .inl rfl
  · split
    · right
      unfold shutT shut putS
      simp [hs]
    · exact .inl rfl

/-- a slot's entry is right -/
structure OkS (s : Nat) (D : To → Prop) (e : Sl) : Prop where
  sl : e.sl = (s : Int)
  pos : 0 ≤ e.ver
  zero : e.ver = 0 → e.op = false ∧ e.ow = false
  said : 0 < e.ver → D (shutT e)
/-- what is told is right -/
def Mess (D : To → Prop) (f : List Sl) (l : List To) : Prop := l.length ≤ 20 ∧ ∀ t ∈ l, D (shut t) ∧ leT t (g f t.sl.toNat).to
structure Inv (N i : Nat) (es : Nat → List Sl) (LL : Nat → List (List To)) (D : To → Prop) (la : Nat → Nat → To) : Prop where
  few : N ≤ 20
  len : ∀ k, k < 2 → (es k).length = 20
  ok : ∀ k, k < 2 → ∀ s, s < N → OkS s D (g (es k) s)
  vers : ∀ k, k < 2 → ∀ s, s < 20 → 0 ≤ (g (es k) s).ver ∧ (g (es k) s).ver ≤ (i : Int)
  d : ∀ t, D t → wrongT N t = 0 ∧ t.op = false ∧ t.ver ≤ (i : Int)
  kn : ∀ k, k < 2 → ∀ s, s < N → (g (es k) s).op = false → leT (g (es k) s).to (g (es (1 - k)) s).to
  la : ∀ k, k < 2 → ∀ s, s < N → leT (la k s) (g (es k) s).to ∧ (la k s = zeroT ∨ (la k s).sl = (s : Int) ∧ (la k s).op = false)
  msg : ∀ k, k < 2 → ∀ l ∈ LL k, Mess D (es (1 - k)) l
variable {N i : Nat} {es : Nat → List Sl} {LL : Nat → List (List To)} {D : To → Prop} {la : Nat → Nat → To}

/-- one talker's slots have turned: each entry is as late as it was, or later -/
theorem Inv.turn (h : Inv N i es LL D la) {k : Nat} (hk : k < 2) {e' : List Sl} (hl : e'.length = 20) (hok : ∀ s, s < N → OkS s D (g e' s)) (hv : ∀ s, s < 20 → 0 ≤ (g e' s).ver ∧ (g e' s).ver ≤ (i : Int))
    (hup : ∀ s, s < N → leT (g (es k) s).to (g e' s).to) (hkn : ∀ s, s < N → (g e' s).op = false → leT (g e' s).to (g (es (1 - k)) s).to) : Inv N i (upd es k e') LL D la := by
  have hne : ∀ {j}, j < 2 → j ≠ k → 1 - j = k ∧ 1 - k = j := fun h1 h2 => by omega
  have hk1 : 1 - k ≠ k := by omega
  refine ⟨h.few, ?_, ?_, ?_, h.d, ?_, ?_, ?_⟩
  · intro j hj
    by_cases e : j = k
    · subst e; rw [upd_same]; exact hl
    · rw [upd_other _ _ e]; exact h.len j hj
  · intro j hj
    by_cases e : j = k
    · subst e; rw [upd_same]; exact hok
    · rw [upd_other _ _ e]; exact h.ok j hj
  · intro j hj
    by_cases e : j = k
    · subst e; rw [upd_same]; exact hv
    · rw [upd_other _ _ e]; exact h.vers j hj
  · intro j hj s hs
    by_cases e : j = k
    · subst e; rw [upd_same, upd_other _ _ hk1]; exact hkn s hs
    · rw [upd_other _ _ e, (hne hj e).1, upd_same]
      intro ho
      have := h.kn j hj s hs ho
      rw [(hne hj e).1] at this
      exact le_trans this (hup s hs)
  · intro j hj s hs
    by_cases e : j = k
    · subst e; rw [upd_same]
      exact ⟨le_trans (h.la j hj s hs).1 (hup s hs), (h.la j hj s hs).2⟩
    · rw [upd_other _ _ e]; exact h.la j hj s hs
  · intro j hj l hm
    by_cases e : j = k
    · subst e; rw [upd_other _ _ hk1]; exact h.msg j hj l hm
    · have hm' := h.msg j hj l hm
      rw [(hne hj e).1] at hm' ⊢
      rw [upd_same]
      refine ⟨hm'.1, fun t ht => ⟨(hm'.2 t ht).1, le_trans (hm'.2 t ht).2 (hup _ ?_)⟩⟩
      have := (wrong_ok (h.d _ (hm'.2 t ht).1).1).1
      have e1 : (shut t).sl = t.sl := rfl
      rw [e1] at this
      omega
theorem Inv.mono (h : Inv N i es LL D la) {i' : Nat} {D' : To → Prop} (hi : i ≤ i') (hD : ∀ t, D t → D' t) (hd : ∀ t, D' t → wrongT N t = 0 ∧ t.op = false ∧ t.ver ≤ (i' : Int)) : Inv N i' es LL D' la :=
  ⟨h.few, h.len, fun k hk s hs => ⟨(h.ok k hk s hs).sl, (h.ok k hk s hs).pos, (h.ok k hk s hs).zero, fun hp => hD _ ((h.ok k hk s hs).said hp)⟩, fun k hk s hs => by have := h.vers k hk s hs; omega, hd, h.kn, h.la, fun k hk l hl => ⟨(h.msg k hk l hl).1, fun t ht => ⟨hD _ ((h.msg k hk l hl).2 t ht).1, ((h.msg k hk l hl).2 t ht).2⟩⟩⟩
/-- somebody says something -/
theorem Inv.say (h : Inv N i es LL D la) {k s : Nat} (hk : k < 2) (hs : s < N) (hi : i < 1000000) {v : ByteArray} (hv : v.size ≤ 100) :
    sayR ((k : Int) + 1) N (es k) (s : Int) v = (0, (es k).set s (putS (g (es k) s) ((g (es k) s).ver + 1) ((k : Int) + 1) v)) ∧
    Inv N (i + 1) (upd es k ((es k).set s (putS (g (es k) s) ((g (es k) s).ver + 1) ((k : Int) + 1) v))) LL (fun t => D t ∨ t = shutT (putS (g (es k) s) ((g (es k) s).ver + 1) ((k : Int) + 1) v)) la := by
  have hf := h.few
  have hl := h.len k hk
  have ho := h.ok k hk s hs
  have hve := h.vers k hk s (by omega)
  constructor
  · unfold sayR
    have hb : hasB N (s : Int) = true := by unfold hasB; simp; omega
    rw [if_neg (by simp [hb]), if_neg (by omega), show ((s : Int)).toNat = s from rfl, g_some (by omega)]
    dsimp only
    rw [if_neg (by omega)]
  · have hm : Inv N (i + 1) es LL (fun t => D t ∨ t = shutT (putS (g (es k) s) ((g (es k) s).ver + 1) ((k : Int) + 1) v)) la := by
      refine h.mono (by omega) (fun t ht => .inl ht) (fun t ht => ?_)
      rcases ht with ht | rfl
      · have := h.d t ht
        exact ⟨this.1, this.2.1, by omega⟩
      · refine ⟨?_, rfl, by show (g (es k) s).ver + 1 ≤ _; omega⟩
        unfold wrongT
        have e1 : (shutT (putS (g (es k) s) ((g (es k) s).ver + 1) ((k : Int) + 1) v)).sl = (s : Int) := ho.sl
        have e2 : (shutT (putS (g (es k) s) ((g (es k) s).ver + 1) ((k : Int) + 1) v)).ver = (g (es k) s).ver + 1 := rfl
        have e3 : (shutT (putS (g (es k) s) ((g (es k) s).ver + 1) ((k : Int) + 1) v)).who = (k : Int) + 1 := rfl
        have e4 : (shutT (putS (g (es k) s) ((g (es k) s).ver + 1) ((k : Int) + 1) v)).val = v := rfl
        rw [e1, e2, e3, e4]
        have hb : hasB N (s : Int) = true := by unfold hasB; simp; omega
        have hw : whoB ((k : Int) + 1) = true := by unfold whoB; simp; omega
        rw [if_neg (by simp [hb]), if_neg (by rw [hw]; simp; omega), if_neg (by omega)]
    refine hm.turn hk (by simp [hl]) (fun j hj => ?_) (fun j hj => ?_) (fun j hj => ?_) (fun j hj => ?_)
    · rw [g_set (by omega)]
      split
      · rename_i e
        subst e
        exact ⟨ho.sl, by show 0 ≤ _ + 1; omega, fun h0 => by have : (g (es k) j).ver + 1 = 0 := h0; omega, fun _ => .inr rfl⟩
      · exact hm.ok k hk j hj
    · rw [g_set (by omega)]
      split
      · show 0 ≤ (g (es k) s).ver + 1 ∧ (g (es k) s).ver + 1 ≤ _
        omega
      · exact hm.vers k hk j hj
    · rw [g_set (by omega)]
      split
      · rename_i e
        subst e
        exact le_ver (by show (g (es k) j).ver < (g (es k) j).ver + 1; omega)
      · exact le_refl _
    · rw [g_set (by omega)]
      split
      · intro h0; cases h0
      · exact hm.kn k hk j hj
/-- one entry is heard -/
theorem Inv.hear1 (h : Inv N i es LL D la) {k : Nat} (hk : k < 2) {t : To} (hD : D (shut t)) (hle : leT t (g (es (1 - k)) t.sl.toNat).to) : Inv N i (upd es k (Tb.hear1 (es k) t)) LL D la := by
  have hf := h.few
  have hl := h.len k hk
  have hd := h.d _ hD
  obtain ⟨⟨s1, s2⟩, ⟨v1, v2⟩, _⟩ := wrong_ok hd.1
  have hv3 := hd.2.2
  change 0 ≤ t.sl at s1
  change t.sl < (N : Int) at s2
  change 1 ≤ t.ver at v1
  change t.ver ≤ (i : Int) at hv3
  obtain ⟨s, hs⟩ : ∃ s : Nat, t.sl.toNat = s := ⟨_, rfl⟩
  have hst : t.sl = (s : Int) := by omega
  rw [hs] at hle
  have gg : ∀ j, g (Tb.hear1 (es k) t) j = if j = s then hearS (g (es k) j) t else g (es k) j := fun j => by rw [hear1_g (by omega), hs]
  refine h.turn hk (by rw [hear1_length]; exact hl) (fun j hj => ?_) (fun j hj => ?_) (fun j hj => ?_) (fun j hj => ?_)
  · rw [gg]
    split
    · rename_i e
      subst e
      have ho := h.ok k hk j hj
      have hsl : (g (es k) j).sl = t.sl := ho.sl.trans hst.symm
      refine ⟨(hear_sl _ _).trans ho.sl, ?_, ?_, fun hp => ?_⟩
      · unfold hearS; split
        · exact ho.pos
        · split
          · show 0 ≤ t.ver; omega
          · exact ho.pos
      · unfold hearS; split
        · exact ho.zero
        · split
          · intro h0; have : t.ver = 0 := h0; omega
          · rename_i c1 c2
            intro h0
            have h0' : (g (es k) j).ver = 0 := h0
            have hc : cmpT t (g (es k) j).to = 0 := by omega
            have := ((cmpT_zero _ _).1 hc).1
            have e2 : (g (es k) j).to.ver = (g (es k) j).ver := rfl
            omega
      · rcases hear_shut hsl with e1 | e1
        · rw [e1]
          have e3 : (hearS (g (es k) j) t).ver = (g (es k) j).ver := by
            have := congrArg To.ver e1
            exact this
          exact ho.said (by omega)
        · rw [e1]; exact hD
    · exact h.ok k hk j hj
  · rw [gg]
    split
    · have := h.vers k hk j hj
      unfold hearS; split
      · exact this
      · split
        · show 0 ≤ t.ver ∧ t.ver ≤ _; omega
        · exact this
    · exact h.vers k hk j hj
  · rw [gg]
    split
    · exact hear_up _ _
    · exact le_refl _
  · rw [gg]
    split
    · rename_i e
      subst e
      exact hear_known hle (h.kn k hk j hj)
    · exact h.kn k hk j hj
theorem Inv.hear (h : Inv N i es LL D la) {k : Nat} (hk : k < 2) : ∀ {l : List To}, (∀ t ∈ l, D (shut t) ∧ leT t (g (es (1 - k)) t.sl.toNat).to) → Inv N i (upd es k (hearAll (es k) l)) LL D la := by
  intro l
  induction l generalizing es with
  | nil =>
    intro _
    have : hearAll (es k) [] = es k := rfl
    rw [this, upd_id]
    exact h
  | cons t l ih =>
    intro hl
    have h1 := h.hear1 hk (hl t (by simp)).1 (hl t (by simp)).2
    have hk1 : 1 - k ≠ k := by omega
    have := ih h1 (fun t' ht' => by rw [upd_other _ _ hk1]; exact hl t' (by simp [ht']))
    rw [upd_same] at this
    have e1 : upd (upd es k (Tb.hear1 (es k) t)) k (hearAll (Tb.hear1 (es k) t) l) = upd es k (hearAll (es k) (t :: l)) := by
      funext j
      unfold upd
      split <;> rfl
    rwa [e1] at this
theorem Inv.hearE (h : Inv N i es LL D la) {f : List Sl} {l : List To} (hm : Mess D f l) : Tb.hearE N l = 0 := by
  unfold Tb.hearE
  have := hm.1
  rw [if_neg (by omega)]
  exact firstE_ok (fun j hj => by have := (h.d _ (hm.2 l[j] (List.getElem_mem hj)).1).1; exact this)
/-- what is taken is right; nothing else turns -/
theorem Inv.take (h : Inv N i es LL D la) {k : Nat} (hk : k < 2) : Inv N i (upd es k (takeS N (es k))) LL D la ∧ Mess D (es k) (toldL ((es k).take N)) ∧ Mess D (takeS N (es k)) (toldL ((es k).take N)) := by
  have hf := h.few
  have hl := h.len k hk
  have gg := take_g hl hf
  have hm : ∀ t ∈ toldL ((es k).take N), D (shut t) ∧ ∃ s, s < N ∧ t = (g (es k) s).to := by
    intro t ht
    unfold toldL at ht
    obtain ⟨e, he, rfl⟩ := List.mem_map.1 ht
    obtain ⟨he1, he2⟩ := List.mem_filter.1 he
    obtain ⟨s, hs, rfl⟩ := take_range hl hf he1
    have ho := h.ok k hk s hs
    have hp : 0 < (g (es k) s).ver := by
      rcases Int.lt_or_eq_of_le ho.pos with h' | h'
      · exact h'
      · have := ho.zero h'.symm
        rw [this.1, this.2] at he2
        cases he2
    exact ⟨ho.said hp, s, hs, rfl⟩
  have hlen : (toldL ((es k).take N)).length ≤ 20 := Nat.le_trans (toldL_le _) (by rw [List.length_take]; omega)
  refine ⟨?_, ⟨hlen, fun t ht => ?_⟩, ⟨hlen, fun t ht => ?_⟩⟩
  · refine h.turn hk (by rw [takeS_length]; exact hl) (fun s hs => ?_) (fun s hs => ?_) (fun s hs => ?_) (fun s hs => ?_)
    · rw [gg, if_pos hs]
      have ho := h.ok k hk s hs
      exact ⟨ho.sl, ho.pos, fun h0 => ⟨(ho.zero h0).1, rfl⟩, ho.said⟩
    · rw [gg]
      split
      · exact h.vers k hk s hs
      · exact h.vers k hk s hs
    · rw [gg, if_pos hs]; exact le_refl (g (es k) s).to
    · rw [gg, if_pos hs]; exact h.kn k hk s hs
  · obtain ⟨hD, s, hs, rfl⟩ := hm t ht
    refine ⟨hD, ?_⟩
    have : (g (es k) s).to.sl.toNat = s := by show (g (es k) s).sl.toNat = s; rw [(h.ok k hk s hs).sl]; rfl
    rw [this]
    exact le_refl _
  · obtain ⟨hD, s, hs, rfl⟩ := hm t ht
    refine ⟨hD, ?_⟩
    have : (g (es k) s).to.sl.toNat = s := by show (g (es k) s).sl.toNat = s; rw [(h.ok k hk s hs).sl]; rfl
    rw [this, gg, if_pos hs]
    exact le_refl (g (es k) s).to
/-- one list more is on the way -/
theorem Inv.push (h : Inv N i es LL D la) {k : Nat} (hk : k < 2) {m : List To} (hm : Mess D (es (1 - k)) m) : Inv N i es (upd LL k (LL k ++ [m])) D la := by
  refine ⟨h.few, h.len, h.ok, h.vers, h.d, h.kn, h.la, fun j hj l hl => ?_⟩
  by_cases e : j = k
  · subst e
    rw [upd_same] at hl
    rcases List.mem_append.1 hl with hl | hl
    · exact h.msg j hj l hl
    · simp at hl; rw [hl]; exact hm
  · rw [upd_other _ _ e] at hl
    exact h.msg j hj l hl
/-- what is told of all slots -/
theorem Inv.tells (h : Inv N i es LL D la) {k : Nat} (hk : k < 2) {t : To} (ht : t ∈ tellL ((es k).take N)) : ∃ s, s < N ∧ t = shutT (g (es k) s) ∧ 0 < (g (es k) s).ver ∧ t.sl = (s : Int) := by
  unfold tellL at ht
  obtain ⟨e, he, rfl⟩ := List.mem_map.1 ht
  obtain ⟨he1, he2⟩ := List.mem_filter.1 he
  obtain ⟨s, hs, rfl⟩ := take_range (h.len k hk) h.few he1
  exact ⟨s, hs, rfl, of_decide_eq_true he2, (h.ok k hk s hs).sl⟩
theorem Inv.told (h : Inv N i es LL D la) {k s : Nat} (hk : k < 2) (hs : s < N) (hp : 0 < (g (es k) s).ver) : shutT (g (es k) s) ∈ tellL ((es k).take N) := by
  unfold tellL
  exact List.mem_map.2 ⟨_, List.mem_filter.2 ⟨range_take (h.len k hk) h.few hs, decide_eq_true hp⟩, rfl⟩
/-- what is looked at is said, and no earlier than it was -/
theorem Inv.look (h : Inv N i es LL D la) {k : Nat} (hk : k < 2) {t : To} (ht : t ∈ tellL ((es k).take N)) : ∃ s, s < N ∧ t.sl = (s : Int) ∧ D t ∧ (la k s = t ∨ laterB t (la k s) = true) ∧ Inv N i es LL D (upd la k (upd (la k) s t)) := by
  obtain ⟨s, hs, rfl, hp, hsl⟩ := h.tells hk ht
  have hl := h.la k hk s hs
  refine ⟨s, hs, hsl, (h.ok k hk s hs).said hp, ?_, ?_⟩
  · by_cases hc : cmpT (la k s) (g (es k) s).to = 0
    · left
      obtain ⟨c1, c2, c3⟩ := (cmpT_zero _ _).1 hc
      have e1 : (g (es k) s).to.ver = (g (es k) s).ver := rfl
      rcases hl.2 with h0 | ⟨h1, h2⟩
      · rw [h0] at c1
        have : (0 : Int) = (g (es k) s).ver := c1
        omega
      · have hsl' : (g (es k) s).sl = (s : Int) := hsl
        generalize la k s = x at *
        obtain ⟨x0, x1, x2, x3, x4⟩ := x
        unfold shutT
        simp only at h1 h2 c1 c2 c3
        subst h1 h2
        rw [hsl', c1, c2, c3]
        rfl
    · right
      rw [later_cmp]
      have h1 := hl.1
      unfold leT at h1
      have h2 := cmp_swap (la k s) (g (es k) s).to
      have e : cmpT (shutT (g (es k) s)) (la k s) = cmpT (g (es k) s).to (la k s) := rfl
      omega
  · refine ⟨h.few, h.len, h.ok, h.vers, h.d, h.kn, fun j hj s' hs' => ?_, h.msg⟩
    by_cases e : j = k
    · subst e
      rw [upd_same]
      by_cases e' : s' = s
      · subst e'
        rw [upd_same]
        exact ⟨le_refl (g (es j) s').to, .inr ⟨hsl, rfl⟩⟩
      · rw [upd_other _ _ e']
        exact h.la j hj s' hs'
    · rw [upd_other _ _ e]
      exact h.la j hj s' hs'
theorem Inv.versE (h : Inv N i es LL D la) {k : Nat} (hk : k < 2) (hi : i ≤ 1000000) : Vers (es k) := by
  intro e he
  obtain ⟨s, hs, rfl⟩ := List.getElem_of_mem he
  have := h.vers k hk s (by have := h.len k hk; omega)
  rw [g_eq hs] at this
  omega
/-- at the beginning -/
theorem inv_new (hN : N ≤ 20) : Inv N 0 (fun _ => newS N) (fun _ => []) (fun _ => False) (fun _ _ => zeroT) := by
  have gz : ∀ s, s < 20 → g (newS N) s = if s < N then num s else Tb.zeroS := fun s hs => by rw [g_eq (by rw [newS_length]; exact hs), newS_at hs]
  refine ⟨hN, fun _ _ => newS_length N, fun k _ s hs => ?_, fun k _ s hs => ?_, fun t h => h.elim, fun k _ s hs _ => le_refl _, fun k _ s hs => ?_, fun k _ l hl => by simp at hl⟩
  · rw [gz s (by omega), if_pos hs]
    exact ⟨rfl, Int.le_refl _, fun _ => ⟨rfl, rfl⟩, fun h => by cases h⟩
  · rw [gz s hs]
    split
    · exact ⟨Int.le_refl _, Int.le_refl _⟩
    · exact ⟨Int.le_refl _, Int.le_refl _⟩
  · rw [gz s (by omega), if_pos hs]
    exact ⟨le_refl zeroT, .inl rfl⟩
end Go.Proofs.Ytmhgoddlbklbfaa.Mm
