/- The program's table beside the document's, in plain words: rows, sets that are met again. How all lies while the table is made. No conditions. -/
import Derived.Test.YtfjocafepigijaaDoorFh
import Derived.Test.YtfjocafepigijaaDoorUp
namespace Go.Proofs.YtfjocafepigijaaDoor.Su
open Go.RowKit Mv Po Ps Cm Ra Set Ot Pa

/-- a row's numbers -/
def rowX (r : List (Option Nat)) (j : Nat) : Int := if j = 0 then -1 else enc (r.getD (j - 1) none)
/-- the rows' numbers, the rows' flags, after k rows -/
noncomputable def Xk (S : Nat) (A : AL) (k i : Nat) : Nat → Int := rowX ((tab S A k).2.getD i [])
noncomputable def fk (S : Nat) (A : AL) (F : List (Int × Int)) (k i : Nat) : Bool := fi F ((tab S A k).1.getD i [])
theorem tab_up2 (S : Nat) (A : AL) (k : Nat) : (tab S A (k + 1)).2 = (tab S A k).2 ++ [(tr S A (tab S A k).1 ((tab S A k).1.getD k []) 60).2] := rfl
theorem tab_up1 (S : Nat) (A : AL) (k : Nat) : (tab S A (k + 1)).1 = (tr S A (tab S A k).1 ((tab S A k).1.getD k []) 60).1 := rfl
theorem Xk_old {S : Nat} {A : AL} {k i : Nat} (h : i < k) : Xk S A (k + 1) i = Xk S A k i := by
  unfold Xk
  simp only [List.getD_eq_getElem?_getD]
  rw [tab_up2, List.getElem?_append_left (by rw [tab_len]; exact h)]
theorem Xk_new {S : Nat} {A : AL} {k : Nat} : Xk S A (k + 1) k = rowX (tr S A (tab S A k).1 ((tab S A k).1.getD k []) 60).2 := by
  unfold Xk
  rw [tab_up2, List.getD_eq_getElem?_getD, List.getElem?_append_right (by rw [tab_len]; exact Nat.le_refl _), tab_len, Nat.sub_self]
  rfl
theorem fk_old {S : Nat} {A : AL} {F : List (Int × Int)} {k i : Nat} (h : i < (tab S A k).1.length) : fk S A F (k + 1) i = fk S A F k i := by
  unfold fk
  have hp := tab_pre S A k (k + 1) (Nat.le_succ k)
  obtain ⟨r, hr⟩ := hp
  simp only [List.getD_eq_getElem?_getD]
  rw [← hr, List.getElem?_append_left h]
/-- the program's sets are the document's, one by one -/
structure Agl (S : Nat) (ks : List (Value × List Nat)) (sl : List (List Bool)) : Prop where
  len : ks.length = sl.length
  at_ : ∀ (i : Nat) (p : Value × List Nat) (b : List Bool), ks[i]? = some p → sl[i]? = some b → Ag S p.2 b
theorem Agl.get {S : Nat} {ks : List (Value × List Nat)} {sl : List (List Bool)} (h : Agl S ks sl) {i : Nat} {p : Value × List Nat} (hp : ks[i]? = some p) : Ag S p.2 (sl.getD i []) := by
  have hi := (List.getElem?_eq_some_iff.1 hp).1
  obtain ⟨b, hb⟩ : ∃ b, sl[i]? = some b := ⟨_, List.getElem?_eq_getElem (by rw [← h.len]; exact hi)⟩
  rw [List.getD_eq_getElem?_getD, hb]
  exact h.at_ i p _ hp hb
theorem Agl.add {S : Nat} {ks : List (Value × List Nat)} {sl : List (List Bool)} (h : Agl S ks sl) {p : Value × List Nat} {b : List Bool} (hp : Ag S p.2 b) : Agl S (ks ++ [p]) (sl ++ [b]) := by
  refine ⟨by rw [List.length_append, List.length_append, h.len]; rfl, fun i q c hq hc => ?_⟩
  rcases Nat.lt_or_ge i ks.length with hi | hi
  · rw [List.getElem?_append_left hi] at hq
    rw [List.getElem?_append_left (by rw [← h.len]; exact hi)] at hc
    exact h.at_ i q c hq hc
  · rw [List.getElem?_append_right hi] at hq
    rw [List.getElem?_append_right (by rw [← h.len]; exact hi), ← h.len] at hc
    cases e : i - ks.length with
    | zero =>
      rw [e] at hq hc
      simp at hq hc
      rw [← hq, ← hc]
      exact hp
    | succ m => rw [e] at hq; simp at hq
theorem find_some {S : Nat} {ks : List (Value × List Nat)} {sl : List (List Bool)} {Gm : ByteArray → Option Nat} {ws : List Nat} {b : List Bool} {i : Nat} (h : Agl S ks sl) (hm : Ot.Met ks Gm) (hA : Ag S ws b) (hi : Gm (kst ws) = some i) : sl.idxOf b = i ∧ i < sl.length := by
  obtain ⟨p, hp, he⟩ := hm.only _ _ hi
  have hil := (List.getElem?_eq_some_iff.1 hp).1
  have hsi : i < sl.length := by rw [← h.len]; exact hil
  have hb : sl[i]? = some sl[i] := List.getElem?_eq_getElem hsi
  have hpb := h.at_ i p _ hp hb
  have e1 : ws = p.2 := kst_inj hA.wd hpb.wd he
  have e2 : sl[i] = b := Ag.eq (by rw [e1]; exact hpb) hA
  have hmem : b ∈ sl := by rw [← e2]; exact List.getElem_mem hsi
  have hlt := List.idxOf_lt_length_of_mem hmem
  have hg : sl[sl.idxOf b]? = some b := by rw [List.getElem?_eq_getElem hlt, List.getElem_idxOf]
  refine ⟨?_, hsi⟩
  obtain ⟨q, hq⟩ : ∃ q, ks[sl.idxOf b]? = some q := ⟨_, List.getElem?_eq_getElem (by rw [h.len]; exact hlt)⟩
  have hqa := h.at_ _ _ _ hq hg
  have e3 : q.2 = ws := hqa.one hA
  have h4 := hm.has _ _ hq
  rw [e3, hi] at h4
  exact (Option.some.inj h4).symm
theorem find_none {S : Nat} {ks : List (Value × List Nat)} {sl : List (List Bool)} {Gm : ByteArray → Option Nat} {ws : List Nat} {b : List Bool} (h : Agl S ks sl) (hm : Ot.Met ks Gm) (hA : Ag S ws b) (hi : Gm (kst ws) = none) : sl.idxOf b = sl.length := by
  refine Classical.byContradiction fun hne => ?_
  have hlt := idx_lt hne
  have hg : sl[sl.idxOf b]? = some b := by rw [List.getElem?_eq_getElem hlt, List.getElem_idxOf]
  obtain ⟨q, hq⟩ : ∃ q, ks[sl.idxOf b]? = some q := ⟨_, List.getElem?_eq_getElem (by rw [h.len]; exact hlt)⟩
  have e3 : q.2 = ws := (h.at_ _ _ _ hq hg).one hA
  have h4 := hm.has _ _ hq
  rw [e3, hi] at h4
  cases h4
/-- what is behind a symbol: the program's gathered set against the document's -/
theorem rp_void {S : Nat} {A : AL} {ws : List Nat} {bs : List Bool} {G : Gt} {c : Nat} (hA : Ag S ws bs) (h : Rp A (Za.ms ws) 0 0 G) (hm : ∀ v, v ∈ Za.ms ws ↔ Set.mem ws v = true) (hc : c ≠ 0) (hn : G c = none) : void (nx S A bs c) = true := by
  rw [void_iff]
  intro v hv
  unfold nx clo at hv
  rw [mk_has] at hv
  obtain ⟨_, u, hu, _⟩ := hv
  rw [mk_has] at hu
  obtain ⟨_, x, hx, he⟩ := hu
  have h1 := (h.mem c u).2 ⟨hc, .inl ⟨x, (hm x).2 ((hA.iff_ x).2 hx), he⟩⟩
  unfold mg at h1
  rw [hn] at h1
  cases h1
theorem rp_full {S : Nat} {A : AL} {ws : List Nat} {bs : List Bool} {G : Gt} {c : Nat} {p : Value × List Nat} (hA : Ag S ws bs) (h : Rp A (Za.ms ws) 0 0 G) (hm : ∀ v, v ∈ Za.ms ws ↔ Set.mem ws v = true) (hG : Gd S A) (hp : G c = some p) (hl : p.2.length = (S + 63) / 64) (hw : ∀ x ∈ p.2, x < 18446744073709551616) : Ag S p.2 (mk S fun v => ∃ u, has bs u ∧ Ed A (c : Int) u v) ∧ void (nx S A bs c) = false ∧ c ≠ 0 := by
  have hmem : ∀ v, Set.mem p.2 v = true ↔ c ≠ 0 ∧ ∃ u, has bs u ∧ Ed A (c : Int) u v := by
    intro v
    have h1 := h.mem c v
    unfold mg at h1
    rw [hp] at h1
    rw [h1]
    constructor
    · rintro ⟨h2, ⟨u, hu, he⟩ | ⟨j, a, hj, _⟩⟩
      · exact ⟨h2, u, (hA.iff_ u).1 ((hm u).1 hu), he⟩
      · omega
    · rintro ⟨h2, u, hu, he⟩
      exact ⟨h2, .inl ⟨u, (hm u).2 ((hA.iff_ u).2 hu), he⟩⟩
  have hlt : ∀ u v, Ed A (c : Int) u v → v < S := by
    rintro u v ⟨a, ha, _, e2, _⟩
    obtain ⟨k, hk, hk2⟩ := List.getElem_of_mem ha
    obtain ⟨f', t', i', o', x', hq, _, h3, _⟩ := hG.nat hk
    rw [hk2] at hq
    rw [hq] at e2
    dsimp only at e2
    omega
  obtain ⟨v, hv⟩ := h.ne c (by rw [hp]; rfl)
  have hv2 : Set.mem p.2 v = true := by
    unfold mg at hv
    rw [hp] at hv
    exact hv
  obtain ⟨hc, u, hu, he⟩ := (hmem v).1 hv2
  refine ⟨⟨mk_len _ _, hl, hw, fun v' => ?_⟩, ?_, hc⟩
  · rw [mk_has, hmem]
    constructor
    · rintro ⟨_, u', hu', he'⟩; exact ⟨hlt _ _ he', u', hu', he'⟩
    · rintro ⟨_, h2⟩; exact ⟨hc, h2⟩
  · cases e : void (nx S A bs c) with
    | false => rfl
    | true =>
      refine absurd ?_ (void_iff.1 e v)
      unfold nx clo
      rw [mk_has]
      exact ⟨hlt _ _ he, v, mk_has.2 ⟨hlt _ _ he, u, hu, he⟩, Cl.refl v⟩
theorem ts_none {S : Nat} {A : AL} {P : List Bool} {s : List (List Bool) × List (Option Nat)} {c : Nat} (h : void (nx S A P c) = true) : ts S A P s c = (s.1, s.2 ++ [none]) := by unfold ts; rw [if_pos h]
theorem ts_some {S : Nat} {A : AL} {P : List Bool} {s : List (List Bool) × List (Option Nat)} {c : Nat} (h : void (nx S A P c) = false) : ts S A P s c = (if s.1.idxOf (nx S A P c) = s.1.length then s.1 ++ [nx S A P c] else s.1, s.2 ++ [some (s.1.idxOf (nx S A P c))]) := by unfold ts; rw [if_neg (by rw [h]; decide)]
/-- how all lies between two calls -/
structure Ntw (w wr : World) (p1 mb tp S sb : Nat) (A : AL) (V : Nat → Value) (vs : List Value) (mc : Array Value) (vk vr : Value) (ks : List (Value × List Nat)) (nr : Nat) (X : Nat → Nat → Int) (f : Nat → Bool) (Gm : ByteArray → Option Nat) : Prop where
  box : wr.heap[p1]? = some (.cells mc 25 (0, 0))
  rows : Rr wr w.heap.size sb S A V vs
  sets : wr.ownsRow w.heap.size 77 1 vk ks.length (ks.map Prod.fst)
  each : ∀ p ∈ ks, IsSet wr w.heap.size p.1 S p.2
  mp : IsSm wr mb ks.length Gm
  met : Ot.Met ks Gm
  tbx : wr.heap[tp]? = some (.cells #[vr] 93 (0, 0))
  trow : wr.ownsRow w.heap.size 90 63 vr nr (tcs nr X f (fun _ => false))
  tge : w.heap.size ≤ tp
  mge : w.heap.size ≤ mb
  below : Below w.heap.size w wr
section
variable {w wr w1 : World} {p1 mb tp S sb : Nat} {A : AL} {V : Nat → Value} {vs : List Value} {mc : Array Value} {vk vr : Value} {ks : List (Value × List Nat)} {nr : Nat} {X : Nat → Nat → Int} {f : Nat → Bool} {Gm : ByteArray → Option Nat}
theorem Ntw.kept {Y : Nat → Prop} (h : Ntw w wr p1 mb tp S sb A V vs mc vk vr ks nr X f Gm) (hk : Kp Y wr w1) (hm : ¬ Y mb) (hX : ∀ b c ty, wr.heap[b]? = some (.cells c ty (0, 0)) → ty = 25 ∨ ty = 22 ∨ ty = 64 ∨ ty = 77 ∨ ty = 93 → ¬ Y b) (hs : ∀ p ∈ ks, ∀ b, p.1.ownBlock = some b → ¬ Y b) (ht : ∀ b, vr.ownBlock = some b → ¬ Y b) (hb : Below w.heap.size w w1) : Ntw w w1 p1 mb tp S sb A V vs mc vk vr ks nr X f Gm :=
  ⟨(hk.block _ (lt_at h.box) (hX _ _ 25 h.box (.inl rfl))).trans h.box, h.rows.kept hk (fun b c ty hb ht => hX b c ty hb (by rcases ht with h | h; exact .inr (.inl h); exact .inr (.inr (.inl h)))), own_kp2 h.sets hk (fun b hb => by obtain ⟨d, hd⟩ := own_ty h.sets hb; exact hX b d 77 hd (.inr (.inr (.inr (.inl rfl))))), fun p hp => ⟨own_kp2 (h.each p hp).1 hk (hs p hp), (h.each p hp).2⟩, h.mp.kept (hk.block _ h.mp.lt hm), h.met, (hk.block _ (lt_at h.tbx) (hX _ _ 93 h.tbx (.inr (.inr (.inr (.inr rfl)))))).trans h.tbx, own_kp2 h.trow hk ht, h.tge, h.mge, hb⟩
theorem Ntw.laid (h : Ntw w wr p1 mb tp S sb A V vs mc vk vr ks nr X f Gm) (hb : Below wr.heap.size wr w1) : Ntw w w1 p1 mb tp S sb A V vs mc vk vr ks nr X f Gm :=
  h.kept (kp_below hb (fun _ => False)) id (fun _ _ _ _ _ => id) (fun _ _ _ _ => id) (fun _ _ => id) (h.below.trans (hb.mono h.below.size))
/-- a set that is none of those was turned -/
theorem Ntw.turned {v : Value} {base : Nat} {ws : List Nat} (h : Ntw w wr p1 mb tp S sb A V vs mc vk vr ks nr X f Gm) (hs : IsSet wr base v S ws) (hv : ∀ b, v.ownBlock = some b → w.heap.size ≤ b) (hk : Kp (fun b => v.ownBlock = some b) wr w1) (ha : ∀ p ∈ ks, ∀ b, p.1.ownBlock = some b → v.ownBlock ≠ some b) : Ntw w w1 p1 mb tp S sb A V vs mc vk vr ks nr X f Gm := by
  have nt : ∀ {b : Nat} {d : Array Value} {ty : TypeId}, wr.heap[b]? = some (.cells d ty (0, 0)) → ty ≠ 136 → ¬ v.ownBlock = some b := fun {b d ty} hb hne e => by
    obtain ⟨d', hd⟩ := own_ty hs.1 e; exact ty_ne hb hd hne
  refine h.kept hk (fun e => ?_) (fun b c ty hb ht => nt hb (by rcases ht with h | h | h | h | h <;> subst h <;> decide)) ha (fun b hb => by obtain ⟨d, hd⟩ := own_ty h.trow hb; exact nt hd (by decide)) (below_kp h.below hk (fun b hb e => by have := hv b e; omega))
  obtain ⟨d', hd⟩ := own_ty hs.1 e
  obtain ⟨es, cl, hm⟩ := h.mp.ty
  rw [hm] at hd
  cases hd
/-- a set more -/
theorem Ntw.addSet {vk' : Value} {p : Value × List Nat} {w2 : World} (h : Ntw w wr p1 mb tp S sb A V vs mc vk vr ks nr X f Gm) (hn : Gm (kst p.2) = none) (hp : IsSet wr w.heap.size p.1 S p.2)
    (hm : IsSm w1 mb (ks.length + 1) (fun s' => if s' = kst p.2 then some ks.length else Gm s')) (hg : wr.grownBy w1 (some mb))
    (ho : w2.ownsRow w.heap.size 77 1 vk' (ks.length + 1) (ks.map Prod.fst ++ [p.1])) (hg2 : (w1.alloc (.cells #[p.1] 77)).grownBy w2 vk.ownBlock) :
    Ntw w w2 p1 mb tp S sb A V vs mc vk' vr (ks ++ [p]) nr X f (fun s' => if s' = kst p.2 then some ks.length else Gm s') := by
  have hk1 : Kp (fun b => b = mb) wr w1 := (Kp.refl _ wr).grown hg (fun b hb _ => (by injection hb with hb; exact hb.symm))
  obtain ⟨es, cl, hmb⟩ := h.mp.ty
  have nm : ∀ {b : Nat} {d : Array Value} {ty : TypeId}, wr.heap[b]? = some (.cells d ty (0, 0)) → b ≠ mb := fun hb e => by subst e; rw [hmb] at hb; cases hb
  have hb1 : Below wr.heap.size wr wr := Below.refl _ _
  have hal := below_al w1 (.cells #[p.1] 77)
  have hk2 : Kp (fun b => vk.ownBlock = some b) w1 w2 := (kp_below hal _).trans ((Kp.refl _ _).grown hg2 (fun b hb _ => hb))
  have hvb : ∀ b, vk.ownBlock = some b → ∃ d, wr.heap[b]? = some (.cells d 77 (0, 0)) := fun b hb => own_ty h.sets hb
  have hk : Kp (fun b => b = mb ∨ vk.ownBlock = some b) wr w2 := (hk1.mono (fun _ _ e => .inl e)).trans (hk2.mono (fun _ _ e => .inr e))
  have nt : ∀ {b : Nat} {d : Array Value} {ty : TypeId}, wr.heap[b]? = some (.cells d ty (0, 0)) → ty ≠ 77 → ¬ (b = mb ∨ vk.ownBlock = some b) := fun {b d ty} hb hne e => by
    rcases e with e | e
    · exact nm hb e
    · obtain ⟨d', hd⟩ := hvb b e; exact ty_ne hb hd hne
  have hmv : ¬ vk.ownBlock = some mb := fun e => by obtain ⟨d', hd⟩ := hvb mb e; rw [hmb] at hd; cases hd
  refine ⟨(hk.block _ (lt_at h.box) (nt h.box (by decide))).trans h.box, h.rows.kept hk (fun b c ty hb ht => nt hb (by rcases ht with h | h <;> subst h <;> decide)), ?_, fun q hq => ?_, ?_, h.met.add hn, (hk.block _ (lt_at h.tbx) (nt h.tbx (by decide))).trans h.tbx, own_kp2 h.trow hk (fun b hb => by obtain ⟨d, hd⟩ := own_ty h.trow hb; exact nt hd (by decide)), h.tge, h.mge, below_kp h.below hk (fun b hb e => by
    rcases e with e | e
    · have := h.mge; omega
    · have := (h.sets.lt b e).1; omega)⟩
  · rw [List.length_append, List.map_append]
    exact ho
  · rcases List.mem_append.1 hq with hq | hq
    · exact ⟨own_kp2 (h.each q hq).1 hk (fun b hb => by obtain ⟨d, hd⟩ := own_ty (h.each q hq).1 hb; exact nt hd (by decide)), (h.each q hq).2⟩
    · rw [List.mem_singleton.1 hq]
      exact ⟨own_kp2 hp.1 hk (fun b hb => by obtain ⟨d, hd⟩ := own_ty hp.1 hb; exact nt hd (by decide)), hp.2⟩
  · rw [List.length_append]
    exact hm.kept (hk2.block _ hm.lt hmv)
/-- a row more -/
theorem Ntw.addRow {vr' : Value} {XL : Nat → Int} {fb : Bool} {X' : Nat → Nat → Int} {f' : Nat → Bool} (h : Ntw w wr p1 mb tp S sb A V vs mc vk vr ks nr X f Gm) (ho : w1.ownsRow w.heap.size 90 63 vr' (nr + 1) (tcs nr X f (fun _ => false) ++ rl XL fb false)) (hg : wr.grownBy w1 vr.ownBlock)
    (hX : ∀ i, i < nr → (∀ j, j < 61 → X i j = X' i j) ∧ f i = f' i) (hL : (∀ j, j < 61 → XL j = X' nr j) ∧ fb = f' nr) : w1.heap[tp]? = some (.cells #[vr] 93 (0, 0)) ∧ Ntw w (w1.setCell ⟨tp, 0, none⟩ vr') p1 mb tp S sb A V vs mc vk vr' ks (nr + 1) X' f' Gm := by
  have hk1 : Kp (fun b => vr.ownBlock = some b) wr w1 := (Kp.refl _ wr).grown hg (fun b hb _ => hb)
  have hk2 : Kp (fun b => b = tp) w1 (w1.setCell ⟨tp, 0, none⟩ vr') := (Kp.refl _ w1).setCell _ _ _ (fun _ => rfl)
  have hk : Kp (fun b => b = tp ∨ vr.ownBlock = some b) wr (w1.setCell ⟨tp, 0, none⟩ vr') := (hk1.mono (fun _ _ e => .inr e)).trans (hk2.mono (fun _ _ e => .inl e))
  have nt : ∀ {b : Nat} {d : Array Value} {ty : TypeId}, wr.heap[b]? = some (.cells d ty (0, 0)) → ty ≠ 90 → ty ≠ 93 → ¬ (b = tp ∨ vr.ownBlock = some b) := fun {b d ty} hb h1 h2 e => by
    rcases e with e | e
    · subst e; exact ty_ne hb h.tbx h2
    · obtain ⟨d', hd⟩ := own_ty h.trow e; exact ty_ne hb hd h1
  have ht1 : w1.heap[tp]? = some (.cells #[vr] 93 (0, 0)) := (hk1.block _ (lt_at h.tbx) (fun e => by obtain ⟨d', hd⟩ := own_ty h.trow e; exact ty_ne h.tbx hd (by decide))).trans h.tbx
  refine ⟨ht1, (hk.block _ (lt_at h.box) (nt h.box (by decide) (by decide))).trans h.box, h.rows.kept hk (fun b c ty hb ht => nt hb (by rcases ht with h | h <;> subst h <;> decide) (by rcases ht with h | h <;> subst h <;> decide)), own_kp2 h.sets hk (fun b hb => by obtain ⟨d, hd⟩ := own_ty h.sets hb; exact nt hd (by decide) (by decide)), fun q hq => ⟨own_kp2 (h.each q hq).1 hk (fun b hb => by obtain ⟨d, hd⟩ := own_ty (h.each q hq).1 hb; exact nt hd (by decide) (by decide)), (h.each q hq).2⟩, h.mp.kept (hk.block _ h.mp.lt (fun e => ?_)), h.met, heap_setCell_same w1 tp 0 _ 93 vr' ht1, ?_, h.tge, h.mge, below_kp h.below hk (fun b hb e => by
    rcases e with e | e
    · have := h.tge; omega
    · have := (h.trow.lt b e).1; omega)⟩
  · obtain ⟨es, cl, hmb⟩ := h.mp.ty
    rcases e with e | e
    · subst e; rw [h.tbx] at hmb; cases hmb
    · obtain ⟨d', hd⟩ := own_ty h.trow e; rw [hmb] at hd; cases hd
  · have e1 : tcs (nr + 1) X' f' (fun _ => false) = tcs nr X f (fun _ => false) ++ rl XL fb false := by
      rw [tcs_snoc, tcs_congr (X' := X') (f' := f') (d' := fun _ => false) (fun i hi => ⟨(hX i hi).1, (hX i hi).2, rfl⟩)]
      congr 1
      unfold rl
      apply List.map_congr_left
      intro j _
      unfold rwc
      rw [hL.2]
      by_cases hj : j < 61
      · rw [if_pos hj, if_pos hj, hL.1 j hj]
      · rw [if_neg hj, if_neg hj]
    rw [e1]
    exact own_kp2 ho hk2 (fun b hb e => by subst e; obtain ⟨c, hc⟩ := own_ty ho hb; exact ty_ne hc ht1 (by decide))
end
end Go.Proofs.YtfjocafepigijaaDoor.Su
