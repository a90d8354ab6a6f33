/- Rows of arcs, one for each state: how they lie, an arc more. No conditions. -/
import Derived.Test.YtfjocafepigijaaDoorNx
import Derived.Test.YtfjocafepigijaaDoorCmM
import Derived.Test.YtfjocafepigijaaDoorSkM
import Derived.Test.YtfjocafepigijaaDoorCR
namespace Go.Proofs.YtfjocafepigijaaDoor.Ra
open Go.RowKit Mv Qp Sk Po Ps Wd Se Mp St Cm Nm Nx

def upn (V : Nat → Value) (k0 : Nat) (v : Value) : Nat → Value := fun k => if k = k0 then v else V k
def adn (R : Nat → List Arc) (k0 : Nat) (a : Arc) : Nat → List Arc := fun k => if k = k0 then R k ++ [a] else R k
structure Rt (w wr : World) (sb S : Nat) (R : Nat → List Arc) (V : Nat → Value) (vs : List Value) : Prop where
 heads : wr.ownsRow w.heap.size 22 1 (.slice (some ⟨sb, 0, none⟩) S S) S vs
 len : vs.length = S
 head : ∀ f, f < S → vs[f]? = some (V f)
 rows : ∀ k, wr.ownsRow w.heap.size 64 5 (V k) (R k).length (acs (R k))
 apart : ∀ k k', k ≠ k' → ∀ b, (V k).ownBlock = some b → (V k').ownBlock ≠ some b
 below : Below w.heap.size w wr
theorem Rt.alloc {w wr : World} {sb S : Nat} {R : Nat → List Arc} {V : Nat → Value} {vs : List Value} (h : Rt w wr sb S R V vs) (o : Obj) : Rt w (wr.alloc o) sb S R V vs :=
 ⟨h.heads.alloc o, h.len, h.head, fun k => (h.rows k).alloc o, h.apart, h.below.alloc h.below.size o⟩
theorem Rt.drew {w wr : World} {sb S : Nat} {R : Nat → List Arc} {V : Nat → Value} {vs : List Value} (h : Rt w wr sb S R V vs) : Rt w wr.drew sb S R V vs :=
 ⟨h.heads, h.len, h.head, h.rows, h.apart, h.below.drew⟩
theorem Rt.begun {w W : World} {S : Nat} (hb : Below w.heap.size w W) (hS : S ≤ 40) : Rt w (W.alloc (.cells (mc S) 22)) W.heap.size S (fun _ => []) (fun _ => nilS) (List.replicate S nilS) := by
 refine ⟨⟨by simp, .inr ⟨W.heap.size, S, mc S, rfl, hb.size, heap_alloc_new _ _, Nat.le_refl _, by unfold maxLen; omega, ?_, ?_⟩⟩, by simp, fun f hf => by simp [hf], fun k => ⟨rfl, .inl ⟨rfl, rfl⟩⟩, fun k k' _ b hb => (by cases hb), hb.alloc hb.size _⟩
 ·rw [← Array.length_toList, mc_list]
  simp
 ·rw [mc_list]
  simp
theorem Rt.cell {w wr : World} {sb S f : Nat} {R : Nat → List Arc} {V : Nat → Value} {vs : List Value} (h : Rt w wr sb S R V vs) (hf : f < S) : wr.cell? ⟨sb, f, none⟩ = some (V f) := by
 rw [h.heads.cellAt f (by omega)]
 exact h.head f hf
theorem apart_upn {V : Nat → Value} {k0 : Nat} {v1 : Value} {sz : Nat} (hap : ∀ k k', k ≠ k' → ∀ b, (V k).ownBlock = some b → (V k').ownBlock ≠ some b) (hlt : ∀ k b, (V k).ownBlock = some b → b < sz) (hl : v1.ownBlock = (V k0).ownBlock ∨ ∃ g, v1.ownBlock = some g ∧ sz ≤ g) :
  ∀ k k', k ≠ k' → ∀ b, (upn V k0 v1 k).ownBlock = some b → (upn V k0 v1 k').ownBlock ≠ some b := by
 intro k k' hne b hb hb'
 unfold upn at hb hb'
 by_cases e1 : k = k0
 ·have e2 : ¬ k' = k0 := fun e => hne (e1.trans e.symm)
  rw [if_pos e1] at hb
  rw [if_neg e2] at hb'
  rcases hl with hl | ⟨g, hl, hg⟩
  ·rw [hl] at hb
   exact hap k0 k' (fun e => e2 e.symm) b hb hb'
  ·rw [hl] at hb
   cases hb
   exact absurd (hlt k' _ hb') (Nat.not_lt.2 hg)
 ·rw [if_neg e1] at hb
  by_cases e2 : k' = k0
  ·rw [if_pos e2] at hb'
   rcases hl with hl | ⟨g, hl, hg⟩
   ·rw [hl] at hb'
    exact hap k k0 e1 b hb hb'
   ·rw [hl] at hb'
    cases hb'
    exact absurd (hlt k _ hb) (Nat.not_lt.2 hg)
  ·rw [if_neg e2] at hb'
   exact hap k k' hne b hb hb'
/-- an arc more in the row of a state -/
theorem Rt.add {w wr w1 : World} {sb S f : Nat} {R : Nat → List Arc} {V : Nat → Value} {vs : List Value} {a : Arc} {v1 : Value} (h : Rt w wr sb S R V vs) (hf : f < S)
  (ho : w1.ownsRow w.heap.size 64 5 v1 ((R f).length + 1) (acs (R f) ++ ac a)) (hg : wr.grownBy w1 (V f).ownBlock) (hl : v1.ownBlock = (V f).ownBlock ∨ ∃ g, v1.ownBlock = some g ∧ wr.heap.size ≤ g) :
  (w1.cell? ⟨sb, f, none⟩ = some (V f) ∧ w1.frozen? ⟨sb, f, none⟩ = false) ∧ Rt w (w1.setCell ⟨sb, f, none⟩ v1) sb S (adn R f a) (upn V f v1) (vs.set f v1) := by
 have hty : ∀ b, (V f).ownBlock = some b → ∃ cur, wr.heap[b]? = some (.cells cur 64 (0, 0)) := fun b hb => own_ty (h.rows _) hb
 have hk1 : Kp (fun b => (V f).ownBlock = some b) wr w1 := (Kp.refl _ wr).grown hg (fun b hb _ => hb)
 obtain ⟨cs, hcs⟩ := own_ty h.heads (k := sb) rfl
 have nS : ¬ (V f).ownBlock = some sb := fun e => by obtain ⟨c, hc⟩ := hty sb e; exact ty_ne hc hcs (by decide)
 have heads1 := own_kp h.heads hk1 nS
 obtain ⟨cs1, hcs1⟩ := own_ty heads1 (k := sb) rfl
 have hlt : ∀ k b, (V k).ownBlock = some b → b < wr.heap.size := fun k b hb => ((h.rows k).lt b hb).2
 have hsl : w.heap.size ≤ sb := (h.heads.lt sb rfl).1
 have hk2 : Kp (fun b => b = sb) w1 (w1.setCell ⟨sb, f, none⟩ v1) := (Kp.refl _ w1).setCell _ _ _ (fun _ => rfl)
 have rows1 : ∀ k, k ≠ f → w1.ownsRow w.heap.size 64 5 (V k) (R k).length (acs (R k)) := fun k hne => own_kp2 (h.rows k) hk1 (fun b hb e => h.apart k _ hne b hb e)
 have nsb : ∀ {v : Value} {m : Nat} {xs : List Value}, w1.ownsRow w.heap.size 64 5 v m xs → ∀ b, v.ownBlock = some b → ¬ b = sb := fun {v m xs} hr b hb e => by
  obtain ⟨c, hc⟩ := own_ty hr hb
  subst e
  exact ty_ne hc hcs1 (by decide)
 refine ⟨⟨?_, heads1.frozenAt f⟩, (heads1.stored f v1).1, by rw [List.length_set]; exact h.len, fun g hg' => ?_, fun k => ?_, apart_upn h.apart hlt hl, ?_⟩
 ·rw [heads1.cellAt f (by omega)]
  exact h.head f hf
 ·rw [List.getElem?_set]
  unfold upn
  by_cases e : f = g
  ·subst e
   simp [h.len, hf]
  ·rw [if_neg e, if_neg (fun e2 => e e2.symm)]
   exact h.head g hg'
 ·unfold upn adn
  by_cases e : k = f
  ·rw [if_pos e, if_pos e]
   subst e
   rw [← acs_snoc, List.length_append]
   exact own_kp2 ho hk2 (nsb ho)
  ·rw [if_neg e, if_neg e]
   exact own_kp2 (rows1 k e) hk2 (nsb (rows1 k e))
 ·exact (h.below.grown hg h.below.size (fun b hb => ((h.rows _).lt b hb).1)).setCell hsl _
/-- the arcs that are put at a state -/
def rws (g : Arc → Arc) (L : List Arc) : Nat → List Arc := fun k => (L.map g).filter fun a => a.1 == (k : Int)
theorem rws_up (g : Arc → Arc) (L : List Arc) (a : Arc) (f : Nat) (hf : (g a).1 = (f : Int)) : rws g (L ++ [a]) = adn (rws g L) f (g a) := by
 funext k
 unfold rws adn
 rw [List.map_append, List.filter_append]
 by_cases e : k = f
 ·subst e
  simp [hf]
 ·have : ¬ (f : Int) = (k : Int) := by omega
  simp [hf, this, e]
theorem rws_len (g : Arc → Arc) (L : List Arc) (k : Nat) : (rws g L k).length ≤ L.length := by
 unfold rws
 exact Nat.le_trans (List.length_filter_le _ _) (by simp)
end Go.Proofs.YtfjocafepigijaaDoor.Ra
/- A list of arcs that has each name once, for its least cost: how it lies, one arc more. No conditions. -/
namespace Go.Proofs.YtfjocafepigijaaDoor.Am
open Go.RowKit Mv Qp Sk Po Ps Wd Se Mp St Cm Nm Nx

/-- where a name stands -/
def pos (A : List Arc) (n : Nam) : Option Nat := A.findIdx? (fun a => nam a == n)
def chp (x : Int) (a : Arc) : Arc := (a.1, a.2.1, a.2.2.1, a.2.2.2.1, if a.2.2.2.2 ≤ x then a.2.2.2.2 else x)
def low (A : List Arc) (i : Nat) (x : Int) : List Arc := A.modify i (chp x)
def putP (A : List Arc) (a : Arc) : List Arc := match pos A (nam a) with | none => A ++ [a] | some i => low A i a.2.2.2.2
theorem pos_snoc (A : List Arc) (a : Arc) (h : pos A (nam a) = none) : (fun n => if n = nam a then some A.length else pos A n) = pos (A ++ [a]) := by
 funext n
 unfold pos at h ⊢
 rw [List.findIdx?_append]
 by_cases e : n = nam a
 ·subst e
  rw [h, if_pos rfl]
  simp
 ·rw [if_neg e]
  have : ¬ nam a = n := fun h => e h.symm
  simp [this]
theorem pos_low : ∀ (A : List Arc) (i : Nat) (x : Int), pos (low A i x) = pos A
 | [], i, x => by cases i <;> rfl
 | a :: A, 0, x => by
  funext n
  unfold pos low
  rw [List.modify_zero_cons, List.findIdx?_cons, List.findIdx?_cons]
  rfl
 | a :: A, i + 1, x => by
  funext n
  have := congrFun (pos_low A i x) n
  unfold pos low at this ⊢
  rw [List.modify_succ_cons, List.findIdx?_cons, List.findIdx?_cons, this]
theorem low_len (A : List Arc) (i : Nat) (x : Int) : (low A i x).length = A.length := by unfold low; simp
theorem acs_low : ∀ (A : List Arc) (i : Nat) (x : Int) (h : i < A.length), acs (low A i x) = (acs A).set (i * 5 + 4) (.int .i64 (if (A[i]).2.2.2.2 ≤ x then (A[i]).2.2.2.2 else x))
 | [], i, x, h => by simp at h
 | a :: A, 0, x, _ => by
  unfold low acs
  rw [List.modify_zero_cons]
  rfl
 | a :: A, i + 1, x, h => by
  have ih := acs_low A i x (by simpa using h)
  unfold low at ih ⊢
  rw [List.modify_succ_cons]
  have e : ∀ (b : Arc) (l : List Arc), acs (b :: l) = ac b ++ acs l := fun b l => by simp [acs]
  rw [e, e, ih, List.set_append_right _ _ (by simp [ac]; omega)]
  have e2 : (i + 1) * 5 + 4 - (ac a).length = i * 5 + 4 := by simp [ac]; omega
  rw [e2]
  rfl
theorem pos_lt {A : List Arc} {n : Nam} {i : Nat} (h : pos A n = some i) : i < A.length := by
 unfold pos at h
 exact (List.findIdx?_eq_some_iff_getElem.1 h).1

structure Al (base : Nat) (w : World) (Lb mb : Nat) (A : List Arc) (va : Value) : Prop where
 row : w.heap[Lb]? = some (.cells #[va, .map (some mb)] 132 (0, 0))
 arcs : w.ownsRow base 64 5 va A.length (acs A)
 mp : IsAm w mb A.length (pos A)
theorem Al.apart {base : Nat} {w : World} {Lb mb : Nat} {A : List Arc} {va : Value} (h : Al base w Lb mb A va) : Lb ≠ mb ∧ va.ownBlock ≠ some Lb ∧ va.ownBlock ≠ some mb := by
 obtain ⟨es, clock, hm⟩ := h.mp.ty
 refine ⟨fun e => ?_, fun e => ?_, fun e => ?_⟩
 ·have := h.row
  rw [e, hm] at this
  cases this
 ·obtain ⟨c, hc⟩ := own_ty h.arcs e
  exact ty_ne hc h.row (by decide)
 ·obtain ⟨c, hc⟩ := own_ty h.arcs e
  rw [hm] at hc
  cases hc
theorem lt_at {w : World} {g : Nat} {o : Obj} (h : w.heap[g]? = some o) : g < w.heap.size := (Array.getElem?_eq_some_iff.1 h).1
theorem Al.kept {base : Nat} {w w' : World} {Lb mb : Nat} {A : List Arc} {va : Value} (h : Al base w Lb mb A va) {X : Nat → Prop} (hk : Kp X w w') (h1 : ¬ X Lb) (h2 : ¬ X mb) (h3 : ∀ k, va.ownBlock = some k → ¬ X k) : Al base w' Lb mb A va :=
 ⟨(hk.block _ (lt_at h.row) h1).trans h.row, own_kp2 h.arcs hk h3, h.mp.kept (hk.block _ h.mp.lt h2)⟩
theorem Al.alloc {base : Nat} {w : World} {Lb mb : Nat} {A : List Arc} {va : Value} (h : Al base w Lb mb A va) (o : Obj) : Al base (w.alloc o) Lb mb A va := h.kept ((Kp.refl (fun _ => False) w).alloc o) id id (fun _ _ => id)
theorem Al.drewN {base : Nat} {w : World} {Lb mb : Nat} {A : List Arc} {va : Value} (h : Al base w Lb mb A va) (d : Nat) : Al base (w.drewN d) Lb mb A va := h.kept ((Kp.refl (fun _ => False) w).drewN d) id id (fun _ _ => id)
/-- the blocks that a put may change -/
def Own (Lb mb : Nat) (va : Value) (b : Nat) : Prop := b = Lb ∨ b = mb ∨ va.ownBlock = some b
/-- a new arc -/
theorem Al.new {base : Nat} {V W7 w8 w9 : World} {Lb mb : Nat} {A : List Arc} {va v1 : Value} {a : Arc} {G' : Nam → Option Nat} (h : Al base V Lb mb A va) (hg7 : V.grownBy W7 (some mb)) (ham : IsAm W7 mb (A.length + 1) G') (hG : G' = pos (A ++ [a])) (hk8 : Kp (fun _ => False) W7 w8)
  (ho : w9.ownsRow base 64 5 v1 (A.length + 1) (acs A ++ ac a)) (hg9 : w8.grownBy w9 va.ownBlock) : Al base (w9.setCell ⟨Lb, 0, none⟩ v1) Lb mb (A ++ [a]) v1 ∧ Kp (Own Lb mb va) V (w9.setCell ⟨Lb, 0, none⟩ v1) := by
 obtain ⟨n1, n2, n3⟩ := h.apart
 have hk7 : Kp (fun b => b = mb) V W7 := (Kp.refl _ V).grown hg7 (fun k hk _ => by cases hk; rfl)
 have r7 := (hk7.block _ (lt_at h.row) n1).trans h.row
 have r8 := (hk8.block _ (lt_at r7) id).trans r7
 have hk9 : Kp (fun b => va.ownBlock = some b) w8 w9 := (Kp.refl _ w8).grown hg9 (fun k hk _ => hk)
 have r9 := (hk9.block _ (lt_at r8) n2).trans r8
 have m8 := ham.kept (hk8.block _ ham.lt id)
 have m9 := m8.kept (hk9.block _ m8.lt n3)
 have hkX : Kp (fun b => b = Lb) w9 (w9.setCell ⟨Lb, 0, none⟩ v1) := (Kp.refl _ w9).setCell _ _ _ (fun _ => rfl)
 refine ⟨⟨?_, ?_, ?_⟩, ?_⟩
 ·have := heap_setCell_same w9 Lb 0 _ 132 v1 r9
  simpa using this
 ·rw [← acs_snoc, List.length_append]
  refine own_kp2 ho hkX (fun k hk e => ?_)
  subst e
  obtain ⟨c, hc⟩ := own_ty ho hk
  exact ty_ne hc r9 (by decide)
 ·rw [List.length_append, ← hG]
  exact m9.kept (hkX.block _ m9.lt (fun e => n1 e.symm))
 ·have k1 : Kp (Own Lb mb va) V W7 := hk7.mono (fun k _ e => .inr (.inl e))
  have k2 : Kp (Own Lb mb va) W7 w8 := hk8.mono (fun k _ e => e.elim)
  have k3 : Kp (Own Lb mb va) w8 w9 := hk9.mono (fun k _ e => .inr (.inr e))
  exact ((k1.trans k2).trans k3).trans (hkX.mono (fun k _ e => .inl e))
/-- a cheaper arc of a name that was there -/
theorem Al.less {base : Nat} {V : World} {Lb mb g cap i : Nat} {A : List Arc} (h : Al base V Lb mb A (.slice (some ⟨g, 0, none⟩) A.length cap)) (x : Int) (hi : i < A.length) (v : Int) (hv : v = if (A[i]).2.2.2.2 ≤ x then (A[i]).2.2.2.2 else x) :
  Al base (V.setCell ⟨g, i * 5 + 4, none⟩ (.int .i64 v)) Lb mb (low A i x) (.slice (some ⟨g, 0, none⟩) (low A i x).length cap) ∧ Kp (Own Lb mb (.slice (some ⟨g, 0, none⟩) A.length cap)) V (V.setCell ⟨g, i * 5 + 4, none⟩ (.int .i64 v)) := by
 obtain ⟨n1, n2, n3⟩ := h.apart
 have hkX : Kp (fun b => b = g) V (V.setCell ⟨g, i * 5 + 4, none⟩ (.int .i64 v)) := (Kp.refl _ V).setCell _ _ _ (fun _ => rfl)
 refine ⟨⟨?_, ?_, ?_⟩, hkX.mono (fun k _ e => .inr (.inr (by rw [e]; rfl)))⟩
 ·rw [low_len]
  exact (hkX.block _ (lt_at h.row) (fun e => n2 (by rw [e]; rfl))).trans h.row
 ·rw [low_len, acs_low A i x hi, ← hv]
  exact (h.arcs.stored (i * 5 + 4) (.int .i64 v)).1
 ·rw [low_len, pos_low]
  exact h.mp.kept (hkX.block _ h.mp.lt (fun e => n3 (by rw [e]; rfl)))
end Go.Proofs.YtfjocafepigijaaDoor.Am
/- Plain facts for MachineThrough: a table of least costs of the machine of pairs. Conditions: the machines are right. -/
namespace Go.Proofs.YtfjocafepigijaaDoor.Wk
open Mv Bw

/-- a table that is on its way: what it has is the cost of a walk -/
structure InvP (m : M) (inn out : List Int) (told : Bool) (S : Nat) (B : List Nat) : Prop where
 len : B.length = S * (inn.length + 1) * cols out told
 top : ∀ q, val B q ≤ dear
 zero : val B 0 = 0
 real : ∀ s i j, s < S → i < inn.length + 1 → j < cols out told → val B (idx (inn.length + 1) (cols out told) s i j) < dear → Reach m inn out told s i j (val B (idx (inn.length + 1) (cols out told) s i j))
 small : ∀ q, val B q < dear → val B q ≤ 2000000 * cnt B

def arcP (st : Int) (a : Int × Int × Int × Int × Int) : Bool :=
 decide (0 ≤ a.1 ∧ a.1 < st ∧ 0 ≤ a.2.1 ∧ a.2.1 < st ∧ 0 ≤ a.2.2.2.2 ∧ a.2.2.2.2 ≤ 2000000)
def finQ (st : Int) (f : Int × Int) : Bool := decide (0 ≤ f.1 ∧ f.1 < st ∧ 0 ≤ f.2 ∧ f.2 ≤ 2000000)
theorem InvP.step {m : M} {inn out : List Int} {told : Bool} {S : Nat} {B : List Nat} (h : InvP m inn out told S B) (x : Nat) (hx : x < m.arcs.length) (s s' i j i' j' W : Nat) (hs : s < S) (hs' : s' < S) (hi : i < inn.length + 1) (hj : j < cols out told)
  (e1 : (m.arcs[x]).1 = (s : Int)) (e2 : (m.arcs[x]).2.1 = (s' : Int)) (eW : (m.arcs[x]).2.2.2.2 = (W : Int)) (hW : W ≤ 2000000) (hm : Move inn out told m.arcs[x] i j i' j')
  (hp : val B (idx (inn.length + 1) (cols out told) s i j) < dear) (hN : B.length ≤ 100000000)
  (hlt : val B (idx (inn.length + 1) (cols out told) s i j) + W < val B (idx (inn.length + 1) (cols out told) s' i' j')) :
  InvP m inn out told S (B.set (idx (inn.length + 1) (cols out told) s' i' j') (val B (idx (inn.length + 1) (cols out told) s i j) + W)) ∧
  (B.set (idx (inn.length + 1) (cols out told) s' i' j') (val B (idx (inn.length + 1) (cols out told) s i j) + W)).sum < B.sum := by
 obtain ⟨hi', hj'⟩ := hm.bd hi hj
 have hq : idx (inn.length + 1) (cols out told) s' i' j' < B.length := by rw [h.len]; exact idx_lt hs' hi' hj'
 have hsm := h.small _ hp
 have hcl := cnt_le B
 generalize hpv : val B (idx (inn.length + 1) (cols out told) s i j) = p at *
 have hvd : p + W < dear := by unfold dear; omega
 generalize hqe : idx (inn.length + 1) (cols out told) s' i' j' = q at *
 have hcs := cnt_set B q (p + W) hq hvd
 have hcge : cnt B ≤ cnt (B.set q (p + W)) := by
  by_cases hd : val B q < dear
  ·rw [hcs.1 hd]; omega
  ·rw [hcs.2 hd]; omega
 refine ⟨⟨by rw [List.length_set]; exact h.len, ?_, ?_, ?_, ?_⟩, ?_⟩
 ·intro r
  rw [val_set B q _ r hq]
  split
  ·omega
  ·exact h.top r
 ·rw [val_set B q _ 0 hq]
  split
  ·rename_i hz
   rw [hz, h.zero] at hlt
   omega
  ·exact h.zero
 ·intro s2 i2 j2 hs2 hi2 hj2
  rw [val_set B q _ _ hq]
  split
  ·rename_i hz
   intro _
   rw [← hqe] at hz
   obtain ⟨rfl, rfl, rfl⟩ := idx_inj hi' hj' hi2 hj2 hz
   have hr := h.real s i j hs hi hj
   rw [hpv] at hr
   obtain ⟨t, ht⟩ := hr hp
   exact ⟨t + 1, s, i, j, p, x, hx, ht, e1, e2, hm, by rw [eW]; omega⟩
  ·exact h.real s2 i2 j2 hs2 hi2 hj2
 ·intro r
  rw [val_set B q _ r hq]
  split
  ·intro _
   by_cases hd : val B q < dear
   ·have := h.small q hd
    rw [hcs.1 hd]
    omega
   ·rw [hcs.2 hd]
    omega
  ·intro hr
   have := h.small r hr
   omega
 ·have := sum_set B q (p + W) hq
  omega

/-- a right machine of S states -/
def RightP (m : M) (S : Nat) : Prop := m.st = (S : Int) ∧ 0 < S ∧ ∀ x (h : x < m.arcs.length), arcP m.st m.arcs[x] = true

theorem reach_bdP {m : M} {inn out : List Int} {told : Bool} {S : Nat} (hr : RightP m S) : ∀ t s i j c, ReachN m inn out told t s i j c → s < S ∧ i < inn.length + 1 ∧ j < cols out told
 | 0, s, i, j, c, h => by
  obtain ⟨rfl, rfl, rfl, _⟩ := h
  exact ⟨hr.2.1, by omega, by unfold cols; split <;> omega⟩
 | t + 1, s', i', j', c', h => by
  obtain ⟨s, i, j, c, x, hx, h, _, e2, hm, _⟩ := h
  have ih := reach_bdP hr t s i j c h
  have ha := hr.2.2 x hx
  unfold arcP at ha
  simp only [decide_eq_true_eq] at ha
  have hst := hr.1
  exact ⟨by omega, hm.bd ih.2.1 ih.2.2⟩

/-- a table that no arc betters has the least -/
theorem leastP {m : M} {inn out : List Int} {told : Bool} {S : Nat} {B : List Nat} (hr : RightP m S) (h : InvP m inn out told S B) (hf : ∀ x (hx : x < m.arcs.length), ∀ i j, i < inn.length + 1 → j < cols out told → Rel inn out told B m.arcs[x] i j) :
  ∀ t s i j c, ReachN m inn out told t s i j c → val B (idx (inn.length + 1) (cols out told) s i j) ≤ c
 | 0, s, i, j, c, h0 => by
  obtain ⟨rfl, rfl, rfl, _⟩ := h0
  have e : idx (inn.length + 1) (cols out told) 0 0 0 = 0 := by unfold idx; simp
  rw [e, h.zero]
  omega
 | t + 1, s', i', j', c', h1 => by
  obtain ⟨s, i, j, c, x, hx, h1, e1, e2, hm, ec⟩ := h1
  have ih := leastP hr h hf t s i j c h1
  have bd := reach_bdP hr t s i j c h1
  have ha := hr.2.2 x hx
  unfold arcP at ha
  simp only [decide_eq_true_eq] at ha
  by_cases hd : val B (idx (inn.length + 1) (cols out told) s i j) < dear
  ·have := hf x hx i j bd.2.1 bd.2.2 s s' i' j' e1 e2 hm hd
   omega
  ·have := h.top (idx (inn.length + 1) (cols out told) s' i' j')
   omega

/-- what may be come to has a cost in a table that no arc betters -/
theorem reachedP {m : M} {inn out : List Int} {told : Bool} {S : Nat} {B : List Nat} (hr : RightP m S) (h : InvP m inn out told S B) (hN : B.length ≤ 100000000) (hf : ∀ x (hx : x < m.arcs.length), ∀ i j, i < inn.length + 1 → j < cols out told → Rel inn out told B m.arcs[x] i j) :
  ∀ t s i j c, ReachN m inn out told t s i j c → val B (idx (inn.length + 1) (cols out told) s i j) < dear
 | 0, s, i, j, c, h0 => by
  obtain ⟨rfl, rfl, rfl, _⟩ := h0
  have e : idx (inn.length + 1) (cols out told) 0 0 0 = 0 := by unfold idx; simp
  rw [e, h.zero]
  unfold dear
  omega
 | t + 1, s', i', j', c', h1 => by
  obtain ⟨s, i, j, c, x, hx, h1, e1, e2, hm, ec⟩ := h1
  have ih := reachedP hr h hN hf t s i j c h1
  have bd := reach_bdP hr t s i j c h1
  have ha := hr.2.2 x hx
  unfold arcP at ha
  simp only [decide_eq_true_eq] at ha
  have h2 := hf x hx i j bd.2.1 bd.2.2 s s' i' j' e1 e2 hm ih
  have h3 := h.small _ ih
  have h4 := cnt_le B
  generalize val B (idx (inn.length + 1) (cols out told) s i j) = p at *
  generalize val B (idx (inn.length + 1) (cols out told) s' i' j') = q at *
  unfold dear
  omega

theorem Lst.finP {S : Nat} {arcs : List (Int × Int × Int × Int × Int)} {fins : List (Int × Int)} {inn out : List Int} {B : List Nat} {v : Nat} (h : Lst fins inn out B fins.length v) (hr : RightP ⟨(S : Int), arcs, fins⟩ S) (hN : B.length ≤ 100000000)
  (hF : ∀ x (h : x < fins.length), finQ (S : Int) fins[x] = true) (hI : InvP ⟨(S : Int), arcs, fins⟩ inn out true S B) (hX : Fix arcs inn out B) : IsCost ⟨(S : Int), arcs, fins⟩ inn out true v := by
 have hc : 0 < cols out true := by show 0 < out.length + 1; omega
 have key : ∀ y (hy : y < fins.length), ∀ f c : Nat, (fins[y]).1 = (f : Int) → Reach ⟨(S : Int), arcs, fins⟩ inn out true f inn.length (cols out true - 1) c → (v : Int) ≤ c + (fins[y]).2 ∧ v < dear := by
  intro y hy f c e hR
  obtain ⟨t, ht⟩ := hR
  have h1 := reachedP hr hI hN hX t _ _ _ _ ht
  have h2 := leastP hr hI hX t _ _ _ _ ht
  have h3 := h.low y hy hy f e h1
  have h4 := hI.small _ h1
  have h5 := cnt_le B
  have h6 := hF y hy
  unfold finQ at h6
  simp only [decide_eq_true_eq] at h6
  generalize val B (idx (inn.length + 1) (cols out true) f inn.length (cols out true - 1)) = p at *
  refine ⟨by omega, ?_⟩
  unfold dear
  omega
 by_cases hd : v < dear
 ·refine .inr ⟨hd, ?_, fun y hy f c e hR => (key y hy f c e hR).1⟩
  obtain ⟨y, hy, f, e, hv, ev⟩ := h.real hd
  have hb := hF y hy
  unfold finQ at hb
  simp only [decide_eq_true_eq] at hb
  exact ⟨y, hy, f, _, e, hI.real f inn.length (cols out true - 1) (by omega) (by omega) (by omega) hv, ev⟩
 ·refine .inl ⟨Nat.le_antisymm h.top (Nat.not_lt.1 hd), fun y hy f c e hR => absurd (key y hy f c e hR).2 hd⟩
/-- how far a pass has come: D: which arcs at which places have been looked at -/
def Pas (inn out : List Int) (B0 : List Nat) (ag : Bool) (B : List Nat) (D : A5 → Nat → Nat → Prop) : Prop := (ag = false → B = B0 ∧ ∀ e i j, D e i j → Rel inn out true B e i j) ∧ (ag = true → B.sum < B0.sum)
theorem Pas.start (inn out : List Int) (B : List Nat) : Pas inn out B false B fun _ _ _ => False := ⟨fun _ => ⟨rfl, fun _ _ _ h => h.elim⟩, fun h => by cases h⟩
theorem Pas.mono {inn out : List Int} {B0 B : List Nat} {ag : Bool} {D D' : A5 → Nat → Nat → Prop} (h : Pas inn out B0 ag B D) (hd : ∀ e i j, D' e i j → D e i j) : Pas inn out B0 ag B D' := ⟨fun q => ⟨(h.1 q).1, fun e i j k => (h.1 q).2 e i j (hd e i j k)⟩, h.2⟩
theorem Pas.skip {inn out : List Int} {B0 B : List Nat} {ag : Bool} {D D' : A5 → Nat → Nat → Prop} (h : Pas inn out B0 ag B D) (hd : ∀ e i j, D' e i j → D e i j ∨ Rel inn out true B e i j) : Pas inn out B0 ag B D' := ⟨fun q => ⟨(h.1 q).1, fun e i j k => (hd e i j k).elim ((h.1 q).2 e i j) id⟩, h.2⟩
theorem Pas.took {inn out : List Int} {B0 B B' : List Nat} {ag : Bool} {D D' : A5 → Nat → Nat → Prop} (h : Pas inn out B0 ag B D) (hs : B'.sum < B.sum) : Pas inn out B0 true B' D' := by
 refine ⟨fun q => (by cases q), fun _ => ?_⟩
 cases ag with
 | true => have := h.2 rfl; omega
 | false => rw [(h.1 rfl).1] at hs; exact hs
end Go.Proofs.YtfjocafepigijaaDoor.Wk
/- The document's ThroughCost: its two inner functions, and how all lies. Conditions: numbers are small. -/
namespace Go.Proofs.YtfjocafepigijaaDoor.Tc
open Go.RowKit Mv Wk Bw Th CR

theorem placed4 {SB s t n i k j : Nat} (hS : SB ≤ 40) (hs : s ≤ 40) (ht : t ≤ 40) (hn : n ≤ 20) (hi : i ≤ 20) (hk : k ≤ 20) (hj : j ≤ 20) :
  ∃ P1 P2 P3 P4 P5 P6 : Nat, wrap64 ((s : Int) * (SB : Int)) = (P1 : Int) ∧ wrap64 ((P1 : Int) + (t : Int)) = (P2 : Int) ∧ wrap64 ((P2 : Int) * (n : Int)) = (P3 : Int) ∧ wrap64 ((P3 : Int) + (i : Int)) = (P4 : Int) ∧ wrap64 ((P4 : Int) * (k : Int)) = (P5 : Int) ∧ wrap64 ((P5 : Int) + (j : Int)) = (P6 : Int) ∧ P6 = idx n k (s * SB + t) i j := by
 have m1 : s * SB ≤ 1600 := Nat.le_trans (Nat.mul_le_mul hs hS) (by decide)
 have m2 : (s * SB + t) * n ≤ 32800 := Nat.le_trans (Nat.mul_le_mul (show s * SB + t ≤ 1640 by omega) hn) (by decide)
 have m3 : ((s * SB + t) * n + i) * k ≤ 656400 := Nat.le_trans (Nat.mul_le_mul (show (s * SB + t) * n + i ≤ 32820 by omega) hk) (by decide)
 refine ⟨s * SB, s * SB + t, (s * SB + t) * n, (s * SB + t) * n + i, ((s * SB + t) * n + i) * k, ((s * SB + t) * n + i) * k + j, ?_, ?_, ?_, ?_, ?_, ?_, rfl⟩
 ·exact wrap_nat (by simp) (by omega)
 ·exact wrap_nat (by simp) (by omega)
 ·exact wrap_nat (by simp) (by omega)
 ·exact wrap_nat (by simp) (by omega)
 ·exact wrap_nat (by simp) (by omega)
 ·exact wrap_nat (by simp) (by omega)
theorem at_any (SB s t n i k j b5 b9 b10 : Nat) (w : World) (h5 : w.cell? ⟨b5, 0, none⟩ = some (.int .i64 (SB : Int))) (h9 : w.cell? ⟨b9, 0, none⟩ = some (.int .i64 (n : Int))) (h10 : w.cell? ⟨b10, 0, none⟩ = some (.int .i64 (k : Int)))
  (hS : SB ≤ 40) (hs : s ≤ 40) (ht : t ≤ 40) (hn : n ≤ 20) (hi : i ≤ 20) (hk : k ≤ 20) (hj : j ≤ 20) :
  Calls Tryd.prog 35 #[.int .i64 (s : Int), .int .i64 (t : Int), .int .i64 (i : Int), .int .i64 (j : Int), .pointer (some ⟨b5, 0, none⟩), .pointer (some ⟨b9, 0, none⟩), .pointer (some ⟨b10, 0, none⟩)] w fun e w' => e = .returned (.int .i64 (idx n k (s * SB + t) i j : Nat)) ∧ w' = w := by
 obtain ⟨P1, P2, P3, P4, P5, P6, w1, w2, w3, w4, w5, w6, HR⟩ := placed4 hS hs ht hn hi hk hj
 rw [← HR]
 clear HR hS hs ht hn hi hk hj
 go_enter Tryd.func35, Tryd.ntmps35
 go_wp2
 go_ret
 exact ⟨by rw [← w6]; rfl, rfl⟩
theorem lower_any (q N G b11 b14 : Nat) (c v : Nat) (w : World) (h11 : w.cell? ⟨b11, 0, none⟩ = some (.slice (some ⟨G, 0, none⟩) N N)) (hq : q < N) (hc : w.cell? ⟨G, q, none⟩ = some (.int .i64 (v : Int))) (hf : w.frozen? ⟨G, q, none⟩ = false)
  (h14 : ∃ ag, w.heap[b14]? = some (.cells #[.bool ag] 4 (0, 0))) (hne : b14 ≠ G) :
  Calls Tryd.prog 36 #[.int .i64 (q : Int), .int .i64 (c : Int), .pointer (some ⟨b11, 0, none⟩), .pointer (some ⟨b14, 0, none⟩)] w fun e w' => e = .returned (.tuple #[]) ∧ w' = if c < v then (w.setCell ⟨G, q, none⟩ (.int .i64 (c : Int))).setCell ⟨b14, 0, none⟩ (.bool true) else w := by
 obtain ⟨ag, h14⟩ := h14
 have hq' : (q : Int) < (N : Int) := by omega
 by_cases hlt : c < v
 ·rw [if_pos hlt]
  have hlt' : (c : Int) < (v : Int) := by omega
  have h14' : (w.setCell ⟨G, q, none⟩ (.int .i64 (c : Int))).heap[b14]? = some (.cells #[.bool ag] 4 (0, 0)) := (heap_setCell_other _ _ _ _ hne).trans h14
  have k0 := cell_of_row _ _ 0 _ _ _ h14'
  have f0 := frozen_of_row _ _ 0 _ 4 h14'
  clear hlt
  go_enter Tryd.func36, Tryd.ntmps36
  go_wp2
  go_end0
  exact ⟨rfl, rfl⟩
 ·rw [if_neg hlt]
  have hlt' : ¬ (c : Int) < (v : Int) := by omega
  clear hlt
  go_enter Tryd.func36, Tryd.ntmps36
  go_wp2
  go_end0
  exact ⟨rfl, rfl⟩
end Go.Proofs.YtfjocafepigijaaDoor.Tc
/- The document's ThroughCost: how all lies while it runs, and what one look at an arc of pairs does to the table. No conditions. -/
namespace Go.Proofs.YtfjocafepigijaaDoor.Tc
open Go.RowKit Mv Wk Bw Th CR

theorem look_dear {inn out : List Int} {B0 B : List Nat} {ag : Bool} {D D' : A5 → Nat → Nat → Prop} {e : A5} {f i j : Nat} (hf : e.1 = (f : Int)) (hP : Pas inn out B0 ag B D) (hD : ∀ e' i' j', D' e' i' j' → D e' i' j' ∨ (e' = e ∧ i' = i ∧ j' = j))
  (h : val B (idx (inn.length + 1) (cols out true) f i j) = dear) : Pas inn out B0 ag B D' :=
 hP.skip fun e' i' j' hd => (hD e' i' j' hd).imp id fun ⟨h1, h2, h3⟩ => by rw [h1, h2, h3]; exact rel_dear hf h
theorem look_kept {inn out : List Int} {B0 B : List Nat} {ag : Bool} {D D' : A5 → Nat → Nat → Prop} {e : A5} {f t W i j i1 j1 : Nat} (hf : e.1 = (f : Int)) (ht : e.2.1 = (t : Int)) (hW : e.2.2.2.2 = (W : Int)) (hm : Wk.Move inn out true e i j i1 j1) (hP : Pas inn out B0 ag B D) (hD : ∀ e' i' j', D' e' i' j' → D e' i' j' ∨ (e' = e ∧ i' = i ∧ j' = j))
  (h : ¬ val B (idx (inn.length + 1) (cols out true) f i j) + W < val B (idx (inn.length + 1) (cols out true) t i1 j1)) : Pas inn out B0 ag B D' :=
 hP.skip fun e' i' j' hd => (hD e' i' j' hd).imp id fun ⟨h1, h2, h3⟩ => by rw [h1, h2, h3]; exact rel_kept hf ht hW hm h
theorem look_none {inn out : List Int} {B0 B : List Nat} {ag : Bool} {D D' : A5 → Nat → Nat → Prop} (hP : Pas inn out B0 ag B D) (hD : ∀ e' i' j', D' e' i' j' → D e' i' j' ∨ ∀ i2 j2, ¬ Wk.Move inn out true e' i' j' i2 j2) : Pas inn out B0 ag B D' :=
 hP.skip fun e' i' j' hd => (hD e' i' j' hd).imp id fun h => rel_none h
theorem look_took {m : M} {inn out : List Int} {B0 B : List Nat} {ag : Bool} {D : A5 → Nat → Nat → Prop} (D' : A5 → Nat → Nat → Prop) {S : Nat} {e : A5} {f t W i j i1 j1 : Nat} (he : e ∈ m.arcs) (hf : e.1 = (f : Int)) (ht : e.2.1 = (t : Int)) (hW : e.2.2.2.2 = (W : Int)) (hW2 : W ≤ 2000000) (hfS : f < S) (htS : t < S) (hi : i < inn.length + 1) (hj : j < cols out true) (hm : Wk.Move inn out true e i j i1 j1) (hI : InvP m inn out true S B) (hP : Pas inn out B0 ag B D) (hN : B.length ≤ 100000000)
  (hp : val B (idx (inn.length + 1) (cols out true) f i j) < dear) (h : val B (idx (inn.length + 1) (cols out true) f i j) + W < val B (idx (inn.length + 1) (cols out true) t i1 j1)) :
  InvP m inn out true S (B.set (idx (inn.length + 1) (cols out true) t i1 j1) (val B (idx (inn.length + 1) (cols out true) f i j) + W)) ∧ Pas inn out B0 true (B.set (idx (inn.length + 1) (cols out true) t i1 j1) (val B (idx (inn.length + 1) (cols out true) f i j) + W)) D' := by
 obtain ⟨x, hx, rfl⟩ := List.getElem_of_mem he
 have hs := hI.step x hx f t i j i1 j1 W hfS htS hi hj hf ht hW hW2 hm hp hN h
 exact ⟨hs.1, hP.took hs.2⟩
/-- how all lies -/
structure Tt (w wr : World) (ra rb : Array Value) (n k N : Nat) (B : List Nat) (ag : Bool) : Prop where
 bel : Below w.heap.size w wr
 x4 : wr.heap[w.heap.size]? = some (.cells ra 25 (0, 0))
 x5 : wr.heap[w.heap.size + 1]? = some (.cells rb 25 (0, 0))
 x9 : wr.heap[w.heap.size + 2]? = some (.cells #[.int .i64 (n : Int)] 3 (0, 0))
 x10 : wr.heap[w.heap.size + 3]? = some (.cells #[.int .i64 (k : Int)] 3 (0, 0))
 tab : wr.ownsRow (w.heap.size + 4) 3 1 (.slice (some ⟨w.heap.size + 4, 0, none⟩) N N) N (nc B)
 x11 : wr.heap[w.heap.size + 5]? = some (.cells #[.slice (some ⟨w.heap.size + 4, 0, none⟩) N N] 26 (0, 0))
 x14 : wr.heap[w.heap.size + 6]? = some (.cells #[.bool ag] 4 (0, 0))
 len : B.length = N
theorem lt_get {w : World} {g : Nat} {o : Obj} (h : w.heap[g]? = some o) : g < w.heap.size := (Array.getElem?_eq_some_iff.1 h).1
theorem Tt.alloc {w wr : World} {ra rb : Array Value} {n k N : Nat} {B : List Nat} {ag : Bool} (h : Tt w wr ra rb n k N B ag) (o : Obj) : Tt w (wr.alloc o) ra rb n k N B ag :=
 have hb : Below wr.heap.size wr (wr.alloc o) := (Below.refl _ wr).alloc (Nat.le_refl _) o
 ⟨h.bel.trans (hb.mono h.bel.size), (hb.block _ (lt_get h.x4)).trans h.x4, (hb.block _ (lt_get h.x5)).trans h.x5, (hb.block _ (lt_get h.x9)).trans h.x9, (hb.block _ (lt_get h.x10)).trans h.x10, h.tab.alloc o, (hb.block _ (lt_get h.x11)).trans h.x11, (hb.block _ (lt_get h.x14)).trans h.x14, h.len⟩
theorem Tt.drewN {w wr : World} {ra rb : Array Value} {n k N : Nat} {B : List Nat} {ag : Bool} (h : Tt w wr ra rb n k N B ag) (d : Nat) : Tt w (wr.drewN d) ra rb n k N B ag :=
 ⟨below_drewN h.bel d, h.x4, h.x5, h.x9, h.x10, h.tab, h.x11, h.x14, h.len⟩
theorem Tt.drew {w wr : World} {ra rb : Array Value} {n k N : Nat} {B : List Nat} {ag : Bool} (h : Tt w wr ra rb n k N B ag) : Tt w wr.drew ra rb n k N B ag :=
 ⟨h.bel.drew, h.x4, h.x5, h.x9, h.x10, h.tab, h.x11, h.x14, h.len⟩
theorem Tt.cell {w wr : World} {ra rb : Array Value} {n k N : Nat} {B : List Nat} {ag : Bool} (h : Tt w wr ra rb n k N B ag) {q : Nat} (hq : q < N) : wr.cell? ⟨w.heap.size + 4, q, none⟩ = some (.int .i64 (val B q : Nat)) := by
 rw [h.tab.cellAt q (by omega)]
 exact nc_at B q (by rw [h.len]; exact hq)
theorem Tt.low {w wr : World} {ra rb : Array Value} {n k N : Nat} {B : List Nat} {ag : Bool} (h : Tt w wr ra rb n k N B ag) (q c : Nat) : Tt w ((wr.setCell ⟨w.heap.size + 4, q, none⟩ (.int .i64 (c : Int))).setCell ⟨w.heap.size + 6, 0, none⟩ (.bool true)) ra rb n k N (B.set q c) true := by
 have hst := h.tab.stored q (.int .i64 (c : Int))
 rw [nc_set] at hst
 have hb : ∀ g, g ≠ w.heap.size + 4 → g ≠ w.heap.size + 6 → ((wr.setCell ⟨w.heap.size + 4, q, none⟩ (.int .i64 (c : Int))).setCell ⟨w.heap.size + 6, 0, none⟩ (.bool true)).heap[g]? = wr.heap[g]? := fun g h1 h2 => (heap_setCell_other _ _ _ _ h2).trans (heap_setCell_other _ _ _ _ h1)
 have h6 : (wr.setCell ⟨w.heap.size + 4, q, none⟩ (.int .i64 (c : Int))).heap[w.heap.size + 6]? = some (.cells #[.bool ag] 4 (0, 0)) := (heap_setCell_other _ _ _ _ (by show w.heap.size + 6 ≠ w.heap.size + 4; omega)).trans h.x14
 refine ⟨(h.bel.setCell (p := ⟨w.heap.size + 4, q, none⟩) (by show w.heap.size ≤ w.heap.size + 4; omega) _).setCell (p := ⟨w.heap.size + 6, 0, none⟩) (by show w.heap.size ≤ w.heap.size + 6; omega) _, (hb _ (by omega) (by omega)).trans h.x4, (hb _ (by omega) (by omega)).trans h.x5, (hb _ (by omega) (by omega)).trans h.x9, (hb _ (by omega) (by omega)).trans h.x10, ?_, (hb _ (by omega) (by omega)).trans h.x11, ?_, by rw [List.length_set]; exact h.len⟩
 ·exact ownsRow_setCell_other hst.1 (fun e => by simp only [Value.ownBlock, Option.some.injEq] at e; omega) _
 ·have := heap_setCell_same _ (w.heap.size + 6) 0 _ 4 (.bool true) h6
  simpa using this
end Go.Proofs.YtfjocafepigijaaDoor.Tc
