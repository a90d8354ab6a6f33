/- What Cost must answer, in plain words; that there is just one such answer; and that a row of least costs gives it. No conditions. -/
import Derived.Test.YtfjocafepigijaaDoorSyM
import Derived.Test.YtfjocafepigijaaDoorCmM
import Derived.Test.YtfjocafepigijaaDoorCR
import Derived.Laws.ResultCell
import Derived.Test.YtfjocafepigijaaDoorAq
import Derived.Laws.Rows
namespace Go.Proofs.YtfjocafepigijaaDoor.Rz
open Mv Wk Sy Wd Wg Nw

theorem checkP_ex (m : M) : ∃ x, checkP m x := by
 cases h1 : sizeB m with
 | false => exact ⟨7, .inl ⟨h1, rfl⟩⟩
 | true =>
  by_cases h2 : ∃ k, ∃ h : k < m.arcs.length, arcB m.st m.arcs[k] = false
  ·exact ⟨3, .inr (.inl ⟨h1, h2, rfl⟩)⟩
  ·have h2' : ∀ k (h : k < m.arcs.length), arcB m.st m.arcs[k] = true := fun k h => by
    cases e : arcB m.st m.arcs[k] with
    | true => rfl
    | false => exact absurd ⟨k, h, e⟩ h2
   by_cases h3 : ∃ k, ∃ h : k < m.fins.length, finB m.st m.fins[k] = false
   ·exact ⟨3, .inr (.inr (.inl ⟨h1, h2', h3, rfl⟩))⟩
   ·have h3' : ∀ k (h : k < m.fins.length), finB m.st m.fins[k] = true := fun k h => by
     cases e : finB m.st m.fins[k] with
     | true => rfl
     | false => exact absurd ⟨k, h, e⟩ h3
    by_cases h4 : onceK m m.fins.length
    ·exact ⟨0, .inr (.inr (.inr (.inr ⟨h1, h2', h3', h4, rfl⟩)))⟩
    ·exact ⟨6, .inr (.inr (.inr (.inl ⟨h1, h2', h3', h4, rfl⟩)))⟩
theorem checkP_ok {m : M} (h : checkP m 0) : sizeB m = true ∧ (∀ k (h : k < m.arcs.length), arcB m.st m.arcs[k] = true) ∧ (∀ k (h : k < m.fins.length), finB m.st m.fins[k] = true) := by
 rcases h with ⟨_, e⟩ | ⟨_, _, e⟩ | ⟨_, _, _, e⟩ | ⟨_, _, _, _, e⟩ | ⟨a, b, c, _, _⟩
 ·omega
 ·omega
 ·omega
 ·omega
 ·exact ⟨a, b, c⟩
/-- the least cost of a walk that ends; none: there is none -/
def IsC (m : M) (inn out : List Int) : Option Nat → Prop
 | none => ∀ y (hy : y < m.fins.length), ∀ f c : Nat, (m.fins[y]).1 = (f : Int) → ¬ Wk.Reach m inn out true f inn.length out.length c
 | some v => (∃ y, ∃ hy : y < m.fins.length, ∃ f c : Nat, (m.fins[y]).1 = (f : Int) ∧ Wk.Reach m inn out true f inn.length out.length c ∧ (v : Int) = c + (m.fins[y]).2) ∧ ∀ y (hy : y < m.fins.length), ∀ f c : Nat, (m.fins[y]).1 = (f : Int) → Wk.Reach m inn out true f inn.length out.length c → (v : Int) ≤ c + (m.fins[y]).2
theorem IsC.one {m : M} {inn out : List Int} {a b : Option Nat} (h : IsC m inn out a) (h' : IsC m inn out b) : a = b := by
 cases a with
 | none =>
  cases b with
  | none => rfl
  | some v => obtain ⟨⟨y, hy, f, c, e, r, _⟩, _⟩ := h'; exact absurd r (h y hy f c e)
 | some u =>
  cases b with
  | none => obtain ⟨⟨y, hy, f, c, e, r, _⟩, _⟩ := h; exact absurd r (h' y hy f c e)
  | some v =>
   obtain ⟨⟨y, hy, f, c, e, r, ev⟩, hl⟩ := h
   obtain ⟨⟨y', hy', f', c', e', r', ev'⟩, hl'⟩ := h'
   have q1 := hl y' hy' f' c' e' r'
   have q2 := hl' y hy f c e r
   congr 1
   omega
theorem isC_prog {S : Nat} {A : List Arc} {fins : List (Int × Int)} {inn out : List Int} {R : List Nat} {v : Nat} (hfin : ∀ k (h : k < fins.length), finB (S : Int) fins[k] = true) (hg : Fine ⟨(S : Int), A, fins⟩ inn out S inn.length out.length R) (hb : Bd S (inn.length + out.length + 1) ≤ 1000000000000) (hl : Lf fins R fins.length v) :
  (v = far ∧ IsC ⟨(S : Int), A, fins⟩ inn out none) ∨ (v < far ∧ IsC ⟨(S : Int), A, fins⟩ inn out (some v)) := by
 have hfar : 1000000000000 + 1000000 < far := by unfold far; omega
 have key : ∀ y (hy : y < fins.length), ∀ f c : Nat, (fins[y]).1 = (f : Int) → Wk.Reach ⟨(S : Int), A, fins⟩ inn out true f inn.length out.length c → (v : Int) ≤ c + (fins[y]).2 ∧ v < far := by
  intro y hy f c e hR
  have h1 := hg.low f c hR
  have h2 := hl.low y hy hy f e h1.2
  have h3 := hg.top2 f h1.2
  have h4 := hfin y hy
  unfold finB at h4
  simp only [decide_eq_true_eq] at h4
  constructor
  ·omega
  ·omega
 by_cases hv : v < far
 ·refine .inr ⟨hv, ?_, fun y hy f c e hR => (key y hy f c e hR).1⟩
  obtain ⟨y, hy, f, e, hd, ev⟩ := hl.real hv
  have h4 := hfin y hy
  unfold finB at h4
  simp only [decide_eq_true_eq] at h4
  exact ⟨y, hy, f, cv R f, e, hg.row.real f (by omega) hd, ev⟩
 ·exact .inl ⟨Nat.le_antisymm hl.top (Nat.not_lt.1 hv), fun y hy f c e hR => hv (key y hy f c e hR).2⟩
/-- the answer -/
def Res (m : M) (inn out : List Int) (c : Int) (ok : Bool) (e : Int) : Prop :=
 (checkP m e ∧ e ≠ 0 ∧ c = 0 ∧ ok = false) ∨ (checkP m 0 ∧ jn inn out = e ∧ e ≠ 0 ∧ c = 0 ∧ ok = false) ∨
 (checkP m 0 ∧ jn inn out = 0 ∧ e = 0 ∧ ((IsC m inn out none ∧ c = 0 ∧ ok = false) ∨ ∃ v : Nat, IsC m inn out (some v) ∧ c = (v : Int) ∧ ok = true))
theorem Res.one {m : M} {inn out : List Int} {c c' : Int} {ok ok' : Bool} {e e' : Int} (h : Res m inn out c ok e) (h' : Res m inn out c' ok' e') : c = c' ∧ ok = ok' ∧ e = e' := by
 rcases h with ⟨a, b, r, s⟩ | ⟨a, j, b, r, s⟩ | ⟨a, j, b, r⟩ <;> rcases h' with ⟨a', b', r', s'⟩ | ⟨a', j', b', r', s'⟩ | ⟨a', j', b', r'⟩
 ·exact ⟨by rw [r, r'], by rw [s, s'], checkP_one a a'⟩
 ·exact absurd (checkP_one a a') b
 ·exact absurd (checkP_one a a') b
 ·exact absurd (checkP_one a' a) b'
 ·exact ⟨by rw [r, r'], by rw [s, s'], by rw [← j, ← j']⟩
 ·exact absurd (j.symm.trans j') b
 ·exact absurd (checkP_one a' a) b'
 ·exact absurd (j'.symm.trans j) b'
 ·rcases r with ⟨i, rc, ro⟩ | ⟨v, i, rc, ro⟩ <;> rcases r' with ⟨i', rc', ro'⟩ | ⟨v', i', rc', ro'⟩
  ·exact ⟨by rw [rc, rc'], by rw [ro, ro'], by rw [b, b']⟩
  ·exact absurd (i.one i') (by simp)
  ·exact absurd (i.one i') (by simp)
  ·have := i.one i'
   simp only [Option.some.injEq] at this
   exact ⟨by rw [rc, rc', this], by rw [ro, ro'], by rw [b, b']⟩
theorem jn_long {a b : List Int} (h : 60 < a.length ∨ 60 < b.length) : jn a b = 2 := by
 unfold jn
 rw [if_pos]
 rcases h with h | h
 ·exact .inl (by unfold flt; rw [if_pos h])
 ·exact .inr (by unfold flt; rw [if_pos h])
theorem jn_bad {a b : List Int} (h1 : ¬ 60 < a.length) (h2 : ¬ 60 < b.length) (h : allS a = false ∨ allS b = false) : jn a b = 3 := by
 unfold jn flt
 rw [if_neg h1, if_neg h2]
 cases ha : allS a <;> cases hb : allS b <;> simp_all
theorem jn_ok {a b : List Int} (h1 : ¬ 60 < a.length) (h2 : ¬ 60 < b.length) (ha : allS a = true) (hb : allS b = true) : jn a b = 0 := by
 unfold jn flt
 rw [if_neg h1, if_neg h2, ha, hb]
 simp
theorem allS_mem {l : List Int} (h : allS l = true) : ∀ s ∈ l, 1 ≤ s ∧ s ≤ 60 := fun s hs => by
 have := List.all_eq_true.1 h s hs
 unfold okS at this
 simpa using this
theorem few_ok {m : M} (h : fewB m = true) : m.st ≤ 40 ∧ m.arcs.length ≤ 120 ∧ m.fins.length ≤ 40 := by
 unfold fewB at h
 simp only [decide_eq_true_eq] at h
 omega
theorem size_ok {m : M} (h : sizeB m = true) : 1 ≤ m.st := by
 unfold sizeB at h
 simp only [decide_eq_true_eq] at h
 exact h.1
end Go.Proofs.YtfjocafepigijaaDoor.Rz
/- checkBoth. No conditions. -/
namespace Go.Proofs.YtfjocafepigijaaDoor.Mc
open Go.RowKit Mv Wk Sy Rz

theorem box3 {w wr : World} {a b c : Value} (h : Below (w.alloc (.cells #[a, b, c] 25)).heap.size (w.alloc (.cells #[a, b, c] 25)) wr) : wr.cell? ⟨w.heap.size, 0, none⟩ = some a ∧ wr.cell? ⟨w.heap.size, 1, none⟩ = some b ∧ wr.cell? ⟨w.heap.size, 2, none⟩ = some c := by
 have hl : w.heap.size < (w.alloc (.cells #[a, b, c] 25)).heap.size := by simp
 have hn := heap_alloc_new w (.cells #[a, b, c] 25)
 exact ⟨(h.cell (p := ⟨w.heap.size, 0, none⟩) hl).trans (cell_of_row _ _ 0 _ 25 (0, 0) hn), (h.cell (p := ⟨w.heap.size, 1, none⟩) hl).trans (cell_of_row _ _ 1 _ 25 (0, 0) hn), (h.cell (p := ⟨w.heap.size, 2, none⟩) hl).trans (cell_of_row _ _ 2 _ 25 (0, 0) hn)⟩
/-- the second of two boxes -/
theorem box3' {w wr : World} {a b c : Value} {o : Obj} (h : Below ((w.alloc o).alloc (.cells #[a, b, c] 25)).heap.size ((w.alloc o).alloc (.cells #[a, b, c] 25)) wr) : wr.cell? ⟨w.heap.size + 1, 0, none⟩ = some a ∧ wr.cell? ⟨w.heap.size + 1, 1, none⟩ = some b ∧ wr.cell? ⟨w.heap.size + 1, 2, none⟩ = some c := by
 have e : (w.alloc o).heap.size = w.heap.size + 1 := by simp
 have := box3 h
 rw [e] at this
 exact this

theorem row25 : (Tryd.prog.info? 25).map (·.size) = some 3 := by kernel_rfl
/-- two results, of which the first lies in a block -/
theorem results_row_tmp {P : Program} {fn : Func} {p u : Tmp} {ty : TypeId} (h : fn.results = #[.cell p ty, .tmp u]) (tmps : Array Value) (w : World) (g : Nat) (t : TypeId) (cs : Array Value) (fr : Nat × Nat) (d : TypeDesc)
  (hp : tmps.getD p undef = .pointer (some ⟨g, 0, none⟩)) (hg : w.heap[g]? = some (.cells cs t fr))
  (hu : P.underlying ty = some d) (hd : (match d with | .struct _ | .array _ _ => true | _ => false) = true) (hi : (P.info? ty).map (·.size) = some cs.size) :
  (results fn tmps).run P w = .ok (.tuple #[.agg cs, tmps.getD u undef]) w := by
 rw [results_cell_tmp h, hp]
 simp [asAddr, run_loadVar_row w g t ty cs fr d hg hu hd hi]
def both (x y : Int) : Int := if x = 0 then y else x
set_option maxHeartbeats 1000000 in
theorem both_any (a b : M) (va vb : Value) (x y : Int) (w : World) (ha : IsM w va a) (hb : IsM w vb b) (hx : checkP a x) (hy : checkP b y) : Calls Tryd.prog 37 #[va, vb] w fun e w' => e = .returned (.int .i64 (both x y)) ∧ Below w.heap.size w w' := by
 have cA : ∀ W, Below w.heap.size w W → Calls Tryd.prog 30 #[va] W fun e W' => e = .returned (.int .i64 x) ∧ Below W.heap.size W W' := fun W hW => (CkP.check_any a va W (ha.below hW)).mono (fun e W' ⟨⟨z, h1, h2⟩, h3⟩ => ⟨by rw [h1, checkP_one h2 hx], h3⟩)
 have cB : ∀ W, Below w.heap.size w W → Calls Tryd.prog 30 #[vb] W fun e W' => e = .returned (.int .i64 y) ∧ Below W.heap.size W W' := fun W hW => (CkP.check_any b vb W (hb.below hW)).mono (fun e W' ⟨⟨z, h1, h2⟩, h3⟩ => ⟨by rw [h1, checkP_one h2 hy], h3⟩)
 obtain ⟨a1, a2, rfl, _, _⟩ := ha
 obtain ⟨b1, b2, rfl, _, _⟩ := hb
 have hb0 : ∀ o o', Below w.heap.size w ((w.alloc o).alloc o') := fun o o' => ((Below.refl _ w).alloc (Nat.le_refl _) o).alloc (by simp) o'
 clear hx hy
 by_cases h : x = 0
 ·have HR : Hid (both x y = y) := if_pos h
  subst h
  go_enter Tryd.func37, Tryd.ntmps37
  go_wp2_with (first | (go_at_call 30; with_reducible refine (cA _ (hb0 _ _)).mono ?_; rintro e w1 ⟨rfl, hb1⟩; have hw1 : Below w.heap.size w w1 := (hb0 _ _).trans (hb1.mono (by simp; omega)); have bx := box3' hb1; obtain ⟨bx0, bx1, bx2⟩ := bx) | (go_at_call 30; with_reducible refine (cB w1 hw1).mono ?_; rintro e w2 ⟨rfl, hb2⟩; have hw2 : Below w.heap.size w w2 := hw1.trans (hb2.mono hw1.size)))
  go_ret
  exact ⟨by rw [HR.out]; rfl, hw2⟩
 ·have HR : Hid (both x y = x) := if_neg h
  have e0 : (x != 0) = true := by simpa using h
  go_enter Tryd.func37, Tryd.ntmps37
  go_wp2_with (go_at_call 30; with_reducible refine (cA _ (hb0 _ _)).mono ?_; rintro e w1 ⟨rfl, hb1⟩; have hw1 : Below w.heap.size w w1 := (hb0 _ _).trans (hb1.mono (by simp; omega)); have bx := box3' hb1; obtain ⟨bx0, bx1, bx2⟩ := bx)
  go_ret
  exact ⟨by rw [HR.out]; rfl, hw1⟩

end Go.Proofs.YtfjocafepigijaaDoor.Mc
/- cheapest: each arc once, for its least cost. Conditions: the arcs' numbers have 64 bits, and there are not too many. -/
namespace Go.Proofs.YtfjocafepigijaaDoor.Am
open Go.RowKit Mv Qp Sk Po Ps Wd Se Mp St Cm Nm Nx

def chP (A : List Arc) : List Arc := A.foldl putP []
theorem chP_up (L : List Arc) (a : Arc) : chP (L ++ [a]) = putP (chP L) a := by unfold chP; rw [List.foldl_append]; rfl
theorem putP_len (L : List Arc) (a : Arc) : (putP L a).length ≤ L.length + 1 := by
 unfold putP
 split
 ·simp
 ·rw [low_len]; omega
theorem fold_len : ∀ (A L : List Arc), (A.foldl putP L).length ≤ L.length + A.length
 | [], L => Nat.le_refl _
 | a :: A, L => by
  have h1 := fold_len A (putP L a)
  have h2 := putP_len L a
  simp only [List.foldl_cons, List.length_cons]
  omega
theorem chP_len (A : List Arc) : (chP A).length ≤ A.length := by have := fold_len A []; unfold chP; simpa using this
/-- how far the round has come -/
structure Ch0 (w wr : World) (A : List Arc) (y : Nat) (r0 r1 : Array Value) : Prop where
 below : Below w.heap.size w wr
 size : w.heap.size + 3 ≤ wr.heap.size
 box : wr.heap[w.heap.size]? = some (.cells r0 25 (0, 0))
 res : wr.heap[w.heap.size + 1]? = some (.cells r1 25 (0, 0))
 lst : (y = 0 ∧ wr.heap[w.heap.size + 2]? = some (.cells #[.slice none 0 0, .map none] 132 (0, 0))) ∨ (0 < y ∧ ∃ mb va, Al w.heap.size wr (w.heap.size + 2) mb (chP (A.take y)) va ∧ w.heap.size + 3 ≤ mb ∧ ∀ b, va.ownBlock = some b → w.heap.size + 3 ≤ b)
theorem Ch0.alloc {w wr : World} {A : List Arc} {y : Nat} {r0 r1 : Array Value} (h : Ch0 w wr A y r0 r1) (o : Obj) : Ch0 w (wr.alloc o) A y r0 r1 := by
 refine ⟨h.below.alloc h.below.size o, by have := h.size; simp; omega, (heap_alloc_old _ _ (lt_at h.box)).trans h.box, (heap_alloc_old _ _ (lt_at h.res)).trans h.res, ?_⟩
 rcases h.lst with ⟨e, h1⟩ | ⟨e, mb, va, h1, h2⟩
 ·exact .inl ⟨e, (heap_alloc_old _ _ (lt_at h1)).trans h1⟩
 ·exact .inr ⟨e, mb, va, h1.alloc o, h2⟩
theorem below_kp {X : Nat → Prop} {n : Nat} {w wr w' : World} (h : Below n w wr) (hk : Kp X wr w') (hn : n ≤ wr.heap.size) (hX : ∀ k, k < wr.heap.size → X k → n ≤ k) : Below n w w' :=
 ⟨hk.os.trans h.os, hk.tape.trans h.tape, hk.output.trans h.output, Nat.le_trans h.size hk.size, fun k hk' => (hk.block k (by omega) (fun x => absurd (hX k (by omega) x) (by omega))).trans (h.block k hk')⟩
theorem Ch0.put1 {w V w' : World} {A : List Arc} {y mb : Nat} {r0 r1 : Array Value} {va va' : Value} {L : List Arc} (h : Ch0 w V A y r0 r1) (hmb : w.heap.size + 3 ≤ mb) (hva : ∀ b, va.ownBlock = some b → w.heap.size + 3 ≤ b) (hal : Al w.heap.size w' (w.heap.size + 2) mb L va') (hL : L = chP (A.take (y + 1))) (hk : Kp (Own (w.heap.size + 2) mb va) V w') (hf : va'.ownBlock = va.ownBlock ∨ ∃ g, va'.ownBlock = some g ∧ V.heap.size ≤ g) : Ch0 w w' A (y + 1) r0 r1 := by
 have hX : ∀ k, Own (w.heap.size + 2) mb va k → w.heap.size + 2 ≤ k := fun k x => by
  rcases x with x | x | x
  ·omega
  ·omega
  ·have := hva k x; omega
 refine ⟨below_kp h.below hk h.below.size (fun k _ x => by have := hX k x; omega), Nat.le_trans h.size hk.size, (hk.block _ (lt_at h.box) (fun x => by have := hX _ x; omega)).trans h.box, (hk.block _ (lt_at h.res) (fun x => by have := hX _ x; omega)).trans h.res, .inr ⟨Nat.succ_pos _, mb, va', by rw [← hL]; exact hal, hmb, fun b hb => ?_⟩⟩
 rcases hf with hf | ⟨g, hf, hg⟩
 ·exact hva b (by rw [← hf]; exact hb)
 ·rw [hf] at hb
  cases hb
  exact Nat.le_trans h.size hg
theorem Ch0.put0 {w V w' : World} {A : List Arc} {y mb : Nat} {r0 r1 : Array Value} {va' : Value} {L : List Arc} (h : Ch0 w V A y r0 r1) (hmb : V.heap.size ≤ mb) (hva : ∀ b, va'.ownBlock = some b → V.heap.size ≤ b) (hal : Al w.heap.size w' (w.heap.size + 2) mb L va') (hL : L = chP (A.take (y + 1))) (hk : Kp (fun b => b = w.heap.size + 2) V w') : Ch0 w w' A (y + 1) r0 r1 :=
 ⟨below_kp h.below hk h.below.size (fun k _ x => by omega), Nat.le_trans h.size hk.size, (hk.block _ (lt_at h.box) (by omega)).trans h.box, (hk.block _ (lt_at h.res) (by omega)).trans h.res, .inr ⟨Nat.succ_pos _, mb, va', by rw [← hL]; exact hal, Nat.le_trans h.size hmb, fun b hb => Nat.le_trans h.size (hva b hb)⟩⟩
theorem laid3 {V : World} {P : Nat} {a b c : Value} (h : V.heap[P]? = some (.cells #[a, b, c] 25 (0, 0))) (u v x : Value) : (((V.setCell ⟨P, 0, none⟩ u).setCell ⟨P, 1, none⟩ v).setCell ⟨P, 2, none⟩ x).heap[P]? = some (.cells #[u, v, x] 25 (0, 0)) := by
 have h1 := heap_setCell_same V P 0 _ 25 u h
 have h2 := heap_setCell_same _ P 1 _ 25 v h1
 have h3 := heap_setCell_same _ P 2 _ 25 x h2
 simpa using h3
theorem first_ch (w : World) (A : List Arc) (o : Array Value) : Ch0 w (((w.alloc (.cells o 25)).alloc (.cells #[.int .i64 0, .slice none 0 0, .slice none 0 0] 25)).alloc (.cells #[.slice none 0 0, .map none] 132)) A 0 o #[.int .i64 0, .slice none 0 0, .slice none 0 0] := by
 have s1 : (w.alloc (.cells o 25)).heap.size = w.heap.size + 1 := by simp
 have s2 : ((w.alloc (.cells o 25)).alloc (.cells #[.int .i64 0, .slice none 0 0, .slice none 0 0] 25)).heap.size = w.heap.size + 2 := by simp
 have b1 : Below w.heap.size w (w.alloc (.cells o 25)) := (Below.refl _ w).alloc (Nat.le_refl _) _
 have b2 := b1.alloc (show w.heap.size ≤ (w.alloc (.cells o 25)).heap.size by omega) (.cells #[.int .i64 0, .slice none 0 0, .slice none 0 0] 25)
 have b3 := b2.alloc (by rw [s2]; omega) (.cells #[.slice none 0 0, .map none] 132)
 have n1 := heap_alloc_new w (.cells o 25)
 have n2 := heap_alloc_new (w.alloc (.cells o 25)) (.cells #[.int .i64 0, .slice none 0 0, .slice none 0 0] 25)
 have n3 := heap_alloc_new ((w.alloc (.cells o 25)).alloc (.cells #[.int .i64 0, .slice none 0 0, .slice none 0 0] 25)) (.cells #[.slice none 0 0, .map none] 132)
 rw [s1] at n2
 rw [s2] at n3
 refine ⟨b3, by simp, ?_, ?_, .inl ⟨rfl, n3⟩⟩
 ·rw [heap_alloc_old _ _ (by rw [s2]; omega), heap_alloc_old _ _ (by rw [s1]; omega)]
  exact n1
 ·rw [heap_alloc_old _ _ (by rw [s2]; omega)]
  exact n2

set_option maxHeartbeats 4000000 in
set_option maxRecDepth 100000 in
theorem cheapest_any (st : Int) (A : List Arc) (va : Value) (af : Option Addr) (nf cf : Nat) (w : World) (hrow : Mv.Row w va 5 A.length (acs A)) (hA : ∀ a ∈ A, Ok4 (nam a)) (hAl : A.length ≤ 20000) :
  Calls Tryd.prog 40 #[.agg #[.int .i64 st, va, (.slice af nf cf)]] w fun e w' => ∃ va', e = .returned (.agg #[.int .i64 st, va', (.slice af nf cf)]) ∧ w'.ownsRow w.heap.size 64 5 va' (chP A).length (acs (chP A)) ∧ Below w.heap.size w w' := by
 obtain ⟨hxl, aa, ca, rfl, _, hAx⟩ := hrow
 have HA : Hid (∀ a ∈ A, Ok4 (nam a)) := hA
 have HAx : Hid (A.length = 0 ∨ ∃ b off, aa = some ⟨b, off, none⟩ ∧ b < w.heap.size ∧ ∀ j u, (acs A)[j]? = some u → w.cell? ⟨b, off + j, none⟩ = some u) := hAx
 clear hA hAx hxl
 have hc0 := first_ch w A #[.int .i64 st, .slice aa A.length ca, (.slice af nf cf)]
 have u1 := cell_of_row _ _ 1 _ _ _ hc0.box
 go_enter Tryd.func40, Tryd.ntmps40
 go_upto_region 3 with fail
 simp only [Nat.add_assoc, Nat.reduceAdd]
 generalize hV : ((w.alloc (.cells #[.int .i64 st, .slice aa A.length ca, (.slice af nf cf)] 25)).alloc (.cells #[.int .i64 0, .slice none 0 0, .slice none 0 0] 25)).alloc (.cells #[.slice none 0 0, .map none] 132) = Vb at *
 clear hV
 go_wp2
 go_loopw [9] (fun a wr => ∃ y : Nat, a = .int .i64 y ∧ y ≤ A.length ∧ Ch0 w wr A y #[.int .i64 st, .slice aa A.length ca, (.slice af nf cf)] #[.int .i64 0, .slice none 0 0, .slice none 0 0]) (fun a _ => A.length - (intOf a).toNat)
 case atStart => exact ⟨0, rfl, Nat.zero_le _, hc0⟩
 case round =>
  clear hc0 u1
  obtain ⟨y, rfl, hy, hN⟩ := hrel
  by_cases hlt : y < A.length
  ·obtain ⟨b, off, rfl, hbl, hcs⟩ : ∃ b off, aa = some ⟨b, off, none⟩ ∧ b < w.heap.size ∧ ∀ j u, (acs A)[j]? = some u → wr.cell? ⟨b, off + j, none⟩ = some u := by
    obtain ⟨b, off, e, hb, hc⟩ := HAx.out.resolve_left (by omega)
    exact ⟨b, off, e, hb, fun j u hu => (hN.below.cell hb).trans (hc j u hu)⟩
   have u := acs_at A y hlt
   have hok := HA.out _ (List.getElem_mem hlt)
   obtain ⟨fI, tI, iI, oI, xI, ea⟩ : ∃ f t i1 o1 x, A[y] = (f, t, i1, o1, x) := ⟨_, _, _, _, _, rfl⟩
   rw [ea] at u hok
   have htk : chP (A.take (y + 1)) = putP (chP (A.take y)) (fI, tI, iI, oI, xI) := by rw [← chP_up, ← ea]; exact congrArg chP (List.take_append_getElem hlt).symm
   have p0 := hcs _ _ u.1
   have p1 := hcs _ _ u.2.1
   have p2 := hcs _ _ u.2.2.1
   have p3 := hcs _ _ u.2.2.2.1
   have p4 := hcs _ _ u.2.2.2.2
   rw [← Nat.add_assoc] at p1 p2 p3 p4
   have HTK : Hid (chP (A.take (y + 1)) = putP (chP (A.take y)) (fI, tI, iI, oI, xI)) := htk
   have HC : Hid (Ch0 w (wr.alloc (.cells #[.int .i64 fI, .int .i64 tI, .int .i64 iI, .int .i64 oI, .int .i64 xI] 64)) A y #[.int .i64 st, .slice (some ⟨b, off, none⟩) A.length ca, (.slice af nf cf)] #[.int .i64 0, .slice none 0 0, .slice none 0 0]) := hN.alloc _
   have KP : Calls Tryd.prog 65 #[.pointer (some ⟨w.heap.size + 2, 0, none⟩), .agg #[.int .i64 fI, .int .i64 tI, .int .i64 iI, .int .i64 oI, .int .i64 xI]] (wr.alloc (.cells #[.int .i64 fI, .int .i64 tI, .int .i64 iI, .int .i64 oI, .int .i64 xI] 64)) fun e w' => e = .returned (.tuple #[]) ∧ Ch0 w w' A (y + 1) #[.int .i64 st, .slice (some ⟨b, off, none⟩) A.length ca, (.slice af nf cf)] #[.int .i64 0, .slice none 0 0, .slice none 0 0] := by
    rcases HC.out.lst with ⟨e0, h1⟩ | ⟨_, mb, va, h1, h2, h3⟩
    ·refine (put_none w.heap.size (w.heap.size + 2) fI tI iI oI xI _ h1 hok (Nat.le_trans hN.below.size (by simp))).mono ?_
     rintro e w' ⟨he, mb, va', g1, g2, g3, g4⟩
     exact ⟨he, HC.out.put0 g3 g4 g1 (by rw [htk, e0]; rfl) g2⟩
    ·refine (put_some w.heap.size (w.heap.size + 2) mb _ va fI tI iI oI xI _ h1 hok (by have := chP_len (A.take y); rw [List.length_take] at this; omega) (Nat.le_trans hN.below.size (by simp))).mono ?_
     rintro e w' ⟨he, va', g1, g2, g3⟩
     exact ⟨he, HC.out.put1 h2 h3 g1 htk.symm g2 g3⟩
   clear u hcs ea htk hN hok
   go_wp2_with (go_at_call 65; (with_reducible refine KP.mono ?_); rintro e w1 ⟨rfl, hc1⟩; have HC1 : Hid _ := hc1; clear hc1)
   go_roundw
   case rel => exact ⟨y + 1, by go_num, hlt, HC1.out⟩
   case measure => simp [intOf]; omega
  ·obtain rfl : y = A.length := by omega
   obtain ⟨va', vm, hl0, ho⟩ : ∃ va' vm, wr.heap[w.heap.size + 2]? = some (.cells #[va', vm] 132 (0, 0)) ∧ wr.ownsRow w.heap.size 64 5 va' (chP A).length (acs (chP A)) ∧ (∀ b, va'.ownBlock = some b → w.heap.size + 3 ≤ b) := by
    rcases hN.lst with ⟨e0, h1⟩ | ⟨_, mb, va, h1, _, h3⟩
    ·have : A = [] := List.eq_nil_of_length_eq_zero e0
     subst this
     exact ⟨_, _, h1, ⟨rfl, .inl ⟨rfl, rfl⟩⟩, fun b hb => by cases hb⟩
    ·rw [List.take_length] at h1
     exact ⟨_, _, h1.row, h1.arcs, h3⟩
   obtain ⟨ad, cap, rfl⟩ := own_slice ho.1
   have HO : Hid _ := ho
   have HB : Hid _ := hN.below
   have hres := hN.res
   have q0 := cell_of_row _ _ 0 _ _ _ hN.box
   have q2 := cell_of_row _ _ 2 _ _ _ hN.box
   have l0 := cell_of_row _ _ 0 _ _ _ hl0
   have r0 := cell_of_row _ _ 0 _ _ _ hres
   have r1 := cell_of_row _ _ 1 _ _ _ hres
   have r2 := cell_of_row _ _ 2 _ _ _ hres
   have f0 := frozen_of_row _ _ 0 _ 25 hres
   have f1 := frozen_of_row _ _ 1 _ 25 hres
   have f2 := frozen_of_row _ _ 2 _ 25 hres
   clear hN ho hl0
   go_wp2
   have hl3 := laid3 hres (.int .i64 st) (.slice ad (chP A).length cap) (.slice af nf cf)
   refine bodyPost_ret (results_cell_row rfl _ _ (w.heap.size + 1) 25 _ (0, 0) _ rfl hl3 Tryd.underlying25 rfl Mc.row25) rfl ⟨_, rfl, ?_, ?_⟩
   ·have hne : (Value.slice ad (chP A).length cap).ownBlock ≠ some (w.heap.size + 1) := fun e => by have := HO.out.2 _ e; omega
    exact ownsRow_setCell_other (ownsRow_setCell_other (ownsRow_setCell_other HO.out.1 hne _) hne _) hne _
   ·exact ((HB.out.setCell (p := ⟨w.heap.size + 1, 0, none⟩) (by show w.heap.size ≤ w.heap.size + 1; omega) _).setCell (p := ⟨w.heap.size + 1, 1, none⟩) (by show w.heap.size ≤ w.heap.size + 1; omega) _).setCell (p := ⟨w.heap.size + 1, 2, none⟩) (by show w.heap.size ≤ w.heap.size + 1; omega) _
end Go.Proofs.YtfjocafepigijaaDoor.Am
/- What cheapest leaves: arcs of the machine, and of each name one that costs no more. No conditions. -/
namespace Go.Proofs.YtfjocafepigijaaDoor.Am
open Go.RowKit Mv Qp Sk Po Ps Wd Se Mp St Cm Nm Nx

theorem mem_low {L : List Arc} {i : Nat} {x : Int} (hi : i < L.length) {b : Arc} (hb : b ∈ low L i x) : b ∈ L ∨ b = chp x L[i] := by
 unfold low at hb
 obtain ⟨j, hj, rfl⟩ := List.getElem_of_mem hb
 rw [List.getElem_modify]
 split
 ·rename_i e
  subst e
  exact .inr rfl
 ·exact .inl (List.getElem_mem _)
theorem chp_cases (x : Int) (a : Arc) : chp x a = a ∨ (x < a.2.2.2.2 ∧ chp x a = (a.1, a.2.1, a.2.2.1, a.2.2.2.1, x)) := by
 unfold chp
 by_cases h : a.2.2.2.2 ≤ x
 ·left; rw [if_pos h]
 ·right; rw [if_neg h]; exact ⟨by omega, rfl⟩
theorem pos_nam {L : List Arc} {n : Nam} {i : Nat} (h : pos L n = some i) (hi : i < L.length) : nam L[i] = n := by
 unfold pos at h
 obtain ⟨_, h1, _⟩ := List.findIdx?_eq_some_iff_getElem.1 h
 simpa using h1
theorem putP_sub {L : List Arc} {a b : Arc} (hb : b ∈ putP L a) : b ∈ L ∨ b = a := by
 unfold putP at hb
 split at hb
 ·simpa using hb
 ·rename_i i h
  have hi := pos_lt h
  have hn := pos_nam h hi
  rcases mem_low hi hb with h1 | h1
  ·exact .inl h1
  ·rcases chp_cases a.2.2.2.2 L[i] with e | ⟨_, e⟩
   ·exact .inl (by rw [h1, e]; exact List.getElem_mem _)
   ·refine .inr ?_
    rw [h1, e]
    obtain ⟨a1, a2, a3, a4, a5⟩ := a
    unfold nam at hn
    simp only [Prod.mk.injEq] at hn ⊢
    obtain ⟨n1, n2, n3, n4⟩ := hn
    exact ⟨n1, n2, n3, n4, trivial⟩
theorem low_at {L : List Arc} {i : Nat} {x : Int} (hi : i < L.length) : chp x L[i] ∈ low L i x := by
 have : (low L i x)[i]? = some (chp x L[i]) := by unfold low; rw [List.getElem?_modify]; simp [hi]
 exact List.mem_of_getElem? this
theorem chp_le (x : Int) (a : Arc) : nam (chp x a) = nam a ∧ (chp x a).2.2.2.2 ≤ a.2.2.2.2 ∧ (chp x a).2.2.2.2 ≤ x := by
 refine ⟨rfl, ?_, ?_⟩ <;> (unfold chp; dsimp only; split <;> omega)
theorem putP_new (L : List Arc) (a : Arc) : ∃ c ∈ putP L a, nam c = nam a ∧ c.2.2.2.2 ≤ a.2.2.2.2 := by
 unfold putP
 split
 ·exact ⟨a, by simp, rfl, Int.le_refl _⟩
 ·rename_i i h
  have hi := pos_lt h
  exact ⟨_, low_at hi, (chp_le _ _).1.trans (pos_nam h hi), (chp_le _ _).2.2⟩
theorem putP_old {L : List Arc} (a : Arc) {b : Arc} (hb : b ∈ L) : ∃ c ∈ putP L a, nam c = nam b ∧ c.2.2.2.2 ≤ b.2.2.2.2 := by
 unfold putP
 split
 ·exact ⟨b, by simp [hb], rfl, Int.le_refl _⟩
 ·rename_i i h
  have hi := pos_lt h
  obtain ⟨j, hj, rfl⟩ := List.getElem_of_mem hb
  by_cases e : i = j
  ·subst e
   exact ⟨_, low_at hi, (chp_le _ _).1, (chp_le _ _).2.1⟩
  ·have : (low L i a.2.2.2.2)[j]? = some L[j] := by unfold low; rw [List.getElem?_modify]; simp [e, hj]
   exact ⟨_, List.mem_of_getElem? this, rfl, Int.le_refl _⟩
theorem chP_sub : ∀ (A L : List Arc) {b : Arc}, b ∈ A.foldl putP L → b ∈ L ∨ b ∈ A
 | [], _, _, h => .inl h
 | a :: A, L, b, h => by
  rcases chP_sub A (putP L a) h with h1 | h1
  ·rcases putP_sub h1 with h2 | h2
   ·exact .inl h2
   ·exact .inr (by rw [h2]; exact List.mem_cons_self)
  ·exact .inr (List.mem_cons_of_mem _ h1)
theorem chP_low : ∀ (A L : List Arc) {b : Arc}, b ∈ L ∨ b ∈ A → ∃ c ∈ A.foldl putP L, nam c = nam b ∧ c.2.2.2.2 ≤ b.2.2.2.2
 | [], L, b, h => by
  rcases h with h | h
  ·exact ⟨b, h, rfl, Int.le_refl _⟩
  ·cases h
 | a :: A, L, b, h => by
  have key : ∃ d ∈ putP L a, nam d = nam b ∧ d.2.2.2.2 ≤ b.2.2.2.2 ∨ b ∈ A := by
   rcases h with h | h
   ·obtain ⟨c, h1, h2, h3⟩ := putP_old a h
    exact ⟨c, h1, .inl ⟨h2, h3⟩⟩
   ·rcases List.mem_cons.1 h with h | h
    ·subst h
     obtain ⟨c, h1, h2, h3⟩ := putP_new L b
     exact ⟨c, h1, .inl ⟨h2, h3⟩⟩
    ·obtain ⟨c, h1, _⟩ := putP_new L a
     exact ⟨c, h1, .inr h⟩
  obtain ⟨d, h1, h2 | h2⟩ := key
  ·obtain ⟨c, c1, c2, c3⟩ := chP_low A (putP L a) (.inl h1)
   exact ⟨c, c1, c2.trans h2.1, Int.le_trans c3 h2.2⟩
  ·exact chP_low A (putP L a) (.inr h2)
end Go.Proofs.YtfjocafepigijaaDoor.Am
