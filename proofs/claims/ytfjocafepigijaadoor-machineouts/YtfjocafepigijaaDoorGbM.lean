/- cheapest: each arc once, for its least cost. Conditions: the arcs' numbers have 64 bits, and there are not too many. -/
import Derived.Test.YtfjocafepigijaaDoorEcM
import Derived.Test.YtfjocafepigijaaDoorMrM
import Derived.Laws.Rows
import Derived.Test.YtfjocafepigijaaDoorTbM
import Derived.Test.YtfjocafepigijaaDoorRc
import Derived.Test.YtfjocafepigijaaDoorOh
import Derived.Test.YtfjocafepigijaaDoorVeM
namespace Go.Proofs.YtfjocafepigijaaDoor.Am
open Go.RowKit Mv Qp Sk Po Ps Wd Se Mp St Cm Nm Nx

def chP (A : List Arc) : List Arc := A.foldl putP []
/-- how far the round has come -/
structure Ch0 (w wr : World) (A : List Arc) (y : Nat) (r0 r1 : Array Value) : Prop where
  below : Below w.heap.size w wr
  size : w.heap.size + 3 ≤ wr.heap.size
  box : wr.heap[w.heap.size]? = some (.cells r0 25 (0, 0))
  res : wr.heap[w.heap.size + 1]? = some (.cells r1 25 (0, 0))
  lst : (y = 0 ∧ wr.heap[w.heap.size + 2]? = some (.cells #[.slice none 0 0, .map none] 132 (0, 0))) ∨ (0 < y ∧ ∃ mb va, Al w.heap.size wr (w.heap.size + 2) mb (chP (A.take y)) va ∧ w.heap.size + 3 ≤ mb ∧ ∀ b, va.ownBlock = some b → w.heap.size + 3 ≤ b)
end Go.Proofs.YtfjocafepigijaaDoor.Am
/- What cheapest leaves: arcs of the machine, and of each name one that costs no more. No conditions. -/
namespace Go.Proofs.YtfjocafepigijaaDoor.Am
open Go.RowKit Mv Qp Sk Po Ps Wd Se Mp St Cm Nm Nx

end Go.Proofs.YtfjocafepigijaaDoor.Am
/- Couples of machines in plain words: the arcs that lead on from a pair; they are those of the machine of pairs; how many there are. No program text. -/
namespace Go.Proofs.YtfjocafepigijaaDoor.Cu
open Mv Wk Bw Th Am Ra

/-- of the second machine: the arcs of a state that read a symbol -/
def gr (R : Nat → List A5) (q : Nat) (s : Int) : List A5 := (R q).filter fun y => y.2.2.1 == s
def fA (SB k : Nat) (x : A5) : A5 := ((k : Int), x.2.1 * (SB : Int) + ((k % SB : Nat) : Int), x.2.2.1, 0, x.2.2.2.2)
def fX (SB k : Nat) (x y : A5) : A5 := ((k : Int), x.2.1 * (SB : Int) + y.2.1, x.2.2.1, y.2.2.2.1, x.2.2.2.2 + y.2.2.2.2)
def fB (SB k : Nat) (y : A5) : A5 := ((k : Int), ((k / SB : Nat) : Int) * (SB : Int) + y.2.1, 0, y.2.2.2.1, y.2.2.2.2)
def onX (R : Nat → List A5) (SB k : Nat) (x : A5) : List A5 := if x.2.2.2.1 = 0 then [fA SB k x] else (gr R (k % SB) x.2.2.2.1).map (fX SB k x)
/-- the arcs that lead on from a pair -/
def arcsP (F R : Nat → List A5) (SB k : Nat) : List A5 := (F (k / SB)).flatMap (onX R SB k) ++ (gr R (k % SB) 0).map (fB SB k)
/-- what is right about a list of arcs -/
def Okl (S : Nat) (A : List A5) : Prop := ∀ x ∈ A, ∃ f t : Nat, x.1 = (f : Int) ∧ x.2.1 = (t : Int) ∧ f < S ∧ t < S
/-- a sum over numbers -/
def sm (n : Nat) (h : Nat → Nat) : Nat := ((List.range n).map h).sum
theorem sm_up (n : Nat) (h : Nat → Nat) : sm (n + 1) h = sm n h + h n := by unfold sm; rw [List.range_succ]; simp
theorem sm_add (n : Nat) (h g : Nat → Nat) : sm n (fun k => h k + g k) = sm n h + sm n g := by
  induction n with
  | zero => rfl
  | succ n ih => rw [sm_up, sm_up, sm_up, ih]; omega
theorem sm_le {n : Nat} {h g : Nat → Nat} (hl : ∀ k, k < n → h k ≤ g k) : sm n h ≤ sm n g := by
  induction n with
  | zero => exact Nat.le_refl _
  | succ n ih => rw [sm_up, sm_up]; have := ih (fun k hk => hl k (by omega)); have := hl n (by omega); omega
theorem sm_eq {n : Nat} {h g : Nat → Nat} (hl : ∀ k, k < n → h k = g k) : sm n h = sm n g := Nat.le_antisymm (sm_le fun k hk => Nat.le_of_eq (hl k hk)) (sm_le fun k hk => Nat.le_of_eq (hl k hk).symm)
theorem sm_zero {n : Nat} {h : Nat → Nat} (hl : ∀ k, k < n → h k = 0) : sm n h = 0 := by
  induction n with
  | zero => rfl
  | succ n ih => rw [sm_up, ih (fun k hk => hl k (by omega)), hl n (by omega)]
theorem sm_one (n : Nat) : sm n (fun _ => 1) = n := by
  induction n with
  | zero => rfl
  | succ n ih => rw [sm_up, ih]
end Go.Proofs.YtfjocafepigijaaDoor.Cu
/- newCouple: how a couple lies, while it is made and when it is done. No conditions. -/
namespace Go.Proofs.YtfjocafepigijaaDoor.Cu
open Go.RowKit Mv Qp Sk Po Ps Wd Se Mp St Cm Nm Nx Ra Am
open CR (nc)

/-- rows of arcs, to be read -/
def Rws (w : World) (sb S : Nat) (R : Nat → List Arc) : Prop := sb < w.heap.size ∧ ∀ q, q < S → ∃ a c, w.cell? ⟨sb, q, none⟩ = some (.slice a (R q).length c) ∧ Mv.Row w (.slice a (R q).length c) 5 (R q).length (acs (R q))
/-- what the numbers of groups mean -/
structure Sem (SB m : Nat) (gs : List Nat) (G R : Nat → List Arc) : Prop where
  pos : 0 < m
  zero : G 0 = []
  out : ∀ k, m ≤ k → G k = []
  lt : ∀ i, i < SB * 61 → gs.getD i 0 < m
  inj : ∀ i j, i < SB * 61 → j < SB * 61 → gs.getD i 0 = gs.getD j 0 → gs.getD i 0 ≠ 0 → i = j
  val : ∀ q s : Nat, q < SB → s ≤ 60 → G (gs.getD (q * 61 + s) 0) = gr R q (s : Int)
/-- the rows that have been gone through -/
def Rr (R : Nat → List Arc) (q0 y : Nat) : Nat → List Arc := fun q => if q < q0 then R q else if q = q0 then (R q0).take y else []
/-- a couple that is being made -/
structure Nc (w wr : World) (C nb SB N m : Nat) (vf vg : Value) (gs : List Nat) (G : Nat → List Arc) (V : Nat → Value) (vs : List Value) : Prop where
  row : wr.heap[C]? = some (.cells #[.int .i64 (SB : Int), vf, vg, .slice (some ⟨nb, 0, none⟩) N N] 129 (0, 0))
  cge : w.heap.size ≤ C
  heads : wr.ownsRow w.heap.size 22 1 vg m vs
  len : vs.length = m
  head : ∀ f, f < m → vs[f]? = some (V f)
  vout : ∀ k, m ≤ k → V k = nilS
  nums : wr.ownsRow w.heap.size 3 1 (.slice (some ⟨nb, 0, none⟩) N N) N (nc gs)
  nlen : gs.length = N
  rows : ∀ k, wr.ownsRow w.heap.size 64 5 (V k) (G k).length (acs (G k))
  apart : ∀ k k', k ≠ k' → ∀ b, (V k).ownBlock = some b → (V k').ownBlock ≠ some b
  below : Below w.heap.size w wr
theorem nums_new (W : World) (base N : Nat) (hb : base ≤ W.heap.size) (hN : N ≤ 129600) : (W.alloc (.cells (madeCells #[.int .i64 0] N) 3)).ownsRow base 3 1 (.slice (some ⟨W.heap.size, 0, none⟩) N N) N (nc (List.replicate N 0)) := by
  have e : (madeCells #[.int .i64 0] N).toList = List.replicate N (.int .i64 0) := by rw [toList_madeCells_one]
  have e2 : nc (List.replicate N 0) = List.replicate N (.int .i64 0) := by unfold nc; rw [List.map_replicate]; rfl
  refine ⟨by rw [e2]; simp, .inr ⟨W.heap.size, N, madeCells #[.int .i64 0] N, rfl, hb, heap_alloc_new _ _, Nat.le_refl _, by unfold maxLen; omega, ?_, ?_⟩⟩
  · rw [← Array.length_toList, e]; simp
  · rw [e, e2]; simp
theorem info3c : (Tryd.prog.info? 3).map (fun i => (i.zero, i.size, i.bytes)) = some (some (.int .i64 0), 1, 8) := by kernel_rfl
theorem run_mk26 (N : Nat) (hN : N ≤ 129600) (W : World) : (Instr.makeSlice 26 (.int .i64 (N : Int)) (.int .i64 (N : Int))).run Tryd.prog W = .ok (.slice (some ⟨W.heap.size, 0, none⟩) N N) (W.alloc (.cells (madeCells #[.int .i64 0] N) 3)) := by
  obtain ⟨i0, hi, hz0, hz1, hz2⟩ := info_parts info3c
  have hr := run_make (P := Tryd.prog) W 26 3 i0 (.int .i64 0) Tryd.underlying26 hi hz0 .i64 .i64 (N : Int) (N : Int) (by omega) (Int.le_refl _) (by rw [hz2]; omega) (by omega)
  simp only [Int.toNat_natCast, hz1, Nat.mul_one] at hr
  exact hr
/-- a couple that is done -/
structure IsCp (w : World) (C SA SB : Nat) (F R : Nat → List Arc) (fb gb gc nb m : Nat) (gs : List Nat) (G : Nat → List Arc) : Prop where
  row : w.heap[C]? = some (.cells #[.int .i64 (SB : Int), .slice (some ⟨fb, 0, none⟩) SA SA, .slice (some ⟨gb, 0, none⟩) m gc, .slice (some ⟨nb, 0, none⟩) (SB * 61) (SB * 61)] 129 (0, 0))
  first : Rws w fb SA F
  grps : Rws w gb m G
  nbl : nb < w.heap.size
  nums : ∀ i, i < SB * 61 → w.cell? ⟨nb, i, none⟩ = some (.int .i64 (gs.getD i 0 : Nat))
  sem : Sem SB m gs G R
  small : m ≤ 4801
end Go.Proofs.YtfjocafepigijaaDoor.Cu
/- newTrack (33): what it has laid at each step; the track as it is read later. Conditions: a machine of at most 40 states and 120 arcs, a text of at most 60 symbols. -/
namespace Go.Proofs.YtfjocafepigijaaDoor.Ot
open Go.RowKit Mv Sy Po Ps Cm Pa Am Wd St Ra
open CR (nc)

theorem row_drew {w : World} {v : Value} {s n : Nat} {xs : List Value} (h : Mv.Row w v s n xs) : Mv.Row w.drew v s n xs := h
theorem below_undrew {n : Nat} {w w' : World} (h : Below n w.drew w') : Below n w w' := ⟨h.os, h.tape, h.output, h.size, h.block⟩
theorem rt_undrew {w w' : World} {sb S : Nat} {R : Nat → List Arc} {V : Nat → Value} {vs : List Value} (h : Rt w.drew w' sb S R V vs) : Rt w w' sb S R V vs := ⟨h.heads, h.len, h.head, h.rows, h.apart, below_undrew h.below⟩
theorem own_low {w : World} {b b' e s n : Nat} {v : Value} {xs : List Value} (h : w.ownsRow b e s v n xs) (hb : b' ≤ b) : w.ownsRow b' e s v n xs := by
  refine ⟨h.1, ?_⟩
  rcases h.2 with h' | ⟨g, cap, cur, hv, hg, hrest⟩
  · exact .inl h'
  · exact .inr ⟨g, cap, cur, hv, Nat.le_trans hb hg, hrest⟩
/-- a track that is being made -/
structure Nk (w wr : World) (T S sb ci bx : Nat) (ai : Option Addr) (tx : List Int) (R : Nat → List Arc) (V : Nat → Value) (vs : List Value) (vn : Value) (mb : Array Value) : Prop where
  row : wr.heap[T]? = some (.cells #[.slice ai tx.length ci, .int .i64 (S : Int), .slice (some ⟨sb, 0, none⟩) S S, vn] 116 (0, 0))
  tge : w.heap.size ≤ T
  heads : wr.ownsRow w.heap.size 22 1 (.slice (some ⟨sb, 0, none⟩) S S) S vs
  head : ∀ f, f < S → vs[f]? = some (V f)
  rows : ∀ k, wr.ownsRow w.heap.size 64 5 (V k) (R k).length (acs (R k))
  box : wr.heap[bx]? = some (.cells mb 25 (0, 0))
  bge : w.heap.size ≤ bx
  below : Below w.heap.size w wr
theorem Nk.kept {w wr w' : World} {T S sb ci bx : Nat} {ai : Option Addr} {tx : List Int} {R : Nat → List Arc} {V : Nat → Value} {vs : List Value} {vn : Value} {mb : Array Value} {X : Nat → Prop} (h : Nk w wr T S sb ci bx ai tx R V vs vn mb) (hk : Kp X wr w') (hX : ∀ k, X k → w.heap.size ≤ k ∧ ∃ c, wr.heap[k]? = some (.cells c 3 (0, 0))) : Nk w w' T S sb ci bx ai tx R V vs vn mb := by
  have nt : ∀ {b : Nat} {c : Array Value} {ty : TypeId}, wr.heap[b]? = some (.cells c ty (0, 0)) → ty ≠ 3 → ¬ X b := fun {b c ty} hb hne e => by
    obtain ⟨d, hd⟩ := (hX b e).2
    exact ty_ne hb hd hne
  refine ⟨(hk.block _ (lt_at h.row) (nt h.row (by decide))).trans h.row, h.tge, own_kp2 h.heads hk (fun b hb => ?_), h.head, fun k => own_kp2 (h.rows k) hk (fun b hb => ?_), (hk.block _ (lt_at h.box) (nt h.box (by decide))).trans h.box, h.bge, ⟨hk.os.trans h.below.os, hk.tape.trans h.below.tape, hk.output.trans h.below.output, Nat.le_trans h.below.size hk.size, fun k hlt => ?_⟩⟩
  · obtain ⟨d, hd⟩ := own_ty h.heads hb
    exact nt hd (by decide)
  · obtain ⟨d, hd⟩ := own_ty (h.rows k) hb
    exact nt hd (by decide)
  · exact (hk.block k (Nat.lt_of_lt_of_le hlt h.below.size) (fun e => by have := (hX k e).1; omega)).trans (h.below.block k hlt)
theorem Nk.laid {w wr w' : World} {T S sb ci bx : Nat} {ai : Option Addr} {tx : List Int} {R : Nat → List Arc} {V : Nat → Value} {vs : List Value} {vn : Value} {mb : Array Value} (h : Nk w wr T S sb ci bx ai tx R V vs vn mb) (hb : Below wr.heap.size wr w') : Nk w w' T S sb ci bx ai tx R V vs vn mb := h.kept (kp_below hb (fun _ => False)) (fun _ e => e.elim)
theorem Nk.first {w V0 w1 : World} {S sb ci bx : Nat} {ai : Option Addr} {tx : List Int} {R : Nat → List Arc} {V : Nat → Value} {vs : List Value} {mb : Array Value} (hr : Rt V0 w1 sb S R V vs) (hb : Below w.heap.size w V0) (hx : V0.heap[bx]? = some (.cells mb 25 (0, 0))) (hg : w.heap.size ≤ bx) : Nk w (w1.alloc (.cells #[.slice ai tx.length ci, .int .i64 (S : Int), .slice (some ⟨sb, 0, none⟩) S S, .slice none 0 0] 116)) w1.heap.size S sb ci bx ai tx R V vs (.slice none 0 0) mb := by
  have h1 : w.heap.size ≤ w1.heap.size := Nat.le_trans hb.size hr.below.size
  have h2 := (hr.below.block bx (lt_at hx)).trans hx
  have hb2 : Below w.heap.size w w1 := hb.trans ⟨hr.below.os, hr.below.tape, hr.below.output, hr.below.size, fun k hk => hr.below.block k (Nat.lt_of_lt_of_le hk hb.size)⟩
  exact ⟨heap_alloc_new _ _, h1, own_low (hr.heads.alloc _) hb.size, hr.head, fun k => own_low ((hr.rows k).alloc _) hb.size, (heap_alloc_old _ _ (lt_at h2)).trans h2, hg, hb2.alloc h1 _⟩
theorem Nk.need {w wr : World} {T S sb ci bx : Nat} {ai : Option Addr} {tx : List Int} {R : Nat → List Arc} {V : Nat → Value} {vs : List Value} {vn : Value} {mb : Array Value} (h : Nk w wr T S sb ci bx ai tx R V vs vn mb) (v : Value) : Nk w (wr.setCell ⟨T, 3, none⟩ v) T S sb ci bx ai tx R V vs v mb := by
  have hs := heap_setCell_same wr T 3 _ 116 v h.row
  have hk : Kp (fun b => b = T) wr (wr.setCell ⟨T, 3, none⟩ v) := (Kp.refl _ wr).setCell _ _ _ (fun _ => rfl)
  refine ⟨hs, h.tge, own_kp2 h.heads hk (fun b hb e => ?_), h.head, fun k => own_kp2 (h.rows k) hk (fun b hb e => ?_), (hk.block _ (lt_at h.box) (fun e => ?_)).trans h.box, h.bge, ⟨hk.os.trans h.below.os, hk.tape.trans h.below.tape, hk.output.trans h.below.output, Nat.le_trans h.below.size hk.size, fun k hlt => (hk.block k (Nat.lt_of_lt_of_le hlt h.below.size) (fun e => ?_)).trans (h.below.block k hlt)⟩⟩
  · obtain ⟨d, hd⟩ := own_ty h.heads hb
    subst e; exact ty_ne hd h.row (by decide)
  · obtain ⟨d, hd⟩ := own_ty (h.rows k) hb
    subst e; exact ty_ne hd h.row (by decide)
  · rw [e] at h; exact ty_ne h.box h.row (by decide)
  · have := h.tge; omega
/-- rows of which nothing is turned any more: they lie below b2 -/
def Rw (b2 : Nat) (w : World) (v : Value) (n : Nat) (xs : List Value) : Prop := ∃ a c, v = .slice a n c ∧ n ≤ 140737488355328 ∧ (n = 0 ∨ ∃ b off, a = some ⟨b, off, none⟩ ∧ b < b2 ∧ ∀ j u, xs[j]? = some u → w.cell? ⟨b, off + j, none⟩ = some u)
theorem Rw.below {b2 n : Nat} {w w' : World} {v : Value} {xs : List Value} (h : Rw b2 w v n xs) (hb : Below b2 w w') : Rw b2 w' v n xs := by
  obtain ⟨a, c, e, hc, hx⟩ := h
  refine ⟨a, c, e, hc, hx.imp id ?_⟩
  rintro ⟨b, off, e1, e2, e3⟩
  exact ⟨b, off, e1, e2, fun j u hu => (hb.cell (p := ⟨b, off + j, none⟩) e2).trans (e3 j u hu)⟩
theorem Rw.of_own {base e s n : Nat} {w : World} {v : Value} {xs : List Value} (h : w.ownsRow base e s v n xs) (hn : n ≤ 140737488355328) : Rw w.heap.size w v n xs := by
  rcases Nat.eq_zero_or_pos n with h0 | h0
  · obtain ⟨a, c, hv⟩ := oslice h
    exact ⟨a, c, hv, hn, .inl h0⟩
  · obtain ⟨g, cap, rfl, _, hg⟩ := own_some h h0
    refine ⟨_, _, rfl, hn, .inr ⟨g, 0, rfl, hg, fun j u hu => ?_⟩⟩
    have hj : j < n * s := by rw [← h.1]; exact (List.getElem?_eq_some_iff.1 hu).1
    rw [Nat.zero_add]
    exact (h.cellAt j hj).trans hu
/-- a track, as it is read -/
structure Tr (b2 : Nat) (w : World) (T S sb ci nb cN M : Nat) (ai : Option Addr) (tx : List Int) (R : Nat → List Arc) (V : Nat → Value) (N : Nat → Nat) : Prop where
  trk : w.heap[T]? = some (.cells #[.slice ai tx.length ci, .int .i64 (S : Int), .slice (some ⟨sb, 0, none⟩) S S, .slice (some ⟨nb, 0, none⟩) M cN] 116 (0, 0))
  tlt : T < b2
  txt : Txt b2 w ai tx
  slt : sb < b2
  head : ∀ f, f < S → w.cell? ⟨sb, f, none⟩ = some (V f)
  rows : ∀ f, f < S → Rw b2 w (V f) (R f).length (acs (R f))
  nlt : nb < b2
  need : ∀ v, v < M → w.cell? ⟨nb, v, none⟩ = some (.int .i64 ((N v : Nat) : Int))
  cap : M ≤ cN
  eM : M = S * (tx.length + 1)
  le : b2 ≤ w.heap.size
theorem Tr.below {b2 T S sb ci nb cN M : Nat} {w w' : World} {ai : Option Addr} {tx : List Int} {R : Nat → List Arc} {V : Nat → Value} {N : Nat → Nat} (h : Tr b2 w T S sb ci nb cN M ai tx R V N) (hb : Below b2 w w') : Tr b2 w' T S sb ci nb cN M ai tx R V N := by
  refine ⟨(hb.block _ h.tlt).trans h.trk, h.tlt, ?_, h.slt, fun f hf => (hb.cell (p := ⟨sb, f, none⟩) h.slt).trans (h.head f hf), fun f hf => (h.rows f hf).below hb, h.nlt, fun v hv => (hb.cell (p := ⟨nb, v, none⟩) h.nlt).trans (h.need v hv), h.cap, h.eM, Nat.le_trans h.le hb.size⟩
  rcases h.txt with h1 | ⟨bi, oi, e1, e2, e3⟩
  · exact .inl h1
  · exact .inr ⟨bi, oi, e1, e2, fun j u hu => (hb.cell (p := ⟨bi, oi + j, none⟩) e2).trans (e3 j u hu)⟩
end Go.Proofs.YtfjocafepigijaaDoor.Ot
/- reach: what has been met and what is still to be done, in plain words; how it lies; reach's visit in one word. Conditions: few states. -/
namespace Go.Proofs.YtfjocafepigijaaDoor.Cu
open Go.RowKit Mv Set Qp Sk Po Ps Wd Se Mp St Cm Nm Nx Ra Am Pa
open CR (nc)

/-- how many were met -/
def crd (n : Nat) (ws : List Nat) : Nat := sm n (fun k => if mem ws k = true then 1 else 0)
theorem sm_at (n P : Nat) (h : P < n) : sm n (fun k => if k = P then 1 else 0) = 1 := by
  induction n with
  | zero => omega
  | succ n ih =>
    rw [sm_up]
    rcases Nat.lt_or_ge P n with h1 | h1
    · rw [ih h1, if_neg (by omega)]
    · obtain rfl : P = n := by omega
      rw [if_pos rfl, sm_zero (fun k hk => if_neg (by omega))]
theorem crd_le (n : Nat) (ws : List Nat) : crd n ws ≤ n := by
  refine Nat.le_trans (sm_le (g := fun _ => 1) (fun k _ => ?_)) (Nat.le_of_eq (sm_one n))
  split <;> omega
theorem crd_put {n P : Nat} {ws : List Nat} (hP : P < n) (hl : P / 64 < ws.length) : crd n (put ws P) = cN ws P (crd n ws) := by
  unfold crd cN
  have e := fun k => mem_put ws P k hl
  cases hm : mem ws P with
  | true =>
    rw [if_pos rfl]
    refine sm_eq fun k _ => ?_
    rw [e]
    by_cases hk : k = P
    · subst hk; rw [hm]; rfl
    · simp [hk]
  | false =>
    rw [if_neg (by decide)]
    have : ∀ k, (if mem (put ws P) k = true then 1 else 0) = (if mem ws k = true then 1 else 0) + (if k = P then 1 else 0) := fun k => by
      rw [e]
      by_cases hk : k = P
      · subst hk; rw [hm]; simp
      · simp [hk]
    rw [sm_eq (fun k _ => this k), sm_add, sm_at n P hP]
/-- what has been met, what is to be done; ex: pairs that are under way -/
structure Iv (n SB m SA : Nat) (al : Nat → Bool) (E : Nat → Nat → Prop) (G : Nat → List Arc) (ex : Nat → Prop) (ws : List Nat) (cnt : Nat) (T hs : List Nat) : Prop where
  wl : n ≤ 64 * ws.length
  lt : ∀ k, mem ws k = true → k < n
  tm : ∀ k ∈ T, mem ws k = true
  cl : ∀ k, mem ws k = true → k ∉ T → ¬ ex k → ∀ k', E k k' → al k' = true → mem ws k' = true
  hf : ∀ t g : Nat, t < SA → g < m → mem hs (t * m + g) = true → ∀ y ∈ G g, ∀ k' : Nat, (t : Int) * (SB : Int) + y.2.1 = (k' : Int) → al k' = true → mem ws k' = true
  ct : cnt = crd n ws
  tl : T.length ≤ cnt
def aW (al : Nat → Bool) (ws : List Nat) (P : Nat) : List Nat := bif al P then put ws P else ws
def aC (al : Nat → Bool) (ws : List Nat) (P cnt : Nat) : Nat := bif al P then cN ws P cnt else cnt
def aT (al : Nat → Bool) (ws : List Nat) (P : Nat) (T : List Nat) : List Nat := bif al P then tN ws P T else T
/-- twice what is not met, and what is to be done -/
def msr (n cnt : Nat) (T : List Nat) : Nat := 2 * (n - cnt) + T.length
theorem own_base {w : World} {b b' e size n : Nat} {v : Value} {xs : List Value} (h : w.ownsRow b' e size v n xs) (hb : b ≤ b') : w.ownsRow b e size v n xs :=
  ⟨h.1, h.2.imp id (fun ⟨g, cap, cur, h1, h2, h3⟩ => ⟨g, cap, cur, h1, Nat.le_trans hb h2, h3⟩)⟩
/-- which pairs are allowed -/
def Alw (w : World) (fv : Value) (n : Nat) (al : Nat → Bool) : Prop := (fv = .func (.func 66) #[] #[] ∧ ∀ k, al k = true) ∨ ∃ va b2 n2 ws2, fv = .func (.func 68) #[va] #[] ∧ IsSet w b2 va n2 ws2 ∧ n ≤ n2 ∧ ∀ k, k < n → al k = mem ws2 k
/-- a search that goes on -/
structure Rs (w wr : World) (C F bC bA bS n nh : Nat) (fv vm vt vh : Value) (ws : List Nat) (cnt : Nat) (T hs : List Nat) : Prop where
  sr : Sr w.heap.size wr F n ws cnt T vm vt
  hw : IsSet wr w.heap.size vh nh hs
  xC : wr.heap[bC]? = some (.cells #[.pointer (some ⟨C, 0, none⟩)] 71 (0, 0))
  xA : wr.heap[bA]? = some (.cells #[fv] 114 (0, 0))
  xS : wr.heap[bS]? = some (.cells #[.pointer (some ⟨F, 0, none⟩)] 181 (0, 0))
  fge : w.heap.size ≤ F
  ne : ∀ b, vm.ownBlock = some b → vh.ownBlock ≠ some b
  below : Below w.heap.size w wr
/-- boxes of arcs lie as they lay -/
def K64 (w w' : World) : Prop := ∀ (b : Nat) (c : Array Value), w.heap[b]? = some (.cells c 64 (0, 0)) → w'.heap[b]? = some (.cells c 64 (0, 0))
/-- which of the arcs have been gone along -/
def Dn (al : Nat → Bool) (ws : List Nat) (l : List Arc) : Prop := ∀ e ∈ l, ∀ k' : Nat, e.2.1 = (k' : Int) → al k' = true → mem ws k' = true
end Go.Proofs.YtfjocafepigijaaDoor.Cu
/- reach: all pairs that one comes to. Conditions: few states, few arcs; no more pairs than may be. -/
namespace Go.Proofs.YtfjocafepigijaaDoor.Cu
open Go.RowKit Mv Set Qp Sk Po Ps Wd Se Mp St Cm Nm Nx Ra Am Pa Tc
open CR (nc)

structure R1p (w wx : World) (C Fb bS n : Nat) (fv vm : Value) (ws : List Nat) : Prop where
  row : wx.heap[Fb]? = some (.cells #[vm, .int .i64 0, .slice none 0 0] 183 (0, 0))
  set : IsSet wx w.heap.size vm n ws
  emp : ∀ k, mem ws k = false
  xC : wx.heap[w.heap.size]? = some (.cells #[.pointer (some ⟨C, 0, none⟩)] 71 (0, 0))
  xA : wx.heap[w.heap.size + 1]? = some (.cells #[fv] 114 (0, 0))
  xS : wx.heap[bS]? = some (.cells #[.pointer (some ⟨Fb, 0, none⟩)] 181 (0, 0))
  fge : w.heap.size ≤ Fb
  below : Below w.heap.size w wx
end Go.Proofs.YtfjocafepigijaaDoor.Cu
/- newCouple: the arcs of the second machine by what they read. Conditions: few states, few arcs of each. -/
namespace Go.Proofs.YtfjocafepigijaaDoor.Cu
open Go.RowKit Mv Qp Sk Po Ps Wd Se Mp St Cm Nm Nx Ra Am Tc
open CR (nc)

end Go.Proofs.YtfjocafepigijaaDoor.Cu
