/- newTrack (33): what it has laid at each step; the track as it is read later. Conditions: a machine of at most 40 states and 120 arcs, a text of at most 60 symbols. -/
import Derived.Test.YtfjocafepigijaaDoorOh
import Derived.Test.YtfjocafepigijaaDoorUb
import Derived.Test.YtfjocafepigijaaDoorGa
namespace Go.Proofs.YtfjocafepigijaaDoor.Ot
open Go.RowKit Mv Sy Po Ps Cm Pa Am Wd St Ra
open CR (nc)

theorem row_drew {w : World} {v : Value} {s n : Nat} {xs : List Value} (h : Mv.Row w v s n xs) : Mv.Row w.drew v s n xs := h
theorem below_undrew {n : Nat} {w w' : World} (h : Below n w.drew w') : Below n w w' := ⟨h.os, h.tape, h.output, h.size, h.block⟩
theorem rt_undrew {w w' : World} {sb S : Nat} {R : Nat → List Arc} {V : Nat → Value} {vs : List Value} (h : Rt w.drew w' sb S R V vs) : Rt w w' sb S R V vs := ⟨h.heads, h.len, h.head, h.rows, h.apart, below_undrew h.below⟩
theorem own_low {w : World} {b b' e s n : Nat} {v : Value} {xs : List Value} (h : w.ownsRow b e s v n xs) (hb : b' ≤ b) : w.ownsRow b' e s v n xs := by
  refine ⟨h.1, ?_⟩
  rcases h.2 with h' | ⟨g, cap, cur, hv, hg, hrest⟩
  · exact .inl h'
  · exact .inr ⟨g, cap, cur, hv, Nat.le_trans hb hg, hrest⟩
/-- a track that is being made -/
structure Nk (w wr : World) (T S sb ci bx : Nat) (ai : Option Addr) (tx : List Int) (R : Nat → List Arc) (V : Nat → Value) (vs : List Value) (vn : Value) (mb : Array Value) : Prop where
  row : wr.heap[T]? = some (.cells #[.slice ai tx.length ci, .int .i64 (S : Int), .slice (some ⟨sb, 0, none⟩) S S, vn] 116 (0, 0))
  tge : w.heap.size ≤ T
  heads : wr.ownsRow w.heap.size 22 1 (.slice (some ⟨sb, 0, none⟩) S S) S vs
  head : ∀ f, f < S → vs[f]? = some (V f)
  rows : ∀ k, wr.ownsRow w.heap.size 64 5 (V k) (R k).length (acs (R k))
  box : wr.heap[bx]? = some (.cells mb 25 (0, 0))
  bge : w.heap.size ≤ bx
  below : Below w.heap.size w wr
theorem Nk.kept {w wr w' : World} {T S sb ci bx : Nat} {ai : Option Addr} {tx : List Int} {R : Nat → List Arc} {V : Nat → Value} {vs : List Value} {vn : Value} {mb : Array Value} {X : Nat → Prop} (h : Nk w wr T S sb ci bx ai tx R V vs vn mb) (hk : Kp X wr w') (hX : ∀ k, X k → w.heap.size ≤ k ∧ ∃ c, wr.heap[k]? = some (.cells c 3 (0, 0))) : Nk w w' T S sb ci bx ai tx R V vs vn mb := by
  have nt : ∀ {b : Nat} {c : Array Value} {ty : TypeId}, wr.heap[b]? = some (.cells c ty (0, 0)) → ty ≠ 3 → ¬ X b := fun {b c ty} hb hne e => by
    obtain ⟨d, hd⟩ := (hX b e).2
    exact ty_ne hb hd hne
  refine ⟨(hk.block _ (lt_at h.row) (nt h.row (by decide))).trans h.row, h.tge, own_kp2 h.heads hk (fun b hb => ?_), h.head, fun k => own_kp2 (h.rows k) hk (fun b hb => ?_), (hk.block _ (lt_at h.box) (nt h.box (by decide))).trans h.box, h.bge, ⟨hk.os.trans h.below.os, hk.tape.trans h.below.tape, hk.output.trans h.below.output, Nat.le_trans h.below.size hk.size, fun k hlt => ?_⟩⟩
  · obtain ⟨d, hd⟩ := own_ty h.heads hb
    exact nt hd (by decide)
  · obtain ⟨d, hd⟩ := own_ty (h.rows k) hb
    exact nt hd (by decide)
  · exact (hk.block k (Nat.lt_of_lt_of_le hlt h.below.size) (fun e => by have := (hX k e).1; omega)).trans (h.below.block k hlt)
theorem Nk.laid {w wr w' : World} {T S sb ci bx : Nat} {ai : Option Addr} {tx : List Int} {R : Nat → List Arc} {V : Nat → Value} {vs : List Value} {vn : Value} {mb : Array Value} (h : Nk w wr T S sb ci bx ai tx R V vs vn mb) (hb : Below wr.heap.size wr w') : Nk w w' T S sb ci bx ai tx R V vs vn mb := h.kept (kp_below hb (fun _ => False)) (fun _ e => e.elim)
theorem Nk.first {w V0 w1 : World} {S sb ci bx : Nat} {ai : Option Addr} {tx : List Int} {R : Nat → List Arc} {V : Nat → Value} {vs : List Value} {mb : Array Value} (hr : Rt V0 w1 sb S R V vs) (hb : Below w.heap.size w V0) (hx : V0.heap[bx]? = some (.cells mb 25 (0, 0))) (hg : w.heap.size ≤ bx) : Nk w (w1.alloc (.cells #[.slice ai tx.length ci, .int .i64 (S : Int), .slice (some ⟨sb, 0, none⟩) S S, .slice none 0 0] 116)) w1.heap.size S sb ci bx ai tx R V vs (.slice none 0 0) mb := by
  have h1 : w.heap.size ≤ w1.heap.size := Nat.le_trans hb.size hr.below.size
  have h2 := (hr.below.block bx (lt_at hx)).trans hx
  have hb2 : Below w.heap.size w w1 := hb.trans ⟨hr.below.os, hr.below.tape, hr.below.output, hr.below.size, fun k hk => hr.below.block k (Nat.lt_of_lt_of_le hk hb.size)⟩
  exact ⟨heap_alloc_new _ _, h1, own_low (hr.heads.alloc _) hb.size, hr.head, fun k => own_low ((hr.rows k).alloc _) hb.size, (heap_alloc_old _ _ (lt_at h2)).trans h2, hg, hb2.alloc h1 _⟩
theorem Nk.need {w wr : World} {T S sb ci bx : Nat} {ai : Option Addr} {tx : List Int} {R : Nat → List Arc} {V : Nat → Value} {vs : List Value} {vn : Value} {mb : Array Value} (h : Nk w wr T S sb ci bx ai tx R V vs vn mb) (v : Value) : Nk w (wr.setCell ⟨T, 3, none⟩ v) T S sb ci bx ai tx R V vs v mb := by
  have hs := heap_setCell_same wr T 3 _ 116 v h.row
  have hk : Kp (fun b => b = T) wr (wr.setCell ⟨T, 3, none⟩ v) := (Kp.refl _ wr).setCell _ _ _ (fun _ => rfl)
  refine ⟨hs, h.tge, own_kp2 h.heads hk (fun b hb e => ?_), h.head, fun k => own_kp2 (h.rows k) hk (fun b hb e => ?_), (hk.block _ (lt_at h.box) (fun e => ?_)).trans h.box, h.bge, ⟨hk.os.trans h.below.os, hk.tape.trans h.below.tape, hk.output.trans h.below.output, Nat.le_trans h.below.size hk.size, fun k hlt => (hk.block k (Nat.lt_of_lt_of_le hlt h.below.size) (fun e => ?_)).trans (h.below.block k hlt)⟩⟩
  · obtain ⟨d, hd⟩ := own_ty h.heads hb
    subst e; exact ty_ne hd h.row (by decide)
  · obtain ⟨d, hd⟩ := own_ty (h.rows k) hb
    subst e; exact ty_ne hd h.row (by decide)
  · rw [e] at h; exact ty_ne h.box h.row (by decide)
  · have := h.tge; omega
/-- rows of which nothing is turned any more: they lie below b2 -/
def Rw (b2 : Nat) (w : World) (v : Value) (n : Nat) (xs : List Value) : Prop := ∃ a c, v = .slice a n c ∧ n ≤ 140737488355328 ∧ (n = 0 ∨ ∃ b off, a = some ⟨b, off, none⟩ ∧ b < b2 ∧ ∀ j u, xs[j]? = some u → w.cell? ⟨b, off + j, none⟩ = some u)
theorem Rw.below {b2 n : Nat} {w w' : World} {v : Value} {xs : List Value} (h : Rw b2 w v n xs) (hb : Below b2 w w') : Rw b2 w' v n xs := by
  obtain ⟨a, c, e, hc, hx⟩ := h
  refine ⟨a, c, e, hc, hx.imp id ?_⟩
  rintro ⟨b, off, e1, e2, e3⟩
  exact ⟨b, off, e1, e2, fun j u hu => (hb.cell (p := ⟨b, off + j, none⟩) e2).trans (e3 j u hu)⟩
theorem Rw.of_own {base e s n : Nat} {w : World} {v : Value} {xs : List Value} (h : w.ownsRow base e s v n xs) (hn : n ≤ 140737488355328) : Rw w.heap.size w v n xs := by
  rcases Nat.eq_zero_or_pos n with h0 | h0
  · obtain ⟨a, c, hv⟩ := oslice h
    exact ⟨a, c, hv, hn, .inl h0⟩
  · obtain ⟨g, cap, rfl, _, hg⟩ := own_some h h0
    refine ⟨_, _, rfl, hn, .inr ⟨g, 0, rfl, hg, fun j u hu => ?_⟩⟩
    have hj : j < n * s := by rw [← h.1]; exact (List.getElem?_eq_some_iff.1 hu).1
    rw [Nat.zero_add]
    exact (h.cellAt j hj).trans hu
/-- a track, as it is read -/
structure Tr (b2 : Nat) (w : World) (T S sb ci nb cN M : Nat) (ai : Option Addr) (tx : List Int) (R : Nat → List Arc) (V : Nat → Value) (N : Nat → Nat) : Prop where
  trk : w.heap[T]? = some (.cells #[.slice ai tx.length ci, .int .i64 (S : Int), .slice (some ⟨sb, 0, none⟩) S S, .slice (some ⟨nb, 0, none⟩) M cN] 116 (0, 0))
  tlt : T < b2
  txt : Txt b2 w ai tx
  slt : sb < b2
  head : ∀ f, f < S → w.cell? ⟨sb, f, none⟩ = some (V f)
  rows : ∀ f, f < S → Rw b2 w (V f) (R f).length (acs (R f))
  nlt : nb < b2
  need : ∀ v, v < M → w.cell? ⟨nb, v, none⟩ = some (.int .i64 ((N v : Nat) : Int))
  cap : M ≤ cN
  eM : M = S * (tx.length + 1)
  le : b2 ≤ w.heap.size
theorem Tr.below {b2 T S sb ci nb cN M : Nat} {w w' : World} {ai : Option Addr} {tx : List Int} {R : Nat → List Arc} {V : Nat → Value} {N : Nat → Nat} (h : Tr b2 w T S sb ci nb cN M ai tx R V N) (hb : Below b2 w w') : Tr b2 w' T S sb ci nb cN M ai tx R V N := by
  refine ⟨(hb.block _ h.tlt).trans h.trk, h.tlt, ?_, h.slt, fun f hf => (hb.cell (p := ⟨sb, f, none⟩) h.slt).trans (h.head f hf), fun f hf => (h.rows f hf).below hb, h.nlt, fun v hv => (hb.cell (p := ⟨nb, v, none⟩) h.nlt).trans (h.need v hv), h.cap, h.eM, Nat.le_trans h.le hb.size⟩
  rcases h.txt with h1 | ⟨bi, oi, e1, e2, e3⟩
  · exact .inl h1
  · exact .inr ⟨bi, oi, e1, e2, fun j u hu => (hb.cell (p := ⟨bi, oi + j, none⟩) e2).trans (e3 j u hu)⟩
end Go.Proofs.YtfjocafepigijaaDoor.Ot
