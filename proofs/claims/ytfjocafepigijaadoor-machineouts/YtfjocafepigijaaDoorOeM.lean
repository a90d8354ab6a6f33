/- measure (62): the node from which an arc comes in one word; what is read, how the table, the stack and the list lie; what a round does. Conditions: a track of at most 40 states and 61 symbols. -/
import Derived.Test.YtfjocafepigijaaDoorObM
import Derived.Test.YtfjocafepigijaaDoorWk4M
import Derived.Test.YtfjocafepigijaaDoorPvM
import Derived.Deep.MidRow
import Derived.Deep.QuietTactic
import Derived.BigQuiet
import Derived.Deep.Cut
namespace Go.Proofs.YtfjocafepigijaaDoor.Ot
open Go.RowKit Mv Sy Po Ps Cm Pa Am Wd St

/-- the node from which an arc (turned round) comes -/
def bk (S : Nat) (tx : List Int) (q : Nat) (a : Arc) : Option Nat :=
  if a.2.2.1 = 0 then some (q / S * S + a.2.1.toNat) else if q / S = 0 then none else if tx[q / S - 1]? = some a.2.2.1 then some ((q / S - 1) * S + a.2.1.toNat) else none
/-- the text of a track -/
def Txt (base : Nat) (w : World) (ai : Option Addr) (tx : List Int) : Prop := tx.length = 0 ∨ ∃ bi oi, ai = some ⟨bi, oi, none⟩ ∧ bi < base ∧ ∀ j u, (ints tx)[j]? = some u → w.cell? ⟨bi, oi + j, none⟩ = some u
theorem back_any (S q t T ci base : Nat) (tx : List Int) (f i o x : Int) (ai : Option Addr) (vl vn : Value) (w : World) (hT : IsT w T ai tx.length ci S vl vn) (h0 : 0 < S) (hS : S ≤ 40) (hq : q / S ≤ tx.length) (hl : tx.length ≤ 61) (ht : t < S) (htx : Txt base w ai tx) (hb : base ≤ w.heap.size) :
    Calls Tryd.prog 90 #[.pointer (some ⟨T, 0, none⟩), .int .i64 (q : Int), .agg #[.int .i64 f, .int .i64 (t : Int), .int .i64 i, .int .i64 o, .int .i64 x]] w fun e w' => e = .returned (.tuple #[.int .i64 (((bk S tx q (f, (t : Int), i, o, x)).getD 0 : Nat) : Int), .bool (bk S tx q (f, (t : Int), i, o, x)).isSome]) ∧ Below w.heap.size w w' := by
  unfold bk
  simp only [Int.toNat_natCast]
  by_cases hi : i = 0
  · subst hi
    rw [if_pos rfl]
    exact back_zero S q t T tx.length ci f o x ai vl vn w hT h0 hS (by omega) ht
  rw [if_neg hi]
  by_cases hz : q / S = 0
  · rw [if_pos hz]
    exact back_none S q t T tx.length ci f o x ai vl vn w hT h0 hS (by omega) i hi hz
  rw [if_neg hz]
  obtain ⟨bi, oi, hai, hbi, hcs⟩ := htx.resolve_left (fun h => hz (Nat.le_zero.1 (by rw [h] at hq; exact hq)))
  have hk : q / S - 1 < tx.length := Nat.lt_of_lt_of_le (Nat.sub_lt (Nat.pos_of_ne_zero hz) Nat.one_pos) hq
  have hc := hcs (q / S - 1) _ (ints_at hk)
  rw [List.getElem?_eq_getElem hk]
  by_cases he : tx[q / S - 1] = i
  · rw [if_pos (by rw [he])]
    exact back_on S q t T tx.length ci f o x ai vl vn w hT h0 hS (by omega) ht i _ hi bi oi hai (by omega) hz hq hc he.symm
  · rw [if_neg (fun h => he (by injection h))]
    exact back_off S q t T tx.length ci f o x ai vl vn w hT h0 hS (by omega) i _ hi bi oi hai (by omega) hz hq hc (fun h => he h.symm)
theorem kp_below {w w' : World} (h : Below w.heap.size w w') (X : Nat → Prop) : Kp X w w' := ⟨h.os, h.tape, h.output, h.size, fun k hk _ => h.block k hk⟩
/-- what measure reads -/
structure Env (base : Nat) (w : World) (T S sb ci : Nat) (ai : Option Addr) (vl vn : Value) (tx : List Int) (R : Nat → List Arc) (V : Nat → Value) (vs : List Value) : Prop where
  tr : IsT w T ai tx.length ci S vl vn
  txt : Txt base w ai tx
  heads : w.ownsRow base 22 1 (.slice (some ⟨sb, 0, none⟩) S S) S vs
  head : ∀ f, f < S → vs[f]? = some (V f)
  rows : ∀ k, w.ownsRow base 64 5 (V k) (R k).length (acs (R k))
  bs : base ≤ w.heap.size
theorem Env.kept {base T S sb ci : Nat} {w w' : World} {ai : Option Addr} {vl vn : Value} {tx : List Int} {R : Nat → List Arc} {V : Nat → Value} {vs : List Value} {X : Nat → Prop} (h : Env base w T S sb ci ai vl vn tx R V vs) (hk : Kp X w w') (hX : ∀ k, X k → base ≤ k ∧ ∃ c, w.heap[k]? = some (.cells c 3 (0, 0))) : Env base w' T S sb ci ai vl vn tx R V vs := by
  have nt : ∀ {b : Nat} {c : Array Value} {ty : TypeId}, w.heap[b]? = some (.cells c ty (0, 0)) → ty ≠ 3 → ¬ X b := fun {b c ty} hb hne e => by
    obtain ⟨d, hd⟩ := (hX b e).2
    exact ty_ne hb hd hne
  refine ⟨(hk.block _ (lt_at h.tr) (nt h.tr (by decide))).trans h.tr, ?_, own_kp2 h.heads hk (fun b hb => ?_), h.head, fun k => own_kp2 (h.rows k) hk (fun b hb => ?_), Nat.le_trans h.bs hk.size⟩
  · rcases h.txt with h1 | ⟨bi, oi, hai, hbi, hcs⟩
    · exact .inl h1
    · refine .inr ⟨bi, oi, hai, hbi, fun j u hu => (hk.cell (Nat.lt_of_lt_of_le hbi h.bs) (fun e => ?_)).trans (hcs j u hu)⟩
      have := (hX bi e).1
      omega
  · obtain ⟨d, hd⟩ := own_ty h.heads hb
    exact nt hd (by decide)
  · obtain ⟨d, hd⟩ := own_ty (h.rows k) hb
    exact nt hd (by decide)
/-- the table, the stack, the list of the next round -/
structure Me (base : Nat) (w wr : World) (nb cN M : Nat) (vs0 vs vm : Value) (N st mo : List Nat) : Prop where
  need : wr.ownsRow base 3 1 (.slice (some ⟨nb, 0, none⟩) M cN) M (ns N)
  len : N.length = M
  stk : wr.ownsRow base 3 1 vs st.length (ns st)
  mor : wr.ownsRow base 3 1 vm mo.length (ns mo)
  a1 : vs.ownBlock ≠ some nb
  a2 : vm.ownBlock ≠ some nb
  a3 : ∀ b, vs.ownBlock = some b → vm.ownBlock ≠ some b
  o1 : ∀ b, vs.ownBlock = some b → b < w.heap.size → vs0.ownBlock = some b
  o2 : ∀ b, vm.ownBlock = some b → w.heap.size ≤ b
  kp : Kp (fun b => b = nb ∨ vs0.ownBlock = some b) w wr
theorem ns_snoc (l : List Nat) (x : Nat) : ns (l ++ [x]) = ns l ++ ns [x] := by simp [ns]
theorem Me.below {base nb cN M : Nat} {w wr w' : World} {vs0 vs vm : Value} {N st mo : List Nat} (h : Me base w wr nb cN M vs0 vs vm N st mo) (hb : Below wr.heap.size wr w') : Me base w w' nb cN M vs0 vs vm N st mo :=
  ⟨own_kp h.need (kp_below hb (fun _ => False)) id, h.len, own_kp2 h.stk (kp_below hb (fun _ => False)) (fun _ _ => id), own_kp2 h.mor (kp_below hb (fun _ => False)) (fun _ _ => id), h.a1, h.a2, h.a3, h.o1, h.o2, h.kp.trans (kp_below hb _)⟩
theorem Me.alloc {base nb cN M : Nat} {w wr : World} {vs0 vs vm : Value} {N st mo : List Nat} (h : Me base w wr nb cN M vs0 vs vm N st mo) (o : Obj) : Me base w (wr.alloc o) nb cN M vs0 vs vm N st mo := h.below ((Below.refl _ wr).alloc (Nat.le_refl _) o)
theorem kp_then {X Y : Nat → Prop} {a b c : World} (h : Kp X a b) (k : Kp Y b c) (hY : ∀ i, i < a.heap.size → Y i → X i) : Kp X a c :=
  ⟨k.os.trans h.os, k.tape.trans h.tape, k.output.trans h.output, Nat.le_trans h.size k.size, fun i hi hx => (k.block i (Nat.lt_of_lt_of_le hi h.size) (fun e => hx (hY i hi e))).trans (h.block i hi hx)⟩
/-- a node more on the stack -/
theorem Me.push {base nb cN M x : Nat} {w wr w1 : World} {vs0 vs vm v1 : Value} {N st mo : List Nat} (h : Me base w wr nb cN M vs0 vs vm N st mo) (ho : w1.ownsRow base 3 1 v1 (st.length + 1) (ns st ++ ns [x])) (hg : wr.grownBy w1 vs.ownBlock) (hl : v1.ownBlock = vs.ownBlock ∨ ∃ g, v1.ownBlock = some g ∧ wr.heap.size ≤ g) : Me base w w1 nb cN M vs0 v1 vm N (st ++ [x]) mo := by
  have hk : Kp (fun b => vs.ownBlock = some b) wr w1 := (Kp.refl _ wr).grown hg (fun b hb _ => hb)
  have hsz := h.kp.size
  refine ⟨own_kp h.need hk h.a1, h.len, by rw [List.length_append, ns_snoc]; exact ho, own_kp2 h.mor hk (fun b e1 e2 => h.a3 b e2 e1), ?_, h.a2, ?_, ?_, h.o2, kp_then h.kp hk (fun i hi e => .inr (h.o1 i e hi))⟩
  · rcases hl with hl | ⟨g, hl, hgs⟩
    · rw [hl]; exact h.a1
    · rw [hl]; intro e; cases e; have := (h.need.lt nb rfl).2; omega
  · intro b hb
    rcases hl with hl | ⟨g, hl, hgs⟩
    · rw [hl] at hb; exact h.a3 b hb
    · rw [hl] at hb; cases hb; intro e; have := (h.mor.lt _ e).2; omega
  · intro b hb hlt
    rcases hl with hl | ⟨g, hl, hgs⟩
    · rw [hl] at hb; exact h.o1 b hb hlt
    · rw [hl] at hb; cases hb; omega
/-- a node more in the list of the next round -/
theorem Me.more {base nb cN M x : Nat} {w wr w1 : World} {vs0 vs vm v1 : Value} {N st mo : List Nat} (h : Me base w wr nb cN M vs0 vs vm N st mo) (ho : w1.ownsRow base 3 1 v1 (mo.length + 1) (ns mo ++ ns [x])) (hg : wr.grownBy w1 vm.ownBlock) (hl : v1.ownBlock = vm.ownBlock ∨ ∃ g, v1.ownBlock = some g ∧ wr.heap.size ≤ g) : Me base w w1 nb cN M vs0 vs v1 N st (mo ++ [x]) := by
  have hk : Kp (fun b => vm.ownBlock = some b) wr w1 := (Kp.refl _ wr).grown hg (fun b hb _ => hb)
  have hsz := h.kp.size
  refine ⟨own_kp h.need hk h.a2, h.len, own_kp2 h.stk hk (fun b e1 e2 => h.a3 b e1 e2), by rw [List.length_append, ns_snoc]; exact ho, h.a1, ?_, ?_, h.o1, ?_, kp_then h.kp hk (fun i hi e => absurd (h.o2 i e) (Nat.not_le.2 hi))⟩
  · rcases hl with hl | ⟨g, hl, hgs⟩
    · rw [hl]; exact h.a2
    · rw [hl]; intro e; cases e; have := (h.need.lt nb rfl).2; omega
  · intro b hb
    rcases hl with hl | ⟨g, hl, hgs⟩
    · rw [hl]; exact h.a3 b hb
    · rw [hl]; intro e; cases e; have := (h.stk.lt _ hb).2; omega
  · intro b hb
    rcases hl with hl | ⟨g, hl, hgs⟩
    · rw [hl] at hb; exact h.o2 b hb
    · rw [hl] at hb; cases hb; omega
/-- a node is measured -/
theorem Me.set {base nb cN M v k : Nat} {w wr : World} {vs0 vs vm : Value} {N st mo : List Nat} (h : Me base w wr nb cN M vs0 vs vm N st mo) : Me base w (wr.setCell ⟨nb, v, none⟩ (.int .i64 (k : Int))) nb cN M vs0 vs vm (N.set v k) st mo := by
  have hk : Kp (fun b => b = nb) wr (wr.setCell ⟨nb, v, none⟩ (.int .i64 (k : Int))) := (Kp.refl _ wr).setCell _ _ _ (fun _ => rfl)
  have hs := (h.need.stored v (.int .i64 (k : Int))).1
  refine ⟨?_, by rw [List.length_set]; exact h.len, own_kp2 h.stk hk (fun b e1 e2 => h.a1 (by rw [← e2]; exact e1)), own_kp2 h.mor hk (fun b e1 e2 => h.a2 (by rw [← e2]; exact e1)), h.a1, h.a2, h.a3, h.o1, h.o2, kp_then h.kp hk (fun i _ e => .inl e)⟩
  unfold ns
  rw [List.map_set]
  exact hs
/-- the last node is taken off the stack -/
theorem Me.pop {base nb cN M k tb cap : Nat} {w wr : World} {vs0 vm : Value} {N st mo : List Nat} (h : Me base w wr nb cN M vs0 (.slice (some ⟨tb, 0, none⟩) (k + 1) cap) vm N st mo) (hT : st.length = k + 1) : Me base w wr nb cN M vs0 (.slice (some ⟨tb, 0, none⟩) k cap) vm N (st.take k) mo := by
  refine ⟨h.need, h.len, ?_, h.mor, h.a1, h.a2, h.a3, h.o1, h.o2, h.kp⟩
  rw [List.length_take, hT, Nat.min_eq_left (by omega)]
  rcases h.stk.2 with ⟨h', _⟩ | ⟨g', cap', cur, hv, hb, hg, hnc, hcm, hcs, htake⟩
  · simp at h'
  · simp only [hT, Value.slice.injEq, Option.some.injEq, Addr.mk.injEq, and_true, true_and] at hv
    obtain ⟨rfl, rfl⟩ := hv
    refine ⟨by simp [ns, hT], .inr ⟨tb, cap, cur, rfl, hb, hg, by omega, hcm, hcs, ?_⟩⟩
    rw [show ns (st.take k) = (ns st).take k by unfold ns; rw [List.map_take], ← htake, List.take_take]
    congr 1
    omega
/-- those that are not measured yet -/
def fr (k : Nat) (N : List Nat) : Nat := N.countP fun x => decide (k < x)
theorem fr_set {k v : Nat} {N : List Nat} (hv : v < N.length) (h : k < N[v]) : fr k (N.set v k) + 1 = fr k N := by
  unfold fr
  rw [List.countP_set hv]
  have h1 : 0 < List.countP (fun x => decide (k < x)) N := List.countP_pos_iff.2 ⟨N[v], List.getElem_mem hv, by simpa using h⟩
  simp [h]
  omega
theorem fr_le (k : Nat) (N : List Nat) : fr k N ≤ N.length := List.countP_le_length
theorem fr_up (k : Nat) (N : List Nat) : fr (k + 1) N ≤ fr k N := List.countP_mono_left (fun x _ h => by simp at h ⊢; omega)
/-- the nodes behind a node: those that write nothing, those that write one -/
def q0 (S : Nat) (tx : List Int) (R : Nat → List Arc) (v : Nat) : List Nat := (R (v % S)).filterMap fun a => if a.2.2.2.1 = 0 then bk S tx v a else none
def q1 (S : Nat) (tx : List Int) (R : Nat → List Arc) (v : Nat) : List Nat := (R (v % S)).filterMap fun a => if a.2.2.2.1 = 0 then none else bk S tx v a
theorem two_len (f g : Arc → Option Nat) (c : Arc → Bool) (l : List Arc) : (l.filterMap fun a => if c a = true then f a else none).length + (l.filterMap fun a => if c a = true then none else g a).length ≤ l.length := by
  induction l with
  | nil => simp
  | cons a l ih =>
    cases hc : c a with
    | true =>
      rw [List.filterMap_cons, List.filterMap_cons]
      simp only [hc, if_true]
      cases f a <;> simp <;> omega
    | false =>
      rw [List.filterMap_cons, List.filterMap_cons]
      simp only [hc]
      cases g a <;> simp <;> omega
theorem bk_lt {S q : Nat} {tx : List Int} {a : Arc} {u : Nat} (hq : q / S ≤ tx.length) (ha : a.2.1.toNat < S) (h : bk S tx q a = some u) : u < S * (tx.length + 1) := by
  have key : ∀ p, p ≤ tx.length → p * S + a.2.1.toNat < S * (tx.length + 1) := fun p hp => by
    have := Nat.mul_le_mul_right S hp
    rw [Nat.mul_comm S, Nat.succ_mul]
    omega
  unfold bk at h
  split at h
  · cases h; exact key _ hq
  · split at h
    · cases h
    · split at h
      · cases h; exact key _ (Nat.le_trans (Nat.sub_le _ _) hq)
      · cases h
end Go.Proofs.YtfjocafepigijaaDoor.Ot
/- measure (62): goes back from the nodes that wait, along arcs that write nothing; the table of needs, the nodes of the next round. Conditions: a track of at most 40 states and 61 symbols, at most 120 arcs a state. -/
namespace Go.Proofs.YtfjocafepigijaaDoor.Ot
open Go.RowKit Mv Sy Po Ps Cm Pa Am Wd St

theorem oslice {w : World} {base e size n : Nat} {v : Value} {xs : List Value} (h : w.ownsRow base e size v n xs) : ∃ a cap, v = .slice a n cap := by
  rcases h.2 with ⟨rfl, rfl⟩ | ⟨g, cap, cur, hv, _⟩
  · exact ⟨none, 0, rfl⟩
  · exact ⟨_, _, hv⟩
theorem ocap {w : World} {b e size n n' cap : Nat} {a : Option Addr} {xs : List Value} (h : w.ownsRow b e size (.slice a n' cap) n xs) (hn : 0 < n) : n ≤ cap ∧ cap ≤ maxLen := by
  rcases h.2 with ⟨_, h0⟩ | ⟨g, cap', cur, hv, _, _, hnc, hcm, _⟩
  · omega
  · simp only [Value.slice.injEq] at hv
    obtain ⟨_, _, rfl⟩ := hv
    exact ⟨hnc, hcm⟩
/-- an arc of a row -/
theorem arc_at {w : World} {base k : Nat} {v : Value} {R : List Arc} (h : w.ownsRow base 64 5 v R.length (acs R)) (hk : k < R.length) : ∃ b cap, v = .slice (some ⟨b, 0, none⟩) R.length cap ∧ w.cell? ⟨b, k * 5, none⟩ = some (.int .i64 (R[k]).1) ∧ w.cell? ⟨b, k * 5 + 1, none⟩ = some (.int .i64 (R[k]).2.1) ∧ w.cell? ⟨b, k * 5 + 2, none⟩ = some (.int .i64 (R[k]).2.2.1) ∧ w.cell? ⟨b, k * 5 + 3, none⟩ = some (.int .i64 (R[k]).2.2.2.1) ∧ w.cell? ⟨b, k * 5 + 4, none⟩ = some (.int .i64 (R[k]).2.2.2.2) := by
  obtain ⟨g, cap, rfl, _, _⟩ := own_some h (by omega)
  have u := acs_at R k hk
  exact ⟨g, cap, rfl, (h.cellAt _ (by omega)).trans u.1, (h.cellAt _ (by omega)).trans u.2.1, (h.cellAt _ (by omega)).trans u.2.2.1, (h.cellAt _ (by omega)).trans u.2.2.2.1, (h.cellAt _ (by omega)).trans u.2.2.2.2⟩
/-- what measure reads, and that it is right -/
structure MA (base : Nat) (w : World) (T S sb ci M : Nat) (ai : Option Addr) (vl vn : Value) (tx : List Int) (R : Nat → List Arc) (V : Nat → Value) (vs : List Value) : Prop where
  env : Env base w T S sb ci ai vl vn tx R V vs
  eM : M = S * (tx.length + 1)
  arcs : ∀ p, p < S → (R p).length ≤ 120 ∧ ∀ a ∈ R p, ∃ t : Nat, a.2.1 = (t : Int) ∧ t < S
theorem getD_set (N : List Nat) (P k x d : Nat) (h : P < N.length) : (N.set P k).getD x d = if x = P then k else N.getD x d := by
  rw [List.getD_eq_getElem?_getD, List.getD_eq_getElem?_getD, List.getElem?_set]
  by_cases e : P = x
  · subst e; simp [h]
  · rw [if_neg e, if_neg (fun h => e h.symm)]
theorem node_place {S M P : Nat} {tx : List Int} (hM : M = S * (tx.length + 1)) (hP : P < M) : P / S ≤ tx.length := by
  have := Nat.div_lt_of_lt_mul (show P < S * (tx.length + 1) by rw [← hM]; exact hP)
  omega
theorem q0_lt {S M P : Nat} {tx : List Int} {R : Nat → List Arc} (hM : M = S * (tx.length + 1)) (ha : ∀ p, p < S → (R p).length ≤ 120 ∧ ∀ a ∈ R p, ∃ t : Nat, a.2.1 = (t : Int) ∧ t < S) (h0 : 0 < S) (hP : P < M) : ∀ v ∈ q0 S tx R P, v < M := by
  intro v hv
  obtain ⟨a, ham, hb⟩ := List.mem_filterMap.1 hv
  obtain ⟨t, ht, htS⟩ := (ha _ (Nat.mod_lt P h0)).2 a ham
  split at hb
  · rw [hM]; exact bk_lt (node_place hM hP) (by rw [ht]; exact htS) hb
  · cases hb
theorem q1_lt {S M P : Nat} {tx : List Int} {R : Nat → List Arc} (hM : M = S * (tx.length + 1)) (ha : ∀ p, p < S → (R p).length ≤ 120 ∧ ∀ a ∈ R p, ∃ t : Nat, a.2.1 = (t : Int) ∧ t < S) (h0 : 0 < S) (hP : P < M) : ∀ v ∈ q1 S tx R P, v < M := by
  intro v hv
  obtain ⟨a, ham, hb⟩ := List.mem_filterMap.1 hv
  obtain ⟨t, ht, htS⟩ := (ha _ (Nat.mod_lt P h0)).2 a ham
  split at hb
  · cases hb
  · rw [hM]; exact bk_lt (node_place hM hP) (by rw [ht]; exact htS) hb
def MeQ (base : Nat) (w : World) (nb cN M S L wn K : Nat) (v0 : Value) (tx : List Int) (R : Nat → List Arc) (F : List Nat) (e : Ending) (w' : World) : Prop :=
  ∃ N mo vm vz, e = .returned vm ∧ Me base w w' nb cN M v0 vz vm N [] mo ∧ Ms (q0 S tx R) (q1 S tx R) F L (fun v => N.getD v (L + 1)) wn [] mo ∧ (∀ v ∈ mo, v < M) ∧ mo.length + 121 * fr wn N ≤ K
set_option maxHeartbeats 8000000 in
set_option maxRecDepth 100000 in
theorem measure_any (base T S sb ci nb cN M L wn K : Nat) (ai : Option Addr) (vl v0 : Value) (tx : List Int) (R : Nat → List Arc) (V : Nat → Value) (vs : List Value) (F N0 st0 : List Nat) (w : World)
    (hA : MA base w T S sb ci M ai vl (.slice (some ⟨nb, 0, none⟩) M cN) tx R V vs) (hme0 : Me base w w nb cN M v0 v0 (.slice none 0 0) N0 st0 []) (hms0 : Ms (q0 S tx R) (q1 S tx R) F L (fun v => N0.getD v (L + 1)) wn st0 []) (h10 : ∀ v ∈ st0, v < M) (h30 : st0.length + 121 * fr wn N0 ≤ K) (hK : K ≤ 400000) (hM : M ≤ 2480) (h0 : 0 < S) (hS : S ≤ 40) (hl : tx.length ≤ 61) :
    Calls Tryd.prog 62 #[.pointer (some ⟨T, 0, none⟩), .slice (some ⟨sb, 0, none⟩) S S, v0, .int .i64 (wn : Int)] w (MeQ base w nb cN M S L wn K v0 tx R F) := by
  obtain ⟨i0, hi, hz0, hz1, hz2⟩ := info_parts inf3
  have HA : Hid (MA base w T S sb ci M ai vl (.slice (some ⟨nb, 0, none⟩) M cN) tx R V vs) := hA
  have HX : Hid (∀ b, b = nb ∨ v0.ownBlock = some b → base ≤ b ∧ ∃ c, w.heap[b]? = some (.cells c 3 (0, 0))) := by
    rintro b (rfl | hb)
    · exact ⟨(hme0.need.lt _ rfl).1, own_ty hme0.need rfl⟩
    · exact ⟨(hme0.stk.lt _ hb).1, own_ty hme0.stk hb⟩
  have HM40 : Hid (M ≤ 2480) := hM
  have HME0 : Hid (Me base w w nb cN M v0 v0 (.slice none 0 0) N0 st0 []) := hme0
  have HMS0 : Hid (Ms (q0 S tx R) (q1 S tx R) F L (fun v => N0.getD v (L + 1)) wn st0 []) := hms0
  have H10 : Hid ((∀ v ∈ st0, v < M) ∧ st0.length + 121 * fr wn N0 ≤ K ∧ K ≤ 400000) := ⟨h10, h30, hK⟩
  obtain ⟨av0, cv0, hv0e⟩ := oslice hme0.stk
  subst hv0e
  obtain ⟨v0, hv0⟩ : ∃ v0 : Value, Value.slice av0 st0.length cv0 = v0 := ⟨_, rfl⟩
  rw [hv0] at HME0 HX ⊢
  have HV0 : Hid (v0 = Value.slice av0 st0.length cv0) := hv0.symm
  clear hA hM hme0 hms0 h10 h30 hK hv0
  go_enter Tryd.func62, Tryd.ntmps62
  go_upto_region 2 with fail
  go_loopg [2, 9] (st0.length + 121 * fr wn N0) (fun gk a b wr => ∃ (N st mo : List Nat) (vs vm : Value), a = vs ∧ b = vm ∧ Me base w wr nb cN M v0 vs vm N st mo ∧ Ms (q0 S tx R) (q1 S tx R) F L (fun v => N.getD v (L + 1)) wn st mo ∧ (∀ v ∈ st, v < M) ∧ (∀ v ∈ mo, v < M) ∧ st.length + mo.length + 121 * fr wn N ≤ K ∧ gk = st.length + mo.length + 121 * fr wn N)
  case atStart => exact ⟨N0, st0, [], _, _, rfl, rfl, HME0.out, HMS0.out, H10.out.1, fun _ h => (by cases h), by have := H10.out.2.1; simpa using this, by simp⟩
  case round =>
    clear HME0 HMS0
    obtain ⟨N, st, mo, vs1, vm, rfl, rfl, hme, hms, h1, h2, h3, hgk⟩ := hrel
    rcases List.eq_nil_or_concat st with rfl | ⟨st', P, hTe⟩
    · obtain ⟨av, cv, rfl⟩ := oslice hme.stk
      obtain ⟨bv, dv, rfl⟩ := oslice hme.mor
      have HME : Hid (Me base w wr nb cN M v0 (.slice av ([] : List Nat).length cv) (.slice bv mo.length dv) N [] mo) := hme
      have HMS : Hid (Ms (q0 S tx R) (q1 S tx R) F L (fun v => N.getD v (L + 1)) wn [] mo) := hms
      have H23 : Hid ((∀ v ∈ mo, v < M) ∧ mo.length + 121 * fr wn N ≤ K) := ⟨h2, by simpa using h3⟩
      clear hme hms h1 h2 h3 hgk
      go_wp2
      go_ret
      exact ⟨N, mo, _, _, rfl, HME.out, HMS.out, H23.out.1, H23.out.2⟩
    · rw [List.concat_eq_append] at hTe
      subst hTe
      obtain ⟨tb, cap, hv, _, _⟩ := own_some hme.stk (by simp)
      subst hv
      obtain ⟨bv, dv, rfl⟩ := oslice hme.mor
      have hpc := hme.stk.cellAt st'.length (by simp)
      rw [show (ns (st' ++ [P]))[st'.length]? = some (.int .i64 (P : Int)) by simp [ns]] at hpc
      have hl1 : (st' ++ [P]).length = st'.length + 1 := by simp
      have hPM : P < M := h1 P (by simp)
      have hkc0 := ocap hme.stk (by simp)
      rw [hl1] at hkc0
      have hPl : P < N.length := by rw [hme.len]; exact hPM
      have hnp := hme.need.cellAt P (by omega)
      rw [show (ns N)[P]? = some (.int .i64 ((N[P] : Nat) : Int)) by simp [ns, hPl]] at hnp
      have hnf := hme.need.frozenAt P
      obtain ⟨np, hnpe⟩ : ∃ np, N[P] = np := ⟨_, rfl⟩
      rw [hnpe] at hnp
      have HNP : Hid (N.getD P (L + 1) = np) := by show _ = _; rw [List.getD_eq_getElem?_getD, List.getElem?_eq_getElem hPl, Option.getD_some]; exact hnpe
      have hst : (st' ++ [P]).length + mo.length + 121 * fr wn N = st'.length + 1 + mo.length + 121 * fr wn N := by rw [hl1]
      obtain ⟨k, hk⟩ : ∃ k, st'.length = k := ⟨_, rfl⟩
      obtain ⟨lm, hlm⟩ : ∃ lm, mo.length = lm := ⟨_, rfl⟩
      have hk4 : k + 1 ≤ 400000 := by rw [hst] at h3; have := H10.out.2.2; omega
      have hme2 : Me base w wr nb cN M v0 (.slice (some ⟨tb, 0, none⟩) k cap) (.slice bv lm dv) N st' mo := by
        have := hme
        rw [hl1, hk, hlm] at this
        have := this.pop (by rw [hl1, hk])
        rw [show (st' ++ [P]).take k = st' by rw [← hk]; simp] at this
        exact this
      have HME : Hid (Me base w wr nb cN M v0 (.slice (some ⟨tb, 0, none⟩) k cap) (.slice bv lm dv) N st' mo) := hme2
      have HLN : Hid (st'.length = k ∧ mo.length = lm) := ⟨hk, hlm⟩
      have HMS : Hid (Ms (q0 S tx R) (q1 S tx R) F L (fun v => N.getD v (L + 1)) wn (st' ++ [P]) mo) := hms
      have H1 : Hid (∀ v ∈ st', v < M) := fun v hv => h1 v (by simp [hv])
      have H2 : Hid (∀ v ∈ mo, v < M) := h2
      have H3 : Hid (k + 1 + lm + 121 * fr wn N ≤ K ∧ gk = k + 1 + lm + 121 * fr wn N) := by rw [hst, hk, hlm] at h3 hgk; exact ⟨h3, hgk⟩
      have HEN : Hid (Env base wr T S sb ci ai vl (.slice (some ⟨nb, 0, none⟩) M cN) tx R V vs) := HA.out.env.kept hme2.kp (fun b hb => HX.out b hb)
      rw [hk] at hpc hkc0 hl1
      rw [hl1, hlm]
      have hkc : k + 1 ≤ cap := hkc0.1
      have hkc' : (k : Int) ≤ (cap : Int) := by omega
      have hM2 : M ≤ 2480 := HM40.out
      have t1 := cell_of_row _ _ 1 _ _ _ HEN.out.tr
      have t3 := cell_of_row _ _ 3 _ _ _ HEN.out.tr
      clear hme hme2 hms h1 h2 h3 hgk hst hk hlm hl1 hkc0 hnpe hPl
      by_cases hle : np ≤ wn
      · have HLE : Hid (np ≤ wn) := hle
        have hle' : ((np : Int) ≤ (wn : Int)) := by omega
        clear hle
        go_wp2
        go_roundg (k + lm + 121 * fr wn N)
        case measure => have := H3.out.2; omega
        case rel => exact ⟨N, st', mo, _, _, rfl, rfl, HME.out, HMS.out.skip (by show N.getD P (L + 1) ≤ wn; rw [HNP.out]; exact HLE.out), H1.out, H2.out, by have := HLN.out; have := H3.out.1; omega, by have := HLN.out; omega⟩
      · have HLE : Hid (¬ np ≤ wn) := hle
        have hle' : ¬ ((np : Int) ≤ (wn : Int)) := by omega
        clear hle
        go_upto_region 7 with fail
        have HME2 : Hid (Me base w (wr.setCell ⟨nb, P, none⟩ (.int .i64 (wn : Int))) nb cN M v0 (.slice (some ⟨tb, 0, none⟩) k cap) (.slice bv lm dv) (N.set P wn) st' mo) := HME.out.set
        clear HME HEN t1 t3 hpc hnp hnf
        generalize hV1 : wr.setCell ⟨nb, P, none⟩ (.int .i64 (wn : Int)) = V1 at *
        clear hV1
        have HEN : Hid (Env base V1 T S sb ci ai vl (.slice (some ⟨nb, 0, none⟩) M cN) tx R V vs) := HA.out.env.kept HME2.out.kp (fun b hb => HX.out b hb)
        have t1 := cell_of_row _ _ 1 _ _ _ HEN.out.tr
        obtain ⟨p, hp⟩ : ∃ p, P % S = p := ⟨_, rfl⟩
        have HP : Hid (P % S = p) := hp
        have hpS : p < S := by rw [← hp]; exact Nat.mod_lt P h0
        have hrr : (P : Int).tmod (S : Int) = (p : Int) := by rw [← hp]; simp [Int.tmod]
        have hr2 : (P : Int) % (S : Int) = (p : Int) := by rw [← hp]; simp
        have hn1 : ¬ (S : Int) = 0 := by omega
        have hn0 : ¬ S = 0 := by omega
        have hhd := (HEN.out.heads.cellAt p (by omega)).trans (HEN.out.head p hpS)
        obtain ⟨ra, rc, hvp⟩ := oslice (HEN.out.rows p)
        obtain ⟨nr, hnr⟩ : ∃ nr, (R p).length = nr := ⟨_, rfl⟩
        have HVP : Hid (V p = .slice ra nr rc) := by rw [← hnr]; exact hvp
        have HNR : Hid ((R p).length = nr) := hnr
        rw [HVP.out] at hhd
        have hnr120 : nr ≤ 120 := by rw [← hnr]; exact (HA.out.arcs p hpS).1
        clear hvp hnr hp
        go_wp2
        go_loopw [2, 9, 55] (fun a b i wr => ∃ (y : Nat) (s1 m1 : List Nat) (vs1 vm1 : Value), a = vs1 ∧ b = vm1 ∧ i = .int .i64 y ∧ y ≤ nr ∧ Me base w wr nb cN M v0 vs1 vm1 (N.set P wn) (st' ++ s1) (mo ++ m1) ∧ s1 = ((R p).take y).filterMap (fun a => if a.2.2.2.1 = 0 then bk S tx P a else none) ∧ m1 = ((R p).take y).filterMap (fun a => if a.2.2.2.1 = 0 then none else bk S tx P a)) (fun _ _ a _ => nr - (intOf a).toNat)
        case atStart => exact ⟨0, [], [], _, _, rfl, rfl, rfl, Nat.zero_le _, by rw [List.append_nil, List.append_nil]; exact HME2.out, rfl, rfl⟩
        case round =>
          clear HME2 HEN t1 hhd
          obtain ⟨y, s1, m1, vs1, vm1, rfl, rfl, rfl, hy, hme, hs1, hm1⟩ := hrel
          have HSM : Hid (s1 = ((R p).take y).filterMap (fun a => if a.2.2.2.1 = 0 then bk S tx P a else none) ∧ m1 = ((R p).take y).filterMap (fun a => if a.2.2.2.1 = 0 then none else bk S tx P a)) := ⟨hs1, hm1⟩
          by_cases hlt : y < nr
          · have hyl : y < (R p).length := by rw [HNR.out]; exact hlt
            have HEN : Hid (Env base wr T S sb ci ai vl (.slice (some ⟨nb, 0, none⟩) M cN) tx R V vs) := HA.out.env.kept hme.kp (fun b hb => HX.out b hb)
            obtain ⟨rb, rcap, hve, p0, p1, p2, p3, p4⟩ := arc_at (HEN.out.rows p) hyl
            rw [HVP.out, HNR.out, Value.slice.injEq] at hve
            obtain ⟨hra, _, hrc⟩ := hve
            subst hra hrc
            obtain ⟨yt, hyt, hyS⟩ := (HA.out.arcs p hpS).2 _ (List.getElem_mem hyl)
            obtain ⟨yF, yT, yI, yO, yW, ey⟩ : ∃ f t i1 o1 x, (R p)[y] = (f, t, i1, o1, x) := ⟨_, _, _, _, _, rfl⟩
            rw [ey] at p0 p1 p2 p3 p4 hyt
            dsimp only at hyt
            subst hyt
            dsimp only at p0 p1 p2 p3 p4
            have HEY : Hid ((R p)[y] = (yF, (yt : Int), yI, yO, yW)) := ey
            have HTK : Hid ((R p).take (y + 1) = (R p).take y ++ [(yF, (yt : Int), yI, yO, yW)]) := by show _ = _; rw [List.take_succ_eq_append_getElem hyl, ey]
            have hqt : P / S ≤ tx.length := by
              have := Nat.div_lt_of_lt_mul (show P < S * (tx.length + 1) by rw [← HA.out.eM]; exact hPM)
              omega
            have e3 : s1.length ≤ 120 := by rw [hs1]; exact Nat.le_trans (List.length_filterMap_le _ _) (by rw [List.length_take]; omega)
            have e4 : m1.length ≤ 120 := by rw [hm1]; exact Nat.le_trans (List.length_filterMap_le _ _) (by rw [List.length_take]; omega)
            obtain ⟨av1, cv1, rfl⟩ := oslice hme.stk
            obtain ⟨bv1, dv1, rfl⟩ := oslice hme.mor
            obtain ⟨l1, hl1⟩ : ∃ l1, (st' ++ s1).length = l1 := ⟨_, rfl⟩
            obtain ⟨l2, hl2⟩ : ∃ l2, (mo ++ m1).length = l2 := ⟨_, rfl⟩
            have HLL : Hid ((st' ++ s1).length = l1 ∧ (mo ++ m1).length = l2 ∧ l1 ≤ 500000 ∧ l2 ≤ 500000) := by
              have e1 := HLN.out
              have e2 := H3.out.1
              have e5 := H10.out.2.2
              refine ⟨hl1, hl2, ?_, ?_⟩
              · rw [← hl1, List.length_append]; omega
              · rw [← hl2, List.length_append]; omega
            rw [hl1, hl2] at hme ⊢
            have HB1 : Hid (Me base w (wr.alloc (.cells #[.int .i64 yF, .int .i64 (yt : Int), .int .i64 yI, .int .i64 yO, .int .i64 yW] 64)) nb cN M v0 (.slice av1 l1 cv1) (.slice bv1 l2 dv1) (N.set P wn) (st' ++ s1) (mo ++ m1)) := hme.alloc _
            have HEN1 : Hid (Env base (wr.alloc (.cells #[.int .i64 yF, .int .i64 (yt : Int), .int .i64 yI, .int .i64 yO, .int .i64 yW] 64)) T S sb ci ai vl (.slice (some ⟨nb, 0, none⟩) M cN) tx R V vs) := HA.out.env.kept HB1.out.kp (fun b hb => HX.out b hb)
            have KB := back_any S P yt T ci base tx yF yI yO yW ai vl (.slice (some ⟨nb, 0, none⟩) M cN) (wr.alloc (.cells #[.int .i64 yF, .int .i64 (yt : Int), .int .i64 yI, .int .i64 yO, .int .i64 yW] 64)) HEN1.out.tr h0 hS hqt hl hyS HEN1.out.txt HEN1.out.bs
            have hbx := heap_alloc_new wr (.cells #[.int .i64 yF, .int .i64 (yt : Int), .int .i64 yI, .int .i64 yO, .int .i64 yW] 64)
            obtain ⟨bkv, hbk⟩ : ∃ bkv, bk S tx P (yF, (yt : Int), yI, yO, yW) = bkv := ⟨_, rfl⟩
            rw [hbk] at KB
            have HBK : Hid (bk S tx P (yF, (yt : Int), yI, yO, yW) = bkv) := hbk
            have hl1' : l1 ≤ 500000 := HLL.out.2.2.1
            have hl2' : l2 ≤ 500000 := HLL.out.2.2.2
            clear hme hs1 hm1 ey hbk HEN HEN1 hl1 hl2 e3 e4
            go_upto_region 10 with fail
            clear p0 p1 p2 p3 p4
            generalize hV2 : wr.alloc (.cells #[.int .i64 yF, .int .i64 (yt : Int), .int .i64 yI, .int .i64 yO, .int .i64 yW] 64) = V2 at *
            clear hV2
            generalize wr.heap.size = bx at *
            have c0 := cell_of_row _ _ 0 _ _ _ hbx
            have c1 := cell_of_row _ _ 1 _ _ _ hbx
            have c2 := cell_of_row _ _ 2 _ _ _ hbx
            have c3 := cell_of_row _ _ 3 _ _ _ hbx
            have c4 := cell_of_row _ _ 4 _ _ _ hbx
            cases bkv with
            | none =>
              simp only [Option.getD_none, Option.isSome_none] at KB
              go_upto_region 11 with (go_at_call 90; (with_reducible refine KB.mono ?_); clear KB; rintro e w1 ⟨rfl, hb1⟩; have HB2 : Hid (Me base w w1 nb cN M v0 (.slice av1 l1 cv1) (.slice bv1 l2 dv1) (N.set P wn) (st' ++ s1) (mo ++ m1)) := HB1.out.below hb1; have hbx1 := (hb1.block _ (Am.lt_at hbx)).trans hbx; clear hb1 hbx c0 c1 c2 c3 c4 HB1)
              have d3 := cell_of_row _ _ 3 _ _ _ hbx1
              go_wp2
              go_roundw
              case rel => exact ⟨y + 1, s1, m1, _, _, rfl, rfl, by go_num, hlt, by first | exact HB2.out.drewN _ | exact HB2.out | exact (HB2.out.drewN _).drewN _, by rw [HTK.out, List.filterMap_append, HSM.out.1]; simp [HBK.out], by rw [HTK.out, List.filterMap_append, HSM.out.2]; simp [HBK.out]⟩
              case measure => simp [intOf]; omega
            | some u =>
              simp only [Option.getD_some, Option.isSome_some] at KB
              by_cases hO : yO = 0
              · subst hO
                have HO0 : Hid (True) := trivial
                go_upto_region 11 with (go_at_call 90; (with_reducible refine KB.mono ?_); clear KB; rintro e w1 ⟨rfl, hb1⟩; have HB2 : Hid (Me base w w1 nb cN M v0 (.slice av1 l1 cv1) (.slice bv1 l2 dv1) (N.set P wn) (st' ++ s1) (mo ++ m1)) := HB1.out.below hb1; have hbx1 := (hb1.block _ (Am.lt_at hbx)).trans hbx; clear hb1 hbx c0 c1 c2 c3 c4 HB1)
                have d3 := cell_of_row _ _ 3 _ _ _ hbx1
                go_upto_region 12 with fail
                have HB3 : Hid (Me base w w1 nb cN M v0 (.slice av1 l1 cv1) (.slice bv1 l2 dv1) (N.set P wn) (st' ++ s1) (mo ++ m1)) := HB2.out
                clear HB2 hbx1 d3
                have hsz : base ≤ w1.heap.size := Nat.le_trans HA.out.env.bs HB3.out.kp.size
                have hrow : w1.ownsRow base 3 1 (.slice av1 l1 cv1) l1 (ns (st' ++ s1)) := by have := HB3.out.stk; rw [HLL.out.1] at this; exact this
                go_wp2_with (refine wpList_append_own_at _ rfl _ _ 26 rfl base 3 i0 (.int .i64 0) 1 8 Tryd.underlying26 hi hz0 hz1 hz2 rfl (by decide) _ _ _ rfl (hrow.alloc _) ⟨_, 0, none⟩ 1 1 (ns [u]) rfl rfl (cell_one_at _ _ _ rfl) (ns_one _) (by unfold maxLen; omega) (by omega) (by simp; omega) ?_; intro v1 w2 ho1 hg1 _ hl1; have HN : Hid _ := (HB3.out.alloc (.cells #[.int .i64 (u : Int)] 3)).push (by rw [HLL.out.1]; exact ho1) hg1 (hl1.imp id (fun h => ⟨_, h, Nat.le_refl _⟩)); obtain ⟨gg, cc, rfl, _, _⟩ := own_some ho1 (Nat.succ_pos _); clear ho1 hg1 hl1 hrow)
                go_roundw
                case rel => exact ⟨y + 1, s1 ++ [u], m1, _, _, rfl, rfl, by go_num, hlt, by rw [← List.append_assoc]; exact HN.out, by rw [HTK.out, List.filterMap_append, HSM.out.1]; simp [HBK.out], by rw [HTK.out, List.filterMap_append, HSM.out.2]; simp⟩
                case measure => simp [intOf]; omega
              · have HO0 : Hid (¬ yO = 0) := hO
                have hO' : (yO == 0) = false := by simpa using hO
                clear hO
                go_upto_region 11 with (go_at_call 90; (with_reducible refine KB.mono ?_); clear KB; rintro e w1 ⟨rfl, hb1⟩; have HB2 : Hid (Me base w w1 nb cN M v0 (.slice av1 l1 cv1) (.slice bv1 l2 dv1) (N.set P wn) (st' ++ s1) (mo ++ m1)) := HB1.out.below hb1; have hbx1 := (hb1.block _ (Am.lt_at hbx)).trans hbx; clear hb1 hbx c0 c1 c2 c3 c4 HB1)
                have d3 := cell_of_row _ _ 3 _ _ _ hbx1
                go_upto_region 14 with fail
                have HB3 : Hid (Me base w w1 nb cN M v0 (.slice av1 l1 cv1) (.slice bv1 l2 dv1) (N.set P wn) (st' ++ s1) (mo ++ m1)) := HB2.out
                clear HB2 hbx1 d3
                have hsz : base ≤ w1.heap.size := Nat.le_trans HA.out.env.bs HB3.out.kp.size
                have hrow : w1.ownsRow base 3 1 (.slice bv1 l2 dv1) l2 (ns (mo ++ m1)) := by have := HB3.out.mor; rw [HLL.out.2.1] at this; exact this
                go_wp2_with (refine wpList_append_own_at _ rfl _ _ 26 rfl base 3 i0 (.int .i64 0) 1 8 Tryd.underlying26 hi hz0 hz1 hz2 rfl (by decide) _ _ _ rfl (hrow.alloc _) ⟨_, 0, none⟩ 1 1 (ns [u]) rfl rfl (cell_one_at _ _ _ rfl) (ns_one _) (by unfold maxLen; omega) (by omega) (by simp; omega) ?_; intro v1 w2 ho1 hg1 _ hl1; have HN : Hid _ := (HB3.out.alloc (.cells #[.int .i64 (u : Int)] 3)).more (by rw [HLL.out.2.1]; exact ho1) hg1 (hl1.imp id (fun h => ⟨_, h, Nat.le_refl _⟩)); obtain ⟨gg, cc, rfl, _, _⟩ := own_some ho1 (Nat.succ_pos _); clear ho1 hg1 hl1 hrow)
                go_roundw
                case rel => exact ⟨y + 1, s1, m1 ++ [u], _, _, rfl, rfl, by go_num, hlt, by rw [← List.append_assoc]; exact HN.out, by rw [HTK.out, List.filterMap_append, HSM.out.1]; simp [HO0.out], by rw [HTK.out, List.filterMap_append, HSM.out.2]; simp [HBK.out, HO0.out]⟩
                case measure => simp [intOf]; omega
          · obtain rfl : y = nr := by omega
            have hs2 : s1 = q0 S tx R P := by rw [hs1]; unfold q0; rw [HP.out, ← HNR.out, List.take_length]
            have hm2 : m1 = q1 S tx R P := by rw [hm1]; unfold q1; rw [HP.out, ← HNR.out, List.take_length]
            have hNl : P < N.length := by have := hme.len; rw [List.length_set] at this; omega
            have hNP : N[P] = np := by have := HNP.out; rw [List.getD_eq_getElem?_getD, List.getElem?_eq_getElem hNl, Option.getD_some] at this; exact this
            have HFR : Hid (fr wn (N.set P wn) + 1 = fr wn N) := fr_set hNl (by rw [hNP]; have := HLE.out; omega)
            have HTL : Hid (s1.length + m1.length ≤ 120) := by
              show _ ≤ _
              have := two_len (fun a => bk S tx P a) (fun a => bk S tx P a) (fun a => decide (a.2.2.2.1 = 0)) (R p)
              simp only [decide_eq_true_eq] at this
              rw [hs2, hm2]
              unfold q0 q1
              rw [HP.out]
              have h9 := HNR.out
              omega
            have HMS2 : Hid (Ms (q0 S tx R) (q1 S tx R) F L (fun v => (N.set P wn).getD v (L + 1)) wn (st' ++ s1) (mo ++ m1)) := by
              have h7 := HMS.out.take (v := P) (by show ¬ N.getD P (L + 1) ≤ wn; rw [HNP.out]; exact HLE.out)
              rw [hs2, hm2]
              rw [show (fun v => (N.set P wn).getD v (L + 1)) = fun x => if x = P then wn else N.getD x (L + 1) from funext fun x => getD_set N P wn x (L + 1) hNl]
              exact h7
            have HQ0 : Hid (∀ v ∈ st' ++ s1, v < M) := by
              intro v hv
              rcases List.mem_append.1 hv with hv | hv
              · exact H1.out v hv
              · rw [hs2] at hv
                exact q0_lt (HA.out.eM) (HA.out.arcs) h0 hPM v hv
            have HQ1 : Hid (∀ v ∈ mo ++ m1, v < M) := by
              intro v hv
              rcases List.mem_append.1 hv with hv | hv
              · exact H2.out v hv
              · rw [hm2] at hv
                exact q1_lt (HA.out.eM) (HA.out.arcs) h0 hPM v hv
            obtain ⟨av1, cv1, rfl⟩ := oslice hme.stk
            obtain ⟨bv1, dv1, rfl⟩ := oslice hme.mor
            have HN : Hid (Me base w wr nb cN M v0 (.slice av1 (st' ++ s1).length cv1) (.slice bv1 (mo ++ m1).length dv1) (N.set P wn) (st' ++ s1) (mo ++ m1)) := hme
            have hnum : (st' ++ s1).length + (mo ++ m1).length + 121 * fr wn (N.set P wn) < k + 1 + lm + 121 * fr wn N := by
              have a1 := HFR.out
              have a2 := HTL.out
              have a3 := HLN.out
              simp only [List.length_append]
              omega
            have HNUM : Hid ((st' ++ s1).length + (mo ++ m1).length + 121 * fr wn (N.set P wn) < k + 1 + lm + 121 * fr wn N) := hnum
            clear hme hs1 hm1 hs2 hm2 hNl hNP hnum
            go_wp2
            go_roundg ((st' ++ s1).length + (mo ++ m1).length + 121 * fr wn (N.set P wn))
            case measure => have := H3.out.2; have := HNUM.out; omega
            case rel => exact ⟨N.set P wn, st' ++ s1, mo ++ m1, _, _, rfl, rfl, HN.out, HMS2.out, HQ0.out, HQ1.out, by have := HNUM.out; have := H3.out.1; omega, rfl⟩
end Go.Proofs.YtfjocafepigijaaDoor.Ot
/- The document's Less (13): which of two lists of numbers comes first. Condition: the first is no longer than 61. -/
namespace Go.Proofs.YtfjocafepigijaaDoor.Ot
open Go.RowKit Mv Sy

def lt2 : List Int → List Int → Bool
  | [], [] => false
  | [], _ :: _ => true
  | _ :: _, [] => false
  | x :: a, y :: b => if x = y then lt2 a b else decide (x < y)
theorem lt2_diff : ∀ {k : Nat} {a b : List Int} {x y : Int}, (∀ j, j < k → a[j]? = b[j]?) → a[k]? = some x → b[k]? = some y → x ≠ y → lt2 a b = decide (x < y)
  | _, [], _, _, _, _, h, _, _ => by simp at h
  | _, _ :: _, [], _, _, _, _, h, _ => by simp at h
  | 0, u :: a, v :: b, x, y, _, h1, h2, hne => by
    simp only [List.getElem?_cons_zero, Option.some.injEq] at h1 h2
    subst h1 h2
    unfold lt2
    rw [if_neg hne]
  | k + 1, u :: a, v :: b, x, y, h, h1, h2, hne => by
    have h0 := h 0 (by omega)
    simp only [List.getElem?_cons_zero, Option.some.injEq] at h0
    subst h0
    unfold lt2
    rw [if_pos rfl]
    exact lt2_diff (k := k) (fun j hj => by have := h (j + 1) (by omega); simpa using this) (by simpa using h1) (by simpa using h2) hne
theorem lt2_len : ∀ {a b : List Int}, (∀ j, j < a.length → j < b.length → a[j]? = b[j]?) → lt2 a b = decide (a.length < b.length)
  | [], [], _ => rfl
  | [], _ :: _, _ => by simp [lt2]
  | _ :: _, [], _ => by simp [lt2]
  | u :: a, v :: b, h => by
    have h0 := h 0 (by simp) (by simp)
    simp only [List.getElem?_cons_zero, Option.some.injEq] at h0
    subst h0
    unfold lt2
    rw [if_pos rfl, lt2_len (fun j hj hj' => by have := h (j + 1) (by simpa using hj) (by simpa using hj'); simpa using this)]
    simp
set_option maxHeartbeats 4000000 in
set_option maxRecDepth 100000 in
theorem less_any (a b : List Int) (va vb : Value) (w : World) (ha : IsI w va a) (hb : IsI w vb b) (hl : a.length ≤ 61) : Calls Tryd.prog 13 #[va, vb] w fun e w' => e = .returned (.bool (lt2 a b)) ∧ Below w.heap.size w w' := by
  obtain ⟨_, aa, ca, rfl, _, hA⟩ := ha
  obtain ⟨_, ab, cb, rfl, _, hB⟩ := hb
  have HA : Hid (a.length = 0 ∨ ∃ b off, aa = some ⟨b, off, none⟩ ∧ b < w.heap.size ∧ ∀ j u, (ints a)[j]? = some u → w.cell? ⟨b, off + j, none⟩ = some u) := hA
  have HB : Hid (b.length = 0 ∨ ∃ c off, ab = some ⟨c, off, none⟩ ∧ c < w.heap.size ∧ ∀ j u, (ints b)[j]? = some u → w.cell? ⟨c, off + j, none⟩ = some u) := hB
  clear hA hB
  go_enter Tryd.func13, Tryd.ntmps13
  go_wp2
  go_loopw [5] (fun i wr => ∃ k : Nat, i = .int .i64 k ∧ k ≤ a.length ∧ k ≤ b.length ∧ Below w.heap.size w wr ∧ ∀ j, j < k → a[j]? = b[j]?) (fun i _ => a.length - (intOf i).toNat)
  case atStart => exact ⟨0, rfl, Nat.zero_le _, Nat.zero_le _, Below.refl _ _, fun j h => by omega⟩
  case round =>
    obtain ⟨k, rfl, hk, hkb, hbw, hok⟩ := hrel
    have HK : Hid (∀ j, j < k → a[j]? = b[j]?) := hok
    have HW : Hid (Below w.heap.size w wr) := hbw
    clear hok
    by_cases hlt : k < a.length
    · by_cases hltb : k < b.length
      · obtain ⟨g, off, rfl, hbl, hcs⟩ := HA.out.resolve_left (by omega)
        obtain ⟨h, off', rfl, hbl', hcs'⟩ := HB.out.resolve_left (by omega)
        obtain ⟨x, hx⟩ : ∃ x, a[k] = x := ⟨_, rfl⟩
        obtain ⟨y, hy⟩ : ∃ y, b[k] = y := ⟨_, rfl⟩
        have c1 : wr.cell? ⟨g, off + k, none⟩ = some (.int .i64 x) := by rw [← hx]; exact (hbw.cell hbl).trans (hcs k _ (ints_at hlt))
        have c2 : wr.cell? ⟨h, off' + k, none⟩ = some (.int .i64 y) := by rw [← hy]; exact (hbw.cell hbl').trans (hcs' k _ (ints_at hltb))
        have HX : Hid (a[k]? = some x ∧ b[k]? = some y) := ⟨by rw [List.getElem?_eq_getElem hlt, hx], by rw [List.getElem?_eq_getElem hltb, hy]⟩
        clear hx hy hbw
        by_cases hxy : x = y
        · subst hxy
          have e1 : (x != x) = false := by simp
          go_wp2
          repeat (go_quiet (fail); go_wp2)
          go_roundw
          case rel =>
            refine ⟨k + 1, by go_num, hlt, hltb, by first | exact HW.out | exact below_drewN HW.out _, fun j hj => ?_⟩
            by_cases e : j = k
            · subst e; rw [HX.out.1, HX.out.2]
            · exact HK.out j (by omega)
          case measure => simp [intOf]; omega
        · have e1 : (x != y) = true := by simpa using hxy
          have HN : Hid (lt2 a b = decide (x < y)) := lt2_diff HK.out HX.out.1 HX.out.2 hxy
          clear hxy
          go_wp2
          repeat (go_quiet (fail); go_wp2)
          go_ret
          exact ⟨by rw [HN.out]; rfl, by first | exact below_drewN (below_drewN HW.out _) _ | exact below_drewN HW.out _ | exact HW.out⟩
      · have HN : Hid (lt2 a b = decide (a.length < b.length)) := lt2_len (fun j h1 h2 => HK.out j (by omega))
        clear hbw
        go_wp2
        go_ret
        exact ⟨by rw [HN.out]; simp, HW.out⟩
    · have HN : Hid (lt2 a b = decide (a.length < b.length)) := lt2_len (fun j h1 h2 => HK.out j (by omega))
      clear hbw
      go_wp2
      go_ret
      exact ⟨by rw [HN.out]; simp, HW.out⟩
end Go.Proofs.YtfjocafepigijaaDoor.Ot
