/- visit: a pair is met. Condition: its number lies in the set. -/
import Derived.Test.YtfjocafepigijaaDoorPa
import Derived.Test.YtfjocafepigijaaDoorEcM
import Derived.Maps.AppendAt
import Derived.Test.YtfjocafepigijaaDoorObM
import Derived.Test.YtfjocafepigijaaDoorOdM
import Derived.Test.YtfjocafepigijaaDoorTnM
namespace Go.Proofs.YtfjocafepigijaaDoor.Pa
open Go.RowKit Mv Set Po Ps Cm Am

theorem inf3 : (Tryd.prog.info? 3).map (fun i => (i.zero, i.size, i.bytes)) = some (some (.int .i64 0), 1, 8) := by kernel_rfl
def ns (T : List Nat) : List Value := T.map fun (k : Nat) => Value.int .i64 (k : Int)
/-- a search: what was met, how many, what is to be done -/
structure Sr (base : Nat) (w : World) (F n : Nat) (ws : List Nat) (cnt : Nat) (T : List Nat) (vm vt : Value) : Prop where
  row : w.heap[F]? = some (.cells #[vm, .int .i64 (cnt : Int), vt] 183 (0, 0))
  set : IsSet w base vm n ws
  todo : w.ownsRow base 3 1 vt T.length (ns T)
def OwnS (F : Nat) (vm vt : Value) (b : Nat) : Prop := b = F ∨ vm.ownBlock = some b ∨ vt.ownBlock = some b
theorem cell_one_at (w : World) (g k : Nat) (hg : g = w.heap.size) : ∀ j u, (ns [k])[j]? = some u → (w.alloc (.cells #[.int .i64 (k : Int)] 3)).cell? ((⟨g, 0, none⟩ : Addr).add j) = some u := by
  intro j u hj
  subst hg
  match j, hj with
  | 0, hj => simp [ns] at hj; subst hj; simp [Addr.add]
theorem ns_one (k : Nat) : ∀ x ∈ ns [k], x.oneCell' = true := by
  intro x hx
  simp [ns] at hx
  subst hx
  rfl

end Go.Proofs.YtfjocafepigijaaDoor.Pa
/- measure (62): the node from which an arc comes in one word; what is read, how the table, the stack and the list lie; what a round does. Conditions: a track of at most 40 states and 61 symbols. -/
namespace Go.Proofs.YtfjocafepigijaaDoor.Ot
open Go.RowKit Mv Sy Po Ps Cm Pa Am Wd St

/-- the node from which an arc (turned round) comes -/
def bk (S : Nat) (tx : List Int) (q : Nat) (a : Arc) : Option Nat :=
  if a.2.2.1 = 0 then some (q / S * S + a.2.1.toNat) else if q / S = 0 then none else if tx[q / S - 1]? = some a.2.2.1 then some ((q / S - 1) * S + a.2.1.toNat) else none
/-- the text of a track -/
def Txt (base : Nat) (w : World) (ai : Option Addr) (tx : List Int) : Prop := tx.length = 0 ∨ ∃ bi oi, ai = some ⟨bi, oi, none⟩ ∧ bi < base ∧ ∀ j u, (ints tx)[j]? = some u → w.cell? ⟨bi, oi + j, none⟩ = some u
theorem back_any (S q t T ci base : Nat) (tx : List Int) (f i o x : Int) (ai : Option Addr) (vl vn : Value) (w : World) (hT : IsT w T ai tx.length ci S vl vn) (h0 : 0 < S) (hS : S ≤ 40) (hq : q / S ≤ tx.length) (hl : tx.length ≤ 61) (ht : t < S) (htx : Txt base w ai tx) (hb : base ≤ w.heap.size) :
    Calls Tryd.prog 90 #[.pointer (some ⟨T, 0, none⟩), .int .i64 (q : Int), .agg #[.int .i64 f, .int .i64 (t : Int), .int .i64 i, .int .i64 o, .int .i64 x]] w fun e w' => e = .returned (.tuple #[.int .i64 (((bk S tx q (f, (t : Int), i, o, x)).getD 0 : Nat) : Int), .bool (bk S tx q (f, (t : Int), i, o, x)).isSome]) ∧ Below w.heap.size w w' := by
  unfold bk
  simp only [Int.toNat_natCast]
  by_cases hi : i = 0
  · subst hi
    rw [if_pos rfl]
    exact back_zero S q t T tx.length ci f o x ai vl vn w hT h0 hS (by omega) ht
  rw [if_neg hi]
  by_cases hz : q / S = 0
  · rw [if_pos hz]
    exact back_none S q t T tx.length ci f o x ai vl vn w hT h0 hS (by omega) i hi hz
  rw [if_neg hz]
  obtain ⟨bi, oi, hai, hbi, hcs⟩ := htx.resolve_left (fun h => hz (Nat.le_zero.1 (by rw [h] at hq; exact hq)))
  have hk : q / S - 1 < tx.length := Nat.lt_of_lt_of_le (Nat.sub_lt (Nat.pos_of_ne_zero hz) Nat.one_pos) hq
  have hc := hcs (q / S - 1) _ (ints_at hk)
  rw [List.getElem?_eq_getElem hk]
  by_cases he : tx[q / S - 1] = i
  · rw [if_pos (by rw [he])]
    exact back_on S q t T tx.length ci f o x ai vl vn w hT h0 hS (by omega) ht i _ hi bi oi hai (by omega) hz hq hc he.symm
  · rw [if_neg (fun h => he (by injection h))]
    exact back_off S q t T tx.length ci f o x ai vl vn w hT h0 hS (by omega) i _ hi bi oi hai (by omega) hz hq hc (fun h => he h.symm)
theorem kp_below {w w' : World} (h : Below w.heap.size w w') (X : Nat → Prop) : Kp X w w' := ⟨h.os, h.tape, h.output, h.size, fun k hk _ => h.block k hk⟩
/-- what measure reads -/
structure Env (base : Nat) (w : World) (T S sb ci : Nat) (ai : Option Addr) (vl vn : Value) (tx : List Int) (R : Nat → List Arc) (V : Nat → Value) (vs : List Value) : Prop where
  tr : IsT w T ai tx.length ci S vl vn
  txt : Txt base w ai tx
  heads : w.ownsRow base 22 1 (.slice (some ⟨sb, 0, none⟩) S S) S vs
  head : ∀ f, f < S → vs[f]? = some (V f)
  rows : ∀ k, w.ownsRow base 64 5 (V k) (R k).length (acs (R k))
  bs : base ≤ w.heap.size
theorem Env.kept {base T S sb ci : Nat} {w w' : World} {ai : Option Addr} {vl vn : Value} {tx : List Int} {R : Nat → List Arc} {V : Nat → Value} {vs : List Value} {X : Nat → Prop} (h : Env base w T S sb ci ai vl vn tx R V vs) (hk : Kp X w w') (hX : ∀ k, X k → base ≤ k ∧ ∃ c, w.heap[k]? = some (.cells c 3 (0, 0))) : Env base w' T S sb ci ai vl vn tx R V vs := by
  have nt : ∀ {b : Nat} {c : Array Value} {ty : TypeId}, w.heap[b]? = some (.cells c ty (0, 0)) → ty ≠ 3 → ¬ X b := fun {b c ty} hb hne e => by
    obtain ⟨d, hd⟩ := (hX b e).2
    exact ty_ne hb hd hne
  refine ⟨(hk.block _ (lt_at h.tr) (nt h.tr (by decide))).trans h.tr, ?_, own_kp2 h.heads hk (fun b hb => ?_), h.head, fun k => own_kp2 (h.rows k) hk (fun b hb => ?_), Nat.le_trans h.bs hk.size⟩
  · rcases h.txt with h1 | ⟨bi, oi, hai, hbi, hcs⟩
    · exact .inl h1
    · refine .inr ⟨bi, oi, hai, hbi, fun j u hu => (hk.cell (Nat.lt_of_lt_of_le hbi h.bs) (fun e => ?_)).trans (hcs j u hu)⟩
      have := (hX bi e).1
      omega
  · obtain ⟨d, hd⟩ := own_ty h.heads hb
    exact nt hd (by decide)
  · obtain ⟨d, hd⟩ := own_ty (h.rows k) hb
    exact nt hd (by decide)
/-- the table, the stack, the list of the next round -/
structure Me (base : Nat) (w wr : World) (nb cN M : Nat) (vs0 vs vm : Value) (N st mo : List Nat) : Prop where
  need : wr.ownsRow base 3 1 (.slice (some ⟨nb, 0, none⟩) M cN) M (ns N)
  len : N.length = M
  stk : wr.ownsRow base 3 1 vs st.length (ns st)
  mor : wr.ownsRow base 3 1 vm mo.length (ns mo)
  a1 : vs.ownBlock ≠ some nb
  a2 : vm.ownBlock ≠ some nb
  a3 : ∀ b, vs.ownBlock = some b → vm.ownBlock ≠ some b
  o1 : ∀ b, vs.ownBlock = some b → b < w.heap.size → vs0.ownBlock = some b
  o2 : ∀ b, vm.ownBlock = some b → w.heap.size ≤ b
  kp : Kp (fun b => b = nb ∨ vs0.ownBlock = some b) w wr
theorem ns_snoc (l : List Nat) (x : Nat) : ns (l ++ [x]) = ns l ++ ns [x] := by simp [ns]
theorem Me.below {base nb cN M : Nat} {w wr w' : World} {vs0 vs vm : Value} {N st mo : List Nat} (h : Me base w wr nb cN M vs0 vs vm N st mo) (hb : Below wr.heap.size wr w') : Me base w w' nb cN M vs0 vs vm N st mo :=
  ⟨own_kp h.need (kp_below hb (fun _ => False)) id, h.len, own_kp2 h.stk (kp_below hb (fun _ => False)) (fun _ _ => id), own_kp2 h.mor (kp_below hb (fun _ => False)) (fun _ _ => id), h.a1, h.a2, h.a3, h.o1, h.o2, h.kp.trans (kp_below hb _)⟩
theorem Me.alloc {base nb cN M : Nat} {w wr : World} {vs0 vs vm : Value} {N st mo : List Nat} (h : Me base w wr nb cN M vs0 vs vm N st mo) (o : Obj) : Me base w (wr.alloc o) nb cN M vs0 vs vm N st mo := h.below ((Below.refl _ wr).alloc (Nat.le_refl _) o)
theorem kp_then {X Y : Nat → Prop} {a b c : World} (h : Kp X a b) (k : Kp Y b c) (hY : ∀ i, i < a.heap.size → Y i → X i) : Kp X a c :=
  ⟨k.os.trans h.os, k.tape.trans h.tape, k.output.trans h.output, Nat.le_trans h.size k.size, fun i hi hx => (k.block i (Nat.lt_of_lt_of_le hi h.size) (fun e => hx (hY i hi e))).trans (h.block i hi hx)⟩
/-- a node more on the stack -/
theorem Me.push {base nb cN M x : Nat} {w wr w1 : World} {vs0 vs vm v1 : Value} {N st mo : List Nat} (h : Me base w wr nb cN M vs0 vs vm N st mo) (ho : w1.ownsRow base 3 1 v1 (st.length + 1) (ns st ++ ns [x])) (hg : wr.grownBy w1 vs.ownBlock) (hl : v1.ownBlock = vs.ownBlock ∨ ∃ g, v1.ownBlock = some g ∧ wr.heap.size ≤ g) : Me base w w1 nb cN M vs0 v1 vm N (st ++ [x]) mo := by
  have hk : Kp (fun b => vs.ownBlock = some b) wr w1 := (Kp.refl _ wr).grown hg (fun b hb _ => hb)
  have hsz := h.kp.size
  refine ⟨own_kp h.need hk h.a1, h.len, by rw [List.length_append, ns_snoc]; exact ho, own_kp2 h.mor hk (fun b e1 e2 => h.a3 b e2 e1), ?_, h.a2, ?_, ?_, h.o2, kp_then h.kp hk (fun i hi e => .inr (h.o1 i e hi))⟩
  · rcases hl with hl | ⟨g, hl, hgs⟩
    · rw [hl]; exact h.a1
    · rw [hl]; intro e; cases e; have := (h.need.lt nb rfl).2; omega
  · intro b hb
    rcases hl with hl | ⟨g, hl, hgs⟩
    · rw [hl] at hb; exact h.a3 b hb
    · rw [hl] at hb; cases hb; intro e; have := (h.mor.lt _ e).2; omega
  · intro b hb hlt
    rcases hl with hl | ⟨g, hl, hgs⟩
    · rw [hl] at hb; exact h.o1 b hb hlt
    · rw [hl] at hb; cases hb; omega
/-- a node more in the list of the next round -/
theorem Me.more {base nb cN M x : Nat} {w wr w1 : World} {vs0 vs vm v1 : Value} {N st mo : List Nat} (h : Me base w wr nb cN M vs0 vs vm N st mo) (ho : w1.ownsRow base 3 1 v1 (mo.length + 1) (ns mo ++ ns [x])) (hg : wr.grownBy w1 vm.ownBlock) (hl : v1.ownBlock = vm.ownBlock ∨ ∃ g, v1.ownBlock = some g ∧ wr.heap.size ≤ g) : Me base w w1 nb cN M vs0 vs v1 N st (mo ++ [x]) := by
  have hk : Kp (fun b => vm.ownBlock = some b) wr w1 := (Kp.refl _ wr).grown hg (fun b hb _ => hb)
  have hsz := h.kp.size
  refine ⟨own_kp h.need hk h.a2, h.len, own_kp2 h.stk hk (fun b e1 e2 => h.a3 b e1 e2), by rw [List.length_append, ns_snoc]; exact ho, h.a1, ?_, ?_, h.o1, ?_, kp_then h.kp hk (fun i hi e => absurd (h.o2 i e) (Nat.not_le.2 hi))⟩
  · rcases hl with hl | ⟨g, hl, hgs⟩
    · rw [hl]; exact h.a2
    · rw [hl]; intro e; cases e; have := (h.need.lt nb rfl).2; omega
  · intro b hb
    rcases hl with hl | ⟨g, hl, hgs⟩
    · rw [hl]; exact h.a3 b hb
    · rw [hl]; intro e; cases e; have := (h.stk.lt _ hb).2; omega
  · intro b hb
    rcases hl with hl | ⟨g, hl, hgs⟩
    · rw [hl] at hb; exact h.o2 b hb
    · rw [hl] at hb; cases hb; omega
/-- a node is measured -/
theorem Me.set {base nb cN M v k : Nat} {w wr : World} {vs0 vs vm : Value} {N st mo : List Nat} (h : Me base w wr nb cN M vs0 vs vm N st mo) : Me base w (wr.setCell ⟨nb, v, none⟩ (.int .i64 (k : Int))) nb cN M vs0 vs vm (N.set v k) st mo := by
  have hk : Kp (fun b => b = nb) wr (wr.setCell ⟨nb, v, none⟩ (.int .i64 (k : Int))) := (Kp.refl _ wr).setCell _ _ _ (fun _ => rfl)
  have hs := (h.need.stored v (.int .i64 (k : Int))).1
  refine ⟨?_, by rw [List.length_set]; exact h.len, own_kp2 h.stk hk (fun b e1 e2 => h.a1 (by rw [← e2]; exact e1)), own_kp2 h.mor hk (fun b e1 e2 => h.a2 (by rw [← e2]; exact e1)), h.a1, h.a2, h.a3, h.o1, h.o2, kp_then h.kp hk (fun i _ e => .inl e)⟩
  unfold ns
  rw [List.map_set]
  exact hs
/-- the last node is taken off the stack -/
theorem Me.pop {base nb cN M k tb cap : Nat} {w wr : World} {vs0 vm : Value} {N st mo : List Nat} (h : Me base w wr nb cN M vs0 (.slice (some ⟨tb, 0, none⟩) (k + 1) cap) vm N st mo) (hT : st.length = k + 1) : Me base w wr nb cN M vs0 (.slice (some ⟨tb, 0, none⟩) k cap) vm N (st.take k) mo := by
  refine ⟨h.need, h.len, ?_, h.mor, h.a1, h.a2, h.a3, h.o1, h.o2, h.kp⟩
  rw [List.length_take, hT, Nat.min_eq_left (by omega)]
  rcases h.stk.2 with ⟨h', _⟩ | ⟨g', cap', cur, hv, hb, hg, hnc, hcm, hcs, htake⟩
  · simp at h'
  · simp only [hT, Value.slice.injEq, Option.some.injEq, Addr.mk.injEq, and_true, true_and] at hv
    obtain ⟨rfl, rfl⟩ := hv
    refine ⟨by simp [ns, hT], .inr ⟨tb, cap, cur, rfl, hb, hg, by omega, hcm, hcs, ?_⟩⟩
    rw [show ns (st.take k) = (ns st).take k by unfold ns; rw [List.map_take], ← htake, List.take_take]
    congr 1
    omega
/-- those that are not measured yet -/
def fr (k : Nat) (N : List Nat) : Nat := N.countP fun x => decide (k < x)
theorem fr_set {k v : Nat} {N : List Nat} (hv : v < N.length) (h : k < N[v]) : fr k (N.set v k) + 1 = fr k N := by
  unfold fr
  rw [List.countP_set hv]
  have h1 : 0 < List.countP (fun x => decide (k < x)) N := List.countP_pos_iff.2 ⟨N[v], List.getElem_mem hv, by simpa using h⟩
  simp [h]
  omega
theorem fr_le (k : Nat) (N : List Nat) : fr k N ≤ N.length := List.countP_le_length
theorem fr_up (k : Nat) (N : List Nat) : fr (k + 1) N ≤ fr k N := List.countP_mono_left (fun x _ h => by simp at h ⊢; omega)
/-- the nodes behind a node: those that write nothing, those that write one -/
def q0 (S : Nat) (tx : List Int) (R : Nat → List Arc) (v : Nat) : List Nat := (R (v % S)).filterMap fun a => if a.2.2.2.1 = 0 then bk S tx v a else none
def q1 (S : Nat) (tx : List Int) (R : Nat → List Arc) (v : Nat) : List Nat := (R (v % S)).filterMap fun a => if a.2.2.2.1 = 0 then none else bk S tx v a
theorem two_len (f g : Arc → Option Nat) (c : Arc → Bool) (l : List Arc) : (l.filterMap fun a => if c a = true then f a else none).length + (l.filterMap fun a => if c a = true then none else g a).length ≤ l.length := by
  induction l with
  | nil => simp
  | cons a l ih =>
    cases hc : c a with
    | true =>
      rw [List.filterMap_cons, List.filterMap_cons]
      simp only [hc, if_true]
      cases f a <;> simp <;> omega
    | false =>
      rw [List.filterMap_cons, List.filterMap_cons]
      simp only [hc]
      cases g a <;> simp <;> omega
theorem bk_lt {S q : Nat} {tx : List Int} {a : Arc} {u : Nat} (hq : q / S ≤ tx.length) (ha : a.2.1.toNat < S) (h : bk S tx q a = some u) : u < S * (tx.length + 1) := by
  have key : ∀ p, p ≤ tx.length → p * S + a.2.1.toNat < S * (tx.length + 1) := fun p hp => by
    have := Nat.mul_le_mul_right S hp
    rw [Nat.mul_comm S, Nat.succ_mul]
    omega
  unfold bk at h
  split at h
  · cases h; exact key _ hq
  · split at h
    · cases h
    · split at h
      · cases h; exact key _ (Nat.le_trans (Nat.sub_le _ _) hq)
      · cases h
end Go.Proofs.YtfjocafepigijaaDoor.Ot
/- reach's visit: a pair is met, where every pair is allowed. Conditions: the pair's number lies in the set. -/
namespace Go.Proofs.YtfjocafepigijaaDoor.Pa
open Go.RowKit Mv Set Po Ps Cm Am

def cN (ws : List Nat) (P cnt : Nat) : Nat := if mem ws P then cnt else cnt + 1
def tN (ws : List Nat) (P : Nat) (T : List Nat) : List Nat := if mem ws P then T else T ++ [P]
end Go.Proofs.YtfjocafepigijaaDoor.Pa
/- reach's visit, where the pairs of a set are allowed. Conditions: the pair's number lies in both sets. -/
namespace Go.Proofs.YtfjocafepigijaaDoor.Pa
open Go.RowKit Mv Set Po Ps Cm Am

end Go.Proofs.YtfjocafepigijaaDoor.Pa
/- jointFinals: where both machines end. Conditions: few states; the ends are right; the pairs are pairs. -/
namespace Go.Proofs.YtfjocafepigijaaDoor.Jf
open Go.RowKit Mv Wk Po Wd Se St Wg Nw Am
open CR (nc)

def jf1 (Ea Eb : List Nat) (SB : Nat) (L : List Nat) (i : Nat) : List (Int × Int) := if cv Ea (L.getD i 0 / SB) ≠ far ∧ cv Eb (L.getD i 0 % SB) ≠ far then [((i : Int), ((cv Ea (L.getD i 0 / SB) + cv Eb (L.getD i 0 % SB) : Nat) : Int))] else []
def jfP (Ea Eb : List Nat) (SB : Nat) (L : List Nat) (n : Nat) : List (Int × Int) := (List.range n).flatMap (jf1 Ea Eb SB L)
end Go.Proofs.YtfjocafepigijaaDoor.Jf
