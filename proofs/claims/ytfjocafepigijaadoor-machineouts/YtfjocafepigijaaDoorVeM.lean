/- visit: a pair is met. Condition: its number lies in the set. -/
import Derived.Test.YtfjocafepigijaaDoorPa
import Derived.Test.YtfjocafepigijaaDoorEcM
import Derived.Maps.AppendAt
import Derived.Test.YtfjocafepigijaaDoorObM
import Derived.Test.YtfjocafepigijaaDoorOdM
import Derived.Test.YtfjocafepigijaaDoorUaM
import Derived.Test.YtfjocafepigijaaDoorRc
import Derived.Test.YtfjocafepigijaaDoorTbM
import Derived.Test.YtfjocafepigijaaDoorTnM
namespace Go.Proofs.YtfjocafepigijaaDoor.Pa
open Go.RowKit Mv Set Po Ps Cm Am

theorem inf3 : (Tryd.prog.info? 3).map (fun i => (i.zero, i.size, i.bytes)) = some (some (.int .i64 0), 1, 8) := by kernel_rfl
def ns (T : List Nat) : List Value := T.map fun (k : Nat) => Value.int .i64 (k : Int)
/-- a search: what was met, how many, what is to be done -/
structure Sr (base : Nat) (w : World) (F n : Nat) (ws : List Nat) (cnt : Nat) (T : List Nat) (vm vt : Value) : Prop where
  row : w.heap[F]? = some (.cells #[vm, .int .i64 (cnt : Int), vt] 183 (0, 0))
  set : IsSet w base vm n ws
  todo : w.ownsRow base 3 1 vt T.length (ns T)
def OwnS (F : Nat) (vm vt : Value) (b : Nat) : Prop := b = F ∨ vm.ownBlock = some b ∨ vt.ownBlock = some b
theorem cell_one_at (w : World) (g k : Nat) (hg : g = w.heap.size) : ∀ j u, (ns [k])[j]? = some u → (w.alloc (.cells #[.int .i64 (k : Int)] 3)).cell? ((⟨g, 0, none⟩ : Addr).add j) = some u := by
  intro j u hj
  subst hg
  match j, hj with
  | 0, hj => simp [ns] at hj; subst hj; simp [Addr.add]
theorem ns_one (k : Nat) : ∀ x ∈ ns [k], x.oneCell' = true := by
  intro x hx
  simp [ns] at hx
  subst hx
  rfl

end Go.Proofs.YtfjocafepigijaaDoor.Pa
/- measure (62): the node from which an arc comes in one word; what is read, how the table, the stack and the list lie; what a round does. Conditions: a track of at most 40 states and 61 symbols. -/
namespace Go.Proofs.YtfjocafepigijaaDoor.Ot
open Go.RowKit Mv Sy Po Ps Cm Pa Am Wd St

/-- the node from which an arc (turned round) comes -/
def bk (S : Nat) (tx : List Int) (q : Nat) (a : Arc) : Option Nat :=
  if a.2.2.1 = 0 then some (q / S * S + a.2.1.toNat) else if q / S = 0 then none else if tx[q / S - 1]? = some a.2.2.1 then some ((q / S - 1) * S + a.2.1.toNat) else none
/-- the text of a track -/
def Txt (base : Nat) (w : World) (ai : Option Addr) (tx : List Int) : Prop := tx.length = 0 ∨ ∃ bi oi, ai = some ⟨bi, oi, none⟩ ∧ bi < base ∧ ∀ j u, (ints tx)[j]? = some u → w.cell? ⟨bi, oi + j, none⟩ = some u
theorem back_any (S q t T ci base : Nat) (tx : List Int) (f i o x : Int) (ai : Option Addr) (vl vn : Value) (w : World) (hT : IsT w T ai tx.length ci S vl vn) (h0 : 0 < S) (hS : S ≤ 40) (hq : q / S ≤ tx.length) (hl : tx.length ≤ 61) (ht : t < S) (htx : Txt base w ai tx) (hb : base ≤ w.heap.size) :
    Calls Tryd.prog 90 #[.pointer (some ⟨T, 0, none⟩), .int .i64 (q : Int), .agg #[.int .i64 f, .int .i64 (t : Int), .int .i64 i, .int .i64 o, .int .i64 x]] w fun e w' => e = .returned (.tuple #[.int .i64 (((bk S tx q (f, (t : Int), i, o, x)).getD 0 : Nat) : Int), .bool (bk S tx q (f, (t : Int), i, o, x)).isSome]) ∧ Below w.heap.size w w' := by
  unfold bk
  simp only [Int.toNat_natCast]
  by_cases hi : i = 0
  · subst hi
    rw [if_pos rfl]
    exact back_zero S q t T tx.length ci f o x ai vl vn w hT h0 hS (by omega) ht
  rw [if_neg hi]
  by_cases hz : q / S = 0
  · rw [if_pos hz]
    exact back_none S q t T tx.length ci f o x ai vl vn w hT h0 hS (by omega) i hi hz
  rw [if_neg hz]
  obtain ⟨bi, oi, hai, hbi, hcs⟩ := htx.resolve_left (fun h => hz (Nat.le_zero.1 (by rw [h] at hq; exact hq)))
  have hk : q / S - 1 < tx.length := Nat.lt_of_lt_of_le (Nat.sub_lt (Nat.pos_of_ne_zero hz) Nat.one_pos) hq
  have hc := hcs (q / S - 1) _ (ints_at hk)
  rw [List.getElem?_eq_getElem hk]
  by_cases he : tx[q / S - 1] = i
  · rw [if_pos (by rw [he])]
    exact back_on S q t T tx.length ci f o x ai vl vn w hT h0 hS (by omega) ht i _ hi bi oi hai (by omega) hz hq hc he.symm
  · rw [if_neg (fun h => he (by injection h))]
    exact back_off S q t T tx.length ci f o x ai vl vn w hT h0 hS (by omega) i _ hi bi oi hai (by omega) hz hq hc (fun h => he h.symm)
theorem kp_below {w w' : World} (h : Below w.heap.size w w') (X : Nat → Prop) : Kp X w w' := ⟨h.os, h.tape, h.output, h.size, fun k hk _ => h.block k hk⟩
/-- what measure reads -/
structure Env (base : Nat) (w : World) (T S sb ci : Nat) (ai : Option Addr) (vl vn : Value) (tx : List Int) (R : Nat → List Arc) (V : Nat → Value) (vs : List Value) : Prop where
  tr : IsT w T ai tx.length ci S vl vn
  txt : Txt base w ai tx
  heads : w.ownsRow base 22 1 (.slice (some ⟨sb, 0, none⟩) S S) S vs
  head : ∀ f, f < S → vs[f]? = some (V f)
  rows : ∀ k, w.ownsRow base 64 5 (V k) (R k).length (acs (R k))
  bs : base ≤ w.heap.size
theorem Env.kept {base T S sb ci : Nat} {w w' : World} {ai : Option Addr} {vl vn : Value} {tx : List Int} {R : Nat → List Arc} {V : Nat → Value} {vs : List Value} {X : Nat → Prop} (h : Env base w T S sb ci ai vl vn tx R V vs) (hk : Kp X w w') (hX : ∀ k, X k → base ≤ k ∧ ∃ c, w.heap[k]? = some (.cells c 3 (0, 0))) : Env base w' T S sb ci ai vl vn tx R V vs := by
  have nt : ∀ {b : Nat} {c : Array Value} {ty : TypeId}, w.heap[b]? = some (.cells c ty (0, 0)) → ty ≠ 3 → ¬ X b := fun {b c ty} hb hne e => by
    obtain ⟨d, hd⟩ := (hX b e).2
    exact ty_ne hb hd hne
  refine ⟨(hk.block _ (lt_at h.tr) (nt h.tr (by decide))).trans h.tr, ?_, own_kp2 h.heads hk (fun b hb => ?_), h.head, fun k => own_kp2 (h.rows k) hk (fun b hb => ?_), Nat.le_trans h.bs hk.size⟩
  · rcases h.txt with h1 | ⟨bi, oi, hai, hbi, hcs⟩
    · exact .inl h1
    · refine .inr ⟨bi, oi, hai, hbi, fun j u hu => (hk.cell (Nat.lt_of_lt_of_le hbi h.bs) (fun e => ?_)).trans (hcs j u hu)⟩
      have := (hX bi e).1
      omega
  · obtain ⟨d, hd⟩ := own_ty h.heads hb
    exact nt hd (by decide)
  · obtain ⟨d, hd⟩ := own_ty (h.rows k) hb
    exact nt hd (by decide)
/-- the table, the stack, the list of the next round -/
structure Me (base : Nat) (w wr : World) (nb cN M : Nat) (vs0 vs vm : Value) (N st mo : List Nat) : Prop where
  need : wr.ownsRow base 3 1 (.slice (some ⟨nb, 0, none⟩) M cN) M (ns N)
  len : N.length = M
  stk : wr.ownsRow base 3 1 vs st.length (ns st)
  mor : wr.ownsRow base 3 1 vm mo.length (ns mo)
  a1 : vs.ownBlock ≠ some nb
  a2 : vm.ownBlock ≠ some nb
  a3 : ∀ b, vs.ownBlock = some b → vm.ownBlock ≠ some b
  o1 : ∀ b, vs.ownBlock = some b → b < w.heap.size → vs0.ownBlock = some b
  o2 : ∀ b, vm.ownBlock = some b → w.heap.size ≤ b
  kp : Kp (fun b => b = nb ∨ vs0.ownBlock = some b) w wr
theorem ns_snoc (l : List Nat) (x : Nat) : ns (l ++ [x]) = ns l ++ ns [x] := by simp [ns]
theorem Me.below {base nb cN M : Nat} {w wr w' : World} {vs0 vs vm : Value} {N st mo : List Nat} (h : Me base w wr nb cN M vs0 vs vm N st mo) (hb : Below wr.heap.size wr w') : Me base w w' nb cN M vs0 vs vm N st mo :=
  ⟨own_kp h.need (kp_below hb (fun _ => False)) id, h.len, own_kp2 h.stk (kp_below hb (fun _ => False)) (fun _ _ => id), own_kp2 h.mor (kp_below hb (fun _ => False)) (fun _ _ => id), h.a1, h.a2, h.a3, h.o1, h.o2, h.kp.trans (kp_below hb _)⟩
theorem Me.alloc {base nb cN M : Nat} {w wr : World} {vs0 vs vm : Value} {N st mo : List Nat} (h : Me base w wr nb cN M vs0 vs vm N st mo) (o : Obj) : Me base w (wr.alloc o) nb cN M vs0 vs vm N st mo := h.below ((Below.refl _ wr).alloc (Nat.le_refl _) o)
theorem kp_then {X Y : Nat → Prop} {a b c : World} (h : Kp X a b) (k : Kp Y b c) (hY : ∀ i, i < a.heap.size → Y i → X i) : Kp X a c :=
  ⟨k.os.trans h.os, k.tape.trans h.tape, k.output.trans h.output, Nat.le_trans h.size k.size, fun i hi hx => (k.block i (Nat.lt_of_lt_of_le hi h.size) (fun e => hx (hY i hi e))).trans (h.block i hi hx)⟩
/-- a node more on the stack -/
theorem Me.push {base nb cN M x : Nat} {w wr w1 : World} {vs0 vs vm v1 : Value} {N st mo : List Nat} (h : Me base w wr nb cN M vs0 vs vm N st mo) (ho : w1.ownsRow base 3 1 v1 (st.length + 1) (ns st ++ ns [x])) (hg : wr.grownBy w1 vs.ownBlock) (hl : v1.ownBlock = vs.ownBlock ∨ ∃ g, v1.ownBlock = some g ∧ wr.heap.size ≤ g) : Me base w w1 nb cN M vs0 v1 vm N (st ++ [x]) mo := by
  have hk : Kp (fun b => vs.ownBlock = some b) wr w1 := (Kp.refl _ wr).grown hg (fun b hb _ => hb)
  have hsz := h.kp.size
  refine ⟨own_kp h.need hk h.a1, h.len, by rw [List.length_append, ns_snoc]; exact ho, own_kp2 h.mor hk (fun b e1 e2 => h.a3 b e2 e1), ?_, h.a2, ?_, ?_, h.o2, kp_then h.kp hk (fun i hi e => .inr (h.o1 i e hi))⟩
  · rcases hl with hl | ⟨g, hl, hgs⟩
    · rw [hl]; exact h.a1
    · rw [hl]; intro e; cases e; have := (h.need.lt nb rfl).2; omega
  · intro b hb
    rcases hl with hl | ⟨g, hl, hgs⟩
    · rw [hl] at hb; exact h.a3 b hb
    · rw [hl] at hb; cases hb; intro e; have := (h.mor.lt _ e).2; omega
  · intro b hb hlt
    rcases hl with hl | ⟨g, hl, hgs⟩
    · rw [hl] at hb; exact h.o1 b hb hlt
    · rw [hl] at hb; cases hb; omega
/-- a node more in the list of the next round -/
theorem Me.more {base nb cN M x : Nat} {w wr w1 : World} {vs0 vs vm v1 : Value} {N st mo : List Nat} (h : Me base w wr nb cN M vs0 vs vm N st mo) (ho : w1.ownsRow base 3 1 v1 (mo.length + 1) (ns mo ++ ns [x])) (hg : wr.grownBy w1 vm.ownBlock) (hl : v1.ownBlock = vm.ownBlock ∨ ∃ g, v1.ownBlock = some g ∧ wr.heap.size ≤ g) : Me base w w1 nb cN M vs0 vs v1 N st (mo ++ [x]) := by
  have hk : Kp (fun b => vm.ownBlock = some b) wr w1 := (Kp.refl _ wr).grown hg (fun b hb _ => hb)
  have hsz := h.kp.size
  refine ⟨own_kp h.need hk h.a2, h.len, own_kp2 h.stk hk (fun b e1 e2 => h.a3 b e1 e2), by rw [List.length_append, ns_snoc]; exact ho, h.a1, ?_, ?_, h.o1, ?_, kp_then h.kp hk (fun i hi e => absurd (h.o2 i e) (Nat.not_le.2 hi))⟩
  · rcases hl with hl | ⟨g, hl, hgs⟩
    · rw [hl]; exact h.a2
    · rw [hl]; intro e; cases e; have := (h.need.lt nb rfl).2; omega
  · intro b hb
    rcases hl with hl | ⟨g, hl, hgs⟩
    · rw [hl]; exact h.a3 b hb
    · rw [hl]; intro e; cases e; have := (h.stk.lt _ hb).2; omega
  · intro b hb
    rcases hl with hl | ⟨g, hl, hgs⟩
    · rw [hl] at hb; exact h.o2 b hb
    · rw [hl] at hb; cases hb; omega
/-- a node is measured -/
theorem Me.set {base nb cN M v k : Nat} {w wr : World} {vs0 vs vm : Value} {N st mo : List Nat} (h : Me base w wr nb cN M vs0 vs vm N st mo) : Me base w (wr.setCell ⟨nb, v, none⟩ (.int .i64 (k : Int))) nb cN M vs0 vs vm (N.set v k) st mo := by
  have hk : Kp (fun b => b = nb) wr (wr.setCell ⟨nb, v, none⟩ (.int .i64 (k : Int))) := (Kp.refl _ wr).setCell _ _ _ (fun _ => rfl)
  have hs := (h.need.stored v (.int .i64 (k : Int))).1
  refine ⟨?_, by rw [List.length_set]; exact h.len, own_kp2 h.stk hk (fun b e1 e2 => h.a1 (by rw [← e2]; exact e1)), own_kp2 h.mor hk (fun b e1 e2 => h.a2 (by rw [← e2]; exact e1)), h.a1, h.a2, h.a3, h.o1, h.o2, kp_then h.kp hk (fun i _ e => .inl e)⟩
  unfold ns
  rw [List.map_set]
  exact hs
/-- the last node is taken off the stack -/
theorem Me.pop {base nb cN M k tb cap : Nat} {w wr : World} {vs0 vm : Value} {N st mo : List Nat} (h : Me base w wr nb cN M vs0 (.slice (some ⟨tb, 0, none⟩) (k + 1) cap) vm N st mo) (hT : st.length = k + 1) : Me base w wr nb cN M vs0 (.slice (some ⟨tb, 0, none⟩) k cap) vm N (st.take k) mo := by
  refine ⟨h.need, h.len, ?_, h.mor, h.a1, h.a2, h.a3, h.o1, h.o2, h.kp⟩
  rw [List.length_take, hT, Nat.min_eq_left (by omega)]
  rcases h.stk.2 with ⟨h', _⟩ | ⟨g', cap', cur, hv, hb, hg, hnc, hcm, hcs, htake⟩
  · simp at h'
  · simp only [hT, Value.slice.injEq, Option.some.injEq, Addr.mk.injEq, and_true, true_and] at hv
    obtain ⟨rfl, rfl⟩ := hv
    refine ⟨by simp [ns, hT], .inr ⟨tb, cap, cur, rfl, hb, hg, by omega, hcm, hcs, ?_⟩⟩
    rw [show ns (st.take k) = (ns st).take k by unfold ns; rw [List.map_take], ← htake, List.take_take]
    congr 1
    omega
/-- those that are not measured yet -/
def fr (k : Nat) (N : List Nat) : Nat := N.countP fun x => decide (k < x)
theorem fr_set {k v : Nat} {N : List Nat} (hv : v < N.length) (h : k < N[v]) : fr k (N.set v k) + 1 = fr k N := by
  unfold fr
  rw [List.countP_set hv]
  have h1 : 0 < List.countP (fun x => decide (k < x)) N := List.countP_pos_iff.2 ⟨N[v], List.getElem_mem hv, by simpa using h⟩
  simp [h]
  omega
theorem fr_le (k : Nat) (N : List Nat) : fr k N ≤ N.length := List.countP_le_length
theorem fr_up (k : Nat) (N : List Nat) : fr (k + 1) N ≤ fr k N := List.countP_mono_left (fun x _ h => by simp at h ⊢; omega)
/-- the nodes behind a node: those that write nothing, those that write one -/
def q0 (S : Nat) (tx : List Int) (R : Nat → List Arc) (v : Nat) : List Nat := (R (v % S)).filterMap fun a => if a.2.2.2.1 = 0 then bk S tx v a else none
def q1 (S : Nat) (tx : List Int) (R : Nat → List Arc) (v : Nat) : List Nat := (R (v % S)).filterMap fun a => if a.2.2.2.1 = 0 then none else bk S tx v a
theorem two_len (f g : Arc → Option Nat) (c : Arc → Bool) (l : List Arc) : (l.filterMap fun a => if c a = true then f a else none).length + (l.filterMap fun a => if c a = true then none else g a).length ≤ l.length := by
  induction l with
  | nil => simp
  | cons a l ih =>
    cases hc : c a with
    | true =>
      rw [List.filterMap_cons, List.filterMap_cons]
      simp only [hc, if_true]
      cases f a <;> simp <;> omega
    | false =>
      rw [List.filterMap_cons, List.filterMap_cons]
      simp only [hc]
      cases g a <;> simp <;> omega
theorem bk_lt {S q : Nat} {tx : List Int} {a : Arc} {u : Nat} (hq : q / S ≤ tx.length) (ha : a.2.1.toNat < S) (h : bk S tx q a = some u) : u < S * (tx.length + 1) := by
  have key : ∀ p, p ≤ tx.length → p * S + a.2.1.toNat < S * (tx.length + 1) := fun p hp => by
    have := Nat.mul_le_mul_right S hp
    rw [Nat.mul_comm S, Nat.succ_mul]
    omega
  unfold bk at h
  split at h
  · cases h; exact key _ hq
  · split at h
    · cases h
    · split at h
      · cases h; exact key _ (Nat.le_trans (Nat.sub_le _ _) hq)
      · cases h
end Go.Proofs.YtfjocafepigijaaDoor.Ot
/- Nodes and arcs: a walk of nodes is a walk of the machine; the table of needs is what it should be. No program text; condition: the arcs are right. -/
namespace Go.Proofs.YtfjocafepigijaaDoor.Ot
open Mv Wk Bw Wd Ra

/-- the node to which an arc goes from a node -/
def on (S : Nat) (tx : List Int) (q : Nat) (a : A5) : Option Nat :=
  if a.2.2.1 = 0 then some (q / S * S + a.2.1.toNat) else if tx[q / S]? = some a.2.2.1 then some ((q / S + 1) * S + a.2.1.toNat) else none
/-- a step from node to node that writes c -/
def Eg (S : Nat) (tx : List Int) (A : List A5) (c : Int) (u v : Nat) : Prop := ∃ a ∈ A, a.2.2.2.1 = c ∧ a.1 = ((u % S : Nat) : Int) ∧ on S tx u a = some v
structure Rgt (S : Nat) (A : List A5) : Prop where
  pos : 0 < S
  arc : ∀ a ∈ A, (∃ f : Nat, a.1 = (f : Int) ∧ f < S) ∧ (∃ t : Nat, a.2.1 = (t : Int) ∧ t < S) ∧ 0 ≤ a.2.2.1 ∧ 0 ≤ a.2.2.2.1 ∧ 0 ≤ a.2.2.2.2
theorem node_div {S i s : Nat} (h : s < S) : (i * S + s) / S = i := by rw [Nat.mul_comm, Nat.mul_add_div (by omega), Nat.div_eq_of_lt h]; omega
theorem node_mod {S i s : Nat} (h : s < S) : (i * S + s) % S = s := by rw [Nat.mul_comm, Nat.mul_add_mod, Nat.mod_eq_of_lt h]
theorem node_eq {S u : Nat} : u / S * S + u % S = u := by rw [Nat.mul_comm]; exact Nat.div_add_mod u S
theorem on_some {S q v : Nat} {tx : List Int} {a : A5} (h : on S tx q a = some v) : ∃ i, ((a.2.2.1 = 0 ∧ i = q / S) ∨ (a.2.2.1 ≠ 0 ∧ tx[q / S]? = some a.2.2.1 ∧ i = q / S + 1)) ∧ v = i * S + a.2.1.toNat := by
  unfold on at h
  split at h
  · rename_i e; cases h; exact ⟨_, .inl ⟨e, rfl⟩, rfl⟩
  · rename_i e
    split at h
    · rename_i e2; cases h; exact ⟨_, .inr ⟨e, e2, rfl⟩, rfl⟩
    · cases h
theorem on_of {S q i : Nat} {tx : List Int} {a : A5} (h : (a.2.2.1 = 0 ∧ i = q / S) ∨ (a.2.2.1 ≠ 0 ∧ tx[q / S]? = some a.2.2.1 ∧ i = q / S + 1)) : on S tx q a = some (i * S + a.2.1.toNat) := by
  unfold on
  rcases h with ⟨h1, rfl⟩ | ⟨h1, h2, rfl⟩
  · rw [if_pos h1]
  · rw [if_neg h1, if_pos h2]
theorem reach_wl {m : M} {S : Nat} {tx out : List Int} (h : Rgt S m.arcs) : ∀ {n s i j c : Nat}, ReachN m tx out true n s i j c → s < S ∧ i ≤ tx.length ∧ j ≤ out.length ∧ Wl (Eg S tx m.arcs) n (out.take j) (i * S + s)
  | 0, s, i, j, c, ⟨hs, hi, hj, _⟩ => by
    subst hs hi hj
    exact ⟨h.pos, Nat.zero_le _, Nat.zero_le _, by simp, by simp⟩
  | n + 1, s', i', j', c', hr => by
    obtain ⟨s, i, j, c, a, ha, hr, h1, h2, hm, _⟩ := reachN_succ.1 hr
    obtain ⟨k1, k2, k3, k4⟩ := reach_wl h hr
    obtain ⟨_, ⟨t, ht, htS⟩, _⟩ := h.arc a ha
    obtain rfl : t = s' := by omega
    have hon : on S tx (i * S + s) a = some (i' * S + t) := by
      have := on_of (S := S) (q := i * S + s) (i := i') (tx := tx) (a := a) (by
        rw [node_div k1]
        rcases hm.1 with ⟨e, e2⟩ | ⟨e, e2, e3⟩
        · exact .inl ⟨e, e2⟩
        · exact .inr ⟨by omega, e2, e3⟩)
      rw [this, ht]; rfl
    have hE : Eg S tx m.arcs a.2.2.2.1 (i * S + s) (i' * S + t) := ⟨a, ha, rfl, by rw [node_mod k1]; exact h1, hon⟩
    have hi' : i' ≤ tx.length := by
      rcases hm.1 with ⟨e, e2⟩ | ⟨e, e2, e3⟩
      · omega
      · have := (List.getElem?_eq_some_iff.1 e2).1; omega
    rcases hm.2 with ⟨e | e, e2⟩ | ⟨e, _, e2, e3⟩
    · subst e2
      exact ⟨htS, hi', k3, .inl ⟨_, k4, by rw [← e]; exact hE⟩⟩
    · cases e
    · obtain ⟨e4, e5⟩ := List.getElem?_eq_some_iff.1 e2
      subst e3
      exact ⟨htS, hi', e4, .inr ⟨_, a.2.2.2.1, out.take j, by omega, by rw [List.take_succ_eq_append_getElem e4, e5], k4, hE⟩⟩
theorem wl_reach {m : M} {S : Nat} {tx out : List Int} (h : Rgt S m.arcs) : ∀ {n v : Nat} {t r : List Int}, Wl (Eg S tx m.arcs) n t v → out = t ++ r → ∃ c, ReachN m tx out true n (v % S) (v / S) t.length c
  | 0, v, t, r, ⟨ht, hv⟩, _ => by
    subst ht hv
    exact ⟨0, by simp, by simp, rfl, rfl⟩
  | n + 1, v, t, r, hw, ho => by
    have key : ∀ (a : A5) (u j j' c : Nat), a ∈ m.arcs → a.1 = ((u % S : Nat) : Int) → on S tx u a = some v → ReachN m tx out true n (u % S) (u / S) j c → (((a.2.2.2.1 = 0 ∨ true = false) ∧ j' = j) ∨ (0 < a.2.2.2.1 ∧ true = true ∧ out[j]? = some a.2.2.2.1 ∧ j' = j + 1)) → ∃ c, ReachN m tx out true (n + 1) (v % S) (v / S) j' c := by
      intro a u j j' c ha h1 h2 hr hj
      obtain ⟨_, ⟨t, ht, htS⟩, hi0, _, hw0⟩ := h.arc a ha
      obtain ⟨i, hi, rfl⟩ := on_some h2
      rw [ht]
      rw [show ((t : Int)).toNat = t from rfl, node_div htS, node_mod htS]
      refine ⟨c + a.2.2.2.2.toNat, reachN_succ.2 ⟨_, _, _, _, a, ha, hr, h1, ht, ⟨?_, hj⟩, by omega⟩⟩
      rcases hi with ⟨e1, e2⟩ | ⟨e1, e2, e3⟩
      · exact .inl ⟨e1, e2⟩
      · exact .inr ⟨by omega, e2, e3⟩
    rcases hw with ⟨u, hw, a, ha, h0, h1, h2⟩ | ⟨u, c, t', hc, rfl, hw, a, ha, h0, h1, h2⟩
    · obtain ⟨c, hr⟩ := wl_reach h hw ho
      exact key a u _ _ c ha h1 h2 hr (.inl ⟨.inl h0, rfl⟩)
    · obtain ⟨d, hr⟩ := wl_reach (out := out) (r := [c] ++ r) h hw (by rw [ho, List.append_assoc])
      have h3 := (h.arc a ha).2.2.2.1
      refine key a u _ _ d ha h1 h2 hr (.inr ⟨by omega, rfl, ?_, by simp⟩)
      rw [ho, h0]; simp
/-- the nodes at which a walk ends -/
def fn (S : Nat) (tx : List Int) (fs : List (Int × Int)) : List Nat := fs.map fun f => tx.length * S + f.1.toNat
theorem acc_an {m : M} {S : Nat} {tx t : List Int} (h : Rgt S m.arcs) (hf : ∀ f ∈ m.fins, (∃ s : Nat, f.1 = (s : Int) ∧ s < S) ∧ 0 ≤ f.2) : (∃ x, Acc m tx t true x) ↔ An (Eg S tx m.arcs) (fn S tx m.fins) t := by
  have hc : cols t true - 1 = t.length := by simp [cols]
  constructor
  · rintro ⟨x, f, hfm, s, c, hs, ⟨n, hr⟩, _⟩
    rw [hc] at hr
    obtain ⟨_, _, _, hw⟩ := reach_wl h hr
    rw [List.take_length] at hw
    exact ⟨_, List.mem_map.2 ⟨f, hfm, by rw [hs]; rfl⟩, n, hw⟩
  · rintro ⟨v, hv, n, hw⟩
    obtain ⟨f, hfm, rfl⟩ := List.mem_map.1 hv
    obtain ⟨⟨s, hs, hsS⟩, h2⟩ := hf f hfm
    obtain ⟨c, hr⟩ := wl_reach (out := t) (r := []) h hw (by simp)
    rw [hs, show ((s : Int)).toNat = s from rfl, node_div hsS, node_mod hsS] at hr
    exact ⟨c + f.2.toNat, f, hfm, s, c, hs, ⟨n, by rw [hc]; exact hr⟩, by omega⟩
theorem mem_bk {S u v : Nat} {tx : List Int} {A : List Arc} (h : Rgt S A) (g : Arc → Bool) : (∃ a ∈ rws tn A (v % S), g a = true ∧ bk S tx v a = some u) ↔ ∃ a ∈ A, g (tn a) = true ∧ a.1 = ((u % S : Nat) : Int) ∧ on S tx u a = some v := by
  constructor
  · rintro ⟨a', ha', hg, hb⟩
    obtain ⟨h1, h2⟩ := List.mem_filter.1 ha'
    obtain ⟨a, ha, rfl⟩ := List.mem_map.1 h1
    obtain ⟨⟨f, hf, hfS⟩, ⟨t, ht, htS⟩, _⟩ := h.arc a ha
    have hv : v % S = t := by have : (tn a).1 = ((v % S : Nat) : Int) := by simpa using h2
                              unfold tn at this; dsimp only at this; omega
    refine ⟨a, ha, hg, ?_⟩
    unfold bk tn at hb
    dsimp only at hb
    rw [hf, show ((f : Int)).toNat = f from rfl] at hb
    split at hb
    · rename_i e
      cases hb
      refine ⟨by rw [node_mod hfS]; exact hf, ?_⟩
      rw [on_of (.inl ⟨e, rfl⟩), node_div hfS, ht]
      exact congrArg some (by rw [show ((t : Int)).toNat = t from rfl, ← hv]; exact node_eq)
    · rename_i e
      split at hb
      · cases hb
      · rename_i e2
        split at hb
        · rename_i e3
          cases hb
          refine ⟨by rw [node_mod hfS]; exact hf, ?_⟩
          rw [on_of (.inr ⟨e, by rw [node_div hfS]; exact e3, rfl⟩), node_div hfS, ht]
          exact congrArg some (by rw [show ((t : Int)).toNat = t from rfl, ← hv, Nat.sub_add_cancel (Nat.pos_of_ne_zero e2)]; exact node_eq)
        · cases hb
  · rintro ⟨a, ha, hg, h1, h2⟩
    obtain ⟨⟨f, hf, hfS⟩, ⟨t, ht, htS⟩, _⟩ := h.arc a ha
    obtain ⟨i, hi, hv⟩ := on_some h2
    rw [ht, show ((t : Int)).toNat = t from rfl] at hv
    have e1 : v % S = t := by rw [hv]; exact node_mod htS
    have e2 : v / S = i := by rw [hv]; exact node_div htS
    have e3 : f = u % S := by omega
    refine ⟨tn a, List.mem_filter.2 ⟨List.mem_map.2 ⟨a, ha, rfl⟩, by unfold tn; simp [ht, e1]⟩, hg, ?_⟩
    unfold bk tn
    dsimp only
    rw [hf, show ((f : Int)).toNat = f from rfl, e2]
    rcases hi with ⟨k1, k2⟩ | ⟨k1, k2, k3⟩
    · rw [if_pos k1, k2, e3]
      exact congrArg some node_eq
    · rw [if_neg k1, k3, if_neg (Nat.succ_ne_zero _), Nat.add_sub_cancel, if_pos k2, e3]
      exact congrArg some node_eq
theorem mem_q0 {S u v : Nat} {tx : List Int} {A : List Arc} (h : Rgt S A) : u ∈ q0 S tx (rws tn A) v ↔ Eg S tx A 0 u v := by
  have := mem_bk (u := u) (v := v) (tx := tx) h (fun a => decide (a.2.2.2.1 = 0))
  unfold q0 Eg
  rw [List.mem_filterMap]
  constructor
  · rintro ⟨a, ha, hb⟩
    split at hb
    · rename_i e
      obtain ⟨a', h1, h2, h3, h4⟩ := this.1 ⟨a, ha, by simpa using e, hb⟩
      exact ⟨a', h1, of_decide_eq_true h2, h3, h4⟩
    · cases hb
  · rintro ⟨a, ha, h0, h1, h2⟩
    obtain ⟨a', k1, k2, k3⟩ := this.2 ⟨a, ha, decide_eq_true (show (tn a).2.2.2.1 = 0 from h0), h1, h2⟩
    exact ⟨a', k1, by rw [if_pos (by simpa using k2)]; exact k3⟩
theorem mem_q1 {S u v : Nat} {tx : List Int} {A : List Arc} (h : Rgt S A) : u ∈ q1 S tx (rws tn A) v ↔ ∃ c, c ≠ 0 ∧ Eg S tx A c u v := by
  have := mem_bk (u := u) (v := v) (tx := tx) h (fun a => decide (a.2.2.2.1 ≠ 0))
  unfold q1 Eg
  rw [List.mem_filterMap]
  constructor
  · rintro ⟨a, ha, hb⟩
    split at hb
    · cases hb
    · rename_i e
      obtain ⟨a', h1, h2, h3, h4⟩ := this.1 ⟨a, ha, by simpa using e, hb⟩
      exact ⟨a'.2.2.2.1, of_decide_eq_true h2, a', h1, rfl, h3, h4⟩
  · rintro ⟨c, hc, a, ha, h0, h1, h2⟩
    obtain ⟨a', k1, k2, k3⟩ := this.2 ⟨a, ha, decide_eq_true (show (tn a).2.2.2.1 ≠ 0 by rw [show (tn a).2.2.2.1 = a.2.2.2.1 from rfl, h0]; exact hc), h1, h2⟩
    exact ⟨a', k1, by rw [if_neg (by simpa using k2)]; exact k3⟩
theorem dn_ln {S : Nat} {tx : List Int} {A : List Arc} {F : List Nat} (h : Rgt S A) : ∀ {n k u : Nat}, Dn (q0 S tx (rws tn A)) (q1 S tx (rws tn A)) F n k u → ∃ n' s, s.length = k ∧ Ln (Eg S tx A) F n' s u
  | 0, k, u, ⟨hk, hu⟩ => ⟨0, [], hk.symm, rfl, hu⟩
  | n + 1, k, u, hd => by
    rcases hd with ⟨hk, hu⟩ | ⟨v, hv, hd⟩ | ⟨v, j, hj, hv, hd⟩
    · exact ⟨0, [], hk.symm, rfl, hu⟩
    · obtain ⟨n', s, hs, hl⟩ := dn_ln h hd
      exact ⟨n' + 1, s, hs, .inl ⟨v, (mem_q0 h).1 hv, hl⟩⟩
    · obtain ⟨n', s, hs, hl⟩ := dn_ln h hd
      obtain ⟨c, hc, hE⟩ := (mem_q1 h).1 hv
      exact ⟨n' + 1, c :: s, by simp; omega, .inr ⟨c, s, v, hc, rfl, hE, hl⟩⟩
theorem ln_di {S : Nat} {tx : List Int} {A : List Arc} {F : List Nat} (h : Rgt S A) : ∀ {n u : Nat} {s : List Int}, Ln (Eg S tx A) F n s u → Di (q0 S tx (rws tn A)) (q1 S tx (rws tn A)) F s.length u
  | 0, u, s, ⟨hs, hu⟩ => by subst hs; exact Di.ends hu
  | n + 1, u, s, hl => by
    rcases hl with ⟨v, hE, hl⟩ | ⟨c, s', v, hc, rfl, hE, hl⟩
    · exact Di.zero ((mem_q0 h).2 hE) (ln_di h hl)
    · exact Di.one ((mem_q1 h).2 ⟨c, hc, hE⟩) (ln_di h hl)
theorem nd_of {S L : Nat} {tx : List Int} {A : List Arc} {F : List Nat} {N : Nat → Nat} (h : Rgt S A) (hN : ∀ v k, k ≤ L → (N v ≤ k ↔ ∃ j, j ≤ k ∧ Di (q0 S tx (rws tn A)) (q1 S tx (rws tn A)) F j v)) : Nd (Eg S tx A) F (S * (tx.length + 1)) L N := by
  refine ⟨Nat.mul_pos h.pos (by omega), fun c u v hu hE => ?_, fun v _ k hk => ?_⟩
  · obtain ⟨a, ha, _, _, hon⟩ := hE
    obtain ⟨_, ⟨t, ht, htS⟩, _⟩ := h.arc a ha
    obtain ⟨i, hi, rfl⟩ := on_some hon
    have hi' : i ≤ tx.length := by
      rcases hi with ⟨_, e⟩ | ⟨_, e, e2⟩
      · have := Nat.div_lt_of_lt_mul hu; omega
      · have := (List.getElem?_eq_some_iff.1 e).1; omega
    rw [ht, show ((t : Int)).toNat = t from rfl]
    have := Nat.mul_le_mul_right S hi'
    rw [Nat.mul_comm S, Nat.succ_mul]
    omega
  · rw [hN v k hk]
    constructor
    · rintro ⟨j, hj, n, hd⟩
      obtain ⟨n', s, hs, hl⟩ := dn_ln h hd
      exact ⟨n', s, by omega, hl⟩
    · rintro ⟨n, s, hs, hl⟩
      exact ⟨_, hs, ln_di h hl⟩
end Go.Proofs.YtfjocafepigijaaDoor.Ot
/- reach's visit: a pair is met, where every pair is allowed. Conditions: the pair's number lies in the set. -/
namespace Go.Proofs.YtfjocafepigijaaDoor.Pa
open Go.RowKit Mv Set Po Ps Cm Am

def cN (ws : List Nat) (P cnt : Nat) : Nat := if mem ws P then cnt else cnt + 1
def tN (ws : List Nat) (P : Nat) (T : List Nat) : List Nat := if mem ws P then T else T ++ [P]
end Go.Proofs.YtfjocafepigijaaDoor.Pa
/- reach's visit, where the pairs of a set are allowed. Conditions: the pair's number lies in both sets. -/
namespace Go.Proofs.YtfjocafepigijaaDoor.Pa
open Go.RowKit Mv Set Po Ps Cm Am

end Go.Proofs.YtfjocafepigijaaDoor.Pa
/- jointFinals: where both machines end. Conditions: few states; the ends are right; the pairs are pairs. -/
namespace Go.Proofs.YtfjocafepigijaaDoor.Jf
open Go.RowKit Mv Wk Po Wd Se St Wg Nw Am
open CR (nc)

def jf1 (Ea Eb : List Nat) (SB : Nat) (L : List Nat) (i : Nat) : List (Int × Int) := if cv Ea (L.getD i 0 / SB) ≠ far ∧ cv Eb (L.getD i 0 % SB) ≠ far then [((i : Int), ((cv Ea (L.getD i 0 / SB) + cv Eb (L.getD i 0 % SB) : Nat) : Int))] else []
def jfP (Ea Eb : List Nat) (SB : Nat) (L : List Nat) (n : Nat) : List (Int × Int) := (List.range n).flatMap (jf1 Ea Eb SB L)
end Go.Proofs.YtfjocafepigijaaDoor.Jf
/- told (14) in plain words: the symbols that arcs write, all texts of so many of them, how many of these are answers. No program text; no conditions. -/
namespace Go.Proofs.YtfjocafepigijaaDoor.Ot
open Mv Wk Bw Wd Ra

/-- the symbols that arcs write, each once, in the order in which they come -/
def us : List A5 → List Int
  | [] => []
  | a :: A => a.2.2.2.1 :: us A
def addU (l : List Int) (c : Int) : List Int := if 0 < c ∧ c ∉ l then l ++ [c] else l
def usd (A : List A5) : List Int := A.foldl (fun l a => addU l a.2.2.2.1) []
theorem usd_up (A : List A5) (a : A5) : usd (A ++ [a]) = addU (usd A) a.2.2.2.1 := by unfold usd; rw [List.foldl_append]; rfl
theorem usd_ind (P : List A5 → List Int → Prop) (h0 : P [] []) (h1 : ∀ A a l, P A l → P (A ++ [a]) (addU l a.2.2.2.1)) (A : List A5) : P A (usd A) := by
  have key : ∀ n (A : List A5), A.length = n → P A (usd A) := by
    intro n
    induction n with
    | zero => intro A hA; rw [List.eq_nil_of_length_eq_zero hA]; exact h0
    | succ n ih =>
      intro A hA
      rcases List.eq_nil_or_concat A with rfl | ⟨B, a, rfl⟩
      · simp at hA
      · rw [List.concat_eq_append] at hA ⊢
        rw [usd_up]
        exact h1 B a _ (ih B (by simpa using hA))
  exact key A.length A rfl
theorem usd_nodup (A : List A5) : (usd A).Nodup := usd_ind (fun _ l => l.Nodup) List.nodup_nil (fun A a l h => by
  unfold addU
  split
  · rename_i hc
    refine List.nodup_append.2 ⟨h, by simp, fun x hx y hy e => ?_⟩
    rw [List.mem_singleton.1 hy] at e
    subst e
    exact hc.2 hx
  · exact h) A
theorem usd_mem (A : List A5) : ∀ c, c ∈ usd A ↔ 0 < c ∧ ∃ a ∈ A, a.2.2.2.1 = c := usd_ind (fun A l => ∀ c, c ∈ l ↔ 0 < c ∧ ∃ a ∈ A, a.2.2.2.1 = c) (fun c => by simp) (fun A a l h c => by
  unfold addU
  split
  · rename_i hc
    rw [List.mem_append, List.mem_singleton, h]
    constructor
    · rintro (⟨h1, b, hb, h2⟩ | rfl)
      · exact ⟨h1, b, by simp [hb], h2⟩
      · exact ⟨hc.1, a, by simp, rfl⟩
    · rintro ⟨h1, b, hb, h2⟩
      rcases List.mem_append.1 hb with hb | hb
      · exact .inl ⟨h1, b, hb, h2⟩
      · rw [List.mem_singleton.1 hb] at h2; exact .inr h2.symm
  · rename_i hc
    rw [h]
    constructor
    · rintro ⟨h1, b, hb, h2⟩
      exact ⟨h1, b, by simp [hb], h2⟩
    · rintro ⟨h1, b, hb, h2⟩
      rcases List.mem_append.1 hb with hb | hb
      · exact ⟨h1, b, hb, h2⟩
      · rw [List.mem_singleton.1 hb] at h2
        subst h2
        by_cases hm : a.2.2.2.1 ∈ l
        · exact (h _).1 hm
        · exact absurd ⟨h1, hm⟩ hc) A
/-- all texts of so many symbols -/
def lv (s : List Int) : Nat → List (List Int)
  | 0 => [[]]
  | k + 1 => (lv s k).flatMap fun t => s.map fun c => t ++ [c]
theorem lv_mem (s : List Int) : ∀ k t, t ∈ lv s k ↔ t.length = k ∧ ∀ c ∈ t, c ∈ s
  | 0, t => by
    unfold lv
    rw [List.mem_singleton]
    constructor
    · rintro rfl; exact ⟨rfl, fun c h => by cases h⟩
    · rintro ⟨h, _⟩; exact List.eq_nil_of_length_eq_zero h
  | k + 1, t => by
    unfold lv
    rw [List.mem_flatMap]
    constructor
    · rintro ⟨r, hr, ht⟩
      obtain ⟨c, hc, rfl⟩ := List.mem_map.1 ht
      obtain ⟨h1, h2⟩ := (lv_mem s k r).1 hr
      refine ⟨by simp [h1], fun d hd => ?_⟩
      rcases List.mem_append.1 hd with hd | hd
      · exact h2 d hd
      · rw [List.mem_singleton.1 hd]; exact hc
    · rintro ⟨h1, h2⟩
      rcases List.eq_nil_or_concat t with rfl | ⟨r, c, rfl⟩
      · simp at h1
      · rw [List.concat_eq_append] at h1 h2 ⊢
        exact ⟨r, (lv_mem s k r).2 ⟨by simpa using h1, fun d hd => h2 d (by simp [hd])⟩, List.mem_map.2 ⟨c, h2 c (by simp), rfl⟩⟩
theorem lv_nodup (s : List Int) (hs : s.Nodup) : ∀ k, (lv s k).Nodup
  | 0 => by unfold lv; simp
  | k + 1 => by
    unfold lv
    have ih := lv_nodup s hs k
    have hl : ∀ t ∈ lv s k, t.length = k := fun t ht => ((lv_mem s k t).1 ht).1
    generalize lv s k = T at ih hl
    induction T with
    | nil => simp
    | cons t T ihT =>
      rw [List.flatMap_cons]
      refine List.nodup_append.2 ⟨List.pairwise_map.2 (hs.imp (fun h e => h (by simpa using (List.append_inj' e rfl).2))), ihT (List.nodup_cons.1 ih).2 (fun x hx => hl x (by simp [hx])), fun a ha b hb e => ?_⟩
      obtain ⟨c, _, rfl⟩ := List.mem_map.1 ha
      obtain ⟨r, hr, hb⟩ := List.mem_flatMap.1 hb
      obtain ⟨d, _, rfl⟩ := List.mem_map.1 hb
      have := (List.append_inj' e rfl).1
      subst this
      exact (List.nodup_cons.1 ih).1 hr
theorem lv_len (s : List Int) : ∀ k, (lv s (k + 1)).length = (lv s k).length * s.length := fun k => by
  show ((lv s k).flatMap fun t => s.map fun c => t ++ [c]).length = _
  generalize lv s k = T
  induction T with
  | nil => simp
  | cons t T ih => rw [List.flatMap_cons, List.length_append, ih, List.length_map, List.length_cons, Nat.succ_mul]; omega
/-- the symbols of an answer are written by arcs -/
theorem wl_usd {S : Nat} {tx : List Int} {A : List A5} (h0 : ∀ a ∈ A, 0 ≤ a.2.2.2.1) : ∀ {n : Nat} {t : List Int} {v : Nat}, Wl (Eg S tx A) n t v → ∀ c ∈ t, c ∈ usd A
  | 0, t, v, ⟨h, _⟩, c, hc => by subst h; cases hc
  | n + 1, t, v, hw, c, hc => by
    rcases hw with ⟨u, hw, _⟩ | ⟨u, d, t', hd, rfl, hw, a, ha, h1, _⟩
    · exact wl_usd h0 hw c hc
    · rcases List.mem_append.1 hc with hc | hc
      · exact wl_usd h0 hw c hc
      · rw [List.mem_singleton.1 hc]
        exact (usd_mem A d).2 ⟨by have := h0 a ha; omega, a, ha, h1⟩
open Classical in
/-- the answers among all texts of at most so many symbols, length by length -/
noncomputable def alls (E : Int → Nat → Nat → Prop) (F : List Nat) (s : List Int) (k : Nat) : List (List Int) := ((List.range k).flatMap (lv s)).filter fun t => decide (An E F t)
open Classical in
theorem alls_up (E : Int → Nat → Nat → Prop) (F : List Nat) (s : List Int) (k : Nat) : alls E F s (k + 1) = alls E F s k ++ (lv s k).filter fun t => decide (An E F t) := by
  unfold alls
  rw [List.range_succ, List.flatMap_append, List.filter_append]
  simp
open Classical in
theorem alls_mem {S : Nat} {tx : List Int} {A : List A5} {F : List Nat} (h0 : ∀ a ∈ A, 0 ≤ a.2.2.2.1) (L : Nat) (t : List Int) : t ∈ alls (Eg S tx A) F (usd A) (L + 1) ↔ t.length ≤ L ∧ An (Eg S tx A) F t := by
  unfold alls
  rw [List.mem_filter, List.mem_flatMap, decide_eq_true_iff]
  constructor
  · rintro ⟨⟨k, hk, ht⟩, ha⟩
    exact ⟨by have := ((lv_mem _ k t).1 ht).1; have := List.mem_range.1 hk; omega, ha⟩
  · rintro ⟨hl, ha⟩
    refine ⟨⟨t.length, List.mem_range.2 (by omega), (lv_mem _ _ t).2 ⟨rfl, ?_⟩⟩, ha⟩
    obtain ⟨v, _, n, hw⟩ := ha
    exact wl_usd h0 hw
open Classical in
theorem alls_nodup {E : Int → Nat → Nat → Prop} {F : List Nat} {s : List Int} (hs : s.Nodup) (k : Nat) : (alls E F s k).Nodup := by
  induction k with
  | zero => unfold alls; simp
  | succ k ih =>
    rw [alls_up]
    refine List.nodup_append.2 ⟨ih, (lv_nodup s hs k).filter _, fun a ha b hb e => ?_⟩
    subst e
    have h1 := ((lv_mem s k a).1 (List.mem_filter.1 hb).1).1
    unfold alls at ha
    obtain ⟨j, hj, h2⟩ := List.mem_flatMap.1 (List.mem_filter.1 ha).1
    have h3 := ((lv_mem s j a).1 h2).1
    have := List.mem_range.1 hj
    omega
end Go.Proofs.YtfjocafepigijaaDoor.Ot
/- told (14) in plain words, step by step: how many answers so far, the next level so far, their bounds; what the law needs of the count. No program text; no conditions. -/
namespace Go.Proofs.YtfjocafepigijaaDoor.Ot
open Mv Wk Bw Wd Ra

open Classical in
/-- how many of these are answers -/
noncomputable def cf (E : Int → Nat → Nat → Prop) (F : List Nat) (T : List (List Int)) : Nat := (T.filter fun t => decide (An E F t)).length
open Classical in
theorem cf_yes {E : Int → Nat → Nat → Prop} {F : List Nat} {T : List (List Int)} {t : List Int} (h : An E F t) : cf E F (T ++ [t]) = cf E F T + 1 := by
  unfold cf
  rw [List.filter_append, List.length_append]
  simp [h]
open Classical in
theorem cf_no {E : Int → Nat → Nat → Prop} {F : List Nat} {T : List (List Int)} {t : List Int} (h : ¬ An E F t) : cf E F (T ++ [t]) = cf E F T := by
  unfold cf
  rw [List.filter_append, List.length_append]
  simp [h]
open Classical in
theorem cf_nil (E : Int → Nat → Nat → Prop) (F : List Nat) : cf E F [] = 0 := rfl
open Classical in
theorem cf_le {E : Int → Nat → Nat → Prop} {F : List Nat} {T : List (List Int)} : cf E F T ≤ T.length := List.length_filter_le _ _
open Classical in
/-- a level is done -/
theorem alls_cf (E : Int → Nat → Nat → Prop) (F : List Nat) (s : List Int) (k : Nat) : (alls E F s (k + 1)).length = (alls E F s k).length + cf E F (lv s k) := by
  rw [alls_up, List.length_append]
  rfl
open Classical in
theorem alls_len {E : Int → Nat → Nat → Prop} {F : List Nat} {s : List Int} {b : Nat} : ∀ k, (∀ j, j < k → (lv s j).length ≤ b) → (alls E F s k).length ≤ k * b
  | 0, _ => by unfold alls; simp
  | k + 1, h => by
    rw [alls_cf, Nat.succ_mul]
    have h1 := alls_len (E := E) (F := F) k (fun j hj => h j (by omega))
    have h2 := cf_le (E := E) (F := F) (T := lv s k)
    have h3 := h k (by omega)
    omega
/-- the next level, as far as these texts go -/
def nxl (s : List Int) (T : List (List Int)) : List (List Int) := T.flatMap fun t => s.map fun c => t ++ [c]
theorem nxl_nil (s : List Int) : nxl s [] = [] := rfl
theorem nxl_up (s : List Int) (T : List (List Int)) (t : List Int) : nxl s (T ++ [t]) = nxl s T ++ s.map fun c => t ++ [c] := by simp [nxl]
theorem lv_nxl (s : List Int) (k : Nat) : lv s (k + 1) = nxl s (lv s k) := rfl
theorem nxl_len (s : List Int) (T : List (List Int)) : (nxl s T).length = T.length * s.length := by
  unfold nxl
  induction T with
  | nil => simp
  | cons t T ih => rw [List.flatMap_cons, List.length_append, ih, List.length_map, List.length_cons, Nat.succ_mul]; omega
/-- what told is asked: the list's length and the error fit the count -/
theorem count_fit {S : Nat} {tx : List Int} {A : List A5} {F : List Nat} {L : Nat} {bad : Bool} {l : List (List Int)} (h0 : ∀ a ∈ A, 0 ≤ a.2.2.2.1) (h : OutP (Eg S tx A) F L bad l) : (bad = false ∧ l.length = (alls (Eg S tx A) F (usd A) (L + 1)).length ∧ l.length ≤ 500) ∨ (bad = true ∧ l = [] ∧ 500 < (alls (Eg S tx A) F (usd A) (L + 1)).length) := by
  rcases h.count (alls_nodup (usd_nodup A) (L + 1)) (fun t => alls_mem h0 L t) with ⟨h1, h2, h3⟩ | h1
  · exact .inl ⟨h1, h2, by omega⟩
  · exact .inr h1
/-- a text has a cost below dear just if it is an answer -/
theorem cost_an {m : M} {S v : Nat} {tx t : List Int} (h : Rgt S m.arcs) (hf : ∀ f ∈ m.fins, (∃ s : Nat, f.1 = (s : Int) ∧ s < S) ∧ 0 ≤ f.2) (hc : IsCost m tx t true v) : v < dear ↔ An (Eg S tx m.arcs) (fn S tx m.fins) t := by
  rw [← acc_an h hf]
  rcases (isCost_iff (fun f hfm => (hf f hfm).2)).1 hc with ⟨h1, h2⟩ | ⟨h1, h2, _⟩
  · constructor
    · intro h3; omega
    · rintro ⟨x, hx⟩; exact absurd hx (h2 x)
  · exact ⟨fun _ => ⟨v, h2⟩, fun _ => h1⟩
end Go.Proofs.YtfjocafepigijaaDoor.Ot
