/- Plain facts on a pass over all arcs and places: what is bettered lowers the sum; what is not is at its least. No conditions. -/
import Derived.Test.YtfjocafepigijaaDoorWkM
namespace Go.Proofs.YtfjocafepigijaaDoor.Wk
open Mv

/-- a place of a pass is behind another one -/
def Ahead (x' i' j' x i j : Nat) : Prop := x' < x ∨ (x' = x ∧ (i' < i ∨ (i' = i ∧ j' < j)))
def Pass (arcs : List (Int × Int × Int × Int × Int)) (inn out : List Int) (B0 : List Nat) (ag : Bool) (B : List Nat) (x i j : Nat) : Prop :=
  (ag = false ∧ B = B0 ∧ ∀ x' (h : x' < arcs.length), ∀ i' j', i' < inn.length + 1 → j' < cols out true → Ahead x' i' j' x i j → Rel inn out true B arcs[x'] i' j') ∨ (ag = true ∧ B.sum < B0.sum)
theorem Pass.start (arcs : List (Int × Int × Int × Int × Int)) (inn out : List Int) (B : List Nat) : Pass arcs inn out B false B 0 0 0 :=
  .inl ⟨rfl, rfl, fun x' _ i' j' _ _ h => by unfold Ahead at h; omega⟩
theorem Pass.nextI {arcs : List (Int × Int × Int × Int × Int)} {inn out : List Int} {B0 B : List Nat} {ag : Bool} {x i : Nat} (h : Pass arcs inn out B0 ag B x i (cols out true)) : Pass arcs inn out B0 ag B x (i + 1) 0 := by
  rcases h with ⟨a, b, h⟩ | h
  · exact .inl ⟨a, b, fun x' hx i' j' hi hj hA => h x' hx i' j' hi hj (by unfold Ahead at hA ⊢; omega)⟩
  · exact .inr h
theorem Pass.nextX {arcs : List (Int × Int × Int × Int × Int)} {inn out : List Int} {B0 B : List Nat} {ag : Bool} {x : Nat} (h : Pass arcs inn out B0 ag B x (inn.length + 1) 0) : Pass arcs inn out B0 ag B (x + 1) 0 0 := by
  rcases h with ⟨a, b, h⟩ | h
  · exact .inl ⟨a, b, fun x' hx i' j' hi hj hA => h x' hx i' j' hi hj (by unfold Ahead at hA ⊢; omega)⟩
  · exact .inr h
theorem Pass.skip {arcs : List (Int × Int × Int × Int × Int)} {inn out : List Int} {B0 B : List Nat} {ag : Bool} {x i j : Nat} (h : Pass arcs inn out B0 ag B x i j) (hx : x < arcs.length) (hr : Rel inn out true B arcs[x] i j) : Pass arcs inn out B0 ag B x i (j + 1) := by
  rcases h with ⟨a, b, h⟩ | h
  · refine .inl ⟨a, b, fun x' hx' i' j' hi hj hA => ?_⟩
    by_cases e : x' = x ∧ i' = i ∧ j' = j
    · obtain ⟨rfl, rfl, rfl⟩ := e
      exact hr
    · exact h x' hx' i' j' hi hj (by unfold Ahead at hA ⊢; omega)
  · exact .inr h
theorem Pass.took {arcs : List (Int × Int × Int × Int × Int)} {inn out : List Int} {B0 B B' : List Nat} {ag : Bool} {x i j x2 i2 j2 : Nat} (h : Pass arcs inn out B0 ag B x i j) (hs : B'.sum < B.sum) : Pass arcs inn out B0 true B' x2 i2 j2 := by
  rcases h with ⟨_, rfl, _⟩ | ⟨_, h⟩
  · exact .inr ⟨rfl, hs⟩
  · exact .inr ⟨rfl, by omega⟩

/-- the table as it begins -/
def first (N : Nat) : List Nat := (List.replicate N dear).set 0 0
theorem first_inv (m : M) (inn out : List Int) (told : Bool) (S : Nat) (hS : 0 < S) : Inv m inn out told S (first (S * (inn.length + 1) * cols out told)) := by
  have hc : 0 < cols out told := by unfold cols; split <;> omega
  have hN : 0 < S * (inn.length + 1) * cols out told := Nat.mul_pos (Nat.mul_pos hS (by omega)) hc
  have hv : ∀ q, val (first (S * (inn.length + 1) * cols out told)) q = if 0 = q then 0 else dear := by
    intro q
    unfold first
    rw [val_set _ _ _ _ (by simpa using hN)]
    split
    · rfl
    · unfold val
      rw [List.getD_eq_getElem?_getD, List.getElem?_replicate]
      split <;> rfl
  refine ⟨by simp [first], ?_, ?_, ?_, ?_⟩
  · intro q; rw [hv]; split <;> simp [dear]
  · rw [hv]; rfl
  · intro s i j hs hi hj
    rw [hv]
    split
    · rename_i h
      intro _
      have e : idx (inn.length + 1) (cols out told) 0 0 0 = 0 := by unfold idx; simp
      obtain ⟨rfl, rfl, rfl⟩ := idx_inj (by omega) hc hi hj (e.trans h)
      exact ⟨0, rfl, rfl, rfl, rfl⟩
    · intro h; omega
  · intro q
    rw [hv]
    split
    · intro _; omega
    · intro h; omega

/-- no move at all -/
theorem rel_none {inn out : List Int} {B : List Nat} {a : Int × Int × Int × Int × Int} {i j : Nat} (h : ∀ i' j', ¬ Move inn out true a i j i' j') : Rel inn out true B a i j :=
  fun _ _ i' j' _ _ hm => absurd hm (h i' j')
theorem rel_dear {inn out : List Int} {B : List Nat} {a : Int × Int × Int × Int × Int} {i j f : Nat} (hf : a.1 = (f : Int)) (h : val B (idx (inn.length + 1) (cols out true) f i j) = dear) : Rel inn out true B a i j := by
  intro s s' i' j' e _ _ hd
  obtain rfl : s = f := by omega
  omega
theorem move_one {inn out : List Int} {a : Int × Int × Int × Int × Int} {i j i1 j1 i2 j2 : Nat} (h1 : Move inn out true a i j i1 j1) (h2 : Move inn out true a i j i2 j2) : i1 = i2 ∧ j1 = j2 := by
  obtain ⟨a1, b1⟩ := h1
  obtain ⟨a2, b2⟩ := h2
  constructor
  · rcases a1 with ⟨_, rfl⟩ | ⟨_, _, rfl⟩ <;> rcases a2 with ⟨_, rfl⟩ | ⟨_, _, rfl⟩ <;> omega
  · rcases b1 with ⟨h, rfl⟩ | ⟨_, _, _, rfl⟩ <;> rcases b2 with ⟨h', rfl⟩ | ⟨_, _, _, rfl⟩
    · rfl
    · rcases h with h | h
      · omega
      · cases h
    · rcases h' with h | h
      · omega
      · cases h
    · rfl
theorem rel_kept {inn out : List Int} {B : List Nat} {a : Int × Int × Int × Int × Int} {i j i1 j1 f t W : Nat} (hf : a.1 = (f : Int)) (ht : a.2.1 = (t : Int)) (hW : a.2.2.2.2 = (W : Int)) (hm : Move inn out true a i j i1 j1)
    (h : ¬ val B (idx (inn.length + 1) (cols out true) f i j) + W < val B (idx (inn.length + 1) (cols out true) t i1 j1)) : Rel inn out true B a i j := by
  intro s s' i' j' e1 e2 hm2 _
  obtain rfl : s = f := by omega
  obtain rfl : s' = t := by omega
  obtain ⟨rfl, rfl⟩ := move_one hm hm2
  omega
end Go.Proofs.YtfjocafepigijaaDoor.Wk
/- Plain facts on the table of costs as it begins, and at the end of a pass. No conditions. -/
namespace Go.Proofs.YtfjocafepigijaaDoor.Wk
open Mv

theorem all_dear {B : List Nat} {N : Nat} (hl : B.length = N) (h : ∀ r, r < N → val B r = dear) : B = List.replicate N dear := by
  apply List.ext_getElem
  · rw [List.length_replicate, hl]
  · intro r h1 h2
    have := h r (by omega)
    unfold val at this
    rw [List.getD_eq_getElem?_getD, List.getElem?_eq_getElem h1, Option.getD_some] at this
    rw [this, List.getElem_replicate]
def Fix (arcs : List (Int × Int × Int × Int × Int)) (inn out : List Int) (B : List Nat) : Prop := ∀ x (hx : x < arcs.length), ∀ i j, i < inn.length + 1 → j < cols out true → Rel inn out true B arcs[x] i j
theorem Pass.fin {arcs : List (Int × Int × Int × Int × Int)} {inn out : List Int} {B0 B : List Nat} {ag : Bool} (h : Pass arcs inn out B0 ag B arcs.length 0 0) : (ag = false ∧ Fix arcs inn out B) ∨ (ag = true ∧ B.sum < B0.sum) := by
  rcases h with ⟨a, _, h⟩ | h
  · exact .inl ⟨a, fun x hx i j hi hj => h x hx i j hi hj (.inl hx)⟩
  · exact .inr h
end Go.Proofs.YtfjocafepigijaaDoor.Wk
/- Plain facts on the cheapest end of a table of least costs. No conditions beyond that the machine is right. -/
namespace Go.Proofs.YtfjocafepigijaaDoor.Wk
open Mv

/-- what may be come to has a cost in a table that no arc betters -/
theorem reached {m : M} {inn out : List Int} {told : Bool} {S : Nat} {B : List Nat} (hr : Right m S) (h : Inv m inn out told S B) (hN : B.length ≤ 100000000) (hf : ∀ x (hx : x < m.arcs.length), ∀ i j, i < inn.length + 1 → j < cols out told → Rel inn out told B m.arcs[x] i j) :
    ∀ t s i j c, ReachN m inn out told t s i j c → val B (idx (inn.length + 1) (cols out told) s i j) < dear
  | 0, s, i, j, c, h0 => by
    obtain ⟨rfl, rfl, rfl, _⟩ := h0
    have e : idx (inn.length + 1) (cols out told) 0 0 0 = 0 := by unfold idx; simp
    rw [e, h.zero]
    unfold dear
    omega
  | t + 1, s', i', j', c', h1 => by
    obtain ⟨s, i, j, c, x, hx, h1, e1, e2, hm, ec⟩ := h1
    have ih := reached hr h hN hf t s i j c h1
    have bd := reach_bd hr t s i j c h1
    have ha := hr.2.2 x hx
    unfold arcB at ha
    simp only [decide_eq_true_eq] at ha
    have h2 := hf x hx i j bd.2.1 bd.2.2 s s' i' j' e1 e2 hm ih
    have h3 := h.small _ ih
    have h4 := cnt_le B
    generalize val B (idx (inn.length + 1) (cols out told) s i j) = p at *
    generalize val B (idx (inn.length + 1) (cols out told) s' i' j') = q at *
    unfold dear
    omega

/-- the least of the first y ends -/
structure Lst (fins : List (Int × Int)) (inn out : List Int) (B : List Nat) (y v : Nat) : Prop where
  top : v ≤ dear
  low : ∀ y' (h : y' < fins.length), y' < y → ∀ f : Nat, (fins[y']).1 = (f : Int) → val B (idx (inn.length + 1) (cols out true) f inn.length (cols out true - 1)) < dear → (v : Int) ≤ val B (idx (inn.length + 1) (cols out true) f inn.length (cols out true - 1)) + (fins[y']).2
  real : v < dear → ∃ y', ∃ h : y' < fins.length, ∃ f : Nat, (fins[y']).1 = (f : Int) ∧ val B (idx (inn.length + 1) (cols out true) f inn.length (cols out true - 1)) < dear ∧ (v : Int) = val B (idx (inn.length + 1) (cols out true) f inn.length (cols out true - 1)) + (fins[y']).2
theorem Lst.start (fins : List (Int × Int)) (inn out : List Int) (B : List Nat) : Lst fins inn out B 0 dear :=
  ⟨Nat.le_refl _, fun _ _ h => absurd h (Nat.not_lt_zero _), fun h => absurd h (Nat.lt_irrefl _)⟩
theorem Lst.keep {fins : List (Int × Int)} {inn out : List Int} {B : List Nat} {y v f : Nat} (h : Lst fins inn out B y v) (hy : y < fins.length) (hf : (fins[y]).1 = (f : Int))
    (hk : val B (idx (inn.length + 1) (cols out true) f inn.length (cols out true - 1)) < dear → (v : Int) ≤ val B (idx (inn.length + 1) (cols out true) f inn.length (cols out true - 1)) + (fins[y]).2) : Lst fins inn out B (y + 1) v := by
  refine ⟨h.top, fun y' h' hlt f' e hd => ?_, h.real⟩
  by_cases e' : y' = y
  · subst e'
    obtain rfl : f' = f := by omega
    exact hk hd
  · exact h.low y' h' (by omega) f' e hd
theorem Lst.took {fins : List (Int × Int)} {inn out : List Int} {B : List Nat} {y v f p W : Nat} (h : Lst fins inn out B y v) (hy : y < fins.length) (hf : (fins[y]).1 = (f : Int)) (hW : (fins[y]).2 = (W : Int))
    (hp : val B (idx (inn.length + 1) (cols out true) f inn.length (cols out true - 1)) = p) (hpd : p < dear) (hlt : p + W < v) : Lst fins inn out B (y + 1) (p + W) := by
  refine ⟨by have := h.top; omega, fun y' h' hlt' f' e hd => ?_, fun _ => ⟨y, hy, f, hf, by rw [hp]; exact hpd, by rw [hp, hW]; omega⟩⟩
  by_cases e' : y' = y
  · subst e'
    obtain rfl : f' = f := by omega
    rw [hp, hW]
    omega
  · have := h.low y' h' (by omega) f' e hd
    omega
theorem Lst.fin {S : Nat} {arcs : List (Int × Int × Int × Int × Int)} {fins : List (Int × Int)} {inn out : List Int} {B : List Nat} {v : Nat} (h : Lst fins inn out B fins.length v) (hr : Right ⟨(S : Int), arcs, fins⟩ S) (hN : B.length ≤ 100000000)
    (hF : ∀ x (h : x < fins.length), finB (S : Int) fins[x] = true) (hI : Inv ⟨(S : Int), arcs, fins⟩ inn out true S B) (hX : Fix arcs inn out B) : IsCost ⟨(S : Int), arcs, fins⟩ inn out true v := by
  have hc : 0 < cols out true := by show 0 < out.length + 1; omega
  have key : ∀ y (hy : y < fins.length), ∀ f c : Nat, (fins[y]).1 = (f : Int) → Reach ⟨(S : Int), arcs, fins⟩ inn out true f inn.length (cols out true - 1) c → (v : Int) ≤ c + (fins[y]).2 ∧ v < dear := by
    intro y hy f c e hR
    obtain ⟨t, ht⟩ := hR
    have h1 := reached hr hI hN hX t _ _ _ _ ht
    have h2 := least hr hI hX t _ _ _ _ ht
    have h3 := h.low y hy hy f e h1
    have h4 := hI.small _ h1
    have h5 := cnt_le B
    have h6 := hF y hy
    unfold finB at h6
    simp only [decide_eq_true_eq] at h6
    generalize val B (idx (inn.length + 1) (cols out true) f inn.length (cols out true - 1)) = p at *
    refine ⟨by omega, ?_⟩
    unfold dear
    omega
  by_cases hd : v < dear
  · refine .inr ⟨hd, ?_, fun y hy f c e hR => (key y hy f c e hR).1⟩
    obtain ⟨y, hy, f, e, hv, ev⟩ := h.real hd
    have hb := hF y hy
    unfold finB at hb
    simp only [decide_eq_true_eq] at hb
    exact ⟨y, hy, f, _, e, hI.real f inn.length (cols out true - 1) (by omega) (by omega) (by omega) hv, ev⟩
  · refine .inl ⟨Nat.le_antisymm h.top (Nat.not_lt.1 hd), fun y hy f c e hR => absurd (key y hy f c e hR).2 hd⟩
/-- what is not dear is not much -/
theorem Lst.bound {S : Nat} {arcs : List (Int × Int × Int × Int × Int)} {fins : List (Int × Int)} {inn out : List Int} {B : List Nat} {v : Nat} (h : Lst fins inn out B fins.length v) (hN : B.length ≤ 11532000)
    (hF : ∀ x (h : x < fins.length), finB (S : Int) fins[x] = true) (hI : Inv ⟨(S : Int), arcs, fins⟩ inn out true S B) : v = dear ∨ v ≤ 11532001000000 := by
  by_cases hd : v < dear
  · obtain ⟨y, hy, f, _, hv, ev⟩ := h.real hd
    have h4 := hI.small _ hv
    have h5 := cnt_le B
    have h6 := hF y hy
    unfold finB at h6
    simp only [decide_eq_true_eq] at h6
    generalize val B (idx (inn.length + 1) (cols out true) f inn.length (cols out true - 1)) = p at *
    exact .inr (by omega)
  · exact .inl (Nat.le_antisymm h.top (Nat.not_lt.1 hd))
end Go.Proofs.YtfjocafepigijaaDoor.Wk
/- The queue's entries in plain words: what is moved about stays what it was but for its order. No conditions. -/
namespace Go.Proofs.YtfjocafepigijaaDoor.Qp
open Go.RowKit Mv

theorem fcs_set (l : List (Int × Int)) (k : Nat) (a b : Int) : ((fcs l).set (k * 2) (.int .i64 a)).set (k * 2 + 1) (.int .i64 b) = fcs (l.set k (a, b)) := by
  induction l generalizing k with
  | nil => simp [fcs]
  | cons x l ih =>
    cases k with
    | zero => simp [fcs, fc]
    | succ k =>
      have e : (k + 1) * 2 = k * 2 + 1 + 1 := by omega
      have := ih k
      rw [e]
      have e2 : ∀ m : List (Int × Int), fcs (x :: m) = .int .i64 x.1 :: .int .i64 x.2 :: fcs m := fun m => rfl
      simp only [e2, List.set_cons_succ, ← this]

/-- a thing moved from one place to another, and another one laid where it was -/
theorem set_swap (l : List (Int × Int)) (i j : Nat) (e : Int × Int) (hi : i < l.length) (hj : j < l.length) (hne : i ≠ j) : ((l.set i l[j]).set j e).Perm (l.set i e) := by
  rw [List.perm_iff_count]
  intro b
  have h1 : (l.set i l[j]).count b = l.count b - (if l[i] == b then 1 else 0) + (if l[j] == b then 1 else 0) := by rw [List.count_set hi]
  have h2 : (l.set i e).count b = l.count b - (if l[i] == b then 1 else 0) + (if e == b then 1 else 0) := by rw [List.count_set hi]
  have hj' : j < (l.set i l[j]).length := by simpa using hj
  have h3 : ((l.set i l[j]).set j e).count b = (l.set i l[j]).count b - (if (l.set i l[j])[j] == b then 1 else 0) + (if e == b then 1 else 0) := by rw [List.count_set hj']
  have h4 : (l.set i l[j])[j] = l[j] := List.getElem_set_ne hne _
  rw [h3, h4, h1, h2]
  have hp : (if l[i] == b then 1 else 0) ≤ l.count b := by
    split
    · rename_i h
      have : b = l[i] := by simpa using (beq_iff_eq.1 h).symm
      exact List.count_pos_iff.2 (this ▸ List.getElem_mem hi)
    · omega
  generalize (if l[i] == b then 1 else 0) = x at *
  generalize (if l[j] == b then 1 else 0) = y at *
  generalize (if e == b then 1 else 0) = z at *
  omega
theorem wrap_idx {k n : Nat} (h : k < n) (hn : n ≤ 1000000000000) : ∃ m2 k1 k2 : Nat, k1 = 2 * k + 1 ∧ k2 = 2 * k + 2 ∧ wrap64 (2 * (k : Int)) = (m2 : Int) ∧ wrap64 ((m2 : Int) + 1) = (k1 : Int) ∧ wrap64 ((k1 : Int) + 1) = (k2 : Int) ∧ IntKind.i64.wrap ((k1 : Int) + 1) = (k2 : Int) := by
  refine ⟨2 * k, 2 * k + 1, 2 * k + 2, rfl, rfl, ?_, ?_, ?_, ?_⟩
  · unfold wrap64; omega
  · unfold wrap64; omega
  · unfold wrap64; omega
  · rw [IntKind.wrap_i64]; omega
end Go.Proofs.YtfjocafepigijaaDoor.Qp
/- Plain facts for MachineMakes: the walks of a machine turned round, of a side, of either of two; what they cost. Conditions: the machines are right. -/
namespace Go.Proofs.YtfjocafepigijaaDoor.Bw
open Mv Wk

abbrev A5 := Int × Int × Int × Int × Int
theorem reachN_succ {m : M} {inn out : List Int} {told : Bool} {t s' i' j' c' : Nat} : ReachN m inn out told (t + 1) s' i' j' c' ↔ ∃ s i j c : Nat, ∃ a ∈ m.arcs, ReachN m inn out told t s i j c ∧ a.1 = (s : Int) ∧ a.2.1 = (s' : Int) ∧ Wk.Move inn out told a i j i' j' ∧ (c' : Int) = c + a.2.2.2.2 := by
  constructor
  · rintro ⟨s, i, j, c, x, hx, hr, h1, h2, h3, h4⟩
    exact ⟨s, i, j, c, m.arcs[x], List.getElem_mem hx, hr, h1, h2, h3, h4⟩
  · rintro ⟨s, i, j, c, a, ha, hr, h1, h2, h3, h4⟩
    obtain ⟨x, hx, rfl⟩ := List.getElem_of_mem ha
    exact ⟨s, i, j, c, x, hx, hr, h1, h2, h3, h4⟩
/-- a walk that ends, for so much -/
def Acc (m : M) (inn out : List Int) (told : Bool) (v : Nat) : Prop := ∃ f ∈ m.fins, ∃ s c : Nat, f.1 = (s : Int) ∧ Wk.Reach m inn out told s inn.length (cols out told - 1) c ∧ (v : Int) = c + f.2
/-- the least of what holds, or dear -/
def Least (P : Nat → Prop) (v : Nat) : Prop := (v = dear ∧ ∀ u, ¬ P u) ∨ (v < dear ∧ P v ∧ ∀ u, P u → v ≤ u)
theorem isCost_iff {m : M} {inn out : List Int} {told : Bool} {v : Nat} (hf : ∀ f ∈ m.fins, 0 ≤ f.2) : IsCost m inn out told v ↔ Least (Acc m inn out told) v := by
  constructor
  · rintro (⟨e, h⟩ | ⟨e, ⟨y, hy, f, c, h1, h2, h3⟩, h⟩)
    · refine .inl ⟨e, ?_⟩
      rintro u ⟨f, hm, s, c, h1, h2, _⟩
      obtain ⟨y, hy, rfl⟩ := List.getElem_of_mem hm
      exact h y hy s c h1 h2
    · refine .inr ⟨e, ⟨_, List.getElem_mem hy, f, c, h1, h2, h3⟩, ?_⟩
      rintro u ⟨g, hm, s, d, k1, k2, k3⟩
      obtain ⟨z, hz, rfl⟩ := List.getElem_of_mem hm
      have := h z hz s d k1 k2
      omega
  · rintro (⟨e, h⟩ | ⟨e, ⟨f, hm, s, c, h1, h2, h3⟩, h⟩)
    · refine .inl ⟨e, fun y hy f c h1 h2 => ?_⟩
      have h0 := hf _ (List.getElem_mem hy)
      exact h (c + (m.fins[y]).2.toNat) ⟨_, List.getElem_mem hy, f, c, h1, h2, by omega⟩
    · obtain ⟨y, hy, rfl⟩ := List.getElem_of_mem hm
      refine .inr ⟨e, ⟨y, hy, s, c, h1, h2, h3⟩, fun z hz g d k1 k2 => ?_⟩
      have h0 := hf _ (List.getElem_mem hz)
      have := h (d + (m.fins[z]).2.toNat) ⟨_, List.getElem_mem hz, g, d, k1, k2, by omega⟩
      omega

/- TURN -/
def turnA (a : A5) : A5 := (a.1, a.2.1, a.2.2.2.1, a.2.2.1, a.2.2.2.2)
def turnM (m : M) : M := ⟨m.st, m.arcs.map turnA, m.fins⟩
/- SIDE -/
def sideA (a : A5) : A5 := (a.1, a.2.1, a.2.2.1, a.2.2.1, a.2.2.2.2)
def sideM (m : M) : M := ⟨m.st, m.arcs.map sideA, m.fins⟩
/- EITHER -/
def mvA (d : Int) (a : A5) : A5 := (a.1 + d, a.2.1 + d, a.2.2)
def mvF (d : Int) (f : Int × Int) : Int × Int := (f.1 + d, f.2)
def eitherM (a b : M) : M := ⟨1 + a.st + b.st, (0, 1, 0, 0, 0) :: (0, 1 + a.st, 0, 0, 0) :: (a.arcs.map (mvA 1) ++ b.arcs.map (mvA (1 + a.st))), a.fins.map (mvF 1) ++ b.fins.map (mvF (1 + a.st))⟩
end Go.Proofs.YtfjocafepigijaaDoor.Bw
/- Plain facts for MachineThrough: the machine of all pairs of states, and a smaller one that has the pairs that matter alone: what they cost is the same. No program text. -/
namespace Go.Proofs.YtfjocafepigijaaDoor.Th
open Mv Wk Bw

/-- an arc of the machine of pairs: p, q: pairs of states; what is read, written, and its cost -/
def PE (a b : M) (SA SB : Nat) (p q : Nat) (i o w : Int) : Prop :=
  (∃ x ∈ a.arcs, x.2.2.2.1 = 0 ∧ ∃ s s' t : Nat, x.1 = (s : Int) ∧ x.2.1 = (s' : Int) ∧ t < SB ∧ p = s * SB + t ∧ q = s' * SB + t ∧ i = x.2.2.1 ∧ o = 0 ∧ w = x.2.2.2.2) ∨
  (∃ x ∈ a.arcs, ∃ y ∈ b.arcs, x.2.2.2.1 ≠ 0 ∧ y.2.2.1 = x.2.2.2.1 ∧ ∃ s s' t t' : Nat, x.1 = (s : Int) ∧ x.2.1 = (s' : Int) ∧ y.1 = (t : Int) ∧ y.2.1 = (t' : Int) ∧ p = s * SB + t ∧ q = s' * SB + t' ∧ i = x.2.2.1 ∧ o = y.2.2.2.1 ∧ w = x.2.2.2.2 + y.2.2.2.2) ∨
  (∃ y ∈ b.arcs, y.2.2.1 = 0 ∧ ∃ s t t' : Nat, y.1 = (t : Int) ∧ y.2.1 = (t' : Int) ∧ s < SA ∧ p = s * SB + t ∧ q = s * SB + t' ∧ i = 0 ∧ o = y.2.2.2.1 ∧ w = y.2.2.2.2)
/-- the arcs of the machine of pairs, as a list: of an arc of the first one; of one of the second one that reads nothing -/
def eA (SB : Nat) (x : A5) (t : Nat) : A5 := (x.1 * SB + (t : Int), x.2.1 * SB + (t : Int), x.2.2.1, 0, x.2.2.2.2)
def eX (SB : Nat) (x y : A5) : A5 := (x.1 * SB + y.1, x.2.1 * SB + y.2.1, x.2.2.1, y.2.2.2.1, x.2.2.2.2 + y.2.2.2.2)
def eB (SB : Nat) (y : A5) (s : Nat) : A5 := ((s : Int) * SB + y.1, (s : Int) * SB + y.2.1, 0, y.2.2.2.1, y.2.2.2.2)
def jy (SB : Nat) (x y : A5) : List A5 := if y.2.2.1 = x.2.2.2.1 then [eX SB x y] else []
def jx (b : M) (SB : Nat) (x : A5) : List A5 := if x.2.2.2.1 = 0 then (List.range SB).map (eA SB x) else b.arcs.flatMap (jy SB x)
def jb (SA SB : Nat) (y : A5) : List A5 := if y.2.2.1 = 0 then (List.range SA).map (eB SB y) else []
def prA (a b : M) (SA SB : Nat) : List A5 := a.arcs.flatMap (jx b SB) ++ b.arcs.flatMap (jb SA SB)
def prF (a b : M) (SB : Nat) : List (Int × Int) := a.fins.flatMap fun f => b.fins.map fun g => (f.1 * SB + g.1, f.2 + g.2)
def prM (a b : M) (SA SB : Nat) : M := ⟨(SA : Int) * SB, prA a b SA SB, prF a b SB⟩
/-- states are numbers that are not below nought -/
def NN (a : M) : Prop := ∀ x ∈ a.arcs, 0 ≤ x.1 ∧ 0 ≤ x.2.1
/-- an edge, whatever it reads, writes and costs -/
def Ed (m : M) (p q : Nat) : Prop := ∃ e ∈ m.arcs, e.1 = (p : Int) ∧ e.2.1 = (q : Int)
/-- from a state one comes to an end by so many edges -/
def LeadsN (m : M) : Nat → Nat → Prop
  | 0, p => ∃ f ∈ m.fins, f.1 = (p : Int)
  | n + 1, p => ∃ q, Ed m p q ∧ LeadsN m n q
def Leads (m : M) (p : Nat) : Prop := ∃ n, LeadsN m n p
/-- a smaller machine: P: which states of the great one it has, in its order -/
structure Cut (m x : M) (P : List Nat) : Prop where
  one : P.Nodup
  zero : P[0]? = some 0
  sub : ∀ e ∈ x.arcs, ∃ u v : Nat, ∃ p q : Nat, P[u]? = some p ∧ P[v]? = some q ∧ e.1 = (u : Int) ∧ e.2.1 = (v : Int) ∧ ((p : Int), (q : Int), e.2.2) ∈ m.arcs
  sup : ∀ e ∈ m.arcs, ∀ u v p q : Nat, P[u]? = some p → P[v]? = some q → e.1 = (p : Int) → e.2.1 = (q : Int) → ∃ w, w ≤ e.2.2.2.2 ∧ ((u : Int), (v : Int), e.2.2.1, e.2.2.2.1, w) ∈ x.arcs
  fsub : ∀ f ∈ x.fins, ∃ u p : Nat, P[u]? = some p ∧ f.1 = (u : Int) ∧ ((p : Int), f.2) ∈ m.fins
  fsup : ∀ f ∈ m.fins, ∀ u p : Nat, P[u]? = some p → f.1 = (p : Int) → ((u : Int), f.2) ∈ x.fins
  closed : ∀ p q, p ∈ P → Ed m p q → Leads m q → q ∈ P
end Go.Proofs.YtfjocafepigijaaDoor.Th
/- Plain facts for MachineThrough: a table of least costs of the machine of pairs. Conditions: the machines are right. -/
namespace Go.Proofs.YtfjocafepigijaaDoor.Wk
open Mv Bw

/-- a table that is on its way: what it has is the cost of a walk -/
structure InvP (m : M) (inn out : List Int) (told : Bool) (S : Nat) (B : List Nat) : Prop where
  len : B.length = S * (inn.length + 1) * cols out told
  top : ∀ q, val B q ≤ dear
  zero : val B 0 = 0
  real : ∀ s i j, s < S → i < inn.length + 1 → j < cols out told → val B (idx (inn.length + 1) (cols out told) s i j) < dear → Reach m inn out told s i j (val B (idx (inn.length + 1) (cols out told) s i j))
  small : ∀ q, val B q < dear → val B q ≤ 2000000 * cnt B

def arcP (st : Int) (a : Int × Int × Int × Int × Int) : Bool :=
  decide (0 ≤ a.1 ∧ a.1 < st ∧ 0 ≤ a.2.1 ∧ a.2.1 < st ∧ 0 ≤ a.2.2.2.2 ∧ a.2.2.2.2 ≤ 2000000)
def finQ (st : Int) (f : Int × Int) : Bool := decide (0 ≤ f.1 ∧ f.1 < st ∧ 0 ≤ f.2 ∧ f.2 ≤ 2000000)
/-- a right machine of S states -/
def RightP (m : M) (S : Nat) : Prop := m.st = (S : Int) ∧ 0 < S ∧ ∀ x (h : x < m.arcs.length), arcP m.st m.arcs[x] = true

/-- how far a pass has come: D: which arcs at which places have been looked at -/
def Pas (inn out : List Int) (B0 : List Nat) (ag : Bool) (B : List Nat) (D : A5 → Nat → Nat → Prop) : Prop := (ag = false → B = B0 ∧ ∀ e i j, D e i j → Rel inn out true B e i j) ∧ (ag = true → B.sum < B0.sum)
end Go.Proofs.YtfjocafepigijaaDoor.Wk
