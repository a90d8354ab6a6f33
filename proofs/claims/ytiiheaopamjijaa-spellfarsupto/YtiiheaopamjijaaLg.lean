/- The program's last edit, at any two beginnings. Conditions: at most 200 units each; the rows lie there; not both are empty. -/
import Derived.Test.YtiiheaopamjijaaLc
import Derived.Test.YtiiheaopamjijaaLd
import Derived.Test.YtiiheaopamjijaaLe
import Derived.Test.YtiiheaopamjijaaLf
import Derived.Test.YtiiheaopamjijaaLp
namespace Go.Proofs.Ytiiheaopamjijaa.Lg
open Go.RowKit Rw Ay Fi Nx Ap Ro La Lb Lc Ld Le Lf Lp

/-- how far two beginnings are apart -/
def T (us l : List ByteArray) (i j : Nat) : Int := rowOf l (us.take i) j
theorem tcs_at : ∀ (L : List (Nat → Int)) (i j : Nat) (h : i < L.length), j < 201 → (tcs L)[i * 201 + j]? = some (.int .i64 (L[i] j))
  | [], i, _, h, _ => by simp at h
  | f :: L, 0, j, _, hj => by
    have : tcs (f :: L) = (cs f).toList ++ tcs L := by simp [tcs]
    rw [this, Nat.zero_mul, Nat.zero_add, List.getElem?_append_left (by simp [cs_size]; exact hj)]
    have := cs_at f j hj
    simpa using this
  | f :: L, i + 1, j, h, hj => by
    have e : tcs (f :: L) = (cs f).toList ++ tcs L := by simp [tcs]
    rw [e, List.getElem?_append_right (by simp [cs_size]; omega)]
    have e2 : (i + 1) * 201 + j - (cs f).toList.length = i * 201 + j := by simp [cs_size]; omega
    rw [e2, tcs_at L i j (by simpa using h) hj]
    rfl
theorem upTo_at (us l : List ByteArray) (i j : Nat) (hi : i ≤ us.length) (hj : j < 201) : (tcs (upTo l us us.length))[i * 201 + j]? = some (.int .i64 (T us l i j)) := by
  rw [tcs_at _ i j (by rw [upTo_len]; omega) hj]
  have e : (upTo l us us.length)[i]'(by rw [upTo_len]; omega) = rowOf l (us.take i) := by
    unfold upTo
    rw [List.getElem_map, List.getElem_range]
  rw [e]
  rfl
theorem T_bd (us l : List ByteArray) (hl : l.length ≤ 200) (hu : us.length ≤ 200) (i j : Nat) : 0 ≤ T us l i j ∧ T us l i j ≤ 1000 := by
  have := rowOf_bd l (us.take i) hl j
  rw [List.length_take] at this
  unfold T
  omega
theorem T_zero (us l : List ByteArray) (i : Nat) (hi : i ≤ us.length) : T us l i 0 = i := by
  unfold T
  rw [row_zero, List.length_take, Nat.min_eq_left hi]

/-- the last edit -/
def lastE (us l : List ByteArray) : Nat → Nat → Int × ByteArray
  | 0, 0 => (0, ByteArray.empty)
  | 0, j + 1 => (4, l[j]?.getD ByteArray.empty)
  | _ + 1, 0 => (3, ByteArray.empty)
  | i + 1, j + 1 =>
    if us[i]?.getD ByteArray.empty = l[j]?.getD ByteArray.empty then (1, ByteArray.empty)
    else if T us l (i + 1) (j + 1) = T us l i j + 1 then (2, l[j]?.getD ByteArray.empty)
    else if T us l (i + 1) (j + 1) = T us l i (j + 1) + 1 then (3, ByteArray.empty)
    else (4, l[j]?.getD ByteArray.empty)

/-- what lies there: two lists of units and the rows -/
structure Lies (w : World) (a : Option Addr) (ca : Nat) (b : Option Addr) (cb : Nat) (r : Value) (us l : List ByteArray) : Prop where
  p : IsZ w (.slice a us.length ca) us
  q : IsZ w (.slice b l.length cb) l
  t : Row w r 201 (us.length + 1) (tcs (upTo l us us.length))
  np : us.length ≤ 200
  nq : l.length ≤ 200
  few : ∀ s ∈ l, s.size ≤ 1048576
theorem Lies.rows {w : World} {a : Option Addr} {ca : Nat} {b : Option Addr} {cb : Nat} {r : Value} {us l : List ByteArray} (h : Lies w a ca b cb r us l) :
    ∃ br ro cr, r = .slice (some ⟨br, ro, none⟩) (us.length + 1) cr ∧ ∀ i j, i ≤ us.length → j < 201 → w.cell? ⟨br, ro + i * 201 + j, none⟩ = some (.int .i64 (T us l i j)) := by
  obtain ⟨_, a', cap', hv, _, _, _, hr⟩ := h.t
  rcases hr with hr | ⟨b', off', ha, hlt, hc⟩
  · omega
  · subst ha
    refine ⟨b', off', cap', hv, fun i j hi hj => ?_⟩
    rw [Nat.add_assoc]
    exact hc _ _ (upTo_at us l i j hi hj)

theorem last_any {w : World} {a : Option Addr} {ca : Nat} {b : Option Addr} {cb : Nat} {r : Value} {us l : List ByteArray} (h : Lies w a ca b cb r us l) (i j : Nat) (hi : i ≤ us.length) (hj : j ≤ l.length) (h0 : 0 < i + j) :
    Calls Try.prog 23 #[.slice a i ca, .slice b j cb, r] w fun e w' => e = .returned (.agg #[.int .i64 (lastE us l i j).1, .string (lastE us l i j).2]) ∧ Below w.heap.size w w' := by
  obtain ⟨br, ro, cr, rfl, hT⟩ := h.rows
  have hp := h.p
  have hq := h.q
  have np := h.np
  have nq := h.nq
  have bd := T_bd us l nq np
  match i, j with
  | 0, 0 => omega
  | 0, j + 1 =>
    obtain ⟨bq, oq, rfl⟩ := hq.addr (by omega)
    have h2 := (hq.at j (by omega)).2
    have e : lastE us l 0 (j + 1) = (4, l[j]) := by simp [lastE, show j < l.length by omega]
    rw [e]
    exact put0_walk a ca bq oq cb _ j l[j] w (by omega) h2 (h.few _ (List.getElem_mem _))
  | i + 1, 0 =>
    obtain ⟨bp, op, rfl⟩ := hp.addr (by omega)
    refine drop0_walk bp op ca cb br ro (us.length + 1) cr b i (T us l (i + 1) 0) (T us l i 0) w (by omega) (by omega) (hT (i + 1) 0 hi (by omega)) (hT i 0 (by omega) (by omega)) (bd _ _) ?_
    rw [T_zero us l (i + 1) hi, T_zero us l i (by omega)]
    simp
  | i + 1, j + 1 =>
    obtain ⟨bp, op, rfl⟩ := hp.addr (by omega)
    obtain ⟨bq, oq, rfl⟩ := hq.addr (by omega)
    have h1 := (hp.at i (by omega)).2
    have h2 := (hq.at j (by omega)).2
    have g1 : us[i]?.getD ByteArray.empty = us[i] := by simp [show i < us.length by omega]
    have g2 : l[j]?.getD ByteArray.empty = l[j] := by simp [show j < l.length by omega]
    have hf := h.few l[j] (List.getElem_mem _)
    simp only [lastE, g1, g2]
    by_cases hu : us[i] = l[j]
    · rw [if_pos hu]
      exact keep_walk bp op ca bq oq cb i j _ us[i] l[j] w (by omega) (by omega) h1 h2 ((Go.Lib.bytes_beq_iff _ _).2 hu)
    · have hub := (Go.Lib.bytes_beq_false_iff _ _).2 hu
      rw [if_neg hu]
      have t1 := hT (i + 1) (j + 1) hi (by omega)
      have t2 := hT i j (by omega) (by omega)
      have t3 := hT i (j + 1) (by omega) (by omega)
      by_cases e1 : T us l (i + 1) (j + 1) = T us l i j + 1
      · rw [if_pos e1]
        exact turn_walk bp op ca bq oq cb br ro (us.length + 1) cr i j us[i] l[j] _ _ w (by omega) (by omega) (by omega) h1 h2 hub t1 t2 (bd _ _) (by simpa using e1) hf
      · rw [if_neg e1]
        by_cases e2 : T us l (i + 1) (j + 1) = T us l i (j + 1) + 1
        · rw [if_pos e2]
          exact drop_walk bp op ca bq oq cb br ro (us.length + 1) cr i j us[i] l[j] _ _ w (by omega) (by omega) (by omega) h1 h2 hub t1 t2 (bd _ _) (by simpa using e1) _ t3 (bd _ _) (by simpa using e2)
        · rw [if_neg e2]
          exact put_walk bp op ca bq oq cb br ro (us.length + 1) cr i j us[i] l[j] _ _ w (by omega) (by omega) (by omega) h1 h2 hub t1 t2 (bd _ _) (by simpa using e1) _ t3 (bd _ _) (by simpa using e2) hf
end Go.Proofs.Ytiiheaopamjijaa.Lg
