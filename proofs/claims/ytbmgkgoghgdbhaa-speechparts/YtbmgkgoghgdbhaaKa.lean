/- Texts of parts, in plain words: what is written, what is read, and the reading with a list of open brackets. No program text. -/
import Derived.Test.YtbmgkgoghgdbhaaPa
namespace Go.Proofs.Ytbmgkgoghgdbhaa.Te

/-- the text of a part, as bytes -/
def tx (t : Ty) : List Nat :=
  if t.kind = 1 then [97 + t.n.toNat]
  else match h : t.kids with
    | [x, y] => 40 :: (tx x ++ ((if t.kind = 3 then 92 else 47) :: (tx y ++ [41])))
    | _ => []
termination_by SizeOf.sizeOf t
decreasing_by all_goals exact Ty.lt_kids (by rw [h]; simp)
theorem tx_bs (k : Int) : tx (bs k) = [97 + k.toNat] := by rw [tx]; rfl
theorem tx_ov (x y : Ty) : tx (ov x y) = 40 :: (tx x ++ (47 :: (tx y ++ [41]))) := by rw [tx]; rfl
theorem tx_un (y x : Ty) : tx (un y x) = 40 :: (tx y ++ (92 :: (tx x ++ [41]))) := by rw [tx]; rfl
/-- the document's reading: the part ahead, and what stands behind it -/
def pa : Nat → List Nat → Option (Ty × List Nat)
  | 0, _ => none
  | _ + 1, [] => none
  | n + 1, c :: l =>
    if 97 ≤ c ∧ c ≤ 106 then some (bs ((c : Int) - 97), l)
    else if c ≠ 40 then none
    else match pa n l with
      | some (a, d :: l2) =>
        if d ≠ 47 ∧ d ≠ 92 then none
        else match pa n l2 with
          | some (b, e :: l3) => if e ≠ 41 then none else some (if d = 92 then un a b else ov a b, l3)
          | _ => none
      | _ => none
theorem tx_pos : ∀ (s : Nat) (p : Ty), sz p ≤ s → Gp p → 0 < (tx p).length := by
  intro s p _ h
  rcases gp_cases h with ⟨k, rfl, _⟩ | ⟨x, y, rfl, _⟩ | ⟨y, x, rfl, _⟩
  · rw [tx_bs]; simp
  · rw [tx_ov]; simp
  · rw [tx_un]; simp
theorem gpk_bs {k : Int} (h : 0 ≤ k) (h' : k ≤ 9) : Gp (bs k) := by
  unfold Gp
  rw [wr_ok]
  · rfl
  · show w1 1 k 0 = 0
    unfold w1
    rw [if_pos rfl, if_neg (by simp), if_neg (by omega)]
theorem gpk_ov {x y : Ty} (hx : Gp x) (hy : Gp y) : Gp (ov x y) := by
  unfold Gp
  rw [wr_ok]
  · refine fz_zero fun z hz => ?_
    simp only [ov, List.map_cons, List.map_nil, List.mem_cons, List.not_mem_nil, or_false] at hz
    rcases hz with rfl | rfl
    · exact hx
    · exact hy
  · simp [ov, w1]
theorem gpk_un {x y : Ty} (hx : Gp x) (hy : Gp y) : Gp (un x y) := by
  unfold Gp
  rw [wr_ok]
  · refine fz_zero fun z hz => ?_
    simp only [un, List.map_cons, List.map_nil, List.mem_cons, List.not_mem_nil, or_false] at hz
    rcases hz with rfl | rfl
    · exact hx
    · exact hy
  · simp [un, w1]
/-- what is written is read -/
theorem pa_tx : ∀ (n : Nat) (p : Ty) (r : List Nat), Gp p → (tx p ++ r).length ≤ n → pa n (tx p ++ r) = some (p, r) := by
  intro n
  induction n with
  | zero =>
    intro p r h hl
    have := tx_pos _ p (Nat.le_refl _) h
    rw [List.length_append] at hl
    omega
  | succ n ih =>
    intro p r h hl
    rcases gp_cases h with ⟨k, rfl, h0, h9⟩ | ⟨x, y, rfl, hx, hy⟩ | ⟨y, x, rfl, hy, hx⟩
    · rw [tx_bs, List.singleton_append, pa, if_pos (by omega)]
      rw [show ((97 + k.toNat : Nat) : Int) - 97 = k by omega]
    · rw [tx_ov] at hl ⊢
      simp only [List.cons_append, List.append_assoc, List.length_cons, List.length_append, List.nil_append] at hl ⊢
      rw [pa, if_neg (by omega), if_neg (by simp), ih x _ hx (by simp; omega)]
      dsimp only
      rw [if_neg (by simp), ih y _ hy (by simp; omega)]
      rfl
    · rw [tx_un] at hl ⊢
      simp only [List.cons_append, List.append_assoc, List.length_cons, List.length_append, List.nil_append] at hl ⊢
      rw [pa, if_neg (by omega), if_neg (by simp), ih y _ hy (by simp; omega)]
      dsimp only
      rw [if_neg (by simp), ih x _ hx (by simp; omega)]
      rfl
/-- what is read was written -/
theorem pa_inv : ∀ (n : Nat) (l : List Nat) (p : Ty) (r : List Nat), pa n l = some (p, r) → Gp p ∧ l = tx p ++ r := by
  intro n
  induction n with
  | zero => intro l p r h; simp [pa] at h
  | succ n ih =>
    intro l p r h
    cases l with
    | nil => simp [pa] at h
    | cons c l =>
      rw [pa] at h
      by_cases h1 : 97 ≤ c ∧ c ≤ 106
      · rw [if_pos h1] at h
        simp only [Option.some.injEq, Prod.mk.injEq] at h
        obtain ⟨rfl, rfl⟩ := h
        refine ⟨gpk_bs (by omega) (by omega), ?_⟩
        rw [tx_bs, List.singleton_append, show 97 + ((c : Int) - 97).toNat = c by omega]
      · rw [if_neg h1] at h
        by_cases h2 : c = 40
        · rw [if_neg (by simp [h2])] at h
          cases hp : pa n l with
          | none => rw [hp] at h; cases h
          | some q =>
            obtain ⟨a, la⟩ := q
            rw [hp] at h
            cases la with
            | nil => cases h
            | cons d l2 =>
              dsimp only at h
              by_cases h3 : d ≠ 47 ∧ d ≠ 92
              · rw [if_pos h3] at h; cases h
              · rw [if_neg h3] at h
                cases hq : pa n l2 with
                | none => rw [hq] at h; cases h
                | some q =>
                  obtain ⟨b, lb⟩ := q
                  rw [hq] at h
                  cases lb with
                  | nil => cases h
                  | cons e l3 =>
                    dsimp only at h
                    by_cases h4 : e = 41
                    · rw [if_neg (by simp [h4])] at h
                      simp only [Option.some.injEq, Prod.mk.injEq] at h
                      obtain ⟨hp', rfl⟩ := h
                      obtain ⟨ga, rfl⟩ := ih _ _ _ hp
                      obtain ⟨gb, rfl⟩ := ih _ _ _ hq
                      subst h2 h4
                      by_cases h5 : d = 92
                      · rw [if_pos h5] at hp'
                        subst hp' h5
                        refine ⟨gpk_un ga gb, ?_⟩
                        rw [tx_un]
                        simp
                      · rw [if_neg h5] at hp'
                        have h6 : d = 47 := by omega
                        subst hp' h6
                        refine ⟨gpk_ov ga gb, ?_⟩
                        rw [tx_ov]
                        simp
                    · rw [if_pos h4] at h; cases h
        · rw [if_pos h2] at h; cases h
/-- a reading that goes along and keeps its open brackets in a list; none: it is no part; else how many parts -/
def mc : List Nat → Nat → List Bool → Bool → Option Nat
  | [], m, o, e => if e = true ∧ o.length = 0 then some m else none
  | c :: l, m, o, e =>
    if e = false ∧ c = 40 then mc l (m + 1) (false :: o) false
    else if e = false ∧ 97 ≤ c ∧ c < 107 then mc l (m + 1) o true
    else if e = true ∧ (c = 47 ∨ c = 92) ∧ o.head? = some false then mc l m (true :: o.tail) false
    else if e = true ∧ c = 41 ∧ o.head? = some true then mc l m o.tail true
    else none
theorem mc_tx : ∀ (s : Nat) (p : Ty), sz p ≤ s → Gp p → ∀ (r : List Nat) (m : Nat) (o : List Bool), mc (tx p ++ r) m o false = mc r (m + sz p) o true := by
  intro s
  induction s with
  | zero => intro p hs; rw [sz] at hs; omega
  | succ s ih =>
    intro p hs h r m o
    rcases gp_cases h with ⟨k, rfl, h0, h9⟩ | ⟨x, y, rfl, hx, hy⟩ | ⟨y, x, rfl, hy, hx⟩
    · rw [tx_bs, sz_bs, List.singleton_append, mc, if_neg (fun h => by have := h.2; omega), if_pos ⟨rfl, by omega, by omega⟩]
    · rw [sz_ov] at hs
      rw [tx_ov, sz_ov]
      simp only [List.cons_append, List.append_assoc, List.nil_append]
      rw [mc, if_pos (by simp), ih x (by omega) hx, mc, if_neg (by simp), if_neg (by simp), if_pos (by simp), ih y (by omega) hy, mc, if_neg (by simp), if_neg (by simp), if_neg (by simp), if_pos (by simp)]
      simp only [List.tail_cons]
      congr 1
      omega
    · rw [sz_un] at hs
      rw [tx_un, sz_un]
      simp only [List.cons_append, List.append_assoc, List.nil_append]
      rw [mc, if_pos (by simp), ih y (by omega) hy, mc, if_neg (by simp), if_neg (by simp), if_pos (by simp), ih x (by omega) hx, mc, if_neg (by simp), if_neg (by simp), if_neg (by simp), if_pos (by simp)]
      simp only [List.tail_cons]
      congr 1
      omega
theorem mc_inv : ∀ (n : Nat) (l : List Nat) (m : Nat) (o : List Bool) (k : Nat), l.length ≤ n → mc l m o false = some k → ∃ p r, Gp p ∧ l = tx p ++ r ∧ mc r (m + sz p) o true = some k := by
  intro n
  induction n with
  | zero =>
    intro l m o k hl h
    obtain rfl := List.length_eq_zero_iff.1 (Nat.le_zero.1 hl)
    simp [mc] at h
  | succ n ih =>
    intro l m o k hl h
    cases l with
    | nil => simp [mc] at h
    | cons c l =>
      have h' := h
      simp only [List.length_cons] at hl
      rw [mc] at h'
      by_cases h1 : c = 40
      · rw [if_pos ⟨rfl, h1⟩] at h'
        obtain ⟨a, r1, ga, rfl, h2⟩ := ih l _ _ _ (by omega) h'
        simp only [List.length_append] at hl
        cases r1 with
        | nil => simp [mc] at h2
        | cons d r1 =>
          rw [mc, if_neg (by simp), if_neg (by simp)] at h2
          by_cases h3 : d = 47 ∨ d = 92
          · rw [if_pos ⟨rfl, h3, rfl⟩] at h2
            simp only [List.length_cons] at hl
            obtain ⟨b, r2, gb, rfl, h4⟩ := ih r1 _ _ _ (by omega) h2
            cases r2 with
            | nil => simp [mc] at h4
            | cons e r2 =>
              rw [mc, if_neg (by simp), if_neg (by simp), if_neg (by simp)] at h4
              by_cases h5 : e = 41
              · rw [if_pos ⟨rfl, h5, rfl⟩] at h4
                subst h1 h5
                rcases h3 with rfl | rfl
                · refine ⟨ov a b, r2, gpk_ov ga gb, by rw [tx_ov]; simp, ?_⟩
                  rw [sz_ov]
                  simp only [List.tail_cons] at h4
                  rw [← h4]
                  congr 1
                  omega
                · refine ⟨un a b, r2, gpk_un ga gb, by rw [tx_un]; simp, ?_⟩
                  rw [sz_un]
                  simp only [List.tail_cons] at h4
                  rw [← h4]
                  congr 1
                  omega
              · rw [if_neg (by simp [h5])] at h4; cases h4
          · rw [if_neg (fun h => h3 h.2.1), if_neg (by simp)] at h2; cases h2
      · rw [if_neg (by simp [h1])] at h'
        by_cases h2 : 97 ≤ c ∧ c < 107
        · rw [if_pos ⟨rfl, h2⟩] at h'
          refine ⟨bs ((c : Int) - 97), l, gpk_bs (by omega) (by omega), ?_, ?_⟩
          · rw [tx_bs, List.singleton_append, show 97 + ((c : Int) - 97).toNat = c by omega]
          · rw [sz_bs]; exact h'
        · rw [if_neg (fun h => h2 h.2), if_neg (by simp), if_neg (by simp)] at h'; cases h'
theorem mc_end {r : List Nat} {m k : Nat} (h : mc r m [] true = some k) : r = [] ∧ k = m := by
  cases r with
  | nil => simp [mc] at h; exact ⟨rfl, h.symm⟩
  | cons c l => simp [mc] at h
/-- how many parts, and whether there is one -/
theorem mc_iff (l : List Nat) (k : Nat) : mc l 0 [] false = some k ↔ ∃ p, pa l.length l = some (p, []) ∧ k = sz p := by
  constructor
  · intro h
    obtain ⟨p, r, gp, rfl, h2⟩ := mc_inv _ l 0 [] k (Nat.le_refl _) h
    obtain ⟨rfl, rfl⟩ := mc_end h2
    exact ⟨p, pa_tx _ p [] gp (Nat.le_refl _), by omega⟩
  · rintro ⟨p, h, rfl⟩
    obtain ⟨gp, hl⟩ := pa_inv _ _ _ _ h
    rw [hl, mc_tx _ p (Nat.le_refl _) gp]
    simp [mc]
def ty0 : Ty := ⟨0, 0, []⟩
/-- what Read answers -/
def rdP (l : List Nat) : Ty × Int := match pa l.length l with
  | some (p, []) => if 15 < sz p then (ty0, 7) else (p, 0)
  | _ => (ty0, 1)
theorem rdP_some {l : List Nat} {p : Ty} (h : pa l.length l = some (p, [])) : rdP l = if 15 < sz p then (ty0, 7) else (p, 0) := by unfold rdP; rw [h]
theorem rdP_none {l : List Nat} (h : mc l 0 [] false = none) : rdP l = (ty0, 1) := by
  unfold rdP
  split
  · rename_i p hp
    have := (mc_iff l (sz p)).2 ⟨p, hp, rfl⟩
    rw [h] at this
    cases this
  · rfl
end Go.Proofs.Ytbmgkgoghgdbhaa.Te
