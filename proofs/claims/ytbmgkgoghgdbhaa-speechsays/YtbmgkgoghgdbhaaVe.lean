/- What the document's Proves looks for, place by place (PLAIN). No conditions. -/
import Derived.Test.YtbmgkgoghgdbhaaVd
import Derived.Test.YtbmgkgoghgdbhaaVq
namespace Go.Proofs.Ytbmgkgoghgdbhaa.Te
open Go.RowKit

/-- what the goal may want may as well stand there -/
def Qg (l : List Ty) (g : Ty) : Prop := (∃ x y, g = ov x y ∧ E (l ++ [y]) x) ∨ (∃ y x, g = un y x ∧ E ([y] ++ l) x)
def Qo (l : List Ty) (g : Ty) (i k : Nat) : Prop := ∃ (hi : i < l.length) (x y : Ty), l[i] = ov x y ∧ i + 1 < k ∧ k ≤ l.length ∧ E ((l.drop (i + 1)).take (k - (i + 1))) y ∧ E (l.take i ++ [x] ++ l.drop k) g
def Qu (l : List Ty) (g : Ty) (i k : Nat) : Prop := ∃ (hi : i < l.length) (y x : Ty), l[i] = un y x ∧ k < i ∧ E ((l.drop k).take (i - k)) y ∧ E (l.take k ++ [x] ++ l.drop (i + 1)) g
theorem E_Qg {l : List Ty} {g : Ty} (h : Qg l g) : E l g := by
  rcases h with ⟨x, y, rfl, h⟩ | ⟨y, x, rfl, h⟩
  · exact E_ov h
  · exact E_un (by simpa using h)
theorem sub_ne' {l : List Ty} {i n : Nat} (h1 : 1 ≤ n) (h2 : i + n ≤ l.length) : (l.drop i).take n ≠ [] := sub_ne h1 h2
theorem E_Qo {l : List Ty} {g : Ty} {i k : Nat} (h : Qo l g i k) : E l g := by
  obtain ⟨hi, x, y, e, h1, h2, h3, h4⟩ := h
  have hne := sub_ne' (l := l) (i := i + 1) (n := k - (i + 1)) (by omega) (by omega)
  have := E_ovl hne h3 (by simpa using h4)
  rw [← e] at this
  have e2 : l.take i ++ l[i] :: (l.drop (i + 1)).take (k - (i + 1)) ++ l.drop k = l := by
    have e3 := three l (i + 1) (k - (i + 1))
    rw [show i + 1 + (k - (i + 1)) = k by omega, ← List.take_append_getElem hi] at e3
    rw [List.append_assoc, List.append_assoc] at e3
    rw [List.append_assoc]
    exact e3.symm
  rw [e2] at this
  exact this
theorem E_Qu {l : List Ty} {g : Ty} {i k : Nat} (h : Qu l g i k) : E l g := by
  obtain ⟨hi, y, x, e, h1, h3, h4⟩ := h
  have hne := sub_ne' (l := l) (i := k) (n := i - k) (by omega) (by omega)
  have := E_unl hne h3 (by simpa using h4)
  rw [← e] at this
  have e2 : l.take k ++ (l.drop k).take (i - k) ++ l[i] :: l.drop (i + 1) = l := by
    have e3 := three l k (i - k)
    rw [show k + (i - k) = i by omega, List.drop_eq_getElem_cons hi] at e3
    exact e3.symm
  rw [e2] at this
  exact this
theorem E_none {l : List Ty} {g : Ty} (hg : Gp g) (h0 : l ≠ [g]) (h1 : ¬ Qg l g) (h2 : ∀ i k, k ≤ l.length → ¬ Qo l g i k) (h3 : ∀ i k, k ≤ l.length → ¬ Qu l g i k) : ¬ E l g := by
  intro h
  rcases E_inv hg h with h | ⟨x, y, e, h⟩ | ⟨y, x, e, h⟩ | ⟨A, x, y, D, B, e, hD, e1, e2⟩ | ⟨A, D, y, x, B, e, hD, e1, e2⟩
  · exact h0 h
  · exact h1 (.inl ⟨x, y, e, h⟩)
  · exact h1 (.inr ⟨y, x, e, h⟩)
  · have hDl : 0 < D.length := List.length_pos_iff.2 hD
    have hll : l.length = A.length + (1 + (D.length + B.length)) := by rw [e]; simp; omega
    have d1 : l.drop (A.length + 1) = D ++ B := by
      rw [e, show A ++ ov x y :: (D ++ B) = (A ++ [ov x y]) ++ (D ++ B) by simp]
      exact List.drop_left' (by simp)
    have d2 : l.drop (A.length + 1 + D.length) = B := by rw [← List.drop_drop, d1, List.drop_left]
    have d3 : l.take A.length = A := by rw [e, List.take_left]
    refine h2 A.length (A.length + 1 + D.length) (by omega) ⟨by omega, x, y, ?_, by omega, by omega, ?_, ?_⟩
    · simp [e]
    · rw [show A.length + 1 + D.length - (A.length + 1) = D.length by omega, d1, List.take_left]
      exact e1
    · rw [d2, d3]
      simpa using e2
  · have hDl : 0 < D.length := List.length_pos_iff.2 hD
    have hll : l.length = A.length + (D.length + (1 + B.length)) := by rw [e]; simp; omega
    have d1 : l.drop A.length = D ++ un y x :: B := by rw [e, List.drop_left]
    have d2 : l.drop (A.length + D.length + 1) = B := by
      rw [show A.length + D.length + 1 = A.length + (D.length + 1) by omega, ← List.drop_drop, d1, show D ++ un y x :: B = (D ++ [un y x]) ++ B by simp]
      exact List.drop_left' (by simp)
    have d3 : l.take A.length = A := by rw [e, List.take_left]
    refine h3 (A.length + D.length) A.length (by omega) ⟨by omega, y, x, ?_, by omega, ?_, ?_⟩
    · simp [e]
    · rw [show A.length + D.length - A.length = D.length by omega, d1, List.take_left]
      exact e1
    · rw [d2, d3]
      simpa using e2
theorem less_o {l : List Ty} {g x y : Ty} {i k : Nat} (hi : i < l.length) (e : l[i] = ov x y) (hk : i + 1 < k) : szs ((l.drop (i + 1)).take (k - (i + 1))) + sz y < szs l + sz g ∧ szs (l.take i ++ [x] ++ l.drop k) + sz g < szs l + sz g := by
  have h := less_ov (n := k - (i + 1)) hi e
  rw [show i + 1 + (k - (i + 1)) = k by omega] at h
  have := sz_pos g
  omega
theorem less_u {l : List Ty} {g x y : Ty} {i k : Nat} (hi : i < l.length) (e : l[i] = un y x) (hk : k < i) : szs ((l.drop k).take (i - k)) + sz y < szs l + sz g ∧ szs (l.take k ++ [x] ++ l.drop (i + 1)) + sz g < szs l + sz g := by
  have h := less_un (n := i - k) hi (by omega) e
  rw [show i - (i - k) = k by omega] at h
  have := sz_pos g
  omega
theorem gp_o {l : List Ty} {x y : Ty} {i k : Nat} (gl : ∀ t ∈ l, Gp t) (hi : i < l.length) (e : l[i] = ov x y) : Gp x ∧ Gp y ∧ (∀ n, ∀ t ∈ (l.drop (i + 1)).take n, Gp t) ∧ ∀ t ∈ l.take i ++ [x] ++ l.drop k, Gp t := by
  have h := gl _ (List.getElem_mem hi)
  rw [e] at h
  refine ⟨(gp_ov h).1, (gp_ov h).2, fun n t ht => gl t (mem_sub ht), fun t ht => ?_⟩
  simp only [List.mem_append, List.mem_cons, List.not_mem_nil, or_false] at ht
  rcases ht with (ht | rfl) | ht
  · exact gl t (List.mem_of_mem_take ht)
  · exact (gp_ov h).1
  · exact gl t (List.mem_of_mem_drop ht)
theorem gp_u {l : List Ty} {x y : Ty} {i k : Nat} (gl : ∀ t ∈ l, Gp t) (hi : i < l.length) (e : l[i] = un y x) : Gp x ∧ Gp y ∧ (∀ n, ∀ t ∈ (l.drop k).take n, Gp t) ∧ ∀ t ∈ l.take k ++ [x] ++ l.drop (i + 1), Gp t := by
  have h := gl _ (List.getElem_mem hi)
  rw [e] at h
  refine ⟨(gp_un h).1, (gp_un h).2, fun n t ht => gl t (mem_sub ht), fun t ht => ?_⟩
  simp only [List.mem_append, List.mem_cons, List.not_mem_nil, or_false] at ht
  rcases ht with (ht | rfl) | ht
  · exact gl t (List.mem_of_mem_take ht)
  · exact (gp_un h).1
  · exact gl t (List.mem_of_mem_drop ht)
/-- a box, and another one behind it -/
structure S2 (w : World) (O : Obj) (A : Nat) (x : Ty) (ax : Option Addr) (cx : Nat) (W : World) : Prop where
  bel : Below w.heap.size w W
  box : W.heap[w.heap.size]? = some O
  ha : w.heap.size < A
  ra : W.heap[A]? = some (.cells #[.int .i64 x.kind, .int .i64 x.n, .slice ax x.kids.length cx] 24 (0, 0))
theorem S2.below {w : World} {O : Obj} {A : Nat} {x : Ty} {ax : Option Addr} {cx : Nat} {W W' : World} (h : S2 w O A x ax cx W) (hb : Below W.heap.size W W') : S2 w O A x ax cx W' :=
  ⟨h.bel.trans (hb.mono h.bel.size), (hb.block _ (lt_of_get h.box)).trans h.box, h.ha, (hb.block _ (lt_of_get h.ra)).trans h.ra⟩
def PvOk (M : Nat) : Prop := ∀ (d dg : Nat) (l : List Ty) (a : Option Addr) (c : Nat) (g : Ty) (ag : Option Addr) (cg : Nat) (w : World) (r : Bool), szs l + sz g ≤ M → LsQ w d l a c → TyQ w dg g ag cg → (∀ t ∈ l, Gp t) → Gp g → l ≠ [] → (r = true ↔ E l g) → Calls Try.prog 22 #[.slice a l.length c, vty g ag cg] w fun e w' => e = .returned (.bool r) ∧ Below w.heap.size w w'
end Go.Proofs.Ytbmgkgoghgdbhaa.Te
