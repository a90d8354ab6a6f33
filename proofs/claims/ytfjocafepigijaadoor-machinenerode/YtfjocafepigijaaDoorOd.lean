/- The key of a set in plain words: eight bytes a word; two sets with one key are the same. No program text; no conditions. -/
namespace Go.Proofs.YtfjocafepigijaaDoor.Ot

/-- a word's bytes, the lowest first -/
def bs (a : Nat) : List Nat := [a % 256, a / 256 % 256, a / 65536 % 256, a / 16777216 % 256, a / 4294967296 % 256, a / 1099511627776 % 256, a / 281474976710656 % 256, a / 72057594037927936 % 256]
def kb (ws : List Nat) : List Nat := ws.flatMap bs
theorem bs_len (a : Nat) : (bs a).length = 8 := rfl
theorem bs_byte (a : Nat) : ∀ x ∈ bs a, x < 256 := fun x h => by
  unfold bs at h
  simp only [List.mem_cons, List.not_mem_nil, or_false] at h
  omega
theorem bs_inj {a b : Nat} (ha : a < 18446744073709551616) (hb : b < 18446744073709551616) (h : bs a = bs b) : a = b := by
  unfold bs at h
  simp only [List.cons.injEq, and_true] at h
  omega
theorem kb_len (ws : List Nat) : (kb ws).length = ws.length * 8 := by
  induction ws with
  | nil => rfl
  | cons a l ih => simp only [kb, List.flatMap_cons, List.length_append, bs_len, List.length_cons] at ih ⊢; omega
theorem kb_byte (ws : List Nat) : ∀ x ∈ kb ws, x < 256 := fun x h => by
  obtain ⟨a, _, h⟩ := List.mem_flatMap.1 h
  exact bs_byte a x h
theorem kb_up (ws : List Nat) (a : Nat) : kb (ws ++ [a]) = kb ws ++ bs a := by simp [kb]
theorem kb_inj : ∀ {ws vs : List Nat}, (∀ a ∈ ws, a < 18446744073709551616) → (∀ a ∈ vs, a < 18446744073709551616) → kb ws = kb vs → ws = vs
  | [], [], _, _, _ => rfl
  | [], b :: vs, _, _, h => by
    have := congrArg List.length h
    rw [kb_len, kb_len] at this
    simp at this
  | a :: ws, [], _, _, h => by
    have := congrArg List.length h
    rw [kb_len, kb_len] at this
    simp at this
  | a :: ws, b :: vs, ha, hb, h => by
    have h1 : bs a ++ kb ws = bs b ++ kb vs := h
    obtain ⟨e1, e2⟩ := List.append_inj h1 (by rw [bs_len, bs_len])
    rw [bs_inj (ha a (by simp)) (hb b (by simp)) e1, kb_inj (fun x hx => ha x (by simp [hx])) (fun x hx => hb x (by simp [hx])) e2]
end Go.Proofs.YtfjocafepigijaaDoor.Ot
