/- Lists that lie in memory, to be read; lists of strings; the units of a text as strings. No conditions. -/
import Derived.Test.YtiiheaopamjijaaUnitsR
namespace Go.Proofs.Ytiiheaopamjijaa.Rw
open Go.RowKit Uni UnitsP

/-- a slice that is read: n elements of so many cells each -/
def Row (w : World) (v : Value) (size n : Nat) (xs : List Value) : Prop :=
  xs.length = n * size ∧ ∃ a cap, v = .slice a n cap ∧ n ≤ cap ∧ n ≤ 140737488355328 ∧ (a = none → cap = 0) ∧ (n = 0 ∨ ∃ b off, a = some ⟨b, off, none⟩ ∧ b < w.heap.size ∧ ∀ j u, xs[j]? = some u → w.cell? ⟨b, off + j, none⟩ = some u)
theorem Row.below {w w' : World} {v : Value} {size n : Nat} {xs : List Value} (h : Row w v size n xs) {B : Nat} (hB : w.heap.size ≤ B) (hb : Below B w w') : Row w' v size n xs := by
  obtain ⟨hl, a, cap, hv, hn, hm, hz, h⟩ := h
  refine ⟨hl, a, cap, hv, hn, hm, hz, ?_⟩
  rcases h with h | ⟨b, off, ha, hlt, hc⟩
  · exact .inl h
  · exact .inr ⟨b, off, ha, Nat.lt_of_lt_of_le hlt hb.size, fun j u hu => (hb.cell (p := ⟨b, off + j, none⟩) (Nat.lt_of_lt_of_le hlt hB)).trans (hc j u hu)⟩
theorem row_of_own {w : World} {base e size n : Nat} {v : Value} {xs : List Value} (h : w.ownsRow base e size v n xs) (hn : n ≤ 140737488355328) : Row w v size n xs := by
  have hl : xs.length = n * size := h.1
  have h' := h
  rcases h.2 with ⟨rfl, rfl⟩ | ⟨g, cap, cur, rfl, hb, hg, hc, hm, hs, ht⟩
  · exact ⟨hl, none, 0, rfl, by omega, by omega, fun _ => rfl, .inl rfl⟩
  · refine ⟨hl, _, cap, rfl, hc, hn, (fun h => by cases h), .inr ⟨g, 0, rfl, (Array.getElem?_eq_some_iff.1 hg).1, fun j u hu => ?_⟩⟩
    have hj : j < n * size := by rw [← hl]; exact (List.getElem?_eq_some_iff.1 hu).1
    rw [Nat.zero_add, h'.cellAt j hj]
    exact hu
theorem row_nil (w : World) (k : Nat) : Row w (.slice none 0 0) k 0 [] := ⟨by simp, none, 0, rfl, Nat.le_refl _, Nat.zero_le _, fun _ => rfl, .inl rfl⟩

/-- a list of strings -/
def strs (l : List ByteArray) : List Value := l.map Value.string
def IsZ (w : World) (v : Value) (l : List ByteArray) : Prop := Row w v 1 l.length (strs l)
theorem IsZ.below {w w' : World} {v : Value} {l : List ByteArray} (h : IsZ w v l) (hb : Below w.heap.size w w') : IsZ w' v l := Row.below h (Nat.le_refl _) hb
theorem IsZ.len {w : World} {v : Value} {l : List ByteArray} (h : IsZ w v l) : ∃ a cap, v = .slice a l.length cap ∧ l.length ≤ cap := by
  obtain ⟨_, a, cap, hv, hn, _⟩ := h
  exact ⟨a, cap, hv, hn⟩
theorem IsZ.addr {w : World} {a : Option Addr} {cap : Nat} {l : List ByteArray} (h : IsZ w (.slice a l.length cap) l) (hl : 0 < l.length) : ∃ b off, a = some ⟨b, off, none⟩ := by
  obtain ⟨_, a', cap', hv, _, _, _, hr⟩ := h
  simp only [Value.slice.injEq] at hv
  obtain ⟨rfl, _, rfl⟩ := hv
  rcases hr with hr | ⟨b, off, ha, _, _⟩
  · omega
  · exact ⟨b, off, ha⟩
theorem IsZ.at {w : World} {b off cap : Nat} {l : List ByteArray} (h : IsZ w (.slice (some ⟨b, off, none⟩) l.length cap) l) (i : Nat) (hi : i < l.length) : b < w.heap.size ∧ w.cell? ⟨b, off + i, none⟩ = some (.string l[i]) := by
  obtain ⟨_, a', cap', hv, _, _, _, hr⟩ := h
  simp only [Value.slice.injEq] at hv
  obtain ⟨rfl, _, rfl⟩ := hv
  rcases hr with hr | ⟨b', off', ha, hlt, hc⟩
  · omega
  · simp only [Option.some.injEq, Addr.mk.injEq, and_true] at ha
    obtain ⟨rfl, rfl⟩ := ha
    exact ⟨hlt, hc i _ (by simp [strs, hi])⟩
theorem isZ_nil (w : World) : IsZ w (.slice none 0 0) [] := row_nil w 1

/-- a unit as a string; a text's units -/
def sub (s : ByteArray) (u : Nat × Nat × Int) : ByteArray := s.extract u.1 (u.1 + u.2.1)
def tx (s : ByteArray) : List ByteArray := (units s).map (sub s)
theorem tx_length (s : ByteArray) : (tx s).length = (units s).length := by simp [tx]
theorem unitsFrom_in (s : ByteArray) : ∀ (f i : Nat) (u : Nat × Nat × Int), u ∈ unitsFrom s f i → u.1 + u.2.1 ≤ s.size ∧ 1 ≤ u.2.1 ∧ u.2.1 ≤ 4 := by
  intro f
  induction f with
  | zero => intro i u hu; simp [unitsFrom] at hu
  | succ f ih =>
    intro i u hu
    by_cases h : i < s.size
    · rw [unitsFrom_step s f i h] at hu
      have hf := ua_facts s i h
      rcases List.mem_cons.1 hu with rfl | hu
      · exact ⟨hf.2.1, hf.1, hf.2.2.1⟩
      · exact ih _ u hu
    · rw [unitsFrom_end s _ i h] at hu
      cases hu
theorem units_in (s : ByteArray) (k : Nat) (hk : k < (units s).length) : ((units s)[k]).1 + ((units s)[k]).2.1 ≤ s.size ∧ 1 ≤ ((units s)[k]).2.1 ∧ ((units s)[k]).2.1 ≤ 4 := unitsFrom_in s _ _ _ (List.getElem_mem hk)
theorem unitsFrom_size (s : ByteArray) : ∀ (f i : Nat), s.size - i ≤ f → s.size - i ≤ 4 * (unitsFrom s f i).length := by
  intro f
  induction f with
  | zero => intro i h; omega
  | succ f ih =>
    intro i h
    by_cases hi : i < s.size
    · rw [unitsFrom_step s f i hi, List.length_cons]
      have hf := ua_facts s i hi
      have := ih (i + (ua s i).2) (by omega)
      omega
    · omega
theorem units_size (s : ByteArray) : s.size ≤ 4 * (units s).length := by
  have := unitsFrom_size s s.size 0 (by omega)
  simpa [units] using this
end Go.Proofs.Ytiiheaopamjijaa.Rw
