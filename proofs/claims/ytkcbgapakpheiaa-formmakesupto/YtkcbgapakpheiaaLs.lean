/- Lists of changes: in plain words, and how they lie in memory. No conditions. -/
import Derived.Test.YtkcbgapakpheiaaAq
namespace Go.Proofs.Ytkcbgapakpheiaa.Ls
open Go.RowKit Sd Md Aq

def firstE : List Ch → Int
  | [] => 0
  | c :: l => if check c = 0 then firstE l else check c
def headK : List Ch → Int
  | [] => 60
  | c :: _ => c.kinds
def otherK (l : List Ch) : Bool := l.any fun c => c.kinds != headK l
/-- C2: errors of a list of changes -/
def checks (l : List Ch) : Int := if 3 < l.length then 7 else if firstE l = 0 then (if otherK l then 7 else 0) else firstE l
/-- one behind the other; none: too long on the way -/
def allGo : List Ch → List Int → Option (List Int)
  | [], t => some t
  | c :: l, t => if 60 < t.length then none else allGo l (change c t)
def allE (l : List Ch) (text : List Int) : Int := if checks l = 0 then (if textE (headK l) text = 0 then (if (allGo l text).isSome then 0 else 2) else textE (headK l) text) else checks l
def allR (l : List Ch) (text : List Int) : List Int := if checks l = 0 ∧ textE (headK l) text = 0 then (allGo l text).getD [] else []

theorem firstE_zero {l : List Ch} (h : firstE l = 0) : ∀ c, c ∈ l → check c = 0 := by
  induction l with
  | nil => intro c hc; cases hc
  | cons d l ih =>
    intro c hc
    unfold firstE at h
    split at h
    · rename_i hd
      rcases List.mem_cons.1 hc with rfl | hc
      · exact hd
      · exact ih h c hc
    · contradiction
theorem firstE_drop {l : List Ch} {k : Nat} (h : ∀ j (hj : j < l.length), j < k → check l[j] = 0) : firstE l = firstE (l.drop k) := by
  induction k generalizing l with
  | zero => rfl
  | succ k ih =>
    cases l with
    | nil => rfl
    | cons c l =>
      have h0 := h 0 (by simp) (by omega)
      have e : firstE (c :: l) = firstE l := by
        unfold firstE
        rw [if_pos (by simpa using h0)]
        cases l <;> rfl
      rw [e, List.drop_succ_cons]
      exact ih (fun j hj hjk => by have := h (j + 1) (by simpa using hj) (by omega); simpa using this)
theorem firstE_at {l : List Ch} {k : Nat} (hk : k < l.length) : firstE (l.drop k) = if check l[k] = 0 then firstE (l.drop (k + 1)) else check l[k] := by
  rw [List.drop_eq_getElem_cons hk]
  rfl
theorem checks_zero {l : List Ch} (h : checks l = 0) : l.length ≤ 3 ∧ (∀ c, c ∈ l → check c = 0) ∧ (∀ c, c ∈ l → c.kinds = headK l) := by
  unfold checks at h
  split at h
  · omega
  · split at h
    · rename_i h1 h2
      split at h
      · omega
      · rename_i h3
        refine ⟨by omega, firstE_zero h2, fun c hc => ?_⟩
        simp only [otherK, List.any_eq_true, not_exists, not_and, bne_iff_ne, ne_eq, Decidable.not_not] at h3
        exact h3 c hc
    · contradiction

def vcc (x : VC) : List Value := [.int .i64 x.c.kinds, x.vf, x.vt, x.vl, x.vr]
def vccs (l : List VC) : List Value := l.flatMap vcc
theorem vccs_length (l : List VC) : (vccs l).length = l.length * 5 := by
  induction l with
  | nil => rfl
  | cons a l ih => simp [vccs, vcc] at ih ⊢; omega
theorem vccs_at (l : List VC) (k : Nat) (h : k < l.length) (i : Nat) : i < 5 → (vccs l)[k * 5 + i]? = (vcc l[k])[i]? := by
  induction l generalizing k with
  | nil => simp at h
  | cons a l ih =>
    intro hi
    cases k with
    | zero =>
      simp only [Nat.zero_mul, Nat.zero_add, vccs, List.flatMap_cons, List.getElem_cons_zero]
      rw [List.getElem?_append_left (by simp [vcc]; omega)]
    | succ k =>
      have e : (k + 1) * 5 + i = (k * 5 + i) + 5 := by omega
      rw [e]
      have := ih k (by simpa using h) hi
      simp only [vccs, List.flatMap_cons, List.getElem_cons_succ] at this ⊢
      rw [List.getElem?_append_right (by simp [vcc])]
      simpa [vcc] using this
def chs (l : List VC) : List Ch := l.map VC.c
theorem chs_length (l : List VC) : (chs l).length = l.length := by simp [chs]
theorem chs_at (l : List VC) (k : Nat) (h : k < l.length) : (chs l)[k]'(by rw [chs_length]; exact h) = (l[k]).c := by simp [chs]
def IsL (w : World) (v : Value) (xs : List VC) : Prop := Row w v 5 xs.length (vccs xs) ∧ ∀ x, x ∈ xs → IsC w x ∧ x.ls.length + x.rs.length ≤ 2097152
theorem IsL.below {w w' : World} {v : Value} {l : List VC} (h : IsL w v l) {B : Nat} (hB : w.heap.size ≤ B) (hb : Below B w w') : IsL w' v l := ⟨h.1.below hB hb, fun p hp => ⟨(h.2 p hp).1.below hB hb, (h.2 p hp).2⟩⟩
theorem IsL.len {w : World} {v : Value} {l : List VC} (h : IsL w v l) : ∃ a cap, v = .slice a l.length cap ∧ l.length ≤ cap ∧ l.length ≤ 140737488355328 := by
  obtain ⟨⟨_, a, cap, hv, hn, hm, _, _⟩, _⟩ := h
  exact ⟨a, cap, hv, hn, hm⟩
theorem IsL.shape {w : World} {v : Value} {l : List VC} (h : IsL w v l) : (∃ a cap, v = .slice a 0 cap ∧ l = []) ∨
    ∃ b off cap, v = .slice (some ⟨b, off, none⟩) l.length cap ∧ b < w.heap.size ∧ l.length ≤ cap ∧ 0 < l.length ∧ ∀ j u, (vccs l)[j]? = some u → w.cell? ⟨b, off + j, none⟩ = some u := by
  obtain ⟨⟨_, a, cap, hv, hn, hm, _, h⟩, _⟩ := h
  rcases Nat.eq_zero_or_pos l.length with e | e
  · exact .inl ⟨a, cap, by rw [hv, e], List.length_eq_zero_iff.1 e⟩
  · rcases h with h | ⟨b, off, ha, hb, hc⟩
    · omega
    · exact .inr ⟨b, off, cap, by rw [hv, ha], hb, hn, e, hc⟩
theorem change_cells {w : World} {b off cap : Nat} {xs : List VC} (h : IsL w (.slice (some ⟨b, off, none⟩) xs.length cap) xs) (k : Nat) (hk : k < xs.length) :
    b < w.heap.size ∧ w.cell? ⟨b, off + k * 5, none⟩ = some (.int .i64 (xs[k]).c.kinds) ∧ w.cell? ⟨b, off + k * 5 + 1, none⟩ = some (xs[k]).vf ∧ w.cell? ⟨b, off + k * 5 + 2, none⟩ = some (xs[k]).vt ∧ w.cell? ⟨b, off + k * 5 + 3, none⟩ = some (xs[k]).vl ∧ w.cell? ⟨b, off + k * 5 + 4, none⟩ = some (xs[k]).vr ∧ IsC w xs[k] ∧ (xs[k]).ls.length + (xs[k]).rs.length ≤ 2097152 := by
  rcases h.shape with ⟨a, c, _, e⟩ | ⟨b', o', c', hv, hlt, _, _, hc⟩
  · rw [e] at hk
    simp at hk
  · simp only [Value.slice.injEq, Option.some.injEq, Addr.mk.injEq, and_true, true_and] at hv
    obtain ⟨⟨rfl, rfl⟩, rfl⟩ := hv
    have u := fun i hi => vccs_at xs k hk i hi
    have hm := h.2 _ (List.getElem_mem hk)
    refine ⟨hlt, hc _ _ ((u 0 (by omega)).trans rfl), ?_, ?_, ?_, ?_, hm.1, hm.2⟩
    · rw [Nat.add_assoc]; exact hc _ _ ((u 1 (by omega)).trans rfl)
    · rw [Nat.add_assoc]; exact hc _ _ ((u 2 (by omega)).trans rfl)
    · rw [Nat.add_assoc]; exact hc _ _ ((u 3 (by omega)).trans rfl)
    · rw [Nat.add_assoc]; exact hc _ _ ((u 4 (by omega)).trans rfl)
end Go.Proofs.Ytkcbgapakpheiaa.Ls
