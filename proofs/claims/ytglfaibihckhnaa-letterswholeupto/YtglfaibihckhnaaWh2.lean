/- Plain facts: the units of a folded text are those of the text, each letter small; folded again it is itself; its pieces are the same. No conditions. -/
import Derived.Test.YtglfaibihckhnaaWh
namespace Go.Proofs.Ytglfaibihckhnaa.Wh
open Uni FoldP FoldR Kinds Pc

theorem ua_ok (s : ByteArray) (i : Nat) (h : i < s.size) (hb : ¬ (ua s i).1 = -1) : Enc.okB (small (ua s i).1) = true := by
  have f := ua_facts s i h
  have h0 : 0 ≤ (ua s i).1 := by omega
  exact small_ok _ h0 f.2.2.2.2.1 (f.2.2.2.2.2.2 h0).2

theorem piece_len (s : ByteArray) (i : Nat) (h : i < s.size) : (piece s i).length = (ua s i).2 := by
  have f := ua_facts s i h
  unfold piece
  by_cases hb : (ua s i).1 = -1
  · rw [if_pos hb, f.2.2.2.2.2.1 hb]; rfl
  · rw [if_neg hb]
    have h0 : 0 ≤ (ua s i).1 := by omega
    have e := enc_len _ (ua_ok s i h hb)
    rw [small_len _ h0, (f.2.2.2.2.2.2 h0).1] at e
    omega

theorem foldFrom_length (s : ByteArray) : ∀ fu i, s.size ≤ i + fu → i ≤ s.size → (foldFrom s fu i).length = s.size - i
  | 0, i, h, hi => by
    have : ¬ i < s.size := by omega
    simp [foldFrom]; omega
  | fu + 1, i, h, hi => by
    by_cases hp : i < s.size
    · have f := ua_facts s i hp
      rw [foldFrom_step s fu i hp, List.length_append, piece_len s i hp, foldFrom_length s fu _ (by omega) f.2.1]
      omega
    · rw [foldFrom_end s _ i hp]
      simp
      omega
theorem fold_length (s : ByteArray) : (fold s).length = s.size := by
  have := foldFrom_length s s.size 0 (by omega) (by omega)
  unfold fold
  omega

/-- from a unit's place on, f is s folded -/
def D (s f : ByteArray) (p : Nat) : Prop := ∃ fu, s.size ≤ p + fu ∧ f.data.toList.drop p = foldFrom s fu p

theorem D_next {s f : ByteArray} {p : Nat} (h : D s f p) (hp : p < s.size) : D s f (p + (ua s p).2) := by
  obtain ⟨fu, h1, h2⟩ := h
  have fc := ua_facts s p hp
  cases fu with
  | zero => omega
  | succ fu =>
    refine ⟨fu, by omega, ?_⟩
    rw [foldFrom_step s fu p hp] at h2
    rw [← List.drop_drop, h2, ← piece_len s p hp]
    simp

theorem D_bytes {s f : ByteArray} {p : Nat} (h : D s f p) (hp : p < s.size) : ∀ k x, (piece s p)[k]? = some x → p + k < f.size ∧ bt f (p + k) = x.toNat := by
  obtain ⟨fu, h1, h2⟩ := h
  intro k x hx
  cases fu with
  | zero => omega
  | succ fu =>
    rw [foldFrom_step s fu p hp] at h2
    have hk : k < (piece s p).length := by
      rcases Nat.lt_or_ge k (piece s p).length with h | h
      · exact h
      · rw [List.getElem?_eq_none h] at hx; cases hx
    rw [← at_drop, h2, List.getElem?_append_left hk]
    exact hx

theorem D_stray {s f : ByteArray} {p : Nat} (h : D s f p) (hp : p < s.size) (hb : (ua s p).1 = -1) : bt f p = bt s p := by
  have := (D_bytes h hp 0 (s.get! p) (by unfold piece; rw [if_pos hb]; rfl)).2
  exact this

/-- a byte that goes on is a stray at a unit's place -/
theorem goes_stray {s : ByteArray} {p : Nat} (hg : goB s p = true) : ua s p = (-1, 1) := by
  have g := (goesOn_iff _ _).1 hg
  unfold ua
  rw [if_neg (by omega), if_neg (fun h => by omega), if_neg (fun h => by omega), if_neg (fun h => by omega)]

/-- at a unit's place a byte goes on in f just if it does in s; then it is the same -/
theorem D_goes {s f : ByteArray} {p : Nat} (hz : f.size = s.size) (h : D s f p) : goB f p = goB s p ∧ (goB s p = true → bt f p = bt s p ∧ D s f (p + 1)) := by
  by_cases hp : p < s.size
  · cases hg : goB s p with
    | true =>
      have hs := goes_stray hg
      have e := D_stray h hp (by rw [hs])
      have g := (goesOn_iff _ _).1 hg
      refine ⟨(goesOn_iff _ _).2 ⟨by omega, by omega, by omega⟩, fun _ => ⟨e, ?_⟩⟩
      have := D_next h hp
      rw [hs] at this
      exact this
    | false =>
      refine ⟨?_, fun h => by cases h⟩
      by_cases hb : (ua s p).1 = -1
      · have e := D_stray h hp hb
        unfold goB at hg ⊢
        rw [e, hz]
        exact hg
      · -- a letter's first byte never goes on
        have hok := ua_ok s p hp hb
        have hr : 0 ≤ small (ua s p).1 ∧ small (ua s p).1 ≤ 1114111 := by unfold Enc.okB at hok; simp only [decide_eq_true_eq] at hok; omega
        have hby := D_bytes h hp
        unfold piece at hby
        rw [if_neg hb] at hby
        have tn : ∀ x : Int, 0 ≤ x → x < 256 → (x.toNat.toUInt8).toNat = x.toNat := fun x h0 h1 => by simp; omega
        unfold goB
        rw [decide_eq_false_iff_not]
        generalize small (ua s p).1 = r at *
        have hru : ¬ (55296 ≤ r ∧ r ≤ 57343) := by unfold Enc.okB at hok; simp only [decide_eq_true_eq] at hok; exact hok.2.2
        unfold Lib.encodeRune at hby
        by_cases h1 : r ≤ 127
        · rw [Lib.encodeRuneZ_one hr.1 h1] at hby
          have b0 := (hby 0 _ rfl).2
          rw [tn _ (by omega) (by omega), show p + 0 = p from rfl] at b0
          omega
        by_cases h2 : r ≤ 2047
        · rw [Lib.encodeRuneZ_two (by omega) h2] at hby
          have b0 := (hby 0 _ rfl).2
          rw [tn _ (by omega) (by omega), show p + 0 = p from rfl] at b0
          omega
        by_cases h3 : r ≤ 65535
        · rw [Lib.encodeRuneZ_three (by omega)] at hby
          have b0 := (hby 0 _ rfl).2
          rw [tn _ (by omega) (by omega), show p + 0 = p from rfl] at b0
          omega
        · rw [Lib.encodeRuneZ_four (by omega) (by omega)] at hby
          have b0 := (hby 0 _ rfl).2
          rw [tn _ (by omega) (by omega), show p + 0 = p from rfl] at b0
          omega
  · have e1 : goB s p = false := by unfold goB; rw [decide_eq_false_iff_not]; omega
    have e2 : goB f p = false := by unfold goB; rw [decide_eq_false_iff_not]; omega
    rw [e1, e2]
    exact ⟨rfl, fun h => by cases h⟩

/-- the small one of a unit's letter -/
def sm (c : Int) : Int := if c = -1 then -1 else small c
theorem ua_fold {s f : ByteArray} {p : Nat} (hz : f.size = s.size) (h : D s f p) (hp : p < s.size) : ua f p = (sm (ua s p).1, (ua s p).2) := by
  have fc := ua_facts s p hp
  by_cases hb : (ua s p).1 = -1
  · have e0 := D_stray h hp hb
    have h1 := D_next h hp
    rw [fc.2.2.2.2.2.1 hb] at h1 ⊢
    have g1 := D_goes hz h1
    unfold sm
    rw [if_pos hb]
    -- the bytes that go on are the same, so f is a stray there too
    have key : ua f p = ua s p := by
      have hn : ∀ x, ua s p = x → ua f p = x := by
        intro x hx
        by_cases q1 : goB s (p + 1) = true
        · obtain ⟨e1, h2⟩ := g1.2 q1
          have g2 := D_goes hz h2
          by_cases q2 : goB s (p + 1 + 1) = true
          · obtain ⟨e2, h3⟩ := g2.2 q2
            have g3 := D_goes hz h3
            by_cases q3 : goB s (p + 1 + 1 + 1) = true
            · obtain ⟨e3, _⟩ := g3.2 q3
              rw [← hx]; unfold ua c2 c3 c4
              rw [e0, e1, show p + 2 = p + 1 + 1 from rfl, e2, show p + 3 = p + 1 + 1 + 1 from rfl, e3, g1.1, g2.1, g3.1]
            · have q3' : goB s (p + 3) = false := by simpa using q3
              have q3f : goB f (p + 3) = false := by have := g3.1; rw [show p + 1 + 1 + 1 = p + 3 from rfl] at this; rw [this]; exact q3'
              rw [← hx]; unfold ua c2 c3
              rw [e0, e1, show p + 2 = p + 1 + 1 from rfl, e2, q3', q3f, g1.1, g2.1]
              simp
          · have q2' : goB s (p + 2) = false := by simpa using q2
            have q2f : goB f (p + 2) = false := by have := g2.1; rw [show p + 1 + 1 = p + 2 from rfl] at this; rw [this]; exact q2'
            rw [← hx]; unfold ua c2
            rw [e0, e1, q2', q2f, g1.1]
            simp
        · have q1' : goB s (p + 1) = false := by simpa using q1
          have q1f : goB f (p + 1) = false := by rw [g1.1]; exact q1'
          rw [← hx]; unfold ua
          rw [e0, q1', q1f]
          simp
      exact hn _ rfl
    rw [key]
    have : ua s p = ((ua s p).1, (ua s p).2) := rfl
    rw [this, hb, fc.2.2.2.2.2.1 hb]
  · have hok := ua_ok s p hp hb
    have hby := D_bytes h hp
    have hpe : piece s p = Lib.encodeRune (small (ua s p).1) := by unfold piece; rw [if_neg hb]
    rw [hpe] at hby
    rw [ua_of_bytes f p _ hok hby, ← hpe, piece_len s p hp]
    unfold sm
    rw [if_neg hb]

theorem unitsFrom_fold {s f : ByteArray} (hz : f.size = s.size) : ∀ fu p, D s f p → unitsFrom f fu p = (unitsFrom s fu p).map fun u => (u.1, u.2.1, sm u.2.2)
  | 0, _, _ => rfl
  | fu + 1, p, h => by
    by_cases hp : p < s.size
    · rw [unitsFrom_step s fu p hp, unitsFrom_step f fu p (by omega), ua_fold hz h hp, List.map_cons, unitsFrom_fold hz fu _ (D_next h hp)]
    · rw [unitsFrom_end s _ p hp, unitsFrom_end f _ p (by omega)]
      rfl

/-- the folded text -/
def ff (s : ByteArray) : ByteArray := ⟨(fold s).toArray⟩
theorem ff_size (s : ByteArray) : (ff s).size = s.size := by
  have := fold_length s
  show (fold s).toArray.size = _
  simpa using this
theorem ff_D (s : ByteArray) : D s (ff s) 0 := ⟨s.size, by omega, by simp [ff]; rfl⟩
theorem units_fold (s : ByteArray) : units (ff s) = (units s).map fun u => (u.1, u.2.1, sm u.2.2) := by
  unfold units
  rw [ff_size]
  exact unitsFrom_fold (ff_size s) _ _ (ff_D s)
end Go.Proofs.Ytglfaibihckhnaa.Wh
