/- The program's isUnit, wellFormed, takes, gives. No conditions. -/
import Derived.Test.YtiiheaopamjijaaUn
import Derived.Lib.SlicesS
namespace Go.Proofs.Ytiiheaopamjijaa.Wf
open Go.RowKit Uni UnitsP Rw Un

/-- one unit -/
def one (s : ByteArray) : Bool := (tx s).length == 1
set_option maxHeartbeats 1000000 in
set_option maxRecDepth 100000 in
theorem isUnit_any (s : ByteArray) (w : World) :
    Calls Try.prog 27 #[.string s] w fun e w' => e = .returned (.bool (one s)) ∧ Below w.heap.size w w' := by
  have hz := units_size s
  have hone : one s = ((units s).length == 1) := by unfold one; rw [tx_length]
  rw [hone]
  by_cases h4 : (s.size : Int) ≤ 4
  · have c := fun W => UnitsP.units_any s W (by omega)
    by_cases h1 : (units s).length = 1
    · rw [h1]
      simp only [h1] at c
      go_enter Try.func27, Try.ntmps27
      go_wp2_with (go_at_call 26; refine (c _).mono ?_; rintro e w1 ⟨v, rfl, hown, hb⟩; obtain ⟨a, cap, rfl⟩ := own_none hown)
      go_ret
      exact ⟨rfl, hb⟩
    · have hb1 : ((units s).length == 1) = false := by simpa using h1
      have hb2 : (((units s).length : Int) == 1) = false := by
        have : ¬ ((units s).length : Int) = 1 := by omega
        simpa using this
      rw [hb1]
      go_enter Try.func27, Try.ntmps27
      go_wp2_with (go_at_call 26; refine (c _).mono ?_; rintro e w1 ⟨v, rfl, hown, hb⟩; obtain ⟨a, cap, rfl⟩ := own_none hown)
      go_ret
      exact ⟨by simp, hb⟩
  · have hb1 : ((units s).length == 1) = false := by
      have : ¬ (units s).length = 1 := by omega
      simpa using this
    have hd : decide ((s.size : Int) ≤ 4) = false := decide_eq_false h4
    rw [hb1]
    go_enter Try.func27, Try.ntmps27
    go_wp2
    go_ret
    exact ⟨rfl, Below.refl _ _⟩

/-- an edit that is one -/
def well (k : Int) (t : ByteArray) : Bool := if k = 1 ∨ k = 3 then decide (t = ByteArray.empty) else if k = 2 ∨ k = 4 then one t else false
theorem takes_any (k : Int) (t : ByteArray) (w : World) : Calls Try.prog 18 #[.agg #[.int .i64 k, .string t]] w fun e w' => e = .returned (.bool (k != 4)) ∧ Below w.heap.size w w' := by
  go_enter Try.func18, Try.ntmps18
  go_wp2
  go_ret
  exact ⟨rfl, (Below.refl _ _).alloc (Nat.le_refl _) _⟩
theorem gives_any (k : Int) (t : ByteArray) (w : World) : Calls Try.prog 19 #[.agg #[.int .i64 k, .string t]] w fun e w' => e = .returned (.bool (k != 3)) ∧ Below w.heap.size w w' := by
  go_enter Try.func19, Try.ntmps19
  go_wp2
  go_ret
  exact ⟨rfl, (Below.refl _ _).alloc (Nat.le_refl _) _⟩
set_option maxHeartbeats 1000000 in
set_option maxRecDepth 100000 in
theorem well_any (k : Int) (t : ByteArray) (w : World) : Calls Try.prog 17 #[.agg #[.int .i64 k, .string t]] w fun e w' => e = .returned (.bool (well k t)) ∧ Below w.heap.size w w' := by
  have c := fun W => isUnit_any t W
  have hal : ∀ o, Below w.heap.size w (w.alloc o) := fun o => (Below.refl _ _).alloc (Nat.le_refl _) _
  have hE : (t.toList == []) = decide (t = ByteArray.empty) := by
    have := Go.Lib.bytes_beq_iff t ByteArray.empty
    have e0 : ByteArray.empty.toList = [] := by rw [ByteArray.toList_eq]; rfl
    rw [e0] at this
    by_cases h : t = ByteArray.empty
    · rw [decide_eq_true h]; exact this.2 h
    · rw [decide_eq_false h]
      cases hx : (t.toList == []) with
      | false => rfl
      | true => exact absurd (this.1 hx) h
  unfold well
  by_cases h1 : k = 1
  · subst h1
    go_enter Try.func17, Try.ntmps17
    go_wp2
    go_ret
    exact ⟨by simp, hal _⟩
  · by_cases h3 : k = 3
    · subst h3
      go_enter Try.func17, Try.ntmps17
      go_wp2
      go_ret
      exact ⟨by simp, hal _⟩
    · have d1 : (k == 1) = false := by simpa using h1
      have d3 : (k == 3) = false := by simpa using h3
      rw [if_neg (by omega)]
      by_cases h2 : k = 2
      · subst h2
        go_enter Try.func17, Try.ntmps17
        go_wp2_with (go_at_call 27; refine (c _).mono ?_; rintro e w1 ⟨rfl, hb⟩)
        go_ret
        exact ⟨by simp, (hal _).trans (hb.mono (hal _).size)⟩
      · by_cases h4 : k = 4
        · subst h4
          go_enter Try.func17, Try.ntmps17
          go_wp2_with (go_at_call 27; refine (c _).mono ?_; rintro e w1 ⟨rfl, hb⟩)
          go_ret
          exact ⟨by simp, (hal _).trans (hb.mono (hal _).size)⟩
        · have d2 : (k == 2) = false := by simpa using h2
          have d4 : (k == 4) = false := by simpa using h4
          rw [if_neg (by omega)]
          go_enter Try.func17, Try.ntmps17
          go_wp2
          go_ret
          exact ⟨rfl, hal _⟩
end Go.Proofs.Ytiiheaopamjijaa.Wf
