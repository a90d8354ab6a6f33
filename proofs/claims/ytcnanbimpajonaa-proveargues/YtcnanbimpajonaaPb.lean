/- proveBegun is true in whatever memory. No conditions. -/
import Derived.Test.YtcnanbimpajonaaAu
namespace Go.Proofs.Ytcnanbimpajonaa.Pb
open Go.RowKit Cl Co Cp Mq Nu Ag Cs Ce Ua Us Bg Bw Kp Nd Au

def okLn (L : List Ln) : Bool := decide (L.length ≤ 1000) && (L.all fun l => decide (-6 ≤ l.2.1.2.1) && decide (l.2.1.2.1 ≤ 6) && decide (-6 ≤ l.2.1.2.2) && decide (l.2.1.2.2 ≤ 6) && decide (l.2.2.length ≤ 1000)) && (List.range L.length).all fun i => match L[i]? with
  | none => true
  | some l => l.1 == 1 || l.2.2.all fun n => decide (0 ≤ n) && decide (n < (i : Int))
theorem okLn_bound {L : List Ln} (h : okLn L = true) : L.length ≤ 1000 ∧ L.length < 80000 ∧ (∀ l ∈ L, Sm l.2.1) ∧ Ahead L ∧ ∀ l ∈ L, l.2.2.length ≤ 1000 := by
  unfold okLn at h
  simp only [Bool.and_eq_true, decide_eq_true_eq, List.all_eq_true] at h
  obtain ⟨⟨h1, h2⟩, h3⟩ := h
  refine ⟨h1, by omega, fun l hl => ?_, fun i l hl hr n hn => ?_, fun l hl => (h2 l hl).2⟩
  · obtain ⟨⟨⟨⟨a, b⟩, c⟩, d⟩, _⟩ := h2 l hl
    exact ⟨⟨a, b⟩, c, d⟩
  · have := h3 i (List.mem_range.2 (List.getElem?_eq_some_iff.1 hl).1)
    rw [hl] at this
    simp only [Bool.or_eq_true, beq_iff_eq, List.all_eq_true, Bool.and_eq_true, decide_eq_true_eq] at this
    exact this.resolve_left hr n hn
def ps0 : List C := [(false, 1, 2), (true, 3, 1)]
def gl0 : C := (true, 3, 2)
def L0 : List Ln := begunL ps0
def L1 : List Ln := Ytcnanbimpajonaa.Fd.useL gl0 L0 (false, 1, 2)
theorem ok0 : okLn L0 = true := by kernel_rfl
theorem ok1 : okLn L1 = true := by kernel_rfl
theorem len0 : decide (0 < L0.length) = true := by kernel_rfl
theorem len1 : decide (1 < L1.length) = true := by kernel_rfl
theorem at0 : L0[0]? = some (1, (false, 1, 2), [0]) := by kernel_rfl
theorem found1 : (idx L1 gl0).isSome = true := by kernel_rfl
def I0 (i : Nat) (L : List Ln) : Prop := (i = 0 ∧ L = L0) ∨ (i = 1 ∧ L = L1)
theorem next0 : I0 1 (Ytcnanbimpajonaa.Fd.useL gl0 L0 (false, 1, 2)) := .inr ⟨rfl, rfl⟩
theorem steps0 : Au.Steps gl0 I0 1000 := by
  refine ⟨fun i L h => ?_, fun i L h hi hx => ?_⟩
  · rcases h with ⟨_, e⟩ | ⟨_, e⟩
    · rw [e]; exact okLn_bound ok0
    · rw [e]; exact okLn_bound ok1
  · rcases hi with ⟨ei, e⟩ | ⟨_, e⟩
    · have e1 : (L[i]).2.1 = (false, 1, 2) := by
        have h1 : L[i]? = some (1, (false, 1, 2), [0]) := by rw [ei, e]; exact at0
        rw [List.getElem?_eq_getElem h] at h1
        rw [Option.some.inj h1]
      rw [e1, ei, e]
      exact next0
    · have := found1
      rw [← e, hx] at this
      cases this
theorem argued0 {base : Nat} {e : Ending} {w' : World} (h : Argued base gl0 I0 e w') : ∃ a n c, 0 < n ∧ e = .returned (.tuple #[.slice a n c, .bool true, .int .i64 0]) := by
  obtain ⟨i, L, hI, h⟩ := h
  rcases h with ⟨hl, _⟩ | ⟨n, bs, v, hn, he, hb1, hb2, _, Z, hZ, hrow, _⟩
  · rcases hI with ⟨ei, eL⟩ | ⟨ei, eL⟩
    · rw [ei, eL] at hl
      exact absurd (of_decide_eq_true len0) (Nat.not_lt.2 hl)
    · rw [ei, eL] at hl
      exact absurd (of_decide_eq_true len1) (Nat.not_lt.2 hl)
  · have hnl := idx_lt hn
    have hk := keptL_len bs (L.take (n + 1)) (n + 1) (by omega) (by rw [List.length_take]; omega)
    rw [List.take_of_length_le (l := bs) (by omega)] at hk
    have hpos : 0 < bs.count true := List.count_pos_iff.2 (List.mem_of_getElem? hb2)
    obtain ⟨g, cap, hv, _⟩ := own_some hrow (by omega)
    exact ⟨_, (keptL bs (L.take (n + 1)) (n + 1)).length, cap, by rw [hk]; exact hpos, by rw [he, hv]⟩

set_option maxHeartbeats 2000000 in
set_option maxRecDepth 100000 in
theorem begun_true (w : World) : Calls Try.prog 8 #[] w fun e w' => e = .returned (.bool true) ∧ Below w.heap.size w w' := by
  have hb0 : ∀ o, Below w.heap.size w (w.alloc o) := fun o => (Below.refl _ w).alloc (Nat.le_refl _) o
  have con : Calls Try.prog 5 #[.slice (some ⟨w.heap.size, 0, none⟩) 2 2, .agg #[.bool true, .int .i64 3, .int .i64 2]] (w.alloc (.cells #[.bool false, .int .i64 1, .int .i64 2, .bool true, .int .i64 3, .int .i64 1] 24)) fun e w' => (∃ a n c, 0 < n ∧ e = .returned (.tuple #[.slice a n c, .bool true, .int .i64 0])) ∧ Below w.heap.size w w' := by
    refine (argue_any ps0 gl0 I0 1000 steps0 (.inl ⟨rfl, rfl⟩) _ _ (isC_lit2 (p := (false, 1, 2)) (q := (true, 3, 1)) (heap_alloc_new w _)) (by kernel_rfl) ?_ ⟨⟨by decide, by decide⟩, by decide, by decide⟩ (by decide)).mono ?_
    · intro p hp
      simp only [ps0, List.mem_cons, List.not_mem_nil, or_false] at hp
      rcases hp with rfl | rfl
      · exact ⟨⟨by decide, by decide⟩, by decide, by decide⟩
      · exact ⟨⟨by decide, by decide⟩, by decide, by decide⟩
    · rintro e w' ⟨h1, h2⟩
      exact ⟨argued0 h1, (hb0 _).trans (h2.mono (hb0 _).size)⟩
  go_enter Try.func8, Try.ntmps8
  go_wp2_with (go_at_call 5; refine con.mono ?_; rintro e w2 ⟨⟨a, n, c, hn, rfl⟩, hb2⟩; have hn' : (0 : Int) < (n : Int) := Int.ofNat_lt.2 hn)
  go_ret
  exact ⟨rfl, hb2⟩
end Go.Proofs.Ytcnanbimpajonaa.Pb
