/- The program's unitAt: the unit that a range over a text met at a place. Condition: the place lies in the text, and the text is no longer than the model's longest. -/
import Derived.Test.YtiiheaopamjijaaShelf
import Derived.Test.YtiiheaopamjijaaUni
import Derived.WalkKit
import Derived.WalkSpells
import Derived.WalkLawsBesides
import Derived.BigCall
namespace Go.Proofs.Ytiiheaopamjijaa.UnitAt
open Go.RowKit Uni

def isFD (s : ByteArray) (i : Nat) : Bool := decide ((ua s i).1 = 65533)

theorem pre3 (s : ByteArray) (i : Nat) (w : World) :
    Calls Try.prog 37 #[.string (s.extract i s.size), .string { data := #[239, 191, 189] }] w fun e w' => e = .returned (.bool (isFD s i)) ∧ w' = w := by
  refine (Try.strings_HasPrefix _ _ _).mono ?_
  rintro e w' ⟨he, hw⟩
  refine ⟨?_, hw⟩
  rw [he]
  unfold isFD
  rw [← prefix_three]

set_option maxHeartbeats 400000 in
theorem bad_any (s : ByteArray) (i : Nat) (w : World) (h : i < s.size) (hp : isFD s i = false) :
    Calls Try.prog 34 #[.string s, .int .i64 i, .int .i32 65533] w fun e w' => e = .returned (.agg #[.int .i64 i, .int .i64 1, .int .i64 (-1)]) ∧ ∃ o, w' = w.alloc o := by

  go_enter Try.func34, Try.ntmps34
  go_wp2_with (go_at_call 37; refine (pre3 _ _ _).mono ?_; rintro e w' ⟨rfl, rfl⟩)
  exact bodyPost_ret (v := .agg #[.int .i64 i, .int .i64 1, .int .i64 (-1)]) (by simp [results, Try.results34, go_sem]) rfl ⟨rfl, _, rfl⟩

set_option maxHeartbeats 400000 in
theorem fd_any (s : ByteArray) (i : Nat) (w : World) (h : i < s.size) (hp : isFD s i = true) :
    Calls Try.prog 34 #[.string s, .int .i64 i, .int .i32 65533] w fun e w' => e = .returned (.agg #[.int .i64 i, .int .i64 (Lib.runeLen 65533), .int .i64 65533]) ∧ ∃ o, w' = w.alloc o := by

  go_enter Try.func34, Try.ntmps34
  go_wp2_with (first | (go_at_call 37; refine (pre3 _ _ _).mono ?_; rintro e w' ⟨rfl, rfl⟩) | (go_at_call 38; refine (Try.utf8_RuneLen _ _).mono ?_; rintro e w' ⟨rfl, rfl⟩))
  exact bodyPost_ret (v := .agg #[.int .i64 i, .int .i64 (Lib.runeLen 65533), .int .i64 65533]) (by simp [results, Try.results34, go_sem]) rfl ⟨rfl, _, rfl⟩

set_option maxHeartbeats 400000 in
theorem good_any (s : ByteArray) (i : Nat) (r : Int) (w : World) (h0 : 0 ≤ r) (h1 : r ≤ 1114111) (hr : (r == 65533) = false) :
    Calls Try.prog 34 #[.string s, .int .i64 i, .int .i32 r] w fun e w' => e = .returned (.agg #[.int .i64 i, .int .i64 (Lib.runeLen r), .int .i64 r]) ∧ ∃ o, w' = w.alloc o := by
  go_enter Try.func34, Try.ntmps34
  go_wp2_with (go_at_call 38; refine (Try.utf8_RuneLen _ _).mono ?_; rintro e w' ⟨rfl, rfl⟩)
  exact bodyPost_ret (v := .agg #[.int .i64 i, .int .i64 (Lib.runeLen r), .int .i64 r]) (by simp [results, Try.results34, go_sem]) rfl ⟨rfl, _, rfl⟩

/-- what it answers, whatever stands there -/
theorem unitAt_alloc (s : ByteArray) (i : Nat) (w : World) (h : i < s.size) :
    Calls Try.prog 34 #[.string s, .int .i64 i, .int .i32 (Utf8.decode s i).1] w fun e w' => e = .returned (.agg #[.int .i64 i, .int .i64 (ua s i).2, .int .i64 (ua s i).1]) ∧ ∃ o, w' = w.alloc o := by
  have f := ua_facts s i h
  have d1 := decode_one s i h
  by_cases hb : (ua s i).1 = -1
  · rw [d1, if_pos hb, hb, f.2.2.2.2.2.1 hb]
    exact bad_any s i w h (by unfold isFD; rw [hb]; rfl)
  · have hl := f.2.2.2.2.2.2 (by omega)
    rw [d1, if_neg hb, ← hl.1]
    by_cases hf : (ua s i).1 = 65533
    · rw [hf]
      exact fd_any s i w h (by unfold isFD; rw [hf]; rfl)
    · exact good_any s i _ w (by omega) (by omega) (by simpa using hf)

theorem unitAt_any (s : ByteArray) (i : Nat) (w : World) (h : i < s.size) :
    Calls Try.prog 34 #[.string s, .int .i64 i, .int .i32 (Utf8.decode s i).1] w fun e w' => e = .returned (.agg #[.int .i64 i, .int .i64 (ua s i).2, .int .i64 (ua s i).1]) ∧ Below w.heap.size w w' := by
  refine (unitAt_alloc s i w h).mono ?_
  rintro e w' ⟨he, o, rfl⟩
  exact ⟨he, (Below.refl _ _).alloc (Nat.le_refl _) _⟩
end Go.Proofs.Ytiiheaopamjijaa.UnitAt
