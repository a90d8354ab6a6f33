/- checkWords's own test of a word, and the library's ContainsFunc at it. No conditions. -/
import Derived.Test.YtbmgkgoghgdbhaaVq
import Derived.Test.YtbmgkgoghgdbhaaQa
namespace Go.Proofs.Ytbmgkgoghgdbhaa.Te
open Go.RowKit

/-- how the words lie -/
def WsAt (w : World) (d : Nat) (ws : List (List Ty)) (a : Option Addr) : Prop := ws.length = 0 ∨ ∃ B off, a = some ⟨B, off, none⟩ ∧ B < w.heap.size ∧ ∀ i (h : i < ws.length), ∃ a' c', w.cell? ⟨B, off + i, none⟩ = some (.slice a' ws[i].length c') ∧ LsQ w d ws[i] a' c'
theorem WsAt.below {w w' : World} {d : Nat} {ws : List (List Ty)} {a : Option Addr} (h : WsAt w d ws a) (hb : Below w.heap.size w w') : WsAt w' d ws a := by
  rcases h with h | ⟨B, off, h1, h2, h3⟩
  · exact .inl h
  · refine .inr ⟨B, off, h1, Nat.lt_of_lt_of_le h2 hb.size, fun i hi => ?_⟩
    obtain ⟨a', c', hc, hl⟩ := h3 i hi
    exact ⟨a', c', (hb.cell (p := ⟨B, _, none⟩) h2).trans hc, hl.below hb⟩
def wOff (l : List Ty) : Bool := decide (l.length < 1) || decide (3 < l.length)
theorem off_any (l : List Ty) (a : Option Addr) (c : Nat) (w : World) (hl : l.length ≤ 140737488355328) : Calls Try.prog 76 #[.slice a l.length c] w fun e w' => e = .returned (.bool (wOff l)) ∧ Below w.heap.size w w' := by
  unfold wOff
  by_cases h1 : l.length < 1
  · have h1' : (l.length : Int) < 1 := by omega
    rw [show (decide (l.length < 1) || decide (3 < l.length)) = true by simp [h1]]
    clear h1
    go_enter Try.func76, Try.ntmps76
    go_wp2
    go_ret
    exact ⟨rfl, Below.refl _ _⟩
  · have h1' : ¬ (l.length : Int) < 1 := by omega
    by_cases h3 : 3 < l.length
    · have h3' : (3 : Int) < (l.length : Int) := by omega
      rw [show (decide (l.length < 1) || decide (3 < l.length)) = true by simp [h3]]
      clear h1 h3
      go_enter Try.func76, Try.ntmps76
      go_wp2
      go_ret
      exact ⟨rfl, Below.refl _ _⟩
    · have h3' : ¬ (3 : Int) < (l.length : Int) := by omega
      rw [show (decide (l.length < 1) || decide (3 < l.length)) = false by simp only [decide_eq_false h1, decide_eq_false h3, Bool.or_self]]
      clear h1 h3
      go_enter Try.func76, Try.ntmps76
      go_wp2
      go_ret
      exact ⟨rfl, Below.refl _ _⟩
set_option maxHeartbeats 2000000 in
theorem index_off {d : Nat} (ws : List (List Ty)) (ka : Option Addr) (kc : Nat) (w : World) (r : Bool) (hr : (ws.map wOff).any id = r) (hk : ws.length ≤ 140737488355328) (h : WsAt w d ws ka) :
    Calls Try.prog 88 #[.slice ka ws.length kc, .func (.func 76) #[] #[]] w fun e w' => ∃ i : Int, e = .returned (.int .i64 i) ∧ (if r = true then 0 ≤ i else i = -1) ∧ Below w.heap.size w w' := by
  have HK : Hid (WsAt w d ws ka) := h
  have HR : Hid ((ws.map wOff).any id = r) := hr
  clear h hr
  go_enter Try.func88, Try.ntmps88
  go_wp2
  go_loopw [8] (fun iv wr => ∃ k : Nat, iv = .int .i64 (k : Int) ∧ k ≤ ws.length ∧ Below w.heap.size w wr ∧ (∀ j (h : j < ws.length), j < k → wOff ws[j] = false)) (fun iv _ => ws.length - (intOf iv).toNat)
  case atStart => exact ⟨0, rfl, by omega, Below.refl _ _, fun _ _ h => by omega⟩
  case round =>
    obtain ⟨k, rfl, hkl', hB, hz⟩ := hrel
    have HZ : Hid (∀ j (h : j < ws.length), j < k → wOff ws[j] = false) := hz
    clear hz
    by_cases hkl : k < ws.length
    · have hkl2 : (k : Int) < (ws.length : Int) := by omega
      obtain ⟨kg, ko, rfl, hkg, hkk⟩ : ∃ B off, ka = some ⟨B, off, none⟩ ∧ B < wr.heap.size ∧ ∀ i (h : i < ws.length), ∃ a' c', wr.cell? ⟨B, off + i, none⟩ = some (.slice a' ws[i].length c') ∧ LsQ wr d ws[i] a' c' := by
        rcases HK.out.below hB with h | h
        · omega
        · exact h
      obtain ⟨a1, c1, c0, hpk⟩ := hkk k hkl
      have hle := hpk.at.2.2.1
      dsimp only at hle
      have K76 := off_any ws[k] a1 c1 wr hle
      obtain ⟨b, hb⟩ : ∃ b, wOff ws[k] = b := ⟨_, rfl⟩
      rw [hb] at K76
      have HBB : Hid (wOff ws[k] = b) := hb
      clear hb hpk hkk
      cases b with
      | false =>
        go_wp2_with (go_at_call 76; (with_reducible refine K76.mono ?_); rintro e1 w1 ⟨rfl, hb1⟩; clear K76)
        go_roundw
        case rel =>
          refine ⟨k + 1, by go_num, by omega, hB.trans (hb1.mono hB.size), fun j h1 h2 => ?_⟩
          by_cases hjk : j < k
          · exact HZ.out j h1 hjk
          · obtain rfl : j = k := by omega
            exact HBB.out
        case measure => simp [intOf]; omega
      | true =>
        have hrt : r = true := by
          rw [← HR.out, List.any_eq_true]
          exact ⟨true, List.mem_map.2 ⟨ws[k], List.getElem_mem hkl, HBB.out⟩, rfl⟩
        subst hrt
        go_wp2_with (go_at_call 76; (with_reducible refine K76.mono ?_); rintro e1 w1 ⟨rfl, hb1⟩; clear K76)
        go_ret
        exact ⟨(k : Int), rfl, by omega, hB.trans (hb1.mono hB.size)⟩
    · have hkl2 : ¬ (k : Int) < (ws.length : Int) := by omega
      have hrf : r = false := by
        rw [← HR.out, List.any_eq_false]
        intro b hb
        obtain ⟨q, hq, rfl⟩ := List.mem_map.1 hb
        obtain ⟨j, hj, rfl⟩ := List.getElem_of_mem hq
        rw [HZ.out j hj (by omega)]
        decide
      subst hrf
      go_wp2
      go_ret
      exact ⟨-1, rfl, by decide, hB⟩
set_option maxHeartbeats 1000000 in
theorem contains_off {d : Nat} (ws : List (List Ty)) (ka : Option Addr) (kc : Nat) (w : World) (hk : ws.length ≤ 140737488355328) (h : WsAt w d ws ka) :
    Calls Try.prog 77 #[.slice ka ws.length kc, .func (.func 76) #[] #[]] w fun e w' => e = .returned (.bool ((ws.map wOff).any id)) ∧ Below w.heap.size w w' := by
  obtain ⟨r, hr⟩ : ∃ r, (ws.map wOff).any id = r := ⟨_, rfl⟩
  have K88 := index_off ws ka kc w r hr hk h
  rw [hr]
  clear hr h hk
  cases r with
  | false =>
    go_enter Try.func77, Try.ntmps77
    go_wp2_with (go_at_call 88; (with_reducible refine K88.mono ?_); rintro e1 w1 ⟨i, rfl, hi, hb1⟩; clear K88; obtain rfl : i = -1 := by simpa using hi)
    go_ret
    exact ⟨rfl, hb1⟩
  | true =>
    go_enter Try.func77, Try.ntmps77
    go_wp2_with (go_at_call 88; (with_reducible refine K88.mono ?_); rintro e1 w1 ⟨i, rfl, hi, hb1⟩; clear K88; have hi : 0 ≤ i := by simpa using hi)
    go_ret
    exact ⟨rfl, hb1⟩
end Go.Proofs.Ytbmgkgoghgdbhaa.Te
