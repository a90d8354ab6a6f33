/- slices.IndexFunc and slices.ContainsFunc over numbers, at whatever function that answers a bool. Condition: it answers so for each number of the list. -/
import Derived.Test.YtcnanbimpajonaaCl
import Derived.Laws.EntriesVeiled
import Derived.RangeFuncCalls
namespace Go.Proofs.Ytcnanbimpajonaa.Cf
open Go.RowKit Cl

def nv (xs : List Int) : List Value := xs.map fun x => Value.int .i64 x
/-- a list of numbers, as it lies -/
def IsI (w : World) (v : Value) (xs : List Int) : Prop := Row w v 1 xs.length (nv xs)
/-- function f answers P of each number of the list -/
def Answers (f : Nat) (cap : Array Value) (P : Int → Bool) (xs : List Int) (w : World) : Prop :=
  (∀ args W, (callFunc f args).run Try.prog W = .ok (.enter f args) W) ∧ ∀ W x, Below w.heap.size w W → x ∈ xs → Calls Try.prog f (#[.int .i64 x] ++ cap) W fun e W' => e = .returned (.bool (P x)) ∧ Below W.heap.size W W'

set_option maxHeartbeats 2000000 in
set_option maxRecDepth 100000 in
theorem index_any (f : Nat) (cap : Array Value) (P : Int → Bool) (v : Value) (xs : List Int) (w : World) (h : IsI w v xs) (hl : xs.length ≤ 100000) (hA : Answers f cap P xs w) :
    Calls Try.prog 41 #[v, .func (.func f) #[] cap] w fun e w' => (∃ n : Int, e = .returned (.int .i64 n) ∧ (0 ≤ n ↔ xs.any P = true)) ∧ Below w.heap.size w w' := by
  obtain ⟨_, a, c, rfl, _, hC⟩ := h
  obtain ⟨he, hA⟩ := hA
  have HC : Hid _ := hC
  have HA : Hid (∀ W x, Below w.heap.size w W → x ∈ xs → Calls Try.prog f (#[.int .i64 x] ++ cap) W fun e W' => e = .returned (.bool (P x)) ∧ Below W.heap.size W W') := hA
  clear hC hA
  go_enter Try.func41, Try.ntmps41
  go_wp2
  go_loopw [8] (fun iv wr => ∃ (k : Nat), iv = .int .i64 (k : Int) ∧ k ≤ xs.length ∧ (∀ x ∈ xs.take k, P x = false) ∧ Below w.heap.size w wr) (fun iv _ => xs.length - (intOf iv).toNat)
  case atStart => exact ⟨0, rfl, Nat.zero_le _, fun c hc => by simp at hc, Below.refl _ _⟩
  case round =>
    obtain ⟨k, rfl, hk, hall, hb⟩ := hrel
    by_cases hlt : k < xs.length
    · obtain ⟨b, off, rfl, hbl, hcs⟩ := HC.out.resolve_left (by omega)
      obtain ⟨x, hx⟩ : ∃ x, xs[k] = x := ⟨_, rfl⟩
      have d0 : wr.cell? ⟨b, off + k, none⟩ = some (.int .i64 x) := (hb.cell hbl).trans (hcs k _ (by simp [nv, hlt, hx]))
      have con := HA.out wr x hb (hx ▸ List.getElem_mem hlt)
      have HX : Hid (xs[k] = x) := hx
      have HB : Hid _ := hb
      have HALL : Hid _ := hall
      clear hx hcs hb hall
      cases hp : P x with
      | true =>
        rw [hp] at con
        have HP : Hid _ := hp
        clear hp
        go_wp2_with (refine con.mono ?_; rintro e w2 ⟨rfl, hb2⟩; clear con)
        go_ret
        exact ⟨⟨_, rfl, fun _ => List.any_eq_true.2 ⟨x, HX.out ▸ List.getElem_mem hlt, HP.out⟩, fun _ => Int.natCast_nonneg k⟩, HB.out.trans (hb2.mono HB.out.size)⟩
      | false =>
        rw [hp] at con
        have HP : Hid _ := hp
        clear hp
        go_wp2_with (refine con.mono ?_; rintro e w2 ⟨rfl, hb2⟩; clear con)
        go_roundw
        case rel =>
          refine ⟨k + 1, by go_num, hlt, fun y hy => ?_, HB.out.trans (hb2.mono HB.out.size)⟩
          rw [List.take_succ_eq_append_getElem hlt, List.mem_append, List.mem_singleton, HX.out] at hy
          rcases hy with hy | hy
          · exact HALL.out y hy
          · rw [hy]; exact HP.out
        case measure => simp [intOf]; omega
    · have ek : k = xs.length := by omega
      subst ek
      rw [List.take_length] at hall
      have HALL : Hid _ := hall
      clear hall
      go_wp2
      go_ret
      refine ⟨⟨-1, rfl, fun h => absurd h (by decide), fun h => ?_⟩, hb⟩
      obtain ⟨x, h1, h2⟩ := List.any_eq_true.1 h
      rw [HALL.out x h1] at h2
      cases h2

set_option maxHeartbeats 2000000 in
theorem contains_any (f : Nat) (cap : Array Value) (P : Int → Bool) (v : Value) (xs : List Int) (w : World) (h : IsI w v xs) (hl : xs.length ≤ 100000) (hA : Answers f cap P xs w) :
    Calls Try.prog 25 #[v, .func (.func f) #[] cap] w fun e w' => e = .returned (.bool (xs.any P)) ∧ Below w.heap.size w w' := by
  have con := index_any f cap P v xs w h hl hA
  obtain ⟨_, a, c, rfl, _, hC⟩ := h
  clear hC hA
  cases hx : xs.any P with
  | true =>
    rw [hx] at con
    clear hx
    go_enter Try.func25, Try.ntmps25
    go_wp2_with (go_at_call 41; refine con.mono ?_; rintro e w2 ⟨⟨n, rfl, hn⟩, hb2⟩; have hn' : 0 ≤ n := hn.2 rfl; clear hn con)
    go_ret
    exact ⟨rfl, hb2⟩
  | false =>
    rw [hx] at con
    clear hx
    go_enter Try.func25, Try.ntmps25
    go_wp2_with (go_at_call 41; refine con.mono ?_; rintro e w2 ⟨⟨n, rfl, hn⟩, hb2⟩; have hn' : ¬ 0 ≤ n := fun h => absurd (hn.1 h) (by decide); clear hn con)
    go_ret
    exact ⟨by show Ending.returned (.bool (decide (0 ≤ n))) = _; simp; omega, hb2⟩
end Go.Proofs.Ytcnanbimpajonaa.Cf
