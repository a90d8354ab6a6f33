/- slices.IndexFunc and slices.ContainsFunc over claims, at whatever function that answers a bool. Condition: it answers so for each claim of the list. -/
import Derived.Test.YtcnanbimpajonaaCe
import Derived.Test.YtcnanbimpajonaaCf
namespace Go.Proofs.Ytcnanbimpajonaa.Cg
open Go.RowKit Cl Cs Ce

/-- function f answers P of each claim of the list -/
def Answers (f : Nat) (cap : Array Value) (P : C → Bool) (ps : List C) (w : World) : Prop :=
  (∀ args W, (callFunc f args).run Try.prog W = .ok (.enter f args) W) ∧ ∀ W p, Below w.heap.size w W → p ∈ ps → Calls Try.prog f (#[vc p] ++ cap) W fun e W' => e = .returned (.bool (P p)) ∧ Below W.heap.size W W'

set_option maxHeartbeats 2000000 in
set_option maxRecDepth 100000 in
theorem index_any (f : Nat) (cap : Array Value) (P : C → Bool) (v : Value) (ps : List C) (w : World) (h : IsC w v ps) (hl : ps.length ≤ 100000) (hA : Answers f cap P ps w) :
    Calls Try.prog 50 #[v, .func (.func f) #[] cap] w fun e w' => (∃ n : Int, e = .returned (.int .i64 n) ∧ (0 ≤ n ↔ ps.any P = true)) ∧ Below w.heap.size w w' := by
  obtain ⟨_, a, c, rfl, _, hC⟩ := h
  obtain ⟨he, hA⟩ := hA
  have HC : Hid (ps.length = 0 ∨ ∃ b off, a = some ⟨b, off, none⟩ ∧ b < w.heap.size ∧ ∀ j u, (ccs ps)[j]? = some u → w.cell? ⟨b, off + j, none⟩ = some u) := hC
  have HA : Hid (∀ W p, Below w.heap.size w W → p ∈ ps → Calls Try.prog f (#[vc p] ++ cap) W fun e W' => e = .returned (.bool (P p)) ∧ Below W.heap.size W W') := hA
  clear hC hA
  go_enter Try.func50, Try.ntmps50
  go_wp2
  go_loopw [8] (fun iv wr => ∃ (k : Nat), iv = .int .i64 (k : Int) ∧ k ≤ ps.length ∧ (∀ p ∈ ps.take k, P p = false) ∧ Below w.heap.size w wr) (fun iv _ => ps.length - (intOf iv).toNat)
  case atStart => exact ⟨0, rfl, Nat.zero_le _, fun c hc => by simp at hc, Below.refl _ _⟩
  case round =>
    obtain ⟨k, rfl, hk, hall, hb⟩ := hrel
    by_cases hlt : k < ps.length
    · obtain ⟨b, off, rfl, hbl, hcs⟩ := HC.out.resolve_left (by omega)
      obtain ⟨⟨p0, p1, p2⟩, hx⟩ : ∃ p, ps[k] = p := ⟨_, rfl⟩
      have hat := ccs_at ps k hlt
      rw [hx] at hat
      have d0 : wr.cell? ⟨b, off + k * 3, none⟩ = some (.bool p0) := (hb.cell hbl).trans (hcs _ _ hat.1)
      have d1 : wr.cell? ⟨b, off + k * 3 + 1, none⟩ = some (.int .i64 p1) := (hb.cell hbl).trans (hcs _ _ hat.2.1)
      have d2 : wr.cell? ⟨b, off + k * 3 + 2, none⟩ = some (.int .i64 p2) := (hb.cell hbl).trans (hcs _ _ hat.2.2)
      have con := HA.out wr (p0, p1, p2) hb (hx ▸ List.getElem_mem hlt)
      unfold vc at con
      dsimp only at con
      have HX : Hid (ps[k] = (p0, p1, p2)) := hx
      have HB : Hid _ := hb
      have HALL : Hid _ := hall
      clear hx hcs hb hall hat
      cases hp : P (p0, p1, p2) with
      | true =>
        rw [hp] at con
        have HP : Hid _ := hp
        clear hp
        go_wp2_with (refine con.mono ?_; rintro e w2 ⟨rfl, hb2⟩; clear con)
        go_ret
        exact ⟨⟨_, rfl, fun _ => List.any_eq_true.2 ⟨_, HX.out ▸ List.getElem_mem hlt, HP.out⟩, fun _ => Int.natCast_nonneg k⟩, HB.out.trans (hb2.mono HB.out.size)⟩
      | false =>
        rw [hp] at con
        have HP : Hid _ := hp
        clear hp
        go_wp2_with (refine con.mono ?_; rintro e w2 ⟨rfl, hb2⟩; clear con)
        go_roundw
        case rel =>
          refine ⟨k + 1, by go_num, hlt, fun y hy => ?_, HB.out.trans (hb2.mono HB.out.size)⟩
          rw [List.take_succ_eq_append_getElem hlt, List.mem_append, List.mem_singleton, HX.out] at hy
          rcases hy with hy | hy
          · exact HALL.out y hy
          · rw [hy]; exact HP.out
        case measure => simp [intOf]; omega
    · have ek : k = ps.length := by omega
      subst ek
      rw [List.take_length] at hall
      have HALL : Hid _ := hall
      clear hall
      go_wp2
      go_ret
      refine ⟨⟨-1, rfl, fun h => absurd h (by decide), fun h => ?_⟩, hb⟩
      obtain ⟨x, h1, h2⟩ := List.any_eq_true.1 h
      rw [HALL.out x h1] at h2
      cases h2

set_option maxHeartbeats 2000000 in
theorem contains_any (f : Nat) (cap : Array Value) (P : C → Bool) (v : Value) (ps : List C) (w : World) (h : IsC w v ps) (hl : ps.length ≤ 100000) (hA : Answers f cap P ps w) :
    Calls Try.prog 37 #[v, .func (.func f) #[] cap] w fun e w' => e = .returned (.bool (ps.any P)) ∧ Below w.heap.size w w' := by
  have con := index_any f cap P v ps w h hl hA
  obtain ⟨_, a, c, rfl, _, hC⟩ := h
  clear hC hA
  cases hx : ps.any P with
  | true =>
    rw [hx] at con
    clear hx
    go_enter Try.func37, Try.ntmps37
    go_wp2_with (go_at_call 50; refine con.mono ?_; rintro e w2 ⟨⟨n, rfl, hn⟩, hb2⟩; have hn' : 0 ≤ n := hn.2 rfl; clear hn con)
    go_ret
    exact ⟨rfl, hb2⟩
  | false =>
    rw [hx] at con
    clear hx
    go_enter Try.func37, Try.ntmps37
    go_wp2_with (go_at_call 50; refine con.mono ?_; rintro e w2 ⟨⟨n, rfl, hn⟩, hb2⟩; have hn' : ¬ 0 ≤ n := fun h => absurd (hn.1 h) (by decide); clear hn con)
    go_ret
    refine ⟨?_, hb2⟩
    show Ending.returned (.bool (decide (0 ≤ n))) = _
    rw [decide_eq_false (by omega)]
end Go.Proofs.Ytcnanbimpajonaa.Cg
