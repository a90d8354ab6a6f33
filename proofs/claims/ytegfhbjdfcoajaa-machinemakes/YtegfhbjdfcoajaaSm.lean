/- Same: of any two lists. Condition: the first is not longer than 61. -/
import Derived.Test.YtegfhbjdfcoajaaSy
namespace Go.Proofs.Ytegfhbjdfcoajaa.Sm
open Go.RowKit Mv Sy

set_option maxHeartbeats 1000000 in
set_option maxRecDepth 100000 in
theorem same_any (a b : List Int) (va vb : Value) (w : World) (ha : IsI w va a) (hb : IsI w vb b) (hl : a.length ≤ 61) : Calls Try.prog 15 #[va, vb] w fun e w' => e = .returned (.bool (decide (a = b))) ∧ Below w.heap.size w w' := by
  obtain ⟨_, aa, ca, rfl, _, hA⟩ := ha
  obtain ⟨_, ab, cb, rfl, hnb, hB⟩ := hb
  have HA : Hid (a.length = 0 ∨ ∃ b off, aa = some ⟨b, off, none⟩ ∧ b < w.heap.size ∧ ∀ j u, (ints a)[j]? = some u → w.cell? ⟨b, off + j, none⟩ = some u) := hA
  have HB : Hid (b.length = 0 ∨ ∃ c off, ab = some ⟨c, off, none⟩ ∧ c < w.heap.size ∧ ∀ j u, (ints b)[j]? = some u → w.cell? ⟨c, off + j, none⟩ = some u) := hB
  clear hA hB
  by_cases hlen : a.length = b.length
  · have hlb : b.length ≤ 61 := by omega
    have HL : Hid (a.length = b.length) := hlen
    have e0 : ((a.length : Int) != (b.length : Int)) = false := by rw [hlen]; simp
    clear hlen hnb
    go_enter Try.func15, Try.ntmps15
    go_wp2
    go_loopw [5] (fun i wr => ∃ k : Nat, i = .int .i64 k ∧ k ≤ a.length ∧ Below w.heap.size w wr ∧ ∀ j, j < k → a[j]? = b[j]?) (fun i _ => a.length - (intOf i).toNat)
    case atStart => exact ⟨0, rfl, Nat.zero_le _, Below.refl _ _, fun j h => by omega⟩
    case round =>
      obtain ⟨k, rfl, hk, hbw, hok⟩ := hrel
      have HK : Hid (∀ j, j < k → a[j]? = b[j]?) := hok
      clear hok
      by_cases hlt : k < a.length
      · have hltb : k < b.length := by have := HL.out; omega
        obtain ⟨g, off, rfl, hbl, hcs⟩ := HA.out.resolve_left (by omega)
        obtain ⟨h, off', rfl, hbl', hcs'⟩ := HB.out.resolve_left (by omega)
        obtain ⟨x, hx⟩ : ∃ x, a[k] = x := ⟨_, rfl⟩
        obtain ⟨y, hy⟩ : ∃ y, b[k] = y := ⟨_, rfl⟩
        have c1 : wr.cell? ⟨g, off + k, none⟩ = some (.int .i64 x) := by rw [← hx]; exact (hbw.cell hbl).trans (hcs k _ (ints_at hlt))
        have c2 : wr.cell? ⟨h, off' + k, none⟩ = some (.int .i64 y) := by rw [← hy]; exact (hbw.cell hbl').trans (hcs' k _ (ints_at hltb))
        have HX : Hid (a[k]? = some x ∧ b[k]? = some y) := ⟨by rw [List.getElem?_eq_getElem hlt, hx], by rw [List.getElem?_eq_getElem hltb, hy]⟩
        have HW : Hid (Below w.heap.size w wr) := hbw
        clear hx hy hbw
        by_cases hxy : x = y
        · subst hxy
          have e1 : (x != x) = false := by simp
          go_wp2
          repeat (go_quiet (fail); go_wp2)
          go_roundw
          case rel =>
            refine ⟨k + 1, by go_num, hlt, by first | exact HW.out | exact below_drewN HW.out _, fun j hj => ?_⟩
            by_cases e : j = k
            · subst e; rw [HX.out.1, HX.out.2]
            · exact HK.out j (by omega)
          case measure => simp [intOf]; omega
        · have e1 : (x != y) = true := by simpa using hxy
          have HN : Hid (decide (a = b) = false) := decide_eq_false (fun e => by
            have h1 := HX.out.1
            rw [e, HX.out.2] at h1
            exact hxy (Option.some.inj h1).symm)
          go_wp2
          repeat (go_quiet (fail); go_wp2)
          go_ret
          exact ⟨by rw [HN.out]; rfl, by first | exact HW.out | exact below_drewN HW.out _⟩
      · have HT : Hid (decide (a = b) = true) := decide_eq_true (List.ext_getElem? fun j => by
          by_cases h : j < k
          · exact HK.out j h
          · have := HL.out
            rw [List.getElem?_eq_none (by omega), List.getElem?_eq_none (by omega)])
        go_wp2
        go_ret
        exact ⟨by rw [HT.out]; rfl, hbw⟩
  · have e0 : ((a.length : Int) != (b.length : Int)) = true := by simp; omega
    have HN : Hid (decide (a = b) = false) := decide_eq_false (fun e => hlen (by rw [e]))
    go_enter Try.func15, Try.ntmps15
    go_wp2
    go_ret
    exact ⟨by rw [HN.out]; rfl, Below.refl _ _⟩
end Go.Proofs.Ytegfhbjdfcoajaa.Sm
