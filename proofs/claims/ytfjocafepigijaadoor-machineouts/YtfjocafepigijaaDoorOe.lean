/- The document's Less (13): which of two lists of numbers comes first. Condition: the first is no longer than 61. -/
import Derived.Test.YtfjocafepigijaaDoorSy
import Derived.Deep.QuietTactic
import Derived.BigQuiet
import Derived.Deep.Cut
namespace Go.Proofs.YtfjocafepigijaaDoor.Ot
open Go.RowKit Mv Sy

def lt2 : List Int → List Int → Bool
  | [], [] => false
  | [], _ :: _ => true
  | _ :: _, [] => false
  | x :: a, y :: b => if x = y then lt2 a b else decide (x < y)
theorem lt2_diff : ∀ {k : Nat} {a b : List Int} {x y : Int}, (∀ j, j < k → a[j]? = b[j]?) → a[k]? = some x → b[k]? = some y → x ≠ y → lt2 a b = decide (x < y)
  | _, [], _, _, _, _, h, _, _ => by simp at h
  | _, _ :: _, [], _, _, _, _, h, _ => by simp at h
  | 0, u :: a, v :: b, x, y, _, h1, h2, hne => by
    simp only [List.getElem?_cons_zero, Option.some.injEq] at h1 h2
    subst h1 h2
    unfold lt2
    rw [if_neg hne]
  | k + 1, u :: a, v :: b, x, y, h, h1, h2, hne => by
    have h0 := h 0 (by omega)
    simp only [List.getElem?_cons_zero, Option.some.injEq] at h0
    subst h0
    unfold lt2
    rw [if_pos rfl]
    exact lt2_diff (k := k) (fun j hj => by have := h (j + 1) (by omega); simpa using this) (by simpa using h1) (by simpa using h2) hne
theorem lt2_len : ∀ {a b : List Int}, (∀ j, j < a.length → j < b.length → a[j]? = b[j]?) → lt2 a b = decide (a.length < b.length)
  | [], [], _ => rfl
  | [], _ :: _, _ => by simp [lt2]
  | _ :: _, [], _ => by simp [lt2]
  | u :: a, v :: b, h => by
    have h0 := h 0 (by simp) (by simp)
    simp only [List.getElem?_cons_zero, Option.some.injEq] at h0
    subst h0
    unfold lt2
    rw [if_pos rfl, lt2_len (fun j hj hj' => by have := h (j + 1) (by simpa using hj) (by simpa using hj'); simpa using this)]
    simp
set_option maxHeartbeats 4000000 in
set_option maxRecDepth 100000 in
theorem less_any (a b : List Int) (va vb : Value) (w : World) (ha : IsI w va a) (hb : IsI w vb b) (hl : a.length ≤ 61) : Calls Tryd.prog 13 #[va, vb] w fun e w' => e = .returned (.bool (lt2 a b)) ∧ Below w.heap.size w w' := by
  obtain ⟨_, aa, ca, rfl, _, hA⟩ := ha
  obtain ⟨_, ab, cb, rfl, _, hB⟩ := hb
  have HA : Hid (a.length = 0 ∨ ∃ b off, aa = some ⟨b, off, none⟩ ∧ b < w.heap.size ∧ ∀ j u, (ints a)[j]? = some u → w.cell? ⟨b, off + j, none⟩ = some u) := hA
  have HB : Hid (b.length = 0 ∨ ∃ c off, ab = some ⟨c, off, none⟩ ∧ c < w.heap.size ∧ ∀ j u, (ints b)[j]? = some u → w.cell? ⟨c, off + j, none⟩ = some u) := hB
  clear hA hB
  go_enter Tryd.func13, Tryd.ntmps13
  go_wp2
  go_loopw [5] (fun i wr => ∃ k : Nat, i = .int .i64 k ∧ k ≤ a.length ∧ k ≤ b.length ∧ Below w.heap.size w wr ∧ ∀ j, j < k → a[j]? = b[j]?) (fun i _ => a.length - (intOf i).toNat)
  case atStart => exact ⟨0, rfl, Nat.zero_le _, Nat.zero_le _, Below.refl _ _, fun j h => by omega⟩
  case round =>
    obtain ⟨k, rfl, hk, hkb, hbw, hok⟩ := hrel
    have HK : Hid (∀ j, j < k → a[j]? = b[j]?) := hok
    have HW : Hid (Below w.heap.size w wr) := hbw
    clear hok
    by_cases hlt : k < a.length
    · by_cases hltb : k < b.length
      · obtain ⟨g, off, rfl, hbl, hcs⟩ := HA.out.resolve_left (by omega)
        obtain ⟨h, off', rfl, hbl', hcs'⟩ := HB.out.resolve_left (by omega)
        obtain ⟨x, hx⟩ : ∃ x, a[k] = x := ⟨_, rfl⟩
        obtain ⟨y, hy⟩ : ∃ y, b[k] = y := ⟨_, rfl⟩
        have c1 : wr.cell? ⟨g, off + k, none⟩ = some (.int .i64 x) := by rw [← hx]; exact (hbw.cell hbl).trans (hcs k _ (ints_at hlt))
        have c2 : wr.cell? ⟨h, off' + k, none⟩ = some (.int .i64 y) := by rw [← hy]; exact (hbw.cell hbl').trans (hcs' k _ (ints_at hltb))
        have HX : Hid (a[k]? = some x ∧ b[k]? = some y) := ⟨by rw [List.getElem?_eq_getElem hlt, hx], by rw [List.getElem?_eq_getElem hltb, hy]⟩
        clear hx hy hbw
        by_cases hxy : x = y
        · subst hxy
          have e1 : (x != x) = false := by simp
          go_wp2
          repeat (go_quiet (fail); go_wp2)
          go_roundw
          case rel =>
            refine ⟨k + 1, by go_num, hlt, hltb, by first | exact HW.out | exact below_drewN HW.out _, fun j hj => ?_⟩
            by_cases e : j = k
            · subst e; rw [HX.out.1, HX.out.2]
            · exact HK.out j (by omega)
          case measure => simp [intOf]; omega
        · have e1 : (x != y) = true := by simpa using hxy
          have HN : Hid (lt2 a b = decide (x < y)) := lt2_diff HK.out HX.out.1 HX.out.2 hxy
          clear hxy
          go_wp2
          repeat (go_quiet (fail); go_wp2)
          go_ret
          exact ⟨by rw [HN.out]; rfl, by first | exact below_drewN (below_drewN HW.out _) _ | exact below_drewN HW.out _ | exact HW.out⟩
      · have HN : Hid (lt2 a b = decide (a.length < b.length)) := lt2_len (fun j h1 h2 => HK.out j (by omega))
        clear hbw
        go_wp2
        go_ret
        exact ⟨by rw [HN.out]; simp, HW.out⟩
    · have HN : Hid (lt2 a b = decide (a.length < b.length)) := lt2_len (fun j h1 h2 => HK.out j (by omega))
      clear hbw
      go_wp2
      go_ret
      exact ⟨by rw [HN.out]; simp, HW.out⟩
end Go.Proofs.YtfjocafepigijaaDoor.Ot
