/- The document's CheckScore (6): it says what Check says. No conditions but how the rows lie. -/
import Derived.Test.YtpolnkdbebjpnaaNi
namespace Go.Proofs.Ytpolnkdbebjpnaa.Hd
open Go.RowKit

/-- whether a number of the first i rows is out of bounds -/
def fo (rows : List (List Int)) (i : Nat) : Bool := (rows.take i).any fun r => r.any outB
def fi (l : List Int) (k : Nat) : Bool := (l.take k).any outB
theorem fo_up {rows : List (List Int)} {i : Nat} (h : i < rows.length) : fo rows (i + 1) = (fo rows i || (rows.getD i []).any outB) := by
  unfold fo
  rw [List.take_add_one, List.any_append, List.getD_eq_getElem?_getD, List.getElem?_eq_getElem h]
  simp
theorem fi_up {l : List Int} {k : Nat} (h : k < l.length) : fi l (k + 1) = (fi l k || outB (l.getD k 0)) := by
  unfold fi
  rw [List.take_add_one, List.any_append, List.getD_eq_getElem?_getD, List.getElem?_eq_getElem h]
  simp
theorem fi_all (l : List Int) : fi l l.length = l.any outB := by unfold fi; rw [List.take_length]
theorem fo_all (rows : List (List Int)) : fo rows rows.length = rows.any (fun r => r.any outB) := by unfold fo; rw [List.take_length]
set_option maxHeartbeats 4000000 in
set_option maxRecDepth 100000 in
theorem score_any (rows : List (List Int)) (a : Option Addr) (b off cap : Nat) (ra : Nat → Option Addr) (rc : Nat → Nat) (w : World) (hR : Rw w a b off ra rc rows) (hN : rows.length ≤ 140737488355328) :
    Calls Try.prog 6 #[.slice a rows.length cap] w fun e w' => e = .returned (.int .i64 (chk rows)) ∧ Below w.heap.size w w' := by
  obtain ⟨n, hn⟩ : ∃ n, rows.length = n := ⟨_, rfl⟩
  have HN : Hid (rows.length = n) := hn
  by_cases h0 : n = 0
  · subst h0
    have HC : Hid (chk rows = 7) := by show _ = _; unfold chk; rw [if_pos (.inl hn)]
    rw [hn, HC.out]
    clear hR hN hn
    go_enter Try.func6, Try.ntmps6
    go_wp2
    go_ret
    exact ⟨rfl, Below.refl _ _⟩
  · by_cases h1 : 13 < n
    · have HC : Hid (chk rows = 7) := by show _ = _; unfold chk; rw [if_pos (.inr (by omega))]
      rw [hn, HC.out]
      have q1 : ¬ (n : Int) < 1 := by omega
      have q2 : 13 < (n : Int) := by omega
      clear hR hN hn h0 h1
      go_enter Try.func6, Try.ntmps6
      go_wp2
      go_ret
      exact ⟨rfl, Below.refl _ _⟩
    · obtain ⟨m, hm⟩ : ∃ k, n = k + 1 := ⟨n - 1, by omega⟩
      subst hm
      have HK : Hid (m + 1 = m + 1 ∧ m ≤ 12) := ⟨rfl, by omega⟩
      obtain ⟨rfl, hbl⟩ := hR.a0 (by omega)
      have HR : Hid (∀ W, Below w.heap.size w W → Rw W (some ⟨b, off, none⟩) b off ra rc rows) := fun W hW => hR.below hW
      have HN0 : Hid (¬ (rows.length = 0 ∨ 13 < rows.length)) := by show ¬ _; omega
      have hm12 : m ≤ 12 := HK.out.2
      rw [hn]
      clear hR hN hn h0 h1 hbl
      go_enter Try.func6, Try.ntmps6
      go_upto_region 5 with fail
      go_loopw [3, 4] (fun f c wr => ∃ i : Nat, f = .bool (fo rows i) ∧ c = .int .i64 (i : Int) ∧ i ≤ m + 1 ∧ Below w.heap.size w wr ∧ ∀ j, j < i → (rows.getD j []).length = m) (fun _ c _ => m + 1 - (intOf c).toNat)
      case atStart => exact ⟨0, rfl, rfl, Nat.zero_le _, Below.refl _ _, fun j hj => absurd hj (Nat.not_lt_zero _)⟩
      case round =>
        obtain ⟨i, rfl, rfl, hi, hb, hl⟩ := hrel
        have HI : Hid (Below w.heap.size w wr ∧ ∀ j, j < i → (rows.getD j []).length = m) := ⟨hb, hl⟩
        clear hb hl
        obtain ⟨f0, hf0⟩ : ∃ f, fo rows i = f := ⟨_, rfl⟩
        have HF0 : Hid (fo rows i = f0) := hf0
        rw [hf0]
        clear hf0
        by_cases hlt : i < m + 1
        · have hii : (i : Int) < (m : Int) + 1 := by omega
          have c0 := (HR.out wr HI.out.1).row i (by have := HN.out; omega)
          obtain ⟨l, hl⟩ : ∃ l, rows.getD i [] = l := ⟨_, rfl⟩
          have HL : Hid (rows.getD i [] = l) := hl
          have hrl := (HR.out wr HI.out.1).num i (by have := HN.out; omega)
          rw [hl] at c0 hrl
          have HRL : Hid (Rl wr (ra i) l) := hrl
          obtain ⟨ll, hll⟩ : ∃ k, l.length = k := ⟨_, rfl⟩
          have HLL : Hid (l.length = ll) := hll
          rw [hll] at c0
          clear hl hrl hll
          by_cases heq : ll = m
          · have HLM : Hid (ll = m) := heq
            subst heq
            go_upto_region 10 with fail
            go_loopw [3, 5] (fun f c w2 => ∃ k : Nat, f = .bool (f0 || fi l k) ∧ c = .int .i64 (k : Int) ∧ k ≤ ll ∧ w2 = wr) (fun _ c _ => ll - (intOf c).toNat)
            case atStart => exact ⟨0, by simp [fi], rfl, Nat.zero_le _, rfl⟩
            case round =>
              obtain ⟨k, rfl, rfl, hk, rfl⟩ := hrel
              obtain ⟨f1, hf1⟩ : ∃ f, (f0 || fi l k) = f := ⟨_, rfl⟩
              have HF1 : Hid ((f0 || fi l k) = f1) := hf1
              rw [hf1]
              clear hf1
              by_cases hlk : k < ll
              · have hkk : (k : Int) < (ll : Int) := by omega
                obtain ⟨rb, ro, e1, _, hcc⟩ := HRL.out (by rw [HLL.out]; omega)
                have c1 := hcc k (by rw [HLL.out]; exact hlk)
                rw [e1] at c0
                obtain ⟨x, hx⟩ : ∃ x, l.getD k 0 = x := ⟨_, rfl⟩
                rw [hx] at c1
                have HX : Hid ((f0 || fi l (k + 1)) = (f1 || outB x)) := by show _ = _; rw [fi_up (by rw [HLL.out]; exact hlk), hx, ← Bool.or_assoc, HF1.out]
                clear e1 hcc hx
                cases f1 with
                | true =>
                  go_wp2
                  go_roundw
                  case rel => exact ⟨k + 1, by rw [HX.out]; rfl, by go_num, by omega, by first | rfl | trivial⟩
                  case measure => simp [intOf]; omega
                | false =>
                  by_cases hx1 : x < -1000000
                  · have HO : Hid (outB x = true) := by show _ = _; unfold outB; simp [hx1]
                    go_wp2
                    go_roundw
                    case rel => exact ⟨k + 1, by rw [HX.out, HO.out]; rfl, by go_num, by omega, by first | rfl | trivial⟩
                    case measure => simp [intOf]; omega
                  · have HO : Hid (outB x = decide (1000000 < x)) := by show _ = _; unfold outB; simp [hx1]
                    go_wp2
                    go_roundw
                    case rel => exact ⟨k + 1, by rw [HX.out, HO.out]; rfl, by go_num, by omega, by first | rfl | trivial⟩
                    case measure => simp [intOf]; omega
              · have e9 : k = ll := by omega
                subst e9
                have HX : Hid (fo rows (i + 1) = f1) := by
                  show _ = _
                  rw [fo_up (by have := HN.out; omega), HF0.out, HL.out, ← fi_all, HLL.out, HF1.out]
                go_wp2
                go_roundw
                case rel => exact ⟨i + 1, by rw [HX.out], by go_num, hlt, HI.out.1, fun j hj => by
                  by_cases e : j = i
                  · rw [e, HL.out, HLL.out]
                  · exact HI.out.2 j (by omega)⟩
                case measure => simp [intOf]; omega
          · have q3 : ((ll : Int) != (m : Int)) = true := by simp; omega
            have q3' : ¬ (ll : Int) = (m : Int) := by omega
            have HC : Hid (chk rows = 1) := by
              show _ = _
              unfold chk
              rw [if_neg HN0.out, if_pos]
              have hil : i < rows.length := by have := HN.out; omega
              rw [List.any_eq_true]
              refine ⟨rows.getD i [], by rw [List.getD_eq_getElem?_getD, List.getElem?_eq_getElem hil]; exact List.getElem_mem hil, ?_⟩
              rw [HL.out, HLL.out]
              have h1 := HN.out
              have h2 := HK.out.1
              simp
              omega
            go_wp2
            try rw [Exit.noGoto_ret]
            go_ret
            exact ⟨by rw [HC.out]; rfl, HI.out.1⟩
        · have e9 : i = m + 1 := by omega
          subst e9
          have hno : ¬ (rows.any (fun r => !decide (r.length + 1 = rows.length)) = true) := fun h => by
            obtain ⟨r, hr, hx⟩ := List.any_eq_true.1 h
            obtain ⟨j, hj, e⟩ := List.getElem_of_mem hr
            have h2 := HI.out.2 j (by rw [← HN.out]; exact hj)
            rw [List.getD_eq_getElem?_getD, List.getElem?_eq_getElem hj] at h2
            have h3 : r.length = m := by rw [← e]; exact h2
            have h4 := HN.out
            have h5 := HK.out.1
            simp at hx
            omega
          have HC : Hid (chk rows = if f0 = true then 3 else 0) := by
            show _ = _
            unfold chk
            rw [if_neg HN0.out, if_neg hno, ← fo_all, HN.out, HF0.out]
          clear hno
          cases f0 with
          | true =>
            go_wp2
            go_ret
            exact ⟨by rw [HC.out]; rfl, HI.out.1⟩
          | false =>
            go_wp2
            go_ret
            exact ⟨by rw [HC.out]; rfl, HI.out.1⟩
end Go.Proofs.Ytpolnkdbebjpnaa.Hd
