/- HangFlat (14) at any list of numbers. Condition: at most 1200000 numbers. -/
import Derived.Test.YtpolnkdbebjpnaaOf
namespace Go.Proofs.Ytpolnkdbebjpnaa.Hd
open Go.RowKit

/-- k stands between x and h -/
def Btw (x h k : Nat) : Prop := (x < k ∧ k < h) ∨ (h < k ∧ k < x)
set_option maxHeartbeats 4000000 in
set_option maxRecDepth 100000 in
theorem hangFlat_any (l : List Int) (a : Option Addr) (cap : Nat) (w : World) (hR : Rl w a l) (hN : l.length ≤ 1200000) :
    Calls Try.prog 14 #[.slice a l.length cap] w (SayQ (isTr l ∧ Fl l.length (un l)) w) := by
  have K12 := hangTree_any l a cap w hR hN
  by_cases hT : isTr l
  case neg =>
    obtain ⟨n, hn⟩ : ∃ n, l.length = n := ⟨_, rfl⟩
    have HT : Hid (¬ isTr l) := hT
    rw [hn] at K12 ⊢
    clear hR hN hn hT
    go_enter Try.func14, Try.ntmps14
    go_wp2_with (go_at_call 12; (with_reducible refine K12.mono ?_); clear K12; rintro e w1 ⟨z, rfl, hz, hb⟩; have HB : Hid (Below w.heap.size w w1) := hb; obtain rfl : z = false := eq_false_of_ne_true (fun e => HT.out (hz.1 e)); clear hz hb)
    try rw [Exit.noGoto_ret]
    go_ret
    exact ⟨false, rfl, ⟨fun h => by (cases h), fun h => absurd h.1 HT.out⟩, HB.out⟩
  case pos =>
    have K34 : Hid (∀ W, Below w.heap.size w W → ∀ k h, k ≤ l.length → h ≤ l.length → Calls Try.prog 34 #[.slice a l.length cap, .int .i64 (k : Int), .int .i64 (h : Int)] W (SayQ (Anc (un l) k h) W)) := fun W hW k h hk hh => hangs_any l a cap k h W (hR.below hW) hN hT hk hh
    have HL : Hid (0 < l.length → ∃ rb ro, a = some ⟨rb, ro, none⟩ ∧ ∀ W, Below w.heap.size w W → ∀ i, i < l.length → W.cell? ⟨rb, ro + i, none⟩ = some (.int .i64 (un l (i + 1) : Int))) := fun h0 => by
      obtain ⟨g, go, e1, e2, e3⟩ := hR h0
      exact ⟨g, go, e1, fun W hW i hi => by rw [← hT.1.at hi]; exact (hW.cell (p := ⟨g, go + i, none⟩) e2).trans (e3 i hi)⟩
    obtain ⟨n, hn⟩ : ∃ n, l.length = n := ⟨_, rfl⟩
    have HT : Hid (isTr l) := hT
    have HE : Hid (Tr n (un l) ∧ n ≤ 1200000) := ⟨by rw [← hn]; exact hT.2, by omega⟩
    rw [hn] at K12 K34 HL ⊢
    clear hR hN hn hT
    go_enter Try.func14, Try.ntmps14
    go_upto_region 4 with (go_at_call 12; (with_reducible refine K12.mono ?_); clear K12; rintro e w1 ⟨z, rfl, hz, hb⟩; have HB : Hid (Below w.heap.size w w1) := hb; obtain rfl : z = true := hz.2 HT.out; clear hz hb)
    go_loopw [3] (fun c wr => ∃ i : Nat, c = .int .i64 ((i + 1 : Nat) : Int) ∧ i ≤ n ∧ Below w.heap.size w wr ∧ ∀ x, 1 ≤ x → x ≤ i → ∀ k, Btw x (un l x) k → Anc (un l) k (un l x)) (fun c _ => n + 1 - (intOf c).toNat)
    case atStart => exact ⟨0, rfl, Nat.zero_le _, HB.out, fun x h1 h2 => by omega⟩
    case round =>
      obtain ⟨i, rfl, hi, hb, hx⟩ := hrel
      have HI : Hid (Below w.heap.size w wr ∧ ∀ x, 1 ≤ x → x ≤ i → ∀ k, Btw x (un l x) k → Anc (un l) k (un l x)) := ⟨hb, hx⟩
      clear hb hx
      by_cases hlt : i < n
      · obtain ⟨x, hx⟩ : ∃ x, i + 1 = x := ⟨_, rfl⟩
        have HX : Hid (i + 1 = x ∧ x ≤ n ∧ 1 ≤ x) := ⟨hx, by omega, by omega⟩
        have hxn : (x : Int) ≤ (n : Int) := by omega
        have hx1 : 1 ≤ x := by omega
        have hx2 : (x : Int) - 1 < (n : Int) := by omega
        have hnb : n ≤ 1200000 := HE.out.2
        obtain ⟨rb, ro, rfl, hcl⟩ := HL.out (by omega)
        have c0 := hcl wr HI.out.1 i hlt
        rw [hx] at c0 ⊢
        rw [show i = x - 1 by omega] at c0
        obtain ⟨h, hh⟩ : ∃ h, un l x = h := ⟨_, rfl⟩
        have HH : Hid (un l x = h ∧ h ≤ n) := ⟨hh, by rw [← hh]; exact HE.out.1.it_le 1 (by omega)⟩
        rw [hh] at c0
        clear hcl hx hlt hi hh
        go_upto_region 8 with fail
        clear c0 hx2 hx1
        go_loopw [5] (fun c wr => ∃ j : Nat, c = .int .i64 ((j + 1 : Nat) : Int) ∧ j ≤ n ∧ Below w.heap.size w wr ∧ ∀ k, k ≤ j → Btw x h k → Anc (un l) k h) (fun c _ => n + 1 - (intOf c).toNat)
        case atStart => exact ⟨0, rfl, Nat.zero_le _, HI.out.1, fun k hk hb => by rcases hb with hb | hb <;> omega⟩
        case round =>
          obtain ⟨j, rfl, hj, hb, hx⟩ := hrel
          have HJ : Hid (Below w.heap.size w wr ∧ ∀ k, k ≤ j → Btw x h k → Anc (un l) k h) := ⟨hb, hx⟩
          clear hb hx
          obtain ⟨k, hk⟩ : ∃ k, j + 1 = k := ⟨_, rfl⟩
          have HK : Hid (j + 1 = k) := hk
          by_cases hlt : j < n
          · have hkn : (k : Int) ≤ (n : Int) := by omega
            rw [hk]
            clear hk hj hlt
            by_cases hbt : Btw x h k
            · have HBT : Hid (Btw x h k) := hbt
              have K := K34.out wr HJ.out.1 k h (by omega) HH.out.2
              by_cases ha : Anc (un l) k h
              · have HA : Hid (Anc (un l) k h) := ha
                clear ha
                by_cases q1 : (x : Int) < (k : Int)
                · have q2 : (k : Int) < (h : Int) := by unfold Btw at hbt; omega
                  clear hbt
                  go_wp2_with (go_at_call 34; (with_reducible refine K.mono ?_); clear K; rintro e w2 ⟨z, rfl, hz, hb⟩; have HB2 : Hid (Below w.heap.size w w2) := HJ.out.1.trans (hb.mono HJ.out.1.size); obtain rfl : z = true := hz.2 HA.out; clear hz hb)
                  go_roundw
                  case rel => exact ⟨k, by go_num, by omega, HB2.out, fun y hy hbt => by
                    by_cases e : y = k
                    · rw [e]; exact HA.out
                    · exact HJ.out.2 y (by have := HK.out; omega) hbt⟩
                  case measure => have := HK.out; simp [intOf]; omega
                · have q2 : (h : Int) < (k : Int) := by unfold Btw at hbt; omega
                  have q3 : (k : Int) < (x : Int) := by unfold Btw at hbt; omega
                  clear hbt
                  go_wp2_with (go_at_call 34; (with_reducible refine K.mono ?_); clear K; rintro e w2 ⟨z, rfl, hz, hb⟩; have HB2 : Hid (Below w.heap.size w w2) := HJ.out.1.trans (hb.mono HJ.out.1.size); obtain rfl : z = true := hz.2 HA.out; clear hz hb)
                  go_roundw
                  case rel => exact ⟨k, by go_num, by omega, HB2.out, fun y hy hbt => by
                    by_cases e : y = k
                    · rw [e]; exact HA.out
                    · exact HJ.out.2 y (by have := HK.out; omega) hbt⟩
                  case measure => have := HK.out; simp [intOf]; omega
              · have HA : Hid (¬ Anc (un l) k h) := ha
                have HF : Hid (¬ Fl n (un l)) := fun hF => ha (by have := hF x HX.out.2.1 k (by rw [HH.out.1]; exact hbt); rw [HH.out.1] at this; exact this)
                clear ha
                by_cases q1 : (x : Int) < (k : Int)
                · have q2 : (k : Int) < (h : Int) := by unfold Btw at hbt; omega
                  clear hbt
                  go_wp2_with (go_at_call 34; (with_reducible refine K.mono ?_); clear K; rintro e w2 ⟨z, rfl, hz, hb⟩; have HB2 : Hid (Below w.heap.size w w2) := HJ.out.1.trans (hb.mono HJ.out.1.size); obtain rfl : z = false := eq_false_of_ne_true (fun e => HA.out (hz.1 e)); clear hz hb)
                  try rw [Exit.noGoto_ret]
                  go_ret
                  exact ⟨false, rfl, ⟨fun h => by (cases h), fun h => absurd h.2 HF.out⟩, HB2.out⟩
                · have q2 : (h : Int) < (k : Int) := by unfold Btw at hbt; omega
                  have q3 : (k : Int) < (x : Int) := by unfold Btw at hbt; omega
                  clear hbt
                  go_wp2_with (go_at_call 34; (with_reducible refine K.mono ?_); clear K; rintro e w2 ⟨z, rfl, hz, hb⟩; have HB2 : Hid (Below w.heap.size w w2) := HJ.out.1.trans (hb.mono HJ.out.1.size); obtain rfl : z = false := eq_false_of_ne_true (fun e => HA.out (hz.1 e)); clear hz hb)
                  try rw [Exit.noGoto_ret]
                  go_ret
                  exact ⟨false, rfl, ⟨fun h => by (cases h), fun h => absurd h.2 HF.out⟩, HB2.out⟩
            · have HR2 : Hid (∀ y, y ≤ k → Btw x h y → Anc (un l) y h) := fun y hy hb2 => by
                by_cases e : y = k
                · rw [e] at hb2; exact absurd hb2 hbt
                · exact HJ.out.2 y (by have := HK.out; omega) hb2
              by_cases q1 : (x : Int) < (k : Int)
              · have q2 : ¬ (k : Int) < (h : Int) := by unfold Btw at hbt; omega
                have q3 : ¬ (k : Int) < (x : Int) := by omega
                clear hbt
                by_cases q4 : (h : Int) < (k : Int)
                · go_wp2
                  go_roundw
                  case rel => exact ⟨k, by go_num, by omega, HJ.out.1, HR2.out⟩
                  case measure => have := HK.out; simp [intOf]; omega
                · go_wp2
                  go_roundw
                  case rel => exact ⟨k, by go_num, by omega, HJ.out.1, HR2.out⟩
                  case measure => have := HK.out; simp [intOf]; omega
              · by_cases q4 : (h : Int) < (k : Int)
                · have q3 : ¬ (k : Int) < (x : Int) := by unfold Btw at hbt; omega
                  clear hbt
                  go_wp2
                  go_roundw
                  case rel => exact ⟨k, by go_num, by omega, HJ.out.1, HR2.out⟩
                  case measure => have := HK.out; simp [intOf]; omega
                · clear hbt
                  go_wp2
                  go_roundw
                  case rel => exact ⟨k, by go_num, by omega, HJ.out.1, HR2.out⟩
                  case measure => have := HK.out; simp [intOf]; omega
          · have hkn : ¬ (k : Int) ≤ (n : Int) := by omega
            have HD : Hid (∀ y, 1 ≤ y → y ≤ x → ∀ k, Btw y (un l y) k → Anc (un l) k (un l y)) := fun y h1 h2 q hb2 => by
              by_cases e : y = x
              · subst e
                rw [HH.out.1] at hb2 ⊢
                refine HJ.out.2 q ?_ hb2
                have := HX.out; have := HH.out.2
                unfold Btw at hb2; omega
              · exact HI.out.2 y h1 (by have := HX.out; omega) q hb2
            rw [hk]
            clear hk hj hlt
            go_wp2
            go_roundw
            case rel => exact ⟨x, by go_num, HX.out.2.1, HJ.out.1, HD.out⟩
            case measure => have := HX.out; simp [intOf]; omega
      · obtain rfl : i = n := by omega
        have HF : Hid (Fl i (un l)) := fun x hx k hk => by
          rcases Nat.eq_zero_or_pos x with e | e
          · subst e; rw [un_zero] at hk; omega
          · exact HI.out.2 x e hx k hk
        have hii : ¬ ((i + 1 : Nat) : Int) ≤ (i : Int) := by omega
        obtain ⟨j, hj⟩ : ∃ j, i + 1 = j := ⟨_, rfl⟩
        rw [hj] at hii ⊢
        go_wp2
        try rw [Exit.noGoto_ret]
        go_ret
        exact ⟨true, rfl, ⟨fun _ => ⟨HT.out, HF.out⟩, fun _ => rfl⟩, HI.out.1⟩
end Go.Proofs.Ytpolnkdbebjpnaa.Hd
