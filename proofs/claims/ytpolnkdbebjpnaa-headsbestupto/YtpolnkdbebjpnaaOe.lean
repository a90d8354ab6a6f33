/- Tree (11): whether a list of numbers is a tree. Condition: at most 1200000 numbers. -/
import Derived.Test.YtpolnkdbebjpnaaOd
namespace Go.Proofs.Ytpolnkdbebjpnaa.Hd
open Go.RowKit

def offB (n : Nat) (x : Int) : Bool := decide (x < 0) || decide ((n : Int) < x)
set_option maxRecDepth 100000 in
theorem isNone_any (x : Int) (pw n cap : Nat) (a : Option Addr) (w : World) (hp : w.cell? ⟨pw, 0, none⟩ = some (.slice a n cap)) : Calls Try.prog 31 #[.int .i64 x, .pointer (some ⟨pw, 0, none⟩)] w fun e w' => e = .returned (.bool (offB n x)) ∧ Below w.heap.size w w' := by
  have HO : Hid (offB n x = (decide (x < 0) || decide ((n : Int) < x))) := rfl
  by_cases h1 : x < 0
  · have q1 : decide (x < 0) = true := by simp [h1]
    go_enter Try.func31, Try.ntmps31
    go_wp2
    go_ret
    exact ⟨by rw [HO.out, q1]; rfl, Below.refl _ _⟩
  · have q1 : decide (x < 0) = false := by simp [h1]
    go_enter Try.func31, Try.ntmps31
    go_wp2
    go_ret
    exact ⟨by rw [HO.out, q1]; rfl, Below.refl _ _⟩
set_option maxHeartbeats 2000000 in
set_option maxRecDepth 100000 in
theorem idx_31 (val : Nat → Value) (p : Nat → Bool) (pw b off n cap : Nat) (a : Option Addr) (w : World) (ha : 0 < n → a = some ⟨b, off, none⟩ ∧ b < w.heap.size) (hn : n ≤ 1200000) (hc : ∀ j, j < n → w.cell? ⟨b, off + j, none⟩ = some (val j)) (hf : ∀ j, j < n → ∀ W, Below w.heap.size w W → Calls Try.prog 31 #[val j, .pointer (some ⟨pw, 0, none⟩)] W fun e W' => e = .returned (.bool (p j)) ∧ Below W.heap.size W W') :
    Calls Try.prog 45 #[.slice a n cap, .func (.func 31) #[] #[.pointer (some ⟨pw, 0, none⟩)]] w fun e w' => ∃ z : Int, e = .returned (.int .i64 z) ∧ (0 ≤ z ↔ ∃ j, j < n ∧ p j = true) ∧ Below w.heap.size w w' := by
  have HA : Hid (0 < n → a = some ⟨b, off, none⟩ ∧ b < w.heap.size) := ha
  have HC : Hid (∀ W, Below w.heap.size w W → ∀ j, j < n → W.cell? ⟨b, off + j, none⟩ = some (val j)) := fun W hW j hj => (hW.cell (p := ⟨b, off + j, none⟩) (ha (by omega)).2).trans (hc j hj)
  have HF : Hid (∀ j, j < n → ∀ W, Below w.heap.size w W → Calls Try.prog 31 #[val j, .pointer (some ⟨pw, 0, none⟩)] W fun e W' => e = .returned (.bool (p j)) ∧ Below W.heap.size W W') := hf
  have HN : Hid (n ≤ 1200000) := hn
  clear ha hc hf hn
  go_enter Try.func45, Try.ntmps45
  go_upto_region 2 with fail
  go_loopw [8] (fun c wr => ∃ i : Nat, c = .int .i64 (i : Int) ∧ i ≤ n ∧ Below w.heap.size w wr ∧ ∀ j, j < i → p j = false) (fun c _ => n - (intOf c).toNat)
  case atStart => exact ⟨0, rfl, Nat.zero_le _, Below.refl _ _, fun j hj => absurd hj (Nat.not_lt_zero _)⟩
  case round =>
    obtain ⟨i, rfl, hi, hb, hp⟩ := hrel
    have HI : Hid (Below w.heap.size w wr ∧ ∀ j, j < i → p j = false) := ⟨hb, hp⟩
    clear hb hp
    by_cases hlt : i < n
    · obtain ⟨rfl, _⟩ := HA.out (by omega)
      have hii : (i : Int) < (n : Int) := by omega
      have hnb := HN.out
      obtain ⟨u, hu⟩ : ∃ u, val i = u := ⟨_, rfl⟩
      have c0 := HC.out wr HI.out.1 i hlt
      rw [hu] at c0
      have K := HF.out i hlt wr HI.out.1
      rw [hu] at K
      clear hu
      by_cases hpi : p i = true
      · rw [hpi] at K
        have HP : Hid (p i = true) := hpi
        clear hpi
        go_wp2_with (go_at_call 31; (with_reducible refine K.mono ?_); clear K; rintro e w1 ⟨rfl, hb1⟩; have HB1 : Hid (Below w.heap.size w w1) := HI.out.1.trans (hb1.mono HI.out.1.size); clear hb1)
        try rw [Exit.noGoto_ret]
        go_ret
        exact ⟨i, rfl, ⟨fun _ => ⟨i, hlt, HP.out⟩, fun _ => by omega⟩, HB1.out⟩
      · have hpf : p i = false := by simpa using hpi
        rw [hpf] at K
        have HP : Hid (p i = false) := hpf
        clear hpi hpf
        go_wp2_with (go_at_call 31; (with_reducible refine K.mono ?_); clear K; rintro e w1 ⟨rfl, hb1⟩; have HB1 : Hid (Below w.heap.size w w1) := HI.out.1.trans (hb1.mono HI.out.1.size); clear hb1)
        go_roundw
        case rel => exact ⟨i + 1, by go_num, by omega, HB1.out, fun j hj => by
          by_cases e : j = i
          · rw [e]; exact HP.out
          · exact HI.out.2 j (by omega)⟩
        case measure => simp [intOf]; omega
    · obtain rfl : i = n := by omega
      go_wp2
      go_ret
      refine ⟨-1, rfl, ⟨fun h => absurd h (by decide), fun ⟨j, hj, hpj⟩ => ?_⟩, HI.out.1⟩
      rw [HI.out.2 j hj] at hpj
      cases hpj
set_option maxRecDepth 100000 in
theorem has_31 (val : Nat → Value) (p : Nat → Bool) (pw b off n cap : Nat) (a : Option Addr) (w : World) (ha : 0 < n → a = some ⟨b, off, none⟩ ∧ b < w.heap.size) (hn : n ≤ 1200000) (hc : ∀ j, j < n → w.cell? ⟨b, off + j, none⟩ = some (val j)) (hf : ∀ j, j < n → ∀ W, Below w.heap.size w W → Calls Try.prog 31 #[val j, .pointer (some ⟨pw, 0, none⟩)] W fun e W' => e = .returned (.bool (p j)) ∧ Below W.heap.size W W') :
    Calls Try.prog 30 #[.slice a n cap, .func (.func 31) #[] #[.pointer (some ⟨pw, 0, none⟩)]] w fun e w' => ∃ z : Bool, e = .returned (.bool z) ∧ (z = true ↔ ∃ j, j < n ∧ p j = true) ∧ Below w.heap.size w w' := by
  have K := idx_31 val p pw b off n cap a w ha hn hc hf
  clear ha hn hc hf
  go_enter Try.func30, Try.ntmps30
  go_wp2_with (go_at_call 45; (with_reducible refine K.mono ?_); clear K; rintro e w1 ⟨z, rfl, hz, hb⟩; have HZ : Hid ((0 ≤ z ↔ ∃ j, j < n ∧ p j = true) ∧ Below w.heap.size w w1) := ⟨hz, hb⟩; clear hz hb)
  go_ret
  exact ⟨_, rfl, by rw [decide_eq_true_iff]; exact HZ.out.1, HZ.out.2⟩
theorem inR_of {l : List Int} (h : ¬ ∃ j, j < l.length ∧ offB l.length (l.getD j 0) = true) : InR l := fun i hi => by
  have h1 : ¬ offB l.length (l.getD i 0) = true := fun e => h ⟨i, hi, e⟩
  unfold offB at h1
  simp only [Bool.or_eq_true, decide_eq_true_eq, not_or] at h1
  omega
theorem not_inR {l : List Int} (h : ∃ j, j < l.length ∧ offB l.length (l.getD j 0) = true) : ¬ InR l := fun hR => by
  obtain ⟨j, hj, e⟩ := h
  have := hR j hj
  unfold offB at e
  simp only [Bool.or_eq_true, decide_eq_true_eq] at e
  omega
theorem ns_nl {l : List Int} (hR : InR l) {j : Nat} {v : Value} (h : (ns (nl l))[j]? = some v) : j < l.length ∧ v = .int .i64 (l.getD j 0) := by
  have hj : j < l.length := by have := (List.getElem?_eq_some_iff.1 h).1; rw [ns_length, nl_len] at this; exact this
  rw [ns_uv (by rw [nl_len]; exact hj)] at h
  injection h with h
  exact ⟨hj, by rw [hR.at hj]; exact h.symm⟩
theorem Rl.row {w : World} {a : Option Addr} {l : List Int} (h : Rl w a l) (hR : InR l) (cap : Nat) (hn : l.length ≤ 140737488355328) : Row w (.slice a l.length cap) 1 l.length (ns (nl l)) := by
  refine ⟨by rw [ns_length, nl_len, Nat.mul_one], a, cap, rfl, hn, ?_⟩
  rcases Nat.eq_zero_or_pos l.length with h0 | h0
  · exact .inl h0
  · obtain ⟨rb, ro, e1, e2, e3⟩ := h h0
    refine .inr ⟨rb, ro, e1, e2, fun j u hu => ?_⟩
    obtain ⟨hj, rfl⟩ := ns_nl hR hu
    exact e3 j hj
theorem ring_tr {l : List Int} (hR : InR l) {r : Nat} (h : RingP l.length (un l) r) : r = 0 ↔ isTr l := by
  constructor
  · intro e
    rcases h with ⟨_, h⟩ | ⟨h1, _⟩
    · exact ⟨hR, rfl, fun x h1 h2 => hR.le h1 h2, h⟩
    · omega
  · rintro ⟨_, hT⟩
    rcases h with ⟨h, _⟩ | ⟨h1, h2, k, hk, e⟩
    · exact h
    · exfalso
      obtain ⟨i, hi⟩ := hT.r r h1 h2
      have h3 := per e (i + 1)
      have h4 : i ≤ k * (i + 1) := by
        have : 1 * (i + 1) ≤ k * (i + 1) := Nat.mul_le_mul_right _ hk
        omega
      rw [show k * (i + 1) = i + (k * (i + 1) - i) by omega, it_add, hi, it_zero hT.z] at h3
      omega
/-- what a question for a tree answers -/
def SayQ (P : Prop) (w : World) (e : Ending) (w' : World) : Prop := ∃ z : Bool, e = .returned (.bool z) ∧ (z = true ↔ P) ∧ Below w.heap.size w w'
set_option maxHeartbeats 2000000 in
set_option maxRecDepth 100000 in
theorem tree_any (l : List Int) (a : Option Addr) (cap : Nat) (w : World) (hR : Rl w a l) (hN : l.length ≤ 1200000) :
    Calls Try.prog 11 #[.slice a l.length cap] w (SayQ (isTr l) w) := by
  obtain ⟨rb, ro, hab⟩ : ∃ rb ro, 0 < l.length → a = some ⟨rb, ro, none⟩ ∧ rb < w.heap.size ∧ ∀ i, i < l.length → w.cell? ⟨rb, ro + i, none⟩ = some (.int .i64 (l.getD i 0)) := by
    rcases Nat.eq_zero_or_pos l.length with h | h
    · exact ⟨0, 0, fun h2 => by omega⟩
    · obtain ⟨rb, ro, h1⟩ := hR h
      exact ⟨rb, ro, fun _ => h1⟩
  obtain ⟨w1, hw1⟩ : ∃ w1, w.alloc (.cells #[.slice a l.length cap] 26) = w1 := ⟨_, rfl⟩
  have hb1 : Below w.heap.size w w1 := by rw [← hw1]; exact below_al _ _
  have hc1 : w1.cell? ⟨w.heap.size, 0, none⟩ = some (.slice a l.length cap) := by rw [← hw1]; exact cell_of_row _ _ 0 _ _ _ (heap_alloc_new w _)
  have hlt1 : w.heap.size < w1.heap.size := by rw [← hw1]; simp
  have K30 := has_31 (fun i => .int .i64 (l.getD i 0)) (fun i => offB l.length (l.getD i 0)) w.heap.size rb ro l.length cap a w1 (fun h => ⟨(hab h).1, Nat.lt_of_lt_of_le (hab h).2.1 hb1.size⟩) hN (fun j hj => (hb1.cell (p := ⟨rb, ro + j, none⟩) (hab (by omega)).2.1).trans ((hab (by omega)).2.2 j hj)) (fun j _ W hW => isNone_any _ _ _ _ _ W ((hW.cell (p := ⟨w.heap.size, 0, none⟩) hlt1).trans hc1))
  have HL : Hid (∀ W, Below w.heap.size w W → Rl W a l) := fun W hW => hR.below hW
  have HN : Hid (l.length ≤ 1200000) := hN
  have HB1 : Hid (Below w.heap.size w w1 ∧ w1.cell? ⟨w.heap.size, 0, none⟩ = some (.slice a l.length cap) ∧ w.heap.size < w1.heap.size) := ⟨hb1, hc1, hlt1⟩
  obtain ⟨n, hn⟩ : ∃ n, l.length = n := ⟨_, rfl⟩
  have HE : Hid (l.length = n) := hn
  rw [hn] at K30 HB1 hw1 ⊢
  clear hab hR hN hb1 hc1 hlt1 hn
  go_enter Try.func11, Try.ntmps11
  go_upto_region 2 with fail
  try rw [hw1]
  clear hw1
  have c0 := HB1.out.2.1
  by_cases hz : ∃ j, j < n ∧ offB n (l.getD j 0) = true
  · have HZ : Hid (¬ isTr l) := fun h => not_inR (by rw [HE.out]; exact hz) h.1
    have HZ2 : Hid (∃ j, j < n ∧ offB n (l.getD j 0) = true) := hz
    clear hz
    go_wp2_with (go_at_call 30; (with_reducible refine K30.mono ?_); clear K30; rintro e w2 ⟨z, rfl, hz, hb⟩; have HB2 : Hid (Below w.heap.size w w2) := HB1.out.1.trans (hb.mono HB1.out.1.size); obtain rfl : z = true := hz.2 HZ2.out; clear hz hb)
    go_ret
    exact ⟨false, rfl, ⟨fun h => by (cases h), fun h => absurd h HZ.out⟩, HB2.out⟩
  · have HI : Hid (InR l) := inR_of (by rw [HE.out]; exact hz)
    have HZ2 : Hid (¬ ∃ j, j < n ∧ offB n (l.getD j 0) = true) := hz
    clear hz
    have K32 : Hid (∀ W, Below w.heap.size w W → Calls Try.prog 32 #[.slice a n cap] W fun e w' => ∃ r : Nat, e = .returned (.int .i64 (r : Int)) ∧ Below W.heap.size W w' ∧ RingP n (uv (nl l)) r) := fun W hW => by
      have h := ring_any l.length (nl l) (.slice a l.length cap) W ((HL.out W hW).row HI.out cap (by have := HN.out; omega)) (nl_len l) (fun x h1 h2 => HI.out.le h1 h2) HN.out
      rw [HE.out] at h
      exact h
    go_wp2_with (first | (go_at_call 30; (with_reducible refine K30.mono ?_); clear K30; rintro e w2 ⟨z, rfl, hz, hb⟩; have HB2 : Hid (Below w.heap.size w w2) := HB1.out.1.trans (hb.mono HB1.out.1.size); obtain rfl : z = false := eq_false_of_ne_true (fun e => HZ2.out (hz.1 e)); have c1 := (hb.cell (p := ⟨w.heap.size, 0, none⟩) HB1.out.2.2).trans c0; have K := K32.out w2 HB2.out; clear hz hb) | (go_at_call 32; (with_reducible refine K.mono ?_); clear K; rintro e w3 ⟨r, rfl, hb, hr⟩; have HB3 : Hid (Below w.heap.size w w3 ∧ RingP n (uv (nl l)) r) := ⟨HB2.out.trans (hb.mono HB2.out.size), hr⟩; clear hb hr))
    go_ret
    refine ⟨_, rfl, ?_, HB3.out.1⟩
    have h := ring_tr HI.out (r := r) (by rw [HE.out]; exact HB3.out.2)
    rw [← h]
    simp
end Go.Proofs.Ytpolnkdbebjpnaa.Hd
