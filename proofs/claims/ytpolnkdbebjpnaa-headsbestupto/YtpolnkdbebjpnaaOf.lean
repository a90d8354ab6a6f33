/- HangTree (12), hangs (34), Roots (15), HangWorth (16) at any list of numbers. Conditions: lists of at most 1200000 numbers; hangs, Roots, HangWorth: a tree. -/
import Derived.Test.YtpolnkdbebjpnaaOe
import Derived.Test.YtpolnkdbebjpnaaNj
namespace Go.Proofs.Ytpolnkdbebjpnaa.Hd
open Go.RowKit

/-- going up from a word, as HangTree goes: behind k steps -/
structure Cl (l : List Int) (x k : Nat) (at_ : Int) : Prop where
  start : k = 0 → at_ = x
  path : 0 < k → ∃ y, 1 ≤ y ∧ y ≤ l.length ∧ it (un l) (k - 1) x = y ∧ at_ = l.getD (y - 1) 0
  first : (0 ≤ l.getD (x - 1) 0 ∧ l.getD (x - 1) 0 ≤ l.length) ∨ k = 0 ∨ (k = 1 ∧ at_ = l.getD (x - 1) 0)
  few : k ≤ l.length + 1
theorem Cl.zero (l : List Int) (x : Nat) : Cl l x 0 x := ⟨fun _ => rfl, fun h => absurd h (Nat.not_lt_zero _), .inr (.inl rfl), Nat.zero_le _⟩
theorem Cl.done {l : List Int} {x k : Nat} (h : Cl l x k 0) (h1 : 1 ≤ x) (_h2 : x ≤ l.length) : (0 ≤ l.getD (x - 1) 0 ∧ l.getD (x - 1) 0 ≤ l.length) ∧ Rch (un l) x := by
  have h0 : 0 < k := by
    rcases Nat.eq_zero_or_pos k with e | e
    · have := h.start e; omega
    · exact e
  refine ⟨?_, ?_⟩
  · rcases h.first with h | h | ⟨_, h⟩
    · exact h
    · omega
    · rw [← h]; omega
  · obtain ⟨y, y1, y2, y3, y4⟩ := h.path h0
    refine ⟨k, ?_⟩
    obtain ⟨j, rfl⟩ : ∃ j, k = j + 1 := ⟨k - 1, by omega⟩
    obtain ⟨z, rfl⟩ : ∃ z, y = z + 1 := ⟨y - 1, by omega⟩
    rw [it_succ, show j = j + 1 - 1 by omega, y3, un_at]
    rw [show z + 1 - 1 = z by omega] at y4
    rw [← y4]
    rfl
theorem Cl.bad {l : List Int} {x k : Nat} {v : Int} (h : Cl l x k v) (h1 : 1 ≤ x) (h2 : x ≤ l.length) (hb : v < 0 ∨ (l.length : Int) < v ∨ (v ≠ 0 ∧ l.length < k)) : ¬ isTr l := fun ⟨hR, hT⟩ => by
  rcases Nat.eq_zero_or_pos k with e | e
  · have := h.start e; omega
  · obtain ⟨y, y1, y2, y3, y4⟩ := h.path e
    have := hR (y - 1) (by omega)
    rw [← y4] at this
    by_cases hk : l.length < k
    · rw [show k - 1 = l.length + (k - 1 - l.length) by omega, it_add, hT.it_n h2, it_zero hT.z] at y3
      omega
    · omega
theorem Cl.next {l : List Int} {x k y : Nat} (h : Cl l x k (y : Int)) (_h1 : 1 ≤ x) (_h2 : x ≤ l.length) (hy1 : 1 ≤ y) (hy2 : y ≤ l.length) (hk : k ≤ l.length) : Cl l x (k + 1) (l.getD (y - 1) 0) := by
  refine ⟨fun h => by omega, fun _ => ⟨y, hy1, hy2, ?_, rfl⟩, ?_, by omega⟩
  · rw [Nat.add_sub_cancel]
    rcases Nat.eq_zero_or_pos k with e | e
    · have := h.start e
      subst e
      show x = y
      omega
    · obtain ⟨z, z1, z2, z3, z4⟩ := h.path e
      obtain ⟨j, rfl⟩ : ∃ j, k = j + 1 := ⟨k - 1, by omega⟩
      obtain ⟨q, rfl⟩ : ∃ q, z = q + 1 := ⟨z - 1, by omega⟩
      rw [it_succ, show j = j + 1 - 1 by omega, z3, un_at]
      rw [show q + 1 - 1 = q by omega] at z4
      rw [← z4]
      rfl
  · rcases h.first with h2 | h2 | ⟨h2, h3⟩
    · exact .inl h2
    · have h3 := h.start h2
      have e : y = x := by omega
      subst e
      exact .inr (.inr ⟨by omega, rfl⟩)
    · rw [← h3]
      exact .inl ⟨by omega, by omega⟩
set_option maxHeartbeats 4000000 in
set_option maxRecDepth 100000 in
theorem hangTree_any (l : List Int) (a : Option Addr) (cap : Nat) (w : World) (hR : Rl w a l) (hN : l.length ≤ 1200000) :
    Calls Try.prog 12 #[.slice a l.length cap] w (SayQ (isTr l) w) := by
  have HL : Hid (0 < l.length → ∃ rb ro, a = some ⟨rb, ro, none⟩ ∧ ∀ W, Below w.heap.size w W → ∀ i, i < l.length → W.cell? ⟨rb, ro + i, none⟩ = some (.int .i64 (l.getD i 0))) := fun h0 => by
    obtain ⟨g, go, e1, e2, e3⟩ := hR h0
    exact ⟨g, go, e1, fun W hW i hi => (hW.cell (p := ⟨g, go + i, none⟩) e2).trans (e3 i hi)⟩
  obtain ⟨n, hn⟩ : ∃ n, l.length = n := ⟨_, rfl⟩
  have HE : Hid (l.length = n ∧ n ≤ 1200000) := ⟨hn, by omega⟩
  rw [hn] at HL ⊢
  clear hR hN hn
  go_enter Try.func12, Try.ntmps12
  go_upto_region 2 with fail
  go_loopw [3] (fun c wr => ∃ i : Nat, c = .int .i64 ((i + 1 : Nat) : Int) ∧ i ≤ n ∧ Below w.heap.size w wr ∧ ∀ x, 1 ≤ x → x ≤ i → (0 ≤ l.getD (x - 1) 0 ∧ l.getD (x - 1) 0 ≤ n) ∧ Rch (un l) x) (fun c _ => n + 1 - (intOf c).toNat)
  case atStart => exact ⟨0, rfl, Nat.zero_le _, Below.refl _ _, fun x h1 h2 => by omega⟩
  case round =>
    obtain ⟨i, rfl, hi, hb, hx⟩ := hrel
    have HI : Hid (Below w.heap.size w wr ∧ ∀ x, 1 ≤ x → x ≤ i → (0 ≤ l.getD (x - 1) 0 ∧ l.getD (x - 1) 0 ≤ n) ∧ Rch (un l) x) := ⟨hb, hx⟩
    clear hb hx
    by_cases hlt : i < n
    · obtain ⟨x, hx⟩ : ∃ x, i + 1 = x := ⟨_, rfl⟩
      rw [hx]
      have HX : Hid (i + 1 = x ∧ x ≤ n ∧ 1 ≤ x) := ⟨hx, by omega, by omega⟩
      have hxn : (x : Int) ≤ (n : Int) := by omega
      have hnb : n ≤ 1200000 := HE.out.2
      obtain ⟨rb, ro, rfl, hcl⟩ := HL.out (by omega)
      have HC : Hid (∀ W, Below w.heap.size w W → ∀ i, i < n → W.cell? ⟨rb, ro + i, none⟩ = some (.int .i64 (l.getD i 0))) := hcl
      clear hcl hx hlt hi
      go_upto_region 6 with fail
      go_loopw [4, 5] (fun c d wr => ∃ (k : Nat) (v : Int), c = .int .i64 v ∧ d = .int .i64 (k : Int) ∧ Below w.heap.size w wr ∧ Cl l x k v) (fun _ d _ => n + 2 - (intOf d).toNat)
      case atStart => exact ⟨0, x, rfl, rfl, HI.out.1, Cl.zero l x⟩
      case round =>
        obtain ⟨k, v, rfl, rfl, hb, hcl⟩ := hrel
        have HK : Hid (Below w.heap.size w wr ∧ Cl l x k v) := ⟨hb, hcl⟩
        have hk : k ≤ n + 1 := by have h := hcl.few; rw [HE.out.1] at h; exact h
        clear hb hcl
        by_cases hv0 : v = 0
        · subst hv0
          have HD : Hid ((0 ≤ l.getD (x - 1) 0 ∧ l.getD (x - 1) 0 ≤ n) ∧ Rch (un l) x) := by
            have h := HK.out.2.done HX.out.2.2 (by rw [HE.out.1]; exact HX.out.2.1)
            rw [HE.out.1] at h
            exact h
          have wx : wrap64 ((x : Int) + 1) = ((x + 1 : Nat) : Int) := by have := HX.out; unfold wrap64; omega
          go_wp2
          go_roundw
          case rel => exact ⟨x, by first | rw [wx] | rfl | (congr 2), HX.out.2.1, HK.out.1, fun y h1 h2 => by
            by_cases e : y = x
            · rw [e]; exact HD.out
            · exact HI.out.2 y h1 (by have := HX.out; omega)⟩
          case measure => have := HX.out; simp [intOf]; omega
        · have q0 : (v == 0) = false := by simp [hv0]
          by_cases h1 : v < 0
          · have HB : Hid (¬ isTr l) := HK.out.2.bad HX.out.2.2 (by rw [HE.out.1]; exact HX.out.2.1) (.inl h1)
            go_wp2
            try rw [Exit.noGoto_ret]
            go_ret
            exact ⟨false, rfl, ⟨fun h => by (cases h), fun h => absurd h HB.out⟩, HK.out.1⟩
          · by_cases h2 : (n : Int) < v
            · have HB : Hid (¬ isTr l) := HK.out.2.bad HX.out.2.2 (by rw [HE.out.1]; exact HX.out.2.1) (.inr (.inl (by rw [HE.out.1]; exact h2)))
              go_wp2
              try rw [Exit.noGoto_ret]
              go_ret
              exact ⟨false, rfl, ⟨fun h => by (cases h), fun h => absurd h HB.out⟩, HK.out.1⟩
            · by_cases h3 : (n : Int) < (k : Int)
              · have HB : Hid (¬ isTr l) := HK.out.2.bad HX.out.2.2 (by rw [HE.out.1]; exact HX.out.2.1) (.inr (.inr ⟨hv0, by rw [HE.out.1]; omega⟩))
                go_wp2
                try rw [Exit.noGoto_ret]
                go_ret
                exact ⟨false, rfl, ⟨fun h => by (cases h), fun h => absurd h HB.out⟩, HK.out.1⟩
              · obtain ⟨y, rfl⟩ : ∃ y : Nat, v = ((y + 1 : Nat) : Int) := ⟨(v - 1).toNat, by omega⟩
                have hyn : (y : Int) < (n : Int) := by omega
                have HY : Hid (Cl l x (k + 1) (l.getD y 0)) := by
                  have h := HK.out.2.next HX.out.2.2 (by rw [HE.out.1]; exact HX.out.2.1) (by omega) (by rw [HE.out.1]; omega) (by rw [HE.out.1]; omega)
                  exact h
                have wy : wrap64 (((y + 1 : Nat) : Int) - 1) = (y : Int) := by unfold wrap64; omega
                have c0 := HC.out wr HK.out.1 y (by omega)
                obtain ⟨z, hz⟩ : ∃ z, l.getD y 0 = z := ⟨_, rfl⟩
                rw [hz] at c0 HY
                obtain ⟨t, ht⟩ : ∃ t, y + 1 = t := ⟨_, rfl⟩
                rw [ht] at q0 hv0 h1 h2 wy ⊢
                rw [show y = t - 1 by omega] at c0
                have hkn : k ≤ n := by omega
                clear hz ht
                go_wp2
                go_roundw
                case rel => exact ⟨k + 1, z, rfl, by go_num, HK.out.1, HY.out⟩
                case measure => simp [intOf]; omega
    · obtain rfl : i = n := by omega
      have HT : Hid (isTr l) := ⟨fun j hj => by rw [HE.out.1] at hj ⊢; have h := (HI.out.2 (j + 1) (by omega) (by omega)).1; rw [Nat.add_sub_cancel] at h; exact h, rfl, fun x h1 h2 => by
        rw [HE.out.1] at h2 ⊢
        have h := (HI.out.2 x h1 h2).1
        obtain ⟨q, rfl⟩ : ∃ q, x = q + 1 := ⟨x - 1, by omega⟩
        rw [Nat.add_sub_cancel] at h
        rw [un_at]
        omega, fun x h1 h2 => (HI.out.2 x h1 (by rw [HE.out.1] at h2; exact h2)).2⟩
      have hii : ¬ ((i + 1 : Nat) : Int) ≤ (i : Int) := by omega
      obtain ⟨j, hj⟩ : ∃ j, i + 1 = j := ⟨_, rfl⟩
      rw [hj] at hii ⊢
      go_wp2
      try rw [Exit.noGoto_ret]
      go_ret
      exact ⟨true, rfl, ⟨fun _ => HT.out, fun _ => rfl⟩, HI.out.1⟩
set_option maxHeartbeats 2000000 in
set_option maxRecDepth 100000 in
theorem hangs_any (l : List Int) (a : Option Addr) (cap x h : Nat) (w : World) (hR : Rl w a l) (hN : l.length ≤ 1200000) (hT : isTr l) (hx : x ≤ l.length) (hh : h ≤ l.length) :
    Calls Try.prog 34 #[.slice a l.length cap, .int .i64 (x : Int), .int .i64 (h : Int)] w (SayQ (Anc (un l) x h) w) := by
  have HL : Hid (0 < l.length → ∃ rb ro, a = some ⟨rb, ro, none⟩ ∧ ∀ W, Below w.heap.size w W → ∀ i, i < l.length → W.cell? ⟨rb, ro + i, none⟩ = some (.int .i64 (un l (i + 1) : Int))) := fun h0 => by
    obtain ⟨g, go, e1, e2, e3⟩ := hR h0
    exact ⟨g, go, e1, fun W hW i hi => by rw [← hT.1.at hi]; exact (hW.cell (p := ⟨g, go + i, none⟩) e2).trans (e3 i hi)⟩
  obtain ⟨n, hn⟩ : ∃ n, l.length = n := ⟨_, rfl⟩
  have HE : Hid (Tr n (un l) ∧ n ≤ 1200000 ∧ x ≤ n ∧ h ≤ n) := ⟨by rw [← hn]; exact hT.2, by omega, by omega, by omega⟩
  rw [hn] at HL ⊢
  clear hR hN hn hT hx hh
  go_enter Try.func34, Try.ntmps34
  go_upto_region 1 with fail
  go_loopg [1] n (fun gk c wr => ∃ y : Nat, c = .int .i64 (y : Int) ∧ y ≤ n ∧ it (un l) gk y = 0 ∧ (Anc (un l) x h ↔ Anc (un l) y h) ∧ Below w.heap.size w wr)
  case atStart => exact ⟨x, rfl, HE.out.2.2.1, HE.out.1.it_n HE.out.2.2.1, Iff.rfl, Below.refl _ _⟩
  case round =>
    obtain ⟨y, rfl, hy, hit, hiff, hb⟩ := hrel
    have HI : Hid (it (un l) gk y = 0 ∧ (Anc (un l) x h ↔ Anc (un l) y h) ∧ Below w.heap.size w wr) := ⟨hit, hiff, hb⟩
    clear hit hiff hb
    by_cases hy0 : y = 0
    · subst hy0
      have HZ : Hid (Anc (un l) x h ↔ h = 0) := HI.out.2.1.trans (anc_zero rfl)
      by_cases hh0 : h = 0
      · have q1 : ((0 : Int) == (h : Int)) = true := by simp [hh0]
        have HH : Hid (h = 0) := hh0
        have q2 : (h : Int) = 0 := by omega
        clear hh0
        go_wp2
        try rw [Exit.noGoto_ret]
        go_ret
        exact ⟨_, rfl, by rw [HZ.out]; simp; omega, HI.out.2.2⟩
      · have q1 : ((0 : Int) == (h : Int)) = false := by simp; omega
        have HH : Hid (h ≠ 0) := hh0
        have q2 : ¬ (0 : Int) = (h : Int) := by omega
        clear hh0
        go_wp2
        try rw [Exit.noGoto_ret]
        go_ret
        exact ⟨_, rfl, by rw [HZ.out]; simp; omega, HI.out.2.2⟩
    · have q0 : ((y : Int) == 0) = false := by simp [hy0]
      have q0' : ¬ (y : Int) = 0 := by omega
      by_cases hyh : y = h
      · subst hyh
        have HA : Hid (Anc (un l) x y) := HI.out.2.1.2 (Anc.refl y)
        go_wp2
        try rw [Exit.noGoto_ret]
        go_ret
        exact ⟨_, rfl, by simp [HA.out], HI.out.2.2⟩
      · have q1 : ((y : Int) == (h : Int)) = false := by simp; omega
        have q1' : ¬ (y : Int) = (h : Int) := by omega
        have q0n : ((y : Int) != 0) = true := by simp [hy0]
        have q1n : ((y : Int) != (h : Int)) = true := by simp; omega
        obtain ⟨z, hz⟩ : ∃ z, y = z + 1 := ⟨y - 1, by omega⟩
        have hzn : (z : Int) < (n : Int) := by omega
        have hnb : n ≤ 1200000 := HE.out.2.1
        have wz : wrap64 ((y : Int) - 1) = (z : Int) := by unfold wrap64; omega
        obtain ⟨rb, ro, rfl, hcl⟩ := HL.out (by omega)
        have c0 := hcl wr HI.out.2.2 z (by omega)
        rw [← hz] at c0
        obtain ⟨j, rfl⟩ : ∃ j, gk = j + 1 := by
          rcases Nat.eq_zero_or_pos gk with e | e
          · have h := HI.out.1; rw [e] at h; exact absurd h hy0
          · exact ⟨gk - 1, by omega⟩
        have HN : Hid (un l y ≤ n ∧ it (un l) j (un l y) = 0 ∧ (Anc (un l) x h ↔ Anc (un l) (un l y) h)) := ⟨HE.out.1.it_le 1 hy, HI.out.1, HI.out.2.1.trans (anc_step hyh)⟩
        obtain ⟨y', hy'⟩ : ∃ y', un l y = y' := ⟨_, rfl⟩
        rw [hy'] at c0 HN
        rw [show z = y - 1 by omega] at c0
        clear hcl hz hy' hyh hy0
        go_wp2
        go_roundg j
        case measure => exact Nat.lt_succ_self j
        case rel => exact ⟨y', rfl, HN.out.1, HN.out.2.1, HN.out.2.2, HI.out.2.2⟩
theorem rt_kc (n : Nat) (u : Nat → Nat) : rt n u = (kc u n 0 : Int) := by
  have key : ∀ l : List Nat, sm (fun w => if u w = 0 then 1 else 0) l = ((l.countP fun c => decide (u c = 0) : Nat) : Int) := by
    intro l
    induction l with
    | nil => rfl
    | cons x l ih =>
      show (if u x = 0 then (1 : Int) else 0) + _ = _
      rw [ih, List.countP_cons]
      by_cases e : u x = 0
      · simp [e]; omega
      · simp [e]
  exact key _
set_option maxHeartbeats 2000000 in
set_option maxRecDepth 100000 in
theorem roots_any (l : List Int) (a : Option Addr) (cap : Nat) (w : World) (hR : Rl w a l) (hN : l.length ≤ 1200000) (hI : InR l) :
    Calls Try.prog 15 #[.slice a l.length cap] w fun e w' => e = .returned (.int .i64 (rt l.length (un l))) ∧ Below w.heap.size w w' := by
  have HL : Hid (0 < l.length → ∃ rb ro, a = some ⟨rb, ro, none⟩ ∧ ∀ W, Below w.heap.size w W → ∀ i, i < l.length → W.cell? ⟨rb, ro + i, none⟩ = some (.int .i64 (un l (i + 1) : Int))) := fun h0 => by
    obtain ⟨g, go, e1, e2, e3⟩ := hR h0
    exact ⟨g, go, e1, fun W hW i hi => by rw [← hI.at hi]; exact (hW.cell (p := ⟨g, go + i, none⟩) e2).trans (e3 i hi)⟩
  rw [rt_kc]
  obtain ⟨n, hn⟩ : ∃ n, l.length = n := ⟨_, rfl⟩
  have HE : Hid (n ≤ 1200000) := by show n ≤ _; omega
  rw [hn] at HL ⊢
  clear hR hN hn hI
  go_enter Try.func15, Try.ntmps15
  go_upto_region 3 with fail
  go_loopw [3, 4] (fun c d wr => ∃ i : Nat, c = .int .i64 (kc (un l) i 0 : Int) ∧ d = .int .i64 (i : Int) ∧ i ≤ n ∧ Below w.heap.size w wr) (fun _ d _ => n - (intOf d).toNat)
  case atStart => exact ⟨0, rfl, rfl, Nat.zero_le _, Below.refl _ _⟩
  case round =>
    obtain ⟨i, rfl, rfl, hi, hb⟩ := hrel
    have HI : Hid (Below w.heap.size w wr) := hb
    clear hb
    by_cases hlt : i < n
    · have hii : (i : Int) < (n : Int) := by omega
      obtain ⟨rb, ro, rfl, hcl⟩ := HL.out (by omega)
      have c0 := hcl wr HI.out i hlt
      have hle := kc_le (un l) i 0
      have hup := kc_up (un l) i 0
      have hnb := HE.out
      obtain ⟨k, hk⟩ : ∃ k, kc (un l) i 0 = k := ⟨_, rfl⟩
      obtain ⟨v, hv⟩ : ∃ v, un l (i + 1) = v := ⟨_, rfl⟩
      rw [hk] at hle hup ⊢
      rw [hv] at c0 hup
      clear hcl hk hv
      by_cases hv0 : v = 0
      · rw [if_pos hv0] at hup
        have q0 : ((v : Int) == 0) = true := by simp [hv0]
        have q0' : (v : Int) = 0 := by omega
        have HU : Hid (kc (un l) (i + 1) 0 = k + 1) := hup
        clear hup hv0
        go_wp2
        go_roundw
        case rel => exact ⟨i + 1, by rw [HU.out]; go_num, by go_num, by omega, HI.out⟩
        case measure => simp [intOf]; omega
      · rw [if_neg hv0] at hup
        have q0 : ((v : Int) == 0) = false := by simp [hv0]
        have q0' : ¬ (v : Int) = 0 := by omega
        have HU : Hid (kc (un l) (i + 1) 0 = k) := hup
        clear hup hv0
        go_wp2
        go_roundw
        case rel => exact ⟨i + 1, by rw [HU.out], by go_num, by omega, HI.out⟩
        case measure => simp [intOf]; omega
    · obtain rfl : i = n := by omega
      go_wp2
      try rw [Exit.noGoto_ret]
      go_ret
      exact ⟨rfl, HI.out⟩
set_option maxHeartbeats 2000000 in
set_option maxRecDepth 100000 in
theorem worth_l (n b off cap cl : Nat) (al : Option Addr) (ra : Nat → Option Addr) (rc : Nat → Nat) (s : Nat → Nat → Int) (l : List Int) (w : World) (hS : Sc w b off n ra rc s) (hn : n ≤ 12) (hs : ∀ h x, h ≤ n → 1 ≤ x → x ≤ n → -1000000 ≤ s h x ∧ s h x ≤ 1000000) (hR : Rl w al l) (hI : InR l) (hul : l.length = n) :
    Calls Try.prog 16 #[.slice (some ⟨b, off, none⟩) (n + 1) cap, .slice al n cl] w fun e w' => e = .returned (.int .i64 (wo s n (un l))) ∧ Below w.heap.size w w' := by
  have HS : Hid (∀ W, Below w.heap.size w W → Sc W b off n ra rc s) := fun W hW => hS.below hW
  have HU : Hid (0 < n → ∃ g go, al = some ⟨g, go, none⟩ ∧ ∀ W, Below w.heap.size w W → ∀ i, i < n → W.cell? ⟨g, go + i, none⟩ = some (.int .i64 (un l (i + 1) : Int))) := fun h0 => by
    obtain ⟨g, go, e1, e2, e3⟩ := hR (by omega)
    exact ⟨g, go, e1, fun W hW i hi => by rw [← hI.at (by omega)]; exact (hW.cell (p := ⟨g, go + i, none⟩) e2).trans (e3 i (by omega))⟩
  have hle : ∀ x, 1 ≤ x → x ≤ n → un l x ≤ n := fun x h1 h2 => by rw [← hul] at h2 ⊢; exact hI.le h1 h2
  have HUL : Hid ((∀ x, 1 ≤ x → x ≤ n → un l x ≤ n) ∧ ∀ i, i ≤ n → -(1000000 * (i : Int)) ≤ sg s (un l) 1 i ∧ sg s (un l) 1 i ≤ 1000000 * (i : Int)) := ⟨hle, sg_bound hs hle⟩
  obtain ⟨m1, hm1⟩ : ∃ m, n + 1 = m := ⟨_, rfl⟩
  have HM : Hid (n + 1 = m1) := hm1
  rw [hm1]
  clear hS hs hR hI hul hle hm1
  go_enter Try.func16, Try.ntmps16
  go_upto_region 3 with fail
  go_loopw [5, 6] (fun a c wr => ∃ i : Nat, a = .int .i64 (sg s (un l) 1 i) ∧ c = .int .i64 (i : Int) ∧ i ≤ n ∧ Below w.heap.size w wr) (fun _ c _ => n - (intOf c).toNat)
  case atStart => exact ⟨0, rfl, rfl, Nat.zero_le _, Below.refl _ _⟩
  case round =>
    obtain ⟨i, rfl, rfl, hi, hb⟩ := hrel
    have HI : Hid (Below w.heap.size w wr) := hb
    clear hb
    by_cases hlt : i < n
    · have hii : (i : Int) < (n : Int) := by omega
      obtain ⟨h, hh⟩ : ∃ h, un l (i + 1) = h := ⟨_, rfl⟩
      have hhn : h ≤ n := by rw [← hh]; exact HUL.out.1 (i + 1) (by omega) (by omega)
      obtain ⟨g, go, rfl, hcl⟩ := HU.out (by omega)
      have c0 := hcl wr HI.out i hlt
      rw [hh] at c0
      clear hcl
      have hhm : (h : Int) < (m1 : Int) := by have := HM.out; omega
      obtain ⟨rb, ro, e1, _, hcc⟩ := (HS.out wr HI.out).num h hhn (by omega)
      have c1 := (HS.out wr HI.out).row h hhn
      rw [e1] at c1
      have c2 := hcc i hlt
      obtain ⟨y, hy⟩ : ∃ y, s h (i + 1) = y := ⟨_, rfl⟩
      rw [hy] at c2
      obtain ⟨x, hx⟩ : ∃ x, sg s (un l) 1 i = x := ⟨_, rfl⟩
      have HX : Hid (sg s (un l) 1 (i + 1) = x + y) := by show _ = _; rw [sg_up, hx, hh, hy]
      have wx : wrap64 (x + y) = x + y := by
        have h1 := HUL.out.2 (i + 1) (by omega)
        rw [HX.out] at h1
        unfold wrap64
        omega
      rw [hx]
      clear e1 hcc hy hx hh
      go_wp2
      go_roundw
      case rel => exact ⟨i + 1, by first | rw [wx, HX.out] | rw [HX.out], by go_num, by omega, HI.out⟩
      case measure => simp [intOf]; omega
    · obtain rfl : i = n := by omega
      go_wp2
      go_ret
      exact ⟨rfl, HI.out⟩
end Go.Proofs.Ytpolnkdbebjpnaa.Hd
