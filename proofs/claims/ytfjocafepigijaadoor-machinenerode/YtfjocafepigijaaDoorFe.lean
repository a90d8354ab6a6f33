/- ends (84), next (86), endsIn (76): a row's flag; where a symbol leads; is one of a set final? The program's sets against the document's. Conditions: the row is there; finals are states. -/
import Derived.Test.YtfjocafepigijaaDoorFd
import Derived.Test.YtfjocafepigijaaDoorFaM
import Derived.Test.YtfjocafepigijaaDoorPa
namespace Go.Proofs.YtfjocafepigijaaDoor.Su
open Go.RowKit Mv Po Ps Cm

set_option maxHeartbeats 1000000 in
theorem ends_some (base p g n cap i : Nat) (X : Nat → Nat → Int) (f d : Nat → Bool) (w : World) (h : PT w base p g n cap X f d) (hi : i < n) :
    Calls Tryd.prog 84 #[.pointer (some ⟨p, 0, none⟩), .int .i64 (i : Int)] w fun e w' => e = .returned (.bool (f i)) ∧ Below w.heap.size w w' := by
  have c0 := cell_of_row _ _ 0 _ _ _ h.box
  have c1 := h.fin hi
  have q1 : ((i : Int) != -1) = true := by have h2 : ¬ (i : Int) = -1 := (by omega); simp [h2]
  obtain ⟨b, hb⟩ : ∃ b, f i = b := ⟨_, rfl⟩
  rw [hb] at c1 ⊢
  clear h hb
  go_enter Tryd.func84, Tryd.ntmps84
  go_wp2
  repeat (go_quiet (fail); go_wp2)
  go_ret
  exact ⟨rfl, by first | exact Below.refl _ _ | exact below_drewN (Below.refl _ _) _⟩
set_option maxHeartbeats 1000000 in
theorem ends_none (p : Option Addr) (w : World) : Calls Tryd.prog 84 #[.pointer p, .int .i64 (-1)] w fun e w' => e = .returned (.bool false) ∧ Below w.heap.size w w' := by
  go_enter Tryd.func84, Tryd.ntmps84
  go_wp2
  repeat (go_quiet (fail); go_wp2)
  go_ret
  exact ⟨rfl, by first | exact Below.refl _ _ | exact below_drewN (Below.refl _ _) _⟩
set_option maxHeartbeats 1000000 in
theorem next_some (base p g n cap i c : Nat) (X : Nat → Nat → Int) (f d : Nat → Bool) (w : World) (h : PT w base p g n cap X f d) (hi : i < n) (hc : c < 61) :
    Calls Tryd.prog 86 #[.pointer (some ⟨p, 0, none⟩), .int .i64 (i : Int), .int .i64 (c : Int)] w fun e w' => e = .returned (.int .i64 (X i c)) ∧ Below w.heap.size w w' := by
  have c0 := cell_of_row _ _ 0 _ _ _ h.box
  have c1 := h.x hi hc
  have q1 : ((i : Int) == -1) = false := by have h2 : ¬ (i : Int) = -1 := (by omega); simp [h2]
  obtain ⟨b, hb⟩ : ∃ b, X i c = b := ⟨_, rfl⟩
  rw [hb] at c1 ⊢
  clear h hb
  go_enter Tryd.func86, Tryd.ntmps86
  go_wp2
  repeat (go_quiet (fail); go_wp2)
  go_ret
  exact ⟨rfl, by first | exact Below.refl _ _ | exact below_drewN (Below.refl _ _) _⟩
set_option maxHeartbeats 1000000 in
theorem next_none (p : Option Addr) (c : Nat) (w : World) (_ : c < 61) : Calls Tryd.prog 86 #[.pointer p, .int .i64 (-1), .int .i64 (c : Int)] w fun e w' => e = .returned (.int .i64 (-1)) ∧ Below w.heap.size w w' := by
  go_enter Tryd.func86, Tryd.ntmps86
  go_wp2
  repeat (go_quiet (fail); go_wp2)
  go_ret
  exact ⟨rfl, by first | exact Below.refl _ _ | exact below_drewN (Below.refl _ _) _⟩
/-- a set of bits has just what a set of yes and no has -/
structure Ag (S : Nat) (ws : List Nat) (bs : List Bool) : Prop where
  len : bs.length = S
  wl : ws.length = (S + 63) / 64
  wd : ∀ x ∈ ws, x < 18446744073709551616
  iff_ : ∀ v, Set.mem ws v = true ↔ has bs v
theorem Ag.lt {S : Nat} {ws : List Nat} {bs : List Bool} (h : Ag S ws bs) {v : Nat} (hv : Set.mem ws v = true) : v < S := by
  have := (List.getElem?_eq_some_iff.1 ((h.iff_ v).1 hv)).1
  rw [h.len] at this
  exact this
theorem Ag.eq {S : Nat} {ws : List Nat} {bs cs : List Bool} (h : Ag S ws bs) (k : Ag S ws cs) : bs = cs := bs_ext h.len k.len fun v _ => (h.iff_ v).symm.trans (k.iff_ v)
theorem words_ext {a b : List Nat} (hl : a.length = b.length) (ha : ∀ x ∈ a, x < 18446744073709551616) (hb : ∀ x ∈ b, x < 18446744073709551616) (h : ∀ v, Set.mem a v = Set.mem b v) : a = b := by
  apply List.ext_getElem hl
  intro i h1 h2
  apply Nat.eq_of_testBit_eq
  intro j
  by_cases hj : j < 64
  · have h3 := h (64 * i + j)
    unfold Set.mem at h3
    rw [show (64 * i + j) / 64 = i by omega, show (64 * i + j) % 64 = j by omega, List.getElem?_eq_getElem h1, List.getElem?_eq_getElem h2] at h3
    exact h3
  · have e1 : a[i] < 2 ^ j := Nat.lt_of_lt_of_le (ha _ (List.getElem_mem h1)) (by have : 2 ^ 64 ≤ 2 ^ j := Nat.pow_le_pow_right (by decide) (by omega); simpa using this)
    have e2 : b[i] < 2 ^ j := Nat.lt_of_lt_of_le (hb _ (List.getElem_mem h2)) (by have : 2 ^ 64 ≤ 2 ^ j := Nat.pow_le_pow_right (by decide) (by omega); simpa using this)
    rw [Nat.testBit_lt_two_pow e1, Nat.testBit_lt_two_pow e2]
theorem Ag.one {S : Nat} {ws vs : List Nat} {bs : List Bool} (h : Ag S ws bs) (k : Ag S vs bs) : ws = vs :=
  words_ext (by rw [h.wl, k.wl]) h.wd k.wd fun v => by
    have h1 := (h.iff_ v).trans (k.iff_ v).symm
    cases e1 : Set.mem ws v <;> cases e2 : Set.mem vs v <;> simp_all
theorem Ag.at {S : Nat} {ws : List Nat} {bs : List Bool} (h : Ag S ws bs) {v : Nat} (hv : v < S) : bs[v]? = some (Set.mem ws v) := by
  have hl : v < bs.length := by rw [h.len]; exact hv
  have h1 := h.iff_ v
  unfold has at h1
  rw [List.getElem?_eq_getElem hl] at h1 ⊢
  cases e1 : Set.mem ws v <;> cases e2 : bs[v] <;> simp_all
set_option maxHeartbeats 1000000 in
set_option maxRecDepth 100000 in
theorem endsIn_any (S base : Nat) (F : List (Int × Int)) (va af : Value) (aF : Option Addr) (cf : Nat) (vS : Value) (ws : List Nat) (bs : List Bool) (w : World) (hva : af = .slice aF F.length cf) (hF : Mv.Row w af 2 F.length (fcs F)) (hf : ∀ k (h : k < F.length), finB (S : Int) F[k] = true) (hs : Set.IsSet w base vS S ws) (hA : Ag S ws bs) (hS0 : 0 < S) (hS : S ≤ 3000) :
    Calls Tryd.prog 76 #[.agg #[.int .i64 (S : Int), va, af], vS] w fun e w' => e = .returned (.bool (fi F bs)) ∧ Below w.heap.size w w' := by
  subst hva
  have hFl : F.length ≤ 140737488355328 := by obtain ⟨_, _, _, _, h, _⟩ := hF; exact h
  obtain ⟨sg, sc, rfl, _, _⟩ := own_some hs.1 (by rw [hA.wl]; omega)
  have HA : Hid (Mv.Row w (.slice aF F.length cf) 2 F.length (fcs F) ∧ (∀ k (h : k < F.length), finB (S : Int) F[k] = true)) := ⟨hF, hf⟩
  have HS : Hid (Set.IsSet w base (.slice (some ⟨sg, 0, none⟩) ws.length sc) S ws ∧ Ag S ws bs) := ⟨hs, hA⟩
  clear hF hf hs hA
  obtain ⟨O1, hO1⟩ : ∃ O1 : Obj, Obj.cells #[.int .i64 (S : Int), va, .slice aF F.length cf] 25 = O1 := ⟨_, rfl⟩
  have HBX : Hid (Below w.heap.size w (w.alloc O1) ∧ (w.alloc O1).heap[w.heap.size]? = some (.cells #[.int .i64 (S : Int), va, .slice aF F.length cf] 25 (0, 0))) := ⟨below_al _ _, by rw [← hO1]; exact heap_alloc_new _ _⟩
  obtain ⟨ln, hln⟩ : ∃ ln, ws.length = ln := ⟨_, rfl⟩
  have HLN : Hid (ws.length = ln) := hln
  rw [hln]
  clear hln
  go_enter Tryd.func76, Tryd.ntmps76
  go_upto_region 1 with fail
  clear hO1
  generalize w.alloc O1 = W1 at *
  obtain ⟨bx, hbx⟩ : ∃ bx, w.heap.size = bx := ⟨_, rfl⟩
  have HB : Hid (Below w.heap.size w W1) := HBX.out.1
  have HX : Hid (W1.heap[bx]? = some (.cells #[.int .i64 (S : Int), va, .slice aF F.length cf] 25 (0, 0))) := by have h := HBX.out.2; rw [hbx] at h; exact h
  rw [hbx]
  clear hbx HBX
  have b2 := cell_of_row _ _ 2 _ _ _ HX.out
  go_upto_region 2 with fail
  clear b2
  go_loopw [10] (fun i wr => ∃ k : Nat, i = .int .i64 (k : Int) ∧ k ≤ F.length ∧ Below w.heap.size w wr ∧ ∀ j (hj : j < F.length), j < k → ∃ s : Nat, (F[j]).1 = (s : Int) ∧ bs[s]? = some false) (fun i _ => F.length - (intOf i).toNat)
  case atStart => exact ⟨0, rfl, Nat.zero_le _, HB.out, fun j _ h => absurd h (Nat.not_lt_zero j)⟩
  case round =>
    obtain ⟨k, rfl, hk, hbw, hz⟩ := hrel
    have HZ : Hid (∀ j (hj : j < F.length), j < k → ∃ s : Nat, (F[j]).1 = (s : Int) ∧ bs[s]? = some false) := hz
    have HW : Hid (Below w.heap.size w wr) := hbw
    clear hz hbw
    by_cases hlt : k < F.length
    · have hfb := HA.out.2 k hlt
      unfold finB at hfb
      have hfb := of_decide_eq_true hfb
      obtain ⟨s, hs⟩ : ∃ s : Nat, (F[k]).1 = (s : Int) := ⟨(F[k]).1.toNat, by omega⟩
      have hsS : s < S := by omega
      obtain ⟨x, hx⟩ : ∃ x, (F[k]).2 = x := ⟨_, rfl⟩
      obtain ⟨fb, fo, rfl, _, p0, p1⟩ := fin_cells (HA.out.1.below HW.out) hlt (s := (s : Int)) (x := x) (by rw [← hs, ← hx])
      have hx1 := heap_alloc_new wr (.cells #[.int .i64 (s : Int), .int .i64 x] 66)
      have HW3 : Hid (Below w.heap.size w (wr.alloc (.cells #[.int .i64 (s : Int), .int .i64 x] 66))) := HW.out.alloc HW.out.size _
      have HFK : Hid ((F[k]).1 = (s : Int)) := hs
      clear hfb hx hs
      go_upto_region 4 with fail
      clear p0 p1
      generalize wr.alloc (.cells #[.int .i64 (s : Int), .int .i64 x] 66) = W3 at *
      generalize wr.heap.size = b4 at *
      have c0 := cell_of_row _ _ 0 _ _ _ hx1
      clear hx1
      have K68 := Pa.has_any base _ S s ws W3 ⟨own_kp2 HS.out.1.1 (kp_below HW3.out (fun _ => False)) (fun _ _ => id), HS.out.1.2⟩ hsS (by omega)
      rw [HLN.out] at K68
      have HBS : Hid (bs[s]? = some (Set.mem ws s)) := HS.out.2.at hsS
      obtain ⟨y, hy⟩ : ∃ y, Set.mem ws s = y := ⟨_, rfl⟩
      rw [hy] at K68 HBS
      clear hy
      cases y with
      | true =>
        have HV : Hid (fi F bs = true) := fi_yes hlt HFK.out HBS.out
        go_wp2_with (go_at_call 68; (with_reducible refine K68.mono ?_); clear K68; rintro e w5 ⟨rfl, hb5⟩; have HW5 : Hid (Below w.heap.size w w5) := HW3.out.trans (hb5.mono HW3.out.size); clear hb5)
        go_ret
        exact ⟨(by rw [HV.out]; rfl), HW5.out⟩
      | false =>
        have HX2 : Hid (∀ j (hj : j < F.length), j < k + 1 → ∃ s : Nat, (F[j]).1 = (s : Int) ∧ bs[s]? = some false) := fun j hj hjk => by
          by_cases e : j = k
          · subst e; exact ⟨s, HFK.out, HBS.out⟩
          · exact HZ.out j hj (by omega)
        go_wp2_with (go_at_call 68; (with_reducible refine K68.mono ?_); clear K68; rintro e w5 ⟨rfl, hb5⟩; have HW5 : Hid (Below w.heap.size w w5) := HW3.out.trans (hb5.mono HW3.out.size); clear hb5)
        go_roundw
        case rel => exact ⟨k + 1, by go_num, hlt, HW5.out, HX2.out⟩
        case measure => simp [intOf]; omega
    · obtain rfl : k = F.length := by omega
      have HV : Hid (fi F bs = false) := fi_no (fun j hj => HZ.out j hj hj)
      go_wp2
      go_ret
      exact ⟨(by rw [HV.out]; rfl), HW.out⟩
end Go.Proofs.YtfjocafepigijaaDoor.Su
