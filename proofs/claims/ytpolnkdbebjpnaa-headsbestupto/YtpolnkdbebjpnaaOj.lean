/- HeadsBest's closure (17): what it is told of no tree is worth more. Conditions: a tree; none is worth more than what the boxes hold. -/
import Derived.Test.YtpolnkdbebjpnaaOi
namespace Go.Proofs.Ytpolnkdbebjpnaa.Hd
open Go.RowKit

/-- the boxes that the closure sees -/
structure Bx (W : World) (ps po pn pm pk : Nat) (vs : Value) (N M K : Int) : Prop where
  cs : W.cell? ⟨ps, 0, none⟩ = some vs
  ro : W.heap[po]? = some (.cells #[.bool true] 4 (0, 0))
  cn : W.cell? ⟨pn, 0, none⟩ = some (.int .i64 N)
  cm : W.cell? ⟨pm, 0, none⟩ = some (.int .i64 M)
  ck : W.cell? ⟨pk, 0, none⟩ = some (.int .i64 K)
theorem Bx.below {W W' : World} {ps po pn pm pk : Nat} {vs : Value} {N M K : Int} (h : Bx W ps po pn pm pk vs N M K) (hb : Below W.heap.size W W') : Bx W' ps po pn pm pk vs N M K :=
  ⟨(hb.cell (World.block_lt_of_cell? _ _ h.cs)).trans h.cs, (hb.block _ (lt_at h.ro)).trans h.ro, (hb.cell (World.block_lt_of_cell? _ _ h.cn)).trans h.cn, (hb.cell (World.block_lt_of_cell? _ _ h.cm)).trans h.cm, (hb.cell (World.block_lt_of_cell? _ _ h.ck)).trans h.ck⟩
theorem kp_true {W : World} {po : Nat} (h : W.heap[po]? = some (.cells #[.bool true] 4 (0, 0))) : (W.setCell ⟨po, 0, none⟩ (.bool true)).heap[po]? = some (.cells #[.bool true] 4 (0, 0)) := heap_setCell_same _ po 0 _ 4 (.bool true) h
set_option maxHeartbeats 4000000 in
set_option maxRecDepth 100000 in
theorem none_any (l : List Int) (n b off cap cl ps po pn pm pk : Nat) (al : Option Addr) (ra : Nat → Option Addr) (rc : Nat → Nat) (s : Nat → Nat → Int) (N M K : Int) (w : World) (hS : Sc w b off n ra rc s) (hn : n ≤ 12) (hs : ∀ h x, h ≤ n → 1 ≤ x → x ≤ n → -1000000 ≤ s h x ∧ s h x ≤ 1000000) (hR : Rl w al l) (hT : isTr l) (hl : l.length = n)
    (hB : Bx w ps po pn pm pk (.slice (some ⟨b, off, none⟩) (n + 1) cap) N M K) (h1 : wo s n (un l) ≤ N) (h2 : Fl n (un l) → wo s n (un l) ≤ M) (h3 : rt n (un l) = 1 → wo s n (un l) ≤ K) :
    Calls Try.prog 17 #[.slice al n cl, .pointer (some ⟨ps, 0, none⟩), .pointer (some ⟨po, 0, none⟩), .pointer (some ⟨pn, 0, none⟩), .pointer (some ⟨pm, 0, none⟩), .pointer (some ⟨pk, 0, none⟩)] w fun e w' => e = .returned (.tuple #[]) ∧ Kp (fun k => k = po) w w' ∧ w'.heap[po]? = some (.cells #[.bool true] 4 (0, 0)) := by
  have K16 := worth_l n b off cap cl al ra rc s l w hS hn hs hR hT.1 hl
  have K14 : Hid (∀ W, Below w.heap.size w W → Calls Try.prog 14 #[.slice al n cl] W (SayQ (isTr l ∧ Fl n (un l)) W)) := fun W hW => by
    have h := hangFlat_any l al cl W (hR.below hW) (by omega)
    rw [hl] at h
    exact h
  have K15 : Hid (∀ W, Below w.heap.size w W → Calls Try.prog 15 #[.slice al n cl] W fun e w' => e = .returned (.int .i64 (rt n (un l))) ∧ Below W.heap.size W w') := fun W hW => by
    have h := roots_any l al cl W (hR.below hW) (by omega) hT.1
    rw [hl] at h
    exact h
  have HB : Hid (∀ W, Below w.heap.size w W → Bx W ps po pn pm pk (.slice (some ⟨b, off, none⟩) (n + 1) cap) N M K) := fun W hW => hB.below hW
  obtain ⟨V, hV⟩ : ∃ V, wo s n (un l) = V := ⟨_, rfl⟩
  obtain ⟨r, hr⟩ : ∃ r, rt n (un l) = r := ⟨_, rfl⟩
  rw [hV] at K16 h1 h2 h3
  rw [hr] at K15 h3
  have HX : Hid ((Fl n (un l) → V ≤ M) ∧ (r = 1 → V ≤ K)) := ⟨h2, h3⟩
  obtain ⟨m1, hm1⟩ : ∃ m, n + 1 = m := ⟨_, rfl⟩
  rw [hm1] at HB K16
  have c0 := (HB.out w (Below.refl _ _)).cs
  clear hS hs hR hT hl hB hV hr h2 h3 hm1
  go_enter Try.func17, Try.ntmps17
  go_upto_region 1 with (go_at_call 16; (with_reducible refine K16.mono ?_); clear K16; rintro e w1 ⟨rfl, hb⟩; have HB1 : Hid (Below w.heap.size w w1) := hb; clear hb)
  clear c0
  have hx1 := HB.out w1 HB1.out
  have co := cell_of_row _ _ 0 _ _ _ hx1.ro
  have fo := frozen_of_row _ _ 0 _ _ hx1.ro
  have cn := hx1.cn
  have cm := hx1.cm
  have ck := hx1.ck
  clear hx1
  by_cases hM : V ≤ M
  · by_cases hK : V ≤ K
    · go_wp2
      first | go_end0 | refine bodyPost_ret (results_none rfl _ _ _) rfl ?_
      exact ⟨rfl, kp_then (kp_below HB1.out (fun k => k = po)) ((Kp.refl (fun k => k = po) w1).setCell po 0 (.bool true) (fun _ => rfl)) (fun _ _ e => e), kp_true (HB.out w1 HB1.out).ro⟩
    · have q0 : (r != 1) = true := by simp; exact fun e => hK (HX.out.2 e)
      have q0' : (r == 1) = false := by simp; exact fun e => hK (HX.out.2 e)
      have q0'' : ¬ r = 1 := fun e => hK (HX.out.2 e)
      have KR := K15.out w1 HB1.out
      go_wp2_with (go_at_call 15; (with_reducible refine KR.mono ?_); clear KR; rintro e w2 ⟨rfl, hb⟩; have HB2 : Hid (Below w.heap.size w w2) := HB1.out.trans (hb.mono HB1.out.size); clear co fo cn cm ck; have co := cell_of_row _ _ 0 _ _ _ (HB.out w2 HB2.out).ro; have fo := frozen_of_row _ _ 0 _ _ (HB.out w2 HB2.out).ro; clear hb)
      first | go_end0 | refine bodyPost_ret (results_none rfl _ _ _) rfl ?_
      exact ⟨rfl, kp_then (kp_below HB2.out (fun k => k = po)) ((Kp.refl (fun k => k = po) w2).setCell po 0 (.bool true) (fun _ => rfl)) (fun _ _ e => e), kp_true (HB.out w2 HB2.out).ro⟩
  · have HF : Hid (¬ (isTr l ∧ Fl n (un l))) := fun h => hM (HX.out.1 h.2)
    have KF := K14.out w1 HB1.out
    by_cases hK : V ≤ K
    · go_wp2_with (go_at_call 14; (with_reducible refine KF.mono ?_); clear KF; rintro e w2 ⟨z, rfl, hz, hb⟩; have HB2 : Hid (Below w.heap.size w w2) := HB1.out.trans (hb.mono HB1.out.size); obtain rfl : z = false := eq_false_of_ne_true (fun e => HF.out (hz.1 e)); clear co fo cn cm ck; have co := cell_of_row _ _ 0 _ _ _ (HB.out w2 HB2.out).ro; have fo := frozen_of_row _ _ 0 _ _ (HB.out w2 HB2.out).ro; have ck := (HB.out w2 HB2.out).ck; clear hb hz)
      first | go_end0 | refine bodyPost_ret (results_none rfl _ _ _) rfl ?_
      exact ⟨rfl, kp_then (kp_below HB2.out (fun k => k = po)) ((Kp.refl (fun k => k = po) w2).setCell po 0 (.bool true) (fun _ => rfl)) (fun _ _ e => e), kp_true (HB.out w2 HB2.out).ro⟩
    · have q0 : (r != 1) = true := by simp; exact fun e => hK (HX.out.2 e)
      have q0' : (r == 1) = false := by simp; exact fun e => hK (HX.out.2 e)
      have q0'' : ¬ r = 1 := fun e => hK (HX.out.2 e)
      go_wp2_with (first | (go_at_call 14; (with_reducible refine KF.mono ?_); clear KF; rintro e w2 ⟨z, rfl, hz, hb⟩; have HB2 : Hid (Below w.heap.size w w2) := HB1.out.trans (hb.mono HB1.out.size); obtain rfl : z = false := eq_false_of_ne_true (fun e => HF.out (hz.1 e)); clear co fo cn cm ck; have ck := (HB.out w2 HB2.out).ck; have KR := K15.out w2 HB2.out; clear hb hz) | (go_at_call 15; (with_reducible refine KR.mono ?_); clear KR; rintro e w3 ⟨rfl, hb⟩; have HB3 : Hid (Below w.heap.size w w3) := HB2.out.trans (hb.mono HB2.out.size); have co := cell_of_row _ _ 0 _ _ _ (HB.out w3 HB3.out).ro; have fo := frozen_of_row _ _ 0 _ _ (HB.out w3 HB3.out).ro; clear hb))
      first | go_end0 | refine bodyPost_ret (results_none rfl _ _ _) rfl ?_
      exact ⟨rfl, kp_then (kp_below HB3.out (fun k => k = po)) ((Kp.refl (fun k => k = po) w3).setCell po 0 (.bool true) (fun _ => rfl)) (fun _ _ e => e), kp_true (HB.out w3 HB3.out).ro⟩
end Go.Proofs.Ytpolnkdbebjpnaa.Hd
