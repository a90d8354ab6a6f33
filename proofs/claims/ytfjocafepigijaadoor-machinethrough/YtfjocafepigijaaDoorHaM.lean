/- reach's visit: a pair is met, where every pair is allowed. Conditions: the pair's number lies in the set. -/
import Derived.Test.YtfjocafepigijaaDoorSkM
import Derived.Test.YtfjocafepigijaaDoorPvM
import Derived.Test.YtfjocafepigijaaDoorTe
namespace Go.Proofs.YtfjocafepigijaaDoor.Pa
open Go.RowKit Mv Set Po Ps Cm Am

def cN (ws : List Nat) (P cnt : Nat) : Nat := if mem ws P then cnt else cnt + 1
def tN (ws : List Nat) (P : Nat) (T : List Nat) : List Nat := if mem ws P then T else T ++ [P]
theorem Sr.kept {base : Nat} {w w' : World} {F n cnt : Nat} {ws T : List Nat} {vm vt : Value} (h : Sr base w F n ws cnt T vm vt) {X : Nat → Prop} (hk : Kp X w w') (hX : ∀ k, ¬ X k) : Sr base w' F n ws cnt T vm vt :=
 ⟨(hk.block _ (lt_at h.row) (hX _)).trans h.row, ⟨own_kp2 h.set.1 hk (fun k _ => hX k), h.set.2⟩, own_kp2 h.todo hk (fun k _ => hX k)⟩
set_option maxHeartbeats 2000000 in
set_option maxRecDepth 100000 in
theorem meet_all (base Fb n cnt p q SB P bA bC bS C : Nat) (ws T : List Nat) (vm vt : Value) (rc : Array Value) (w : World) (HSV : Hid (Sr base w Fb n ws cnt T vm vt)) (xA : w.cell? ⟨bA, 0, none⟩ = some (.func (.func 66) #[] #[])) (xC : w.heap[bC]? = some (.cells #[.pointer (some ⟨C, 0, none⟩)] 71 (0, 0))) (xS : w.heap[bS]? = some (.cells #[.pointer (some ⟨Fb, 0, none⟩)] 181 (0, 0))) (xR : w.heap[C]? = some (.cells rc 129 (0, 0))) (HRC : Hid (rc[0]? = some (.int .i64 (SB : Int))))
  (HN1 : Hid (¬ OwnS Fb vm vt bC)) (HN2 : Hid (¬ OwnS Fb vm vt bS)) (HN3 : Hid (¬ OwnS Fb vm vt C)) (hPe : P = p * SB + q) (hp : p ≤ 40) (hSB : SB ≤ 40) (hP : P < n) (hP2 : P < 1000000000) (hc : cnt ≤ 1000000) (hT : T.length ≤ 1000000) (hb : base ≤ w.heap.size) :
  Calls Tryd.prog 93 #[.int .i64 (p : Int), .int .i64 (q : Int), .pointer (some ⟨bA, 0, none⟩), .pointer (some ⟨bC, 0, none⟩), .pointer (some ⟨bS, 0, none⟩)] w fun e w' => e = .returned (.tuple #[]) ∧ ∃ vt', Sr base w' Fb n (put ws P) (cN ws P cnt) (tN ws P T) vm vt' ∧ Kp (OwnS Fb vm vt) w w' ∧ (vt'.ownBlock = vt.ownBlock ∨ ∃ g, vt'.ownBlock = some g ∧ w.heap.size ≤ g) := by
 have z0 := cell_of_row _ _ 0 _ _ _ xC
 have z2 := (cell_of_row _ _ 0 _ _ _ xR).trans HRC.out
 obtain ⟨M, w1, w2, w3, w4⟩ : ∃ M : Nat, wrap64 ((p : Int) * (SB : Int)) = (M : Int) ∧ wrap64 ((M : Int) + (q : Int)) = (P : Int) ∧ IntKind.i64.wrap ((p : Int) * (SB : Int)) = (M : Int) ∧ IntKind.i64.wrap ((M : Int) + (q : Int)) = (P : Int) := by
  have hm : p * SB ≤ 1600 := Nat.le_trans (Nat.mul_le_mul hp hSB) (by decide)
  refine ⟨p * SB, ?_, ?_, ?_, ?_⟩
  ·rw [show (p : Int) * (SB : Int) = ((p * SB : Nat) : Int) by simp]; unfold wrap64; omega
  ·rw [hPe]; unfold wrap64; omega
  ·rw [show (p : Int) * (SB : Int) = ((p * SB : Nat) : Int) by simp, IntKind.wrap_i64]; omega
  ·rw [hPe, IntKind.wrap_i64]; omega
 clear hPe hp hSB
 go_enter Tryd.func93, Tryd.ntmps93
 go_upto_region 0 with fail
 go_quiet (first | (go_at_call 66; exact Calls.quiet_of_same (all_any _ _)))
 clear z0 z2
 have HKV : Hid (Kp (OwnS Fb vm vt) w (w.drewN nq)) := (Kp.refl _ w).drewN nq
 have HSV : Hid (Sr base (w.drewN nq) Fb n ws cnt T vm vt) := HSV.out.kept ((Kp.refl (fun _ => False) w).drewN nq) (fun _ => id)
 have xC : (w.drewN nq).heap[bC]? = _ := xC
 have xS : (w.drewN nq).heap[bS]? = _ := xS
 have xR : (w.drewN nq).heap[C]? = _ := xR
 generalize hV : w.drewN nq = VV at *
 clear hV
 go_upto_region 1 with fail
 have HCE : Hid _ := fun (W : World) (hSw : W.heap[bC]? = some (.cells #[.pointer (some ⟨C, 0, none⟩)] 71 (0, 0)) ∧ W.heap[bS]? = some (.cells #[.pointer (some ⟨Fb, 0, none⟩)] 181 (0, 0)) ∧ W.heap[C]? = some (.cells rc 129 (0, 0))) => (And.intro (cell_of_row _ _ 0 _ _ _ hSw.1) (And.intro (cell_of_row _ _ 0 _ _ _ hSw.2.1) ((cell_of_row _ _ 0 _ _ _ hSw.2.2).trans HRC.out)))
 refine wp_region_held_drew (S := fun W => W.heap[bC]? = some (.cells #[.pointer (some ⟨C, 0, none⟩)] 71 (0, 0)) ∧ W.heap[bS]? = some (.cells #[.pointer (some ⟨Fb, 0, none⟩)] 181 (0, 0)) ∧ W.heap[C]? = some (.cells rc 129 (0, 0))) (by kernel_rfl) (by exact ⟨xC, xS, xR⟩) (fun hHeld => ?_)
 have hS0 := hHeld
 have HSR : Hid (Sr base VV.drew Fb n ws cnt T vm vt) := HSV.out.kept ((Kp.refl (fun _ => False) VV).drewN 1) (fun _ => id)
 have HKW : Hid (Kp (OwnS Fb vm vt) w VV.drew) := HKV.out.drewN 1
 have hbV : base ≤ VV.drew.heap.size := Nat.le_trans hb HKW.out.size
 clear xC xS xR HSV HKV
 generalize hV : VV.drew = V0 at *
 clear hV
 refine tk (v := ?_) 0 { dst := some 17, op := .load 181 (.tmp 4), type := 181, pos := "through.go:145", after := #[], guard := none } (by rfl) ?_ ?_
 case refine_2 => intro w hSw; (try dsimp only at hSw); obtain ⟨z0, z1, z2⟩ := HCE.out _ hSw; go_simp; (try with_reducible rfl)
 simp only [Act.put, zS0, zS1, zS2]
 refine tk (v := ?_) 1 { dst := some 18, op := .move (.tmp 0), type := 3, pos := "through.go:145", after := #[], guard := none } (by rfl) ?_ ?_
 case refine_2 => intro w hSw; (try dsimp only at hSw); obtain ⟨z0, z1, z2⟩ := HCE.out _ hSw; go_simp; (try with_reducible rfl)
 simp only [Act.put, zS0, zS1, zS2]
 refine tk (v := ?_) 2 { dst := some 19, op := .load 71 (.tmp 3), type := 71, pos := "through.go:145", after := #[], guard := none } (by rfl) ?_ ?_
 case refine_2 => intro w hSw; (try dsimp only at hSw); obtain ⟨z0, z1, z2⟩ := HCE.out _ hSw; go_simp; (try with_reducible rfl)
 simp only [Act.put, zS0, zS1, zS2]
 refine tk (v := ?_) 3 { dst := some 20, op := .nilCheck (.tmp 19), type := 0, pos := "through.go:145", after := #[⟨2, .data⟩], guard := none } (by rfl) ?_ ?_
 case refine_2 => intro w hSw; (try dsimp only at hSw); obtain ⟨z0, z1, z2⟩ := HCE.out _ hSw; go_simp; (try with_reducible rfl)
 simp only [Act.put, zS0, zS1, zS2]
 refine tk (v := ?_) 4 { dst := some 21, op := .fieldAddr 129 (.tmp 20) 0, type := 0, pos := "through.go:145", after := #[⟨3, .data⟩], guard := none } (by rfl) ?_ ?_
 case refine_2 => intro w hSw; (try dsimp only at hSw); obtain ⟨z0, z1, z2⟩ := HCE.out _ hSw; go_simp; (try with_reducible rfl)
 simp only [Act.put, zS0, zS1, zS2]
 refine tk (v := ?_) 5 { dst := some 22, op := .load 3 (.tmp 21), type := 3, pos := "through.go:145", after := #[⟨4, .data⟩], guard := none } (by rfl) ?_ ?_
 case refine_2 => intro w hSw; (try dsimp only at hSw); obtain ⟨z0, z1, z2⟩ := HCE.out _ hSw; go_simp; (try with_reducible rfl)
 simp only [Act.put, zS0, zS1, zS2]
 refine tk (v := ?_) 6 { dst := some 23, op := .binOp .mul 3 (.tmp 18) (.tmp 22) 3, type := 3, pos := "through.go:145", after := #[⟨1, .data⟩, ⟨5, .data⟩], guard := none } (by rfl) ?_ ?_
 case refine_2 => intro w hSw; (try dsimp only at hSw); obtain ⟨z0, z1, z2⟩ := HCE.out _ hSw; go_simp; (try with_reducible rfl)
 simp only [Act.put, zS0, zS1, zS2]
 refine tk (v := ?_) 7 { dst := some 24, op := .move (.tmp 1), type := 3, pos := "through.go:145", after := #[], guard := none } (by rfl) ?_ ?_
 case refine_2 => intro w hSw; (try dsimp only at hSw); obtain ⟨z0, z1, z2⟩ := HCE.out _ hSw; go_simp; (try with_reducible rfl)
 simp only [Act.put, zS0, zS1, zS2]
 refine tk (v := ?_) 8 { dst := some 25, op := .binOp .add 3 (.tmp 23) (.tmp 24) 3, type := 3, pos := "through.go:145", after := #[⟨6, .data⟩, ⟨7, .data⟩], guard := none } (by rfl) ?_ ?_
 case refine_2 => intro w hSw; (try dsimp only at hSw); obtain ⟨z0, z1, z2⟩ := HCE.out _ hSw; go_simp; (try with_reducible rfl)
 simp only [Act.put, zS0, zS1, zS2]
 refine wpAnyH_ready (rs := [9]) (by kernel_rfl) (by simp) ?_
 refine (AllReadyH.cons (o := { dst := some 26, op := .call { callee := .value (.func 94), args := #[.tmp 17, .tmp 25], argTypes := #[181, 3] }, type := 0, pos := "through.go:145", after := #[⟨0, .data⟩, ⟨8, .data⟩], guard := none }) rfl (fun K hK => ?_) AllReadyH.nil)
 have KV := visit_any base Fb n cnt P ws T vm vt V0 HSR.out hP hP2 hc hT hbV
 go_simp
 (with_reducible refine KV.mono ?_)
 clear KV
 rintro e1 W1 ⟨rfl, vt', hs1, hk1, hf1⟩
 dsimp only
 have hS1 := And.intro ((hk1.block _ (lt_at hS0.1) HN1.out).trans hS0.1) (And.intro ((hk1.block _ (lt_at hS0.2.1) HN2.out).trans hS0.2.1) ((hk1.block _ (lt_at hS0.2.2) HN3.out).trans hS0.2.2))
 refine hK.out _ _ ?_ (fun hHeld => ?_)
 ·exact hS1
 clear hK K
 try simp only [Act.put, zS0, zS1, zS2]
 refine wpAnyH_done (by kernel_rfl) ?_ _
 go_wp2
 go_end0
 exact ⟨rfl, vt', hs1, HKW.out.trans hk1, hf1.imp id (fun ⟨g, h1, h2⟩ => ⟨g, h1, Nat.le_trans HKW.out.size h2⟩)⟩
end Go.Proofs.YtfjocafepigijaaDoor.Pa
/- reach's visit, where the pairs of a set are allowed. Conditions: the pair's number lies in both sets. -/
namespace Go.Proofs.YtfjocafepigijaaDoor.Pa
open Go.RowKit Mv Set Po Ps Cm Am

set_option maxHeartbeats 400000 in
theorem has_walkq (g off cap n k x : Nat) (w : World) (h1 : k / 64 < n) (hk : k < 1000000000) (hn : n ≤ 281474976710656) (hc : w.cell? ⟨g, off + k / 64, none⟩ = some (.int .u64 (x : Int))) :
  Calls Tryd.prog 68 #[.slice (some ⟨g, off, none⟩) n cap, .int .i64 k] w fun e w' => e = .returned (.bool (bits .and .u64 (x : Int) (IntKind.u64.wrap (2 ^ (k % 64))) != 0)) ∧ ∃ d, w' = w.drewN d := by
 go_enter Tryd.func68, Tryd.ntmps68
 go_upto_region 1 with fail
 go_quiet (fail)
 go_wp2
 go_ret
 exact ⟨rfl, _, rfl⟩
theorem has_quiet (base : Nat) (v : Value) (n k : Nat) (ws : List Nat) (w : World) (h : IsSet w base v n ws) (hk : k < n) (hk2 : k < 1000000000) :
  Calls Tryd.prog 68 #[v, .int .i64 k] w fun e w' => e = .returned (.bool (mem ws k)) ∧ ∃ d, w' = w.drewN d := by
 obtain ⟨hown, hbd, hnw, hlw⟩ := h
 have hkw : k / 64 < ws.length := by omega
 have hv : ∃ g cap, v = .slice (some ⟨g, 0, none⟩) ws.length cap := by
  rcases hown.2 with ⟨_, h0⟩ | ⟨g, cap, cur, hv, _⟩
  ·omega
  ·exact ⟨g, cap, hv⟩
 obtain ⟨g, cap, rfl⟩ := hv
 have ex : ws[k / 64]?.getD 0 = ws[k / 64] := by simp [hkw]
 have hc : w.cell? ⟨g, 0 + k / 64, none⟩ = some (.int .u64 ((ws[k / 64] : Nat) : Int)) := by
  rw [Nat.zero_add, hown.cellAt (k / 64) (by omega)]
  simp [cellsW, hkw]
 have hx := hbd _ (List.getElem_mem hkw)
 refine (has_walkq g 0 cap ws.length k ws[k / 64] w hkw hk2 hlw hc).mono ?_
 rintro e w' ⟨rfl, hb⟩
 have := and_bit _ _ hx (Nat.mod_lt k (show 0 < 64 by decide))
 refine ⟨?_, hb⟩
 rw [bne, this]
 unfold mem
 rw [ex]
 simp
set_option maxHeartbeats 2000000 in
set_option maxRecDepth 100000 in
theorem meet_has (b2 n2 : Nat) (ws2 : List Nat) (va : Value) (base Fb n cnt p q SB P bA bC bS C : Nat) (ws T : List Nat) (vm vt : Value) (rc : Array Value) (w : World) (HSV : Hid (Sr base w Fb n ws cnt T vm vt)) (xA : w.cell? ⟨bA, 0, none⟩ = some (.func (.func 68) #[va] #[])) (xC : w.heap[bC]? = some (.cells #[.pointer (some ⟨C, 0, none⟩)] 71 (0, 0))) (xS : w.heap[bS]? = some (.cells #[.pointer (some ⟨Fb, 0, none⟩)] 181 (0, 0))) (xR : w.heap[C]? = some (.cells rc 129 (0, 0))) (HRC : Hid (rc[0]? = some (.int .i64 (SB : Int))))
  (HAL : Hid (IsSet w b2 va n2 ws2)) (hP3 : P < n2) (hal : mem ws2 P = true) (HN1 : Hid (¬ OwnS Fb vm vt bC)) (HN2 : Hid (¬ OwnS Fb vm vt bS)) (HN3 : Hid (¬ OwnS Fb vm vt C)) (hPe : P = p * SB + q) (hp : p ≤ 40) (hSB : SB ≤ 40) (hP : P < n) (hP2 : P < 1000000000) (hc : cnt ≤ 1000000) (hT : T.length ≤ 1000000) (hb : base ≤ w.heap.size) :
  Calls Tryd.prog 93 #[.int .i64 (p : Int), .int .i64 (q : Int), .pointer (some ⟨bA, 0, none⟩), .pointer (some ⟨bC, 0, none⟩), .pointer (some ⟨bS, 0, none⟩)] w fun e w' => e = .returned (.tuple #[]) ∧ ∃ vt', Sr base w' Fb n (put ws P) (cN ws P cnt) (tN ws P T) vm vt' ∧ Kp (OwnS Fb vm vt) w w' ∧ (vt'.ownBlock = vt.ownBlock ∨ ∃ g, vt'.ownBlock = some g ∧ w.heap.size ≤ g) := by
 have z0 := cell_of_row _ _ 0 _ _ _ xC
 have z2 := (cell_of_row _ _ 0 _ _ _ xR).trans HRC.out
 obtain ⟨M, w1, w2, w3, w4⟩ : ∃ M : Nat, wrap64 ((p : Int) * (SB : Int)) = (M : Int) ∧ wrap64 ((M : Int) + (q : Int)) = (P : Int) ∧ IntKind.i64.wrap ((p : Int) * (SB : Int)) = (M : Int) ∧ IntKind.i64.wrap ((M : Int) + (q : Int)) = (P : Int) := by
  have hm : p * SB ≤ 1600 := Nat.le_trans (Nat.mul_le_mul hp hSB) (by decide)
  refine ⟨p * SB, ?_, ?_, ?_, ?_⟩
  ·rw [show (p : Int) * (SB : Int) = ((p * SB : Nat) : Int) by simp]; unfold wrap64; omega
  ·rw [hPe]; unfold wrap64; omega
  ·rw [show (p : Int) * (SB : Int) = ((p * SB : Nat) : Int) by simp, IntKind.wrap_i64]; omega
  ·rw [hPe, IntKind.wrap_i64]; omega
 have KH : ∀ d, Calls Tryd.prog 68 #[va, .int .i64 (P : Int)] (w.drewN d) fun e w' => e = .returned (.bool true) ∧ ∃ d', w' = (w.drewN d).drewN d' := fun d => by
  have := has_quiet b2 va n2 P ws2 (w.drewN d) HAL.out hP3 hP2
  rw [hal] at this
  exact this
 clear hPe hp hSB
 go_enter Tryd.func93, Tryd.ntmps93
 go_upto_region 0 with fail
 go_quiet (first | (go_at_call 68; exact Calls.quiet_of (KH _)))
 clear z0 z2
 have HKV : Hid (Kp (OwnS Fb vm vt) w (w.drewN nq)) := (Kp.refl _ w).drewN nq
 have HSV : Hid (Sr base (w.drewN nq) Fb n ws cnt T vm vt) := HSV.out.kept ((Kp.refl (fun _ => False) w).drewN nq) (fun _ => id)
 have xC : (w.drewN nq).heap[bC]? = _ := xC
 have xS : (w.drewN nq).heap[bS]? = _ := xS
 have xR : (w.drewN nq).heap[C]? = _ := xR
 generalize hV : w.drewN nq = VV at *
 clear hV
 go_upto_region 1 with fail
 have HCE : Hid _ := fun (W : World) (hSw : W.heap[bC]? = some (.cells #[.pointer (some ⟨C, 0, none⟩)] 71 (0, 0)) ∧ W.heap[bS]? = some (.cells #[.pointer (some ⟨Fb, 0, none⟩)] 181 (0, 0)) ∧ W.heap[C]? = some (.cells rc 129 (0, 0))) => (And.intro (cell_of_row _ _ 0 _ _ _ hSw.1) (And.intro (cell_of_row _ _ 0 _ _ _ hSw.2.1) ((cell_of_row _ _ 0 _ _ _ hSw.2.2).trans HRC.out)))
 refine wp_region_held_drew (S := fun W => W.heap[bC]? = some (.cells #[.pointer (some ⟨C, 0, none⟩)] 71 (0, 0)) ∧ W.heap[bS]? = some (.cells #[.pointer (some ⟨Fb, 0, none⟩)] 181 (0, 0)) ∧ W.heap[C]? = some (.cells rc 129 (0, 0))) (by kernel_rfl) (by exact ⟨xC, xS, xR⟩) (fun hHeld => ?_)
 have hS0 := hHeld
 have HSR : Hid (Sr base VV.drew Fb n ws cnt T vm vt) := HSV.out.kept ((Kp.refl (fun _ => False) VV).drewN 1) (fun _ => id)
 have HKW : Hid (Kp (OwnS Fb vm vt) w VV.drew) := HKV.out.drewN 1
 have hbV : base ≤ VV.drew.heap.size := Nat.le_trans hb HKW.out.size
 clear xC xS xR HSV HKV
 generalize hV : VV.drew = V0 at *
 clear hV
 refine tk (v := ?_) 0 { dst := some 17, op := .load 181 (.tmp 4), type := 181, pos := "through.go:145", after := #[], guard := none } (by rfl) ?_ ?_
 case refine_2 => intro w hSw; (try dsimp only at hSw); obtain ⟨z0, z1, z2⟩ := HCE.out _ hSw; go_simp; (try with_reducible rfl)
 simp only [Act.put, zS0, zS1, zS2]
 refine tk (v := ?_) 1 { dst := some 18, op := .move (.tmp 0), type := 3, pos := "through.go:145", after := #[], guard := none } (by rfl) ?_ ?_
 case refine_2 => intro w hSw; (try dsimp only at hSw); obtain ⟨z0, z1, z2⟩ := HCE.out _ hSw; go_simp; (try with_reducible rfl)
 simp only [Act.put, zS0, zS1, zS2]
 refine tk (v := ?_) 2 { dst := some 19, op := .load 71 (.tmp 3), type := 71, pos := "through.go:145", after := #[], guard := none } (by rfl) ?_ ?_
 case refine_2 => intro w hSw; (try dsimp only at hSw); obtain ⟨z0, z1, z2⟩ := HCE.out _ hSw; go_simp; (try with_reducible rfl)
 simp only [Act.put, zS0, zS1, zS2]
 refine tk (v := ?_) 3 { dst := some 20, op := .nilCheck (.tmp 19), type := 0, pos := "through.go:145", after := #[⟨2, .data⟩], guard := none } (by rfl) ?_ ?_
 case refine_2 => intro w hSw; (try dsimp only at hSw); obtain ⟨z0, z1, z2⟩ := HCE.out _ hSw; go_simp; (try with_reducible rfl)
 simp only [Act.put, zS0, zS1, zS2]
 refine tk (v := ?_) 4 { dst := some 21, op := .fieldAddr 129 (.tmp 20) 0, type := 0, pos := "through.go:145", after := #[⟨3, .data⟩], guard := none } (by rfl) ?_ ?_
 case refine_2 => intro w hSw; (try dsimp only at hSw); obtain ⟨z0, z1, z2⟩ := HCE.out _ hSw; go_simp; (try with_reducible rfl)
 simp only [Act.put, zS0, zS1, zS2]
 refine tk (v := ?_) 5 { dst := some 22, op := .load 3 (.tmp 21), type := 3, pos := "through.go:145", after := #[⟨4, .data⟩], guard := none } (by rfl) ?_ ?_
 case refine_2 => intro w hSw; (try dsimp only at hSw); obtain ⟨z0, z1, z2⟩ := HCE.out _ hSw; go_simp; (try with_reducible rfl)
 simp only [Act.put, zS0, zS1, zS2]
 refine tk (v := ?_) 6 { dst := some 23, op := .binOp .mul 3 (.tmp 18) (.tmp 22) 3, type := 3, pos := "through.go:145", after := #[⟨1, .data⟩, ⟨5, .data⟩], guard := none } (by rfl) ?_ ?_
 case refine_2 => intro w hSw; (try dsimp only at hSw); obtain ⟨z0, z1, z2⟩ := HCE.out _ hSw; go_simp; (try with_reducible rfl)
 simp only [Act.put, zS0, zS1, zS2]
 refine tk (v := ?_) 7 { dst := some 24, op := .move (.tmp 1), type := 3, pos := "through.go:145", after := #[], guard := none } (by rfl) ?_ ?_
 case refine_2 => intro w hSw; (try dsimp only at hSw); obtain ⟨z0, z1, z2⟩ := HCE.out _ hSw; go_simp; (try with_reducible rfl)
 simp only [Act.put, zS0, zS1, zS2]
 refine tk (v := ?_) 8 { dst := some 25, op := .binOp .add 3 (.tmp 23) (.tmp 24) 3, type := 3, pos := "through.go:145", after := #[⟨6, .data⟩, ⟨7, .data⟩], guard := none } (by rfl) ?_ ?_
 case refine_2 => intro w hSw; (try dsimp only at hSw); obtain ⟨z0, z1, z2⟩ := HCE.out _ hSw; go_simp; (try with_reducible rfl)
 simp only [Act.put, zS0, zS1, zS2]
 refine wpAnyH_ready (rs := [9]) (by kernel_rfl) (by simp) ?_
 refine (AllReadyH.cons (o := { dst := some 26, op := .call { callee := .value (.func 94), args := #[.tmp 17, .tmp 25], argTypes := #[181, 3] }, type := 0, pos := "through.go:145", after := #[⟨0, .data⟩, ⟨8, .data⟩], guard := none }) rfl (fun K hK => ?_) AllReadyH.nil)
 have KV := visit_any base Fb n cnt P ws T vm vt V0 HSR.out hP hP2 hc hT hbV
 go_simp
 (with_reducible refine KV.mono ?_)
 clear KV
 rintro e1 W1 ⟨rfl, vt', hs1, hk1, hf1⟩
 dsimp only
 have hS1 := And.intro ((hk1.block _ (lt_at hS0.1) HN1.out).trans hS0.1) (And.intro ((hk1.block _ (lt_at hS0.2.1) HN2.out).trans hS0.2.1) ((hk1.block _ (lt_at hS0.2.2) HN3.out).trans hS0.2.2))
 refine hK.out _ _ ?_ (fun hHeld => ?_)
 ·exact hS1
 clear hK K
 try simp only [Act.put, zS0, zS1, zS2]
 refine wpAnyH_done (by kernel_rfl) ?_ _
 go_wp2
 go_end0
 exact ⟨rfl, vt', hs1, HKW.out.trans hk1, hf1.imp id (fun ⟨g, h1, h2⟩ => ⟨g, h1, Nat.le_trans HKW.out.size h2⟩)⟩
set_option maxHeartbeats 2000000 in
set_option maxRecDepth 100000 in
/-- a pair that is not allowed -/
theorem meet_not (b2 n2 : Nat) (ws2 : List Nat) (va : Value) (p q SB P bA bC bS C : Nat) (rc : Array Value) (w : World) (xA : w.cell? ⟨bA, 0, none⟩ = some (.func (.func 68) #[va] #[])) (xC : w.heap[bC]? = some (.cells #[.pointer (some ⟨C, 0, none⟩)] 71 (0, 0))) (xR : w.heap[C]? = some (.cells rc 129 (0, 0))) (HRC : Hid (rc[0]? = some (.int .i64 (SB : Int))))
  (HAL : Hid (IsSet w b2 va n2 ws2)) (hP3 : P < n2) (hal : mem ws2 P = false) (hPe : P = p * SB + q) (hp : p ≤ 40) (hSB : SB ≤ 40) (hP2 : P < 1000000000) :
  Calls Tryd.prog 93 #[.int .i64 (p : Int), .int .i64 (q : Int), .pointer (some ⟨bA, 0, none⟩), .pointer (some ⟨bC, 0, none⟩), .pointer (some ⟨bS, 0, none⟩)] w fun e w' => e = .returned (.tuple #[]) ∧ ∃ d, w' = w.drewN d := by
 have z0 := cell_of_row _ _ 0 _ _ _ xC
 have z2 := (cell_of_row _ _ 0 _ _ _ xR).trans HRC.out
 obtain ⟨M, w1, w2⟩ : ∃ M : Nat, wrap64 ((p : Int) * (SB : Int)) = (M : Int) ∧ wrap64 ((M : Int) + (q : Int)) = (P : Int) := by
  have hm : p * SB ≤ 1600 := Nat.le_trans (Nat.mul_le_mul hp hSB) (by decide)
  refine ⟨p * SB, ?_, ?_⟩
  ·rw [show (p : Int) * (SB : Int) = ((p * SB : Nat) : Int) by simp]; unfold wrap64; omega
  ·rw [hPe]; unfold wrap64; omega
 have KH : ∀ d, Calls Tryd.prog 68 #[va, .int .i64 (P : Int)] (w.drewN d) fun e w' => e = .returned (.bool false) ∧ ∃ d', w' = (w.drewN d).drewN d' := fun d => by
  have := has_quiet b2 va n2 P ws2 (w.drewN d) HAL.out hP3 hP2
  rw [hal] at this
  exact this
 clear hPe hp hSB
 go_enter Tryd.func93, Tryd.ntmps93
 go_upto_region 0 with fail
 go_quiet (first | (go_at_call 68; exact Calls.quiet_of (KH _)))
 go_wp2
 go_end0
 exact ⟨rfl, _, rfl⟩
end Go.Proofs.YtfjocafepigijaaDoor.Pa
/- reach: what has been met and what is still to be done, in plain words; how it lies; reach's visit in one word. Conditions: few states. -/
namespace Go.Proofs.YtfjocafepigijaaDoor.Cu
open Go.RowKit Mv Set Qp Sk Po Ps Wd Se Mp St Cm Nm Nx Ra Am Pa
open CR (nc)

/-- how many were met -/
def crd (n : Nat) (ws : List Nat) : Nat := sm n (fun k => if mem ws k = true then 1 else 0)
theorem sm_at (n P : Nat) (h : P < n) : sm n (fun k => if k = P then 1 else 0) = 1 := by
 induction n with
 | zero => omega
 | succ n ih =>
  rw [sm_up]
  rcases Nat.lt_or_ge P n with h1 | h1
  ·rw [ih h1, if_neg (by omega)]
  ·obtain rfl : P = n := by omega
   rw [if_pos rfl, sm_zero (fun k hk => if_neg (by omega))]
theorem crd_le (n : Nat) (ws : List Nat) : crd n ws ≤ n := by
 refine Nat.le_trans (sm_le (g := fun _ => 1) (fun k _ => ?_)) (Nat.le_of_eq (sm_one n))
 split <;> omega
theorem crd_put {n P : Nat} {ws : List Nat} (hP : P < n) (hl : P / 64 < ws.length) : crd n (put ws P) = cN ws P (crd n ws) := by
 unfold crd cN
 have e := fun k => mem_put ws P k hl
 cases hm : mem ws P with
 | true =>
  rw [if_pos rfl]
  refine sm_eq fun k _ => ?_
  rw [e]
  by_cases hk : k = P
  ·subst hk; rw [hm]; rfl
  ·simp [hk]
 | false =>
  rw [if_neg (by decide)]
  have : ∀ k, (if mem (put ws P) k = true then 1 else 0) = (if mem ws k = true then 1 else 0) + (if k = P then 1 else 0) := fun k => by
   rw [e]
   by_cases hk : k = P
   ·subst hk; rw [hm]; simp
   ·simp [hk]
  rw [sm_eq (fun k _ => this k), sm_add, sm_at n P hP]
/-- what has been met, what is to be done; ex: pairs that are under way -/
structure Iv (n SB m SA : Nat) (al : Nat → Bool) (E : Nat → Nat → Prop) (G : Nat → List Arc) (ex : Nat → Prop) (ws : List Nat) (cnt : Nat) (T hs : List Nat) : Prop where
 wl : n ≤ 64 * ws.length
 lt : ∀ k, mem ws k = true → k < n
 tm : ∀ k ∈ T, mem ws k = true
 cl : ∀ k, mem ws k = true → k ∉ T → ¬ ex k → ∀ k', E k k' → al k' = true → mem ws k' = true
 hf : ∀ t g : Nat, t < SA → g < m → mem hs (t * m + g) = true → ∀ y ∈ G g, ∀ k' : Nat, (t : Int) * (SB : Int) + y.2.1 = (k' : Int) → al k' = true → mem ws k' = true
 ct : cnt = crd n ws
 tl : T.length ≤ cnt
theorem Iv.visit {n SB m SA : Nat} {al : Nat → Bool} {E : Nat → Nat → Prop} {G : Nat → List Arc} {ex : Nat → Prop} {ws : List Nat} {cnt : Nat} {T hs : List Nat} (h : Iv n SB m SA al E G ex ws cnt T hs) {P : Nat} (hP : P < n) :
  Iv n SB m SA al E G ex (put ws P) (cN ws P cnt) (tN ws P T) hs ∧ mem (put ws P) P = true ∧ ∀ k, mem ws k = true → mem (put ws P) k = true := by
 have hl : P / 64 < ws.length := by have := h.wl; omega
 have e := fun k => mem_put ws P k hl
 have mono : ∀ k, mem ws k = true → mem (put ws P) k = true := fun k hk => by rw [e, hk]; rfl
 refine ⟨⟨by unfold put; rw [List.length_set]; exact h.wl, fun k hk => ?_, fun k hk => ?_, fun k hk hT hx k' hE ha => ?_, fun t g ht hg hm y hy k' he ha => mono _ (h.hf t g ht hg hm y hy k' he ha), ?_, ?_⟩, by rw [e]; simp, mono⟩
 ·rw [e] at hk
  cases hm : mem ws k with
  | true => exact h.lt k hm
  | false => rw [hm] at hk; simp at hk; omega
 ·unfold tN at hk
  cases hm : mem ws P with
  | true => rw [hm, if_pos rfl] at hk; exact mono _ (h.tm k hk)
  | false =>
   rw [hm, if_neg (by decide)] at hk
   rcases List.mem_append.1 hk with hk | hk
   ·exact mono _ (h.tm k hk)
   ·rw [List.mem_singleton] at hk; subst hk; rw [e]; simp
 ·cases hm : mem ws k with
  | true =>
   refine mono _ (h.cl k hm (fun hT' => hT ?_) hx k' hE ha)
   unfold tN
   split
   ·exact hT'
   ·exact List.mem_append_left _ hT'
  | false =>
   rw [e, hm] at hk
   have hkP : k = P := by simpa using hk
   subst hkP
   refine absurd ?_ hT
   unfold tN
   rw [hm, if_neg (by decide)]
   simp
 ·rw [crd_put hP hl, ← h.ct]
 ·have := h.tl
  unfold tN cN
  split
  ·exact this
  ·rw [List.length_append]; simp; exact this
def aW (al : Nat → Bool) (ws : List Nat) (P : Nat) : List Nat := bif al P then put ws P else ws
def aC (al : Nat → Bool) (ws : List Nat) (P cnt : Nat) : Nat := bif al P then cN ws P cnt else cnt
def aT (al : Nat → Bool) (ws : List Nat) (P : Nat) (T : List Nat) : List Nat := bif al P then tN ws P T else T
theorem Iv.meet {n SB m SA : Nat} {al : Nat → Bool} {E : Nat → Nat → Prop} {G : Nat → List Arc} {ex : Nat → Prop} {ws : List Nat} {cnt : Nat} {T hs : List Nat} (h : Iv n SB m SA al E G ex ws cnt T hs) {P : Nat} (hP : P < n) :
  Iv n SB m SA al E G ex (aW al ws P) (aC al ws P cnt) (aT al ws P T) hs ∧ (al P = true → mem (aW al ws P) P = true) ∧ ∀ k, mem ws k = true → mem (aW al ws P) k = true := by
 unfold aW aC aT
 cases ha : al P with
 | true => have := h.visit hP; exact ⟨this.1, fun _ => this.2.1, this.2.2⟩
 | false => exact ⟨h, fun e => (by cases e), fun _ h => h⟩
/-- twice what is not met, and what is to be done -/
def msr (n cnt : Nat) (T : List Nat) : Nat := 2 * (n - cnt) + T.length
theorem msr_meet {n SB m SA : Nat} {al : Nat → Bool} {E : Nat → Nat → Prop} {G : Nat → List Arc} {ex : Nat → Prop} {ws : List Nat} {cnt : Nat} {T hs : List Nat} (h : Iv n SB m SA al E G ex ws cnt T hs) {P : Nat} (hP : P < n) : msr n (aC al ws P cnt) (aT al ws P T) ≤ msr n cnt T := by
 have h1 := (h.meet hP).1.ct
 have h2 := crd_le n (aW al ws P)
 rw [← h1] at h2
 unfold msr
 unfold aC aT at *
 cases ha : al P with
 | false => exact Nat.le_refl _
 | true =>
  rw [ha] at h2
  unfold cN tN at *
  simp only [cond_true] at *
  split
  ·exact Nat.le_refl _
  ·rename_i hm
   rw [if_neg hm] at h2
   rw [List.length_append]
   simp
   omega

theorem own_base {w : World} {b b' e size n : Nat} {v : Value} {xs : List Value} (h : w.ownsRow b' e size v n xs) (hb : b ≤ b') : w.ownsRow b e size v n xs :=
 ⟨h.1, h.2.imp id (fun ⟨g, cap, cur, h1, h2, h3⟩ => ⟨g, cap, cur, h1, Nat.le_trans hb h2, h3⟩)⟩
theorem own_below {w w' : World} {b e size n : Nat} {v : Value} {xs : List Value} (h : w.ownsRow b e size v n xs) (hb : Below w.heap.size w w') : w'.ownsRow b e size v n xs := by
 refine ⟨h.1, ?_⟩
 rcases h.2 with h | ⟨g, cap, cur, h1, h2, h3, h4⟩
 ·exact .inl h
 ·exact .inr ⟨g, cap, cur, h1, h2, (hb.block g (lt_at h3)).trans h3, h4⟩
theorem set_below {w w' : World} {b n : Nat} {v : Value} {ws : List Nat} (h : IsSet w b v n ws) (hb : Below w.heap.size w w') : IsSet w' b v n ws := ⟨own_below h.1 hb, h.2⟩
/-- which pairs are allowed -/
def Alw (w : World) (fv : Value) (n : Nat) (al : Nat → Bool) : Prop := (fv = .func (.func 66) #[] #[] ∧ ∀ k, al k = true) ∨ ∃ va b2 n2 ws2, fv = .func (.func 68) #[va] #[] ∧ IsSet w b2 va n2 ws2 ∧ n ≤ n2 ∧ ∀ k, k < n → al k = mem ws2 k
theorem Alw.below {w w' : World} {fv : Value} {n : Nat} {al : Nat → Bool} (h : Alw w fv n al) (hb : Below w.heap.size w w') : Alw w' fv n al := by
 rcases h with h | ⟨va, b2, n2, ws2, h1, h2, h3⟩
 ·exact .inl h
 ·exact .inr ⟨va, b2, n2, ws2, h1, set_below h2 hb, h3⟩
/-- a search that goes on -/
structure Rs (w wr : World) (C F bC bA bS n nh : Nat) (fv vm vt vh : Value) (ws : List Nat) (cnt : Nat) (T hs : List Nat) : Prop where
 sr : Sr w.heap.size wr F n ws cnt T vm vt
 hw : IsSet wr w.heap.size vh nh hs
 xC : wr.heap[bC]? = some (.cells #[.pointer (some ⟨C, 0, none⟩)] 71 (0, 0))
 xA : wr.heap[bA]? = some (.cells #[fv] 114 (0, 0))
 xS : wr.heap[bS]? = some (.cells #[.pointer (some ⟨F, 0, none⟩)] 181 (0, 0))
 fge : w.heap.size ≤ F
 ne : ∀ b, vm.ownBlock = some b → vh.ownBlock ≠ some b
 below : Below w.heap.size w wr
theorem Rs.own_ge {w wr : World} {C F bC bA bS n nh cnt : Nat} {fv vm vt vh : Value} {ws T hs : List Nat} (h : Rs w wr C F bC bA bS n nh fv vm vt vh ws cnt T hs) {b : Nat} (hb : OwnS F vm vt b) : w.heap.size ≤ b := by
 rcases hb with rfl | hb | hb
 ·exact h.fge
 ·exact (h.sr.set.1.lt b hb).1
 ·exact (h.sr.todo.lt b hb).1
theorem Rs.own_not {w wr : World} {C F bC bA bS n nh cnt : Nat} {fv vm vt vh : Value} {ws T hs : List Nat} (h : Rs w wr C F bC bA bS n nh fv vm vt vh ws cnt T hs) {b : Nat} {c : Array Value} {ty : TypeId} (hb : wr.heap[b]? = some (.cells c ty (0, 0))) (h1 : ty ≠ 183) (h2 : ty ≠ 136) (h3 : ty ≠ 3) : ¬ OwnS F vm vt b := by
 rintro (rfl | e | e)
 ·exact ty_ne hb h.sr.row h1
 ·obtain ⟨d, hd⟩ := own_ty h.sr.set.1 e; exact ty_ne hb hd h2
 ·obtain ⟨d, hd⟩ := own_ty h.sr.todo e; exact ty_ne hb hd h3
theorem Rs.hw_not {w wr : World} {C F bC bA bS n nh cnt : Nat} {fv vm vt vh : Value} {ws T hs : List Nat} (h : Rs w wr C F bC bA bS n nh fv vm vt vh ws cnt T hs) {b : Nat} (hb : vh.ownBlock = some b) : ¬ OwnS F vm vt b := by
 obtain ⟨d, hd⟩ := own_ty h.hw.1 hb
 rintro (rfl | e | e)
 ·exact ty_ne hd h.sr.row (by decide)
 ·exact h.ne b e hb
 ·obtain ⟨d', hd'⟩ := own_ty h.sr.todo e; exact ty_ne hd hd' (by decide)
/-- the search has gone on: what it owns has turned -/
theorem Rs.went {w wr w' : World} {C F bC bA bS n nh cnt cnt' : Nat} {fv vm vt vt' vh : Value} {ws ws' T T' hs : List Nat} (h : Rs w wr C F bC bA bS n nh fv vm vt vh ws cnt T hs) (hs' : Sr w.heap.size w' F n ws' cnt' T' vm vt') (hk : Kp (OwnS F vm vt) wr w') : Rs w w' C F bC bA bS n nh fv vm vt' vh ws' cnt' T' hs :=
 ⟨hs', ⟨own_kp2 h.hw.1 hk (fun b hb => h.hw_not hb), h.hw.2⟩, (hk.block _ (lt_at h.xC) (h.own_not h.xC (by decide) (by decide) (by decide))).trans h.xC, (hk.block _ (lt_at h.xA) (h.own_not h.xA (by decide) (by decide) (by decide))).trans h.xA, (hk.block _ (lt_at h.xS) (h.own_not h.xS (by decide) (by decide) (by decide))).trans h.xS, h.fge, h.ne, below_kp h.below hk h.below.size (fun k _ x => h.own_ge x)⟩
theorem Rs.half {w wr w' : World} {C F bC bA bS n nh cnt : Nat} {fv vm vt vh : Value} {ws T hs hs' : List Nat} (h : Rs w wr C F bC bA bS n nh fv vm vt vh ws cnt T hs) (hs1 : IsSet w' w.heap.size vh nh hs') (hg : wr.grownBy w' vh.ownBlock) : Rs w w' C F bC bA bS n nh fv vm vt vh ws cnt T hs' := by
 have hk : Kp (fun b => vh.ownBlock = some b) wr w' := (Kp.refl _ wr).grown hg (fun b hb _ => hb)
 have nt : ∀ {b : Nat} {c : Array Value} {ty : TypeId}, wr.heap[b]? = some (.cells c ty (0, 0)) → ty ≠ 136 → ¬ vh.ownBlock = some b := fun {b c ty} hb hne e => by
  obtain ⟨d, hd⟩ := own_ty h.hw.1 e; exact ty_ne hb hd hne
 refine ⟨⟨(hk.block _ (lt_at h.sr.row) (nt h.sr.row (by decide))).trans h.sr.row, ⟨own_kp2 h.sr.set.1 hk (fun b e1 e2 => h.ne b e1 e2), h.sr.set.2⟩, own_kp2 h.sr.todo hk (fun b e1 e2 => ?_)⟩, hs1, (hk.block _ (lt_at h.xC) (nt h.xC (by decide))).trans h.xC, (hk.block _ (lt_at h.xA) (nt h.xA (by decide))).trans h.xA, (hk.block _ (lt_at h.xS) (nt h.xS (by decide))).trans h.xS, h.fge, h.ne, below_kp h.below hk h.below.size (fun k _ x => (h.hw.1.lt k x).1)⟩
 obtain ⟨d, hd⟩ := own_ty h.sr.todo e1
 exact nt hd (by decide) e2
theorem Rs.alloc {w wr : World} {C F bC bA bS n nh cnt : Nat} {fv vm vt vh : Value} {ws T hs : List Nat} (h : Rs w wr C F bC bA bS n nh fv vm vt vh ws cnt T hs) (o : Obj) : Rs w (wr.alloc o) C F bC bA bS n nh fv vm vt vh ws cnt T hs :=
 ⟨h.sr.alloc o, ⟨h.hw.1.alloc o, h.hw.2⟩, (heap_alloc_old _ _ (lt_at h.xC)).trans h.xC, (heap_alloc_old _ _ (lt_at h.xA)).trans h.xA, (heap_alloc_old _ _ (lt_at h.xS)).trans h.xS, h.fge, h.ne, h.below.alloc h.below.size o⟩
theorem Rs.drewN {w wr : World} {C F bC bA bS n nh cnt : Nat} {fv vm vt vh : Value} {ws T hs : List Nat} (h : Rs w wr C F bC bA bS n nh fv vm vt vh ws cnt T hs) (d : Nat) : Rs w (wr.drewN d) C F bC bA bS n nh fv vm vt vh ws cnt T hs :=
 ⟨h.sr.kept ((Kp.refl (fun _ => False) wr).drewN d) (fun _ => id), h.hw, h.xC, h.xA, h.xS, h.fge, h.ne, below_drewN h.below d⟩
theorem ns_take (T : List Nat) (k : Nat) : ns (T.take k) = (ns T).take k := by unfold ns; rw [List.map_take]
/-- the last pair is taken off -/
theorem Rs.pop {w wr : World} {C F bC bA bS n nh cnt k tb cap : Nat} {fv vm vh : Value} {ws T hs : List Nat} (h : Rs w wr C F bC bA bS n nh fv vm (.slice (some ⟨tb, 0, none⟩) (k + 1) cap) vh ws cnt T hs) (hT : T.length = k + 1) :
  Rs w (wr.setCell ⟨F, 2, none⟩ (.slice (some ⟨tb, 0, none⟩) k cap)) C F bC bA bS n nh fv vm (.slice (some ⟨tb, 0, none⟩) k cap) vh ws cnt (T.take k) hs := by
 have hk : Kp (fun b => b = F) wr (wr.setCell ⟨F, 2, none⟩ (.slice (some ⟨tb, 0, none⟩) k cap)) := (Kp.refl _ wr).setCell _ _ _ (fun _ => rfl)
 have ht : wr.ownsRow w.heap.size 3 1 (.slice (some ⟨tb, 0, none⟩) k cap) (T.take k).length (ns (T.take k)) := by
  rw [List.length_take, hT, Nat.min_eq_left (by omega)]
  rcases h.sr.todo.2 with ⟨h', _⟩ | ⟨g', cap', cur, hv, hb, hg, hnc, hcm, hcs, htake⟩
  ·simp at h'
  ·simp only [hT, Value.slice.injEq, Option.some.injEq, Addr.mk.injEq, and_true, true_and] at hv
   obtain ⟨rfl, rfl⟩ := hv
   refine ⟨by simp [ns, hT], .inr ⟨tb, cap, cur, rfl, hb, hg, by omega, hcm, hcs, ?_⟩⟩
   rw [ns_take, ← htake, List.take_take]
   congr 1
   omega
 refine h.went ⟨?_, ⟨own_kp2 h.sr.set.1 hk (fun b e1 e2 => h.sr.apart.1 (by rw [← e2]; exact e1)), h.sr.set.2⟩, own_kp2 ht hk (fun b e1 e2 => h.sr.apart.2.1 (by rw [← e2]; exact e1))⟩ (hk.mono fun k _ e => .inl e)
 have := heap_setCell_same wr F 2 _ 183 (.slice (some ⟨tb, 0, none⟩) k cap) h.sr.row
 simpa using this
/-- boxes of arcs lie as they lay -/
def K64 (w w' : World) : Prop := ∀ (b : Nat) (c : Array Value), w.heap[b]? = some (.cells c 64 (0, 0)) → w'.heap[b]? = some (.cells c 64 (0, 0))
theorem K64.own {w wr w' : World} {C F bC bA bS n nh cnt : Nat} {fv vm vt vh : Value} {ws T hs : List Nat} (h : Rs w wr C F bC bA bS n nh fv vm vt vh ws cnt T hs) (hk : Kp (OwnS F vm vt) wr w') : K64 wr w' := fun _ _ hb => (hk.block _ (lt_at hb) (h.own_not hb (by decide) (by decide) (by decide))).trans hb
theorem K64.half {w wr w' : World} {C F bC bA bS n nh cnt : Nat} {fv vm vt vh : Value} {ws T hs : List Nat} (h : Rs w wr C F bC bA bS n nh fv vm vt vh ws cnt T hs) (hg : wr.grownBy w' vh.ownBlock) : K64 wr w' := fun b _ hb => (hg.block b (lt_at hb) (fun e => by obtain ⟨d, hd⟩ := own_ty h.hw.1 e.symm; exact ty_ne hb hd (by decide))).trans hb
/-- reach's visit -/
theorem meet_any (w wr : World) (C F bC bA bS n nh SB cnt p q P : Nat) (fv vm vt vh : Value) (ws T hs : List Nat) (al : Nat → Bool) (rc : Array Value) (h : Rs w wr C F bC bA bS n nh fv vm vt vh ws cnt T hs) (ha : Alw wr fv n al) (xR : wr.heap[C]? = some (.cells rc 129 (0, 0))) (hrc : rc[0]? = some (.int .i64 (SB : Int))) (hPe : P = p * SB + q) (hp : p ≤ 40) (hSB : SB ≤ 40) (hP : P < n) (hn : n ≤ 1600) (hc : cnt ≤ n) (hT : T.length ≤ cnt) :
  Calls Tryd.prog 93 #[.int .i64 (p : Int), .int .i64 (q : Int), .pointer (some ⟨bA, 0, none⟩), .pointer (some ⟨bC, 0, none⟩), .pointer (some ⟨bS, 0, none⟩)] wr fun e w' => e = .returned (.tuple #[]) ∧ ∃ vt', Rs w w' C F bC bA bS n nh fv vm vt' vh (aW al ws P) (aC al ws P cnt) (aT al ws P T) hs ∧ K64 wr w' := by
 have nC := h.own_not h.xC (by decide) (by decide) (by decide)
 have nS := h.own_not h.xS (by decide) (by decide) (by decide)
 have nR := h.own_not xR (by decide) (by decide) (by decide)
 have xA := cell_of_row _ _ 0 _ _ _ h.xA
 rcases ha with ⟨rfl, hall⟩ | ⟨va, b2, n2, ws2, rfl, hset, hn2, hall⟩
 ·refine (meet_all w.heap.size F n cnt p q SB P bA bC bS C ws T vm vt rc wr h.sr xA h.xC h.xS xR hrc nC nS nR hPe hp hSB hP (by omega) (by omega) (by omega) h.below.size).mono ?_
  rintro e w' ⟨rfl, vt', h1, h2, _⟩
  refine ⟨rfl, vt', ?_, K64.own h h2⟩
  unfold aW aC aT
  rw [hall P]
  exact h.went h1 h2
 ·cases hm : mem ws2 P with
  | true =>
   refine (meet_has b2 n2 ws2 va w.heap.size F n cnt p q SB P bA bC bS C ws T vm vt rc wr h.sr xA h.xC h.xS xR hrc hset (by omega) hm nC nS nR hPe hp hSB hP (by omega) (by omega) (by omega) h.below.size).mono ?_
   rintro e w' ⟨rfl, vt', h1, h2, _⟩
   refine ⟨rfl, vt', ?_, K64.own h h2⟩
   unfold aW aC aT
   rw [hall P hP, hm]
   exact h.went h1 h2
  | false =>
   refine (meet_not b2 n2 ws2 va p q SB P bA bC bS C rc wr xA h.xC xR hrc hset (by omega) hm hPe hp hSB (by omega)).mono ?_
   rintro e w' ⟨rfl, d, rfl⟩
   refine ⟨rfl, vt, ?_, fun _ _ h => h⟩
   unfold aW aC aT
   rw [hall P hP, hm]
   exact h.drewN d
theorem Iv.begun {n SB m SA : Nat} {al : Nat → Bool} {E : Nat → Nat → Prop} {G : Nat → List Arc} {ws hs : List Nat} (hw : n ≤ 64 * ws.length) (h1 : ∀ k, mem ws k = false) (h2 : ∀ k, mem hs k = false) : Iv n SB m SA al E G (fun _ => False) ws 0 [] hs :=
 ⟨hw, fun k h => (by rw [h1] at h; cases h), fun k h => (by cases h), fun k h => (by rw [h1] at h; cases h), fun t g _ _ h => (by rw [h2] at h; cases h), (sm_zero fun k _ => by rw [h1]; rfl).symm, Nat.le_refl _⟩
theorem Iv.pop {n SB m SA : Nat} {al : Nat → Bool} {E : Nat → Nat → Prop} {G : Nat → List Arc} {ws : List Nat} {cnt : Nat} {T hs : List Nat} {P : Nat} (h : Iv n SB m SA al E G (fun _ => False) ws cnt (T ++ [P]) hs) : Iv n SB m SA al E G (fun k => k = P) ws cnt T hs ∧ mem ws P = true :=
 ⟨⟨h.wl, h.lt, fun k hk => h.tm k (List.mem_append_left _ hk), fun k hk hT hx k' => h.cl k hk (fun hT' => by
  rcases List.mem_append.1 hT' with h1 | h1
  ·exact hT h1
  ·exact hx (List.mem_singleton.1 h1)) id k', h.hf, h.ct, by have := h.tl; rw [List.length_append] at this; omega⟩, h.tm P (by simp)⟩
theorem Iv.done {n SB m SA : Nat} {al : Nat → Bool} {E : Nat → Nat → Prop} {G : Nat → List Arc} {ws : List Nat} {cnt : Nat} {T hs : List Nat} {P : Nat} (h : Iv n SB m SA al E G (fun k => k = P) ws cnt T hs) (hd : ∀ k', E P k' → al k' = true → mem ws k' = true) : Iv n SB m SA al E G (fun _ => False) ws cnt T hs :=
 ⟨h.wl, h.lt, h.tm, fun k hk hT _ k' hE ha => by
  by_cases e : k = P
  ·subst e; exact hd k' hE ha
  ·exact h.cl k hk hT e k' hE ha, h.hf, h.ct, h.tl⟩
theorem Iv.half {n SB m SA : Nat} {al : Nat → Bool} {E : Nat → Nat → Prop} {G : Nat → List Arc} {ex : Nat → Prop} {ws : List Nat} {cnt : Nat} {T hs : List Nat} (h : Iv n SB m SA al E G ex ws cnt T hs) {t g : Nat} (hg : g < m) (hl : (t * m + g) / 64 < hs.length) (hd : ∀ y ∈ G g, ∀ k' : Nat, (t : Int) * (SB : Int) + y.2.1 = (k' : Int) → al k' = true → mem ws k' = true) : Iv n SB m SA al E G ex ws cnt T (put hs (t * m + g)) :=
 ⟨h.wl, h.lt, h.tm, h.cl, fun t' g' ht' hg' hm => by
  rw [mem_put _ _ _ hl] at hm
  cases hm0 : mem hs (t' * m + g') with
  | true => exact h.hf t' g' ht' hg' hm0
  | false =>
   rw [hm0] at hm
   have e : t' * m + g' = t * m + g := by simpa using hm
   have e1 := (pd (s := t') hg').1
   have e2 := (pd (s := t') hg').2
   rw [e, (pd hg).1] at e1
   rw [e, (pd hg).2] at e2
   subst e1 e2
   exact hd, h.ct, h.tl⟩
/-- which of the arcs have been gone along -/
def Dn (al : Nat → Bool) (ws : List Nat) (l : List Arc) : Prop := ∀ e ∈ l, ∀ k' : Nat, e.2.1 = (k' : Int) → al k' = true → mem ws k' = true
theorem Dn.up {al : Nat → Bool} {ws ws' : List Nat} {l : List Arc} (h : Dn al ws l) (hu : ∀ k, mem ws k = true → mem ws' k = true) : Dn al ws' l := fun e he k' h1 h2 => hu _ (h e he k' h1 h2)
theorem Dn.app {al : Nat → Bool} {ws : List Nat} {l l' : List Arc} (h : Dn al ws l) (h' : Dn al ws l') : Dn al ws (l ++ l') := fun e he => (List.mem_append.1 he).elim (h e) (h' e)
theorem Dn.one {al : Nat → Bool} {ws : List Nat} {e : Arc} {P : Nat} (he : e.2.1 = (P : Int)) (h : al P = true → mem ws P = true) : Dn al ws [e] := fun e' he' k' h1 h2 => by
 rw [List.mem_singleton] at he'
 subst he'
 rw [he] at h1
 obtain rfl : P = k' := by omega
 exact h h2
theorem take_flat1 (l : List Arc) (f : Arc → List Arc) (x : Nat) (h : x < l.length) : (l.take (x + 1)).flatMap f = (l.take x).flatMap f ++ f l[x] := by rw [List.take_succ_eq_append_getElem h, List.flatMap_append]; simp
theorem take_map1 (l : List Arc) (f : Arc → Arc) (x : Nat) (h : x < l.length) : (l.take (x + 1)).map f = (l.take x).map f ++ [f l[x]] := by rw [List.take_succ_eq_append_getElem h, List.map_append]; rfl
end Go.Proofs.YtfjocafepigijaaDoor.Cu
