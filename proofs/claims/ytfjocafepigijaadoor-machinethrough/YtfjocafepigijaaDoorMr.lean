/- right: what was refused is right where it had to be refused; what was made is right where the machine is one and costs what is told. Condition: no text is longer than 61. -/
import Derived.Test.YtfjocafepigijaaDoorAtM
namespace Go.Proofs.YtfjocafepigijaaDoor.Mc
open Go.RowKit Mv Wk Sy Rz

set_option maxHeartbeats 1000000 in
theorem right_bad (e : Int) (he : e ≠ 0) (sm : Bool) (vi vo : Value) (want : Int) (w : World) :
  Calls Tryd.prog 18 #[.agg #[.int .i64 0, .slice none 0 0, .slice none 0 0], .int .i64 e, .int .i64 e, .bool sm, vi, vo, .int .i64 want] w fun r w' => r = .returned (.bool true) ∧ Below w.heap.size w w' := by
 have e0 : (e != 0) = true := by simpa using he
 have e1 : (e == e) = true := by simp
 have hb := fun o => (Below.refl w.heap.size w).alloc (Nat.le_refl _) o
 go_enter Tryd.func18, Tryd.ntmps18
 go_wp2
 repeat (go_quiet (fail); go_wp2)
 go_ret
 exact ⟨rfl, by first | exact hb _ | exact below_drewN (hb _) _⟩

set_option maxHeartbeats 1000000 in
/-- a machine that was too great for what a machine may be -/
theorem right_far (e : Int) (he : e = 7 ∨ e = 3) (vi vo : Value) (want : Int) (w : World) :
  Calls Tryd.prog 18 #[.agg #[.int .i64 0, .slice none 0 0, .slice none 0 0], .int .i64 e, .int .i64 0, .bool false, vi, vo, .int .i64 want] w fun r w' => r = .returned (.bool true) ∧ Below w.heap.size w w' := by
 have hb := fun o => (Below.refl w.heap.size w).alloc (Nat.le_refl _) o
 rcases he with rfl | rfl
 ·go_enter Tryd.func18, Tryd.ntmps18
  go_wp2
  repeat (go_quiet (fail); go_wp2)
  go_ret
  exact ⟨rfl, by first | exact hb _ | exact below_drewN (hb _) _⟩
 ·go_enter Tryd.func18, Tryd.ntmps18
  go_wp2
  repeat (go_quiet (fail); go_wp2)
  go_ret
  exact ⟨rfl, by first | exact hb _ | exact below_drewN (hb _) _⟩

theorem size_all {m : M} (h : checkP m 0) : 1 ≤ m.st ∧ m.st ≤ 3000 ∧ m.arcs.length ≤ 20000 ∧ m.fins.length ≤ 3000 := by
 have h1 := (checkP_ok h).1
 unfold sizeB at h1
 simp only [decide_eq_true_eq] at h1
 omega
/-- the document's Cost of any machine that is one; it is dear, or not much -/
theorem cost_of2 (m : M) (inn out : List Int) (v vi vo : Value) (w : World) (hM : IsM w v m) (hI : IsI w vi inn) (hO : IsI w vo out) (hc : checkP m 0) (hi : inn.length ≤ 61) (ho : out.length ≤ 61) :
  Calls Tryd.prog 12 #[v, vi, vo, .bool true] w fun e w' => ∃ c : Nat, e = .returned (.int .i64 (c : Int)) ∧ (IsCost m inn out true c ∧ (c = dear ∨ c ≤ 11532001000000)) ∧ Below w.heap.size w w' := by
 obtain ⟨s1, s2, s3, s4⟩ := size_all hc
 obtain ⟨_, harc, hfin⟩ := checkP_ok hc
 obtain ⟨st, arcs, fins⟩ := m
 obtain ⟨va, vf, rfl, ⟨_, aa, ca, rfl, _, hA⟩, ⟨_, af, cf, rfl, _, hF⟩⟩ := hM
 obtain ⟨_, ai, ci, rfl, _, hIc⟩ := hI
 obtain ⟨_, ao, co, rfl, _, hOc⟩ := hO
 dsimp only at s1 s2 s3 s4 harc hfin hA hF ⊢
 obtain ⟨S, rfl⟩ : ∃ S : Nat, st = (S : Int) := ⟨st.toNat, by omega⟩
 exact CR.cost_true2 S arcs fins inn out aa af ai ao ca cf ci co w (by omega) (by omega) hi ho s3 s4 harc hfin hA hF hIc hOc

theorem cost_of (m : M) (inn out : List Int) (v vi vo : Value) (w : World) (hM : IsM w v m) (hI : IsI w vi inn) (hO : IsI w vo out) (hc : checkP m 0) (hi : inn.length ≤ 61) (ho : out.length ≤ 61) :
  Calls Tryd.prog 12 #[v, vi, vo, .bool true] w fun e w' => ∃ c : Nat, e = .returned (.int .i64 (c : Int)) ∧ IsCost m inn out true c ∧ Below w.heap.size w w' :=
 (cost_of2 m inn out v vi vo w hM hI hO hc hi ho).mono fun _ _ ⟨c, h1, h2, h3⟩ => ⟨c, h1, h2.1, h3⟩
set_option maxHeartbeats 1000000 in
theorem right_ok (m : M) (inn out : List Int) (c : Nat) (v vi vo : Value) (sm : Bool) (w : World) (hM : IsM w v m) (hI : IsI w vi inn) (hO : IsI w vo out) (hc : checkP m 0) (hi : inn.length ≤ 61) (ho : out.length ≤ 61) (hcost : IsCost m inn out true c) :
  Calls Tryd.prog 18 #[v, .int .i64 0, .int .i64 0, .bool sm, vi, vo, .int .i64 (c : Int)] w fun r w' => r = .returned (.bool true) ∧ Below w.heap.size w w' := by
 have con7 : ∀ W, Below w.heap.size w W → Calls Tryd.prog 10 #[v] W fun e W' => e = .returned (.int .i64 0) ∧ Below W.heap.size W W' := fun W hW => (CkR.check_any m v W (hM.below hW)).mono (fun e W' ⟨⟨x, h1, h2⟩, h3⟩ => ⟨by rw [h1, checkP_one h2 hc], h3⟩)
 have con9 : ∀ W, Below w.heap.size w W → Calls Tryd.prog 12 #[v, vi, vo, .bool true] W fun e W' => e = .returned (.int .i64 (c : Int)) ∧ Below W.heap.size W W' := fun W hW => (cost_of m inn out v vi vo W (hM.below hW) (hI.below hW) (hO.below hW) hc hi ho).mono (fun e W' ⟨d, h1, h2, h3⟩ => ⟨by rw [h1, h2.one hcost], h3⟩)
 have hb := fun o => (Below.refl w.heap.size w).alloc (Nat.le_refl _) o
 obtain ⟨va, vf, rfl, ⟨_, aa, ca, rfl, _, _⟩, ⟨_, af, cf, rfl, _, _⟩⟩ := hM
 have e1 : ((c : Int) == (c : Int)) = true := by simp
 clear hc hcost hI hO
 go_enter Tryd.func18, Tryd.ntmps18
 go_wp2_with (first | (go_at_call 10; with_reducible refine (con7 _ (hb _)).mono ?_; rintro e w1 ⟨rfl, hb1⟩; have hw1 : Below w.heap.size w w1 := (hb _).trans (hb1.mono (by simp)); have bx := box3 hb1; obtain ⟨bx0, bx1, bx2⟩ := bx) | (go_at_call 12; with_reducible refine (con9 w1 hw1).mono ?_; rintro e w2 ⟨rfl, hb2⟩; have hw2 : Below w.heap.size w w2 := hw1.trans (hb2.mono hw1.size)))
 repeat (go_quiet (fail); go_wp2)
 go_ret
 exact ⟨rfl, by first | exact hw2 | exact below_drewN hw2 _⟩
end Go.Proofs.YtfjocafepigijaaDoor.Mc
