/- put: an arc more. Conditions: its numbers have 64 bits; the arcs are not too many. -/
import Derived.Test.YtfjocafepigijaaDoorSkM
import Derived.Test.YtfjocafepigijaaDoorTdM
import Derived.Test.YtfjocafepigijaaDoorTe
namespace Go.Proofs.YtfjocafepigijaaDoor.Am
open Go.RowKit Mv Qp Sk Po Ps Wd Se Mp St Cm Nm Nx

theorem IsAm.look_no {w : World} {b n : Nat} {G : Nam → Option Nat} (h : IsAm w b n G) {f t i o x : Int} (ha : Ok4 (nam (f, t, i, o, x))) (hp : G (f, t, i, o) = none) : (Instr.lookup 130 (.map (some b)) (.agg #[.int .i64 f, .int .i64 t, .int .i64 i, .int .i64 o, .int .i64 0]) true).run Tryd.prog w = .ok (.tuple #[.int .i64 0, .bool false]) w := by
 have := h.look ha
 rw [show G (nam (f, t, i, o, x)) = none from hp] at this
 exact this
theorem IsAm.look_yes {w : World} {b n k : Nat} {G : Nam → Option Nat} (h : IsAm w b n G) {f t i o x : Int} (ha : Ok4 (nam (f, t, i, o, x))) (hp : G (f, t, i, o) = some k) : (Instr.lookup 130 (.map (some b)) (.agg #[.int .i64 f, .int .i64 t, .int .i64 i, .int .i64 o, .int .i64 0]) true).run Tryd.prog w = .ok (.tuple #[.int .i64 (k : Int), .bool true]) w := by
 have := h.look ha
 rw [show G (nam (f, t, i, o, x)) = some k from hp] at this
 exact this
theorem own_slice {w : World} {base e size n : Nat} {v : Value} {xs : List Value} (h : w.ownsRow base e size v n xs) : ∃ ad cap, v = .slice ad n cap := by
 rcases h.2 with ⟨h1, h2⟩ | ⟨g, cap, _, h1, _⟩
 ·subst h2
  exact ⟨_, _, h1⟩
 ·exact ⟨_, _, h1⟩
set_option maxRecDepth 1000000 in
theorem len_of {w : World} {base e size n : Nat} {v : Value} {xs : List Value} (h : w.ownsRow base e size v n xs) (W : World) : Sem.run Tryd.prog (Builtin.len_ #[22] 3 #[v]) W = .ok (.int .i64 (n : Int)) W := by
 obtain ⟨ad, cap, rfl⟩ := own_slice h
 first | kernel_rfl | rfl
theorem eql_some (mb : Nat) (W : World) : Sem.run Tryd.prog (binOp .eql 130 (.map (some mb)) (.map none)) W = .ok (.bool false) W := by
 first | kernel_rfl | rfl | (unfold binOp; simp [Tryd.underlying130]; done)
theorem eql_none (W : World) : Sem.run Tryd.prog (binOp .eql 130 (.map none) (.map none)) W = .ok (.bool true) W := by
 first | kernel_rfl | rfl | (unfold binOp; simp [Tryd.underlying130]; done)
set_option maxHeartbeats 4000000 in
set_option maxRecDepth 100000 in
theorem put_some (base : Nat) (Lb mb : Nat) (A : List Arc) (va : Value) (f t i o x : Int) (w : World) (h : Al base w Lb mb A va) (hok : Ok4 (f, t, i, o)) (hA : A.length ≤ 20001) (hbase : base ≤ w.heap.size) :
  Calls Tryd.prog 65 #[.pointer (some ⟨Lb, 0, none⟩), .agg #[.int .i64 f, .int .i64 t, .int .i64 i, .int .i64 o, .int .i64 x]] w fun e w' => e = .returned (.tuple #[]) ∧ ∃ va', Al base w' Lb mb (putP A (f, t, i, o, x)) va' ∧ Kp (Own Lb mb va) w w' ∧ (va'.ownBlock = va.ownBlock ∨ ∃ g, va'.ownBlock = some g ∧ w.heap.size ≤ g) := by
 obtain ⟨i0, hi, hz0, hz1, hz2⟩ := info_parts info36
 have heq := eql_some mb
 have HAP : Hid _ := h.apart
 have HOK : Hid (Ok4 (nam (f, t, i, o, x))) := hok
 have HLN : Hid (A.length ≤ 20001) := hA
 have HA1 : Hid (Al base (w.alloc (.cells #[.int .i64 f, .int .i64 t, .int .i64 i, .int .i64 o, .int .i64 x] 64)) Lb mb A va) := h.alloc _
 have hbL : w.heap.size ≠ Lb := fun e => by have := lt_at h.row; omega
 have hbm : ¬ mb = w.heap.size := fun e => by have := h.mp.lt; omega
 have hbv : va.ownBlock ≠ some w.heap.size := fun e => by have := (h.arcs.lt _ e).2; omega
 have xb1 := heap_alloc_new w (.cells #[.int .i64 f, .int .i64 t, .int .i64 i, .int .i64 o, .int .i64 x] 64)
 have HK1 : Hid (Kp (Own Lb mb va) w (w.alloc (.cells #[.int .i64 f, .int .i64 t, .int .i64 i, .int .i64 o, .int .i64 x] 64))) := (Kp.refl _ w).alloc _
 go_enter Tryd.func65, Tryd.ntmps65
 go_upto_region 1 with fail
 generalize hV : w.alloc (.cells #[.int .i64 f, .int .i64 t, .int .i64 i, .int .i64 o, .int .i64 x] 64) = V at *
 clear hV h hok hA
 have u1 := cell_of_row _ _ 1 _ _ _ HA1.out.row
 go_upto_region 3 with fail
 clear u1
 have HPO : Hid (∀ e w', (e = .returned (.tuple #[]) ∧ ∃ va', Al base w' Lb mb (putP A (f, t, i, o, x)) va' ∧ Kp (Own Lb mb va) w w' ∧ (va'.ownBlock = va.ownBlock ∨ ∃ g, va'.ownBlock = some g ∧ w.heap.size ≤ g)) → (e = Ending.returned (.tuple #[]) ∧ ∃ va', Al base w' Lb mb (putP A (f, t, i, o, x)) va' ∧ Kp (Own Lb mb va) w w' ∧ (va'.ownBlock = va.ownBlock ∨ ∃ g, va'.ownBlock = some g ∧ w.heap.size ≤ g))) := fun _ _ h => h
 have v0 := cell_of_row _ _ 0 _ _ _ xb1
 have v1 := cell_of_row _ _ 1 _ _ _ xb1
 have v2 := cell_of_row _ _ 2 _ _ _ xb1
 have v3 := cell_of_row _ _ 3 _ _ _ xb1
 have v4 := cell_of_row _ _ 4 _ _ _ xb1
 go_upto_region 5 with fail
 have xn := heap_alloc_new V (.cells #[.int .i64 f, .int .i64 t, .int .i64 i, .int .i64 o, .int .i64 0] 64)
 have xb := (heap_alloc_old V (.cells #[.int .i64 f, .int .i64 t, .int .i64 i, .int .i64 o, .int .i64 0] 64) (lt_at xb1)).trans xb1
 have HA : Hid (Al base (V.alloc (.cells #[.int .i64 f, .int .i64 t, .int .i64 i, .int .i64 o, .int .i64 0] 64)) Lb mb A va) := HA1.out.alloc _
 have HK : Hid (Kp (Own Lb mb va) w (V.alloc (.cells #[.int .i64 f, .int .i64 t, .int .i64 i, .int .i64 o, .int .i64 0] 64))) := HK1.out.alloc _
 have hnm : ¬ mb = V.heap.size := fun e => by have := HA1.out.mp.lt; omega
 have HSZ : Hid (w.heap.size ≤ (V.alloc (.cells #[.int .i64 f, .int .i64 t, .int .i64 i, .int .i64 o, .int .i64 0] 64)).heap.size) := HK.out.size
 clear v0 v1 v2 v3 v4 HA1 HK1 xb1
 generalize hV : V.alloc (.cells #[.int .i64 f, .int .i64 t, .int .i64 i, .int .i64 o, .int .i64 0] 64) = VV at *
 clear hV
 generalize V.heap.size = bn at *
 generalize w.heap.size = bx at xb hbL hbm hbv ⊢
 cases hp : pos A (f, t, i, o) with
 | none =>
  have HNO : Hid (pos A (nam (f, t, i, o, x)) = none) := hp
  have HPP : Hid (putP A (f, t, i, o, x) = A ++ [(f, t, i, o, x)]) := by show _ = _; unfold putP; rw [HNO.out]
  have HCE : Hid _ := fun (W : World) (hSw : Al base W Lb mb A va ∧ W.heap[bx]? = some (.cells #[.int .i64 f, .int .i64 t, .int .i64 i, .int .i64 o, .int .i64 x] 64 (0, 0)) ∧ W.heap[bn]? = some (.cells #[.int .i64 f, .int .i64 t, .int .i64 i, .int .i64 o, .int .i64 0] 64 (0, 0))) => (And.intro (cell_of_row _ _ 1 _ _ _ hSw.1.row) (And.intro (cell_of_row _ _ 0 _ _ _ hSw.2.2) (And.intro (cell_of_row _ _ 1 _ _ _ hSw.2.2) (And.intro (cell_of_row _ _ 2 _ _ _ hSw.2.2) (And.intro (cell_of_row _ _ 3 _ _ _ hSw.2.2) (cell_of_row _ _ 4 _ _ _ hSw.2.2))))))
  refine wp_region_held_drew (S := fun W => Al base W Lb mb A va ∧ W.heap[bx]? = some (.cells #[.int .i64 f, .int .i64 t, .int .i64 i, .int .i64 o, .int .i64 x] 64 (0, 0)) ∧ W.heap[bn]? = some (.cells #[.int .i64 f, .int .i64 t, .int .i64 i, .int .i64 o, .int .i64 0] 64 (0, 0))) (by kernel_rfl) (by exact ⟨HA.out.drewN 1, xb, xn⟩) (fun hHeld => ?_)
  have hS0 := hHeld
  have HK : Hid (Kp (Own Lb mb va) w VV.drew) := HK.out.drewN 1
  have HSZ : Hid (w.heap.size ≤ VV.drew.heap.size) := HSZ.out
  clear HA xb xn
  generalize hV : VV.drew = VV at *
  clear hV
  refine tk (v := ?_) 0 { dst := some 19, op := .move (.tmp 0), type := 180, pos := "through.go:54", after := #[], guard := none } (by rfl) ?_ ?_
  case refine_2 => intro w hSw; (try dsimp only at hSw); obtain ⟨q1, n0, n1, n2, n3, n4⟩ := HCE.out _ hSw; go_simp; (try with_reducible rfl)
  simp only [Act.put, zS0, zS1, zS2]
  refine tk (v := ?_) 1 { dst := some 20, op := .nilCheck (.tmp 19), type := 0, pos := "through.go:54", after := #[⟨0, .data⟩], guard := none } (by rfl) ?_ ?_
  case refine_2 => intro w hSw; (try dsimp only at hSw); obtain ⟨q1, n0, n1, n2, n3, n4⟩ := HCE.out _ hSw; go_simp; (try with_reducible rfl)
  simp only [Act.put, zS0, zS1, zS2]
  refine tk (v := ?_) 2 { dst := some 21, op := .fieldAddr 132 (.tmp 20) 1, type := 0, pos := "through.go:54", after := #[⟨1, .data⟩], guard := none } (by rfl) ?_ ?_
  case refine_2 => intro w hSw; (try dsimp only at hSw); obtain ⟨q1, n0, n1, n2, n3, n4⟩ := HCE.out _ hSw; go_simp; (try with_reducible rfl)
  simp only [Act.put, zS0, zS1, zS2]
  refine tk (v := ?_) 3 { dst := some 22, op := .load 130 (.tmp 21), type := 130, pos := "through.go:54", after := #[⟨2, .data⟩], guard := none } (by rfl) ?_ ?_
  case refine_2 => intro w hSw; (try dsimp only at hSw); obtain ⟨q1, n0, n1, n2, n3, n4⟩ := HCE.out _ hSw; go_simp; (try with_reducible rfl)
  simp only [Act.put, zS0, zS1, zS2]
  refine tk (v := ?_) 4 { dst := some 23, op := .load 64 (.tmp 4), type := 64, pos := "through.go:54", after := #[], guard := none } (by rfl) ?_ ?_
  case refine_2 => intro w hSw; (try dsimp only at hSw); obtain ⟨q1, n0, n1, n2, n3, n4⟩ := HCE.out _ hSw; go_simp; (try with_reducible rfl)
  simp only [Act.put, zS0, zS1, zS2]
  refine wpAnyH_ready (rs := [5]) (by kernel_rfl) (by simp) ?_
  refine (AllReadyH.cons (o := { dst := some 24, op := .lookup 130 (.tmp 22) (.tmp 23) true, type := 149, pos := "through.go:54", after := #[⟨3, .data⟩, ⟨4, .data⟩], guard := none }) rfl (fun K hK => ?_) AllReadyH.nil)
  have lk := hS0.1.mp.look_no HOK.out hp
  go_simp
  clear lk
  refine hK.out _ _ ?_ (fun hHeld => ?_)
  ·exact hS0
  clear hK K
  try simp only [Act.put, zS0, zS1, zS2]
  refine tk (v := ?_) 6 { dst := some 18, op := .move (.tmp 24), type := 149, pos := "through.go:54", after := #[⟨5, .data⟩], guard := none } (by rfl) ?_ ?_
  case refine_2 => intro w hSw; (try dsimp only at hSw); obtain ⟨q1, n0, n1, n2, n3, n4⟩ := HCE.out _ hSw; go_simp; (try with_reducible rfl)
  simp only [Act.put, zS0, zS1, zS2]
  refine tk (v := ?_) 7 { dst := some 25, op := .extract (.tmp 18) 0, type := 3, pos := "through.go:54", after := #[⟨6, .data⟩], guard := none } (by rfl) ?_ ?_
  case refine_2 => intro w hSw; (try dsimp only at hSw); obtain ⟨q1, n0, n1, n2, n3, n4⟩ := HCE.out _ hSw; go_simp; (try with_reducible rfl)
  simp only [Act.put, zS0, zS1, zS2]
  refine tk (v := ?_) 8 { dst := some 26, op := .extract (.tmp 18) 1, type := 4, pos := "through.go:54", after := #[⟨6, .data⟩, { on := 9, ground := Ground.gcOnly Departure.lateStores }], guard := none } (by rfl) ?_ ?_
  case refine_2 => intro w hSw; (try dsimp only at hSw); obtain ⟨q1, n0, n1, n2, n3, n4⟩ := HCE.out _ hSw; go_simp; (try with_reducible rfl)
  simp only [Act.put, zS0, zS1, zS2]
  refine tk (v := ?_) 9 { dst := some 5, op := .assign (.tmp 25), type := 3, pos := "through.go:54", after := #[⟨7, .data⟩, ⟨0, .phase⟩, ⟨1, .phase⟩, ⟨2, .phase⟩, ⟨3, .phase⟩, ⟨4, .phase⟩, ⟨5, .phase⟩, ⟨6, .phase⟩, ⟨7, .phase⟩, { on := 8, ground := Ground.textOnly Departure.lateStores }], guard := none } (by rfl) ?_ ?_
  case refine_2 => intro w hSw; (try dsimp only at hSw); obtain ⟨q1, n0, n1, n2, n3, n4⟩ := HCE.out _ hSw; go_simp; (try with_reducible rfl)
  simp only [Act.put, zS0, zS1, zS2]
  refine tk (v := ?_) 10 { dst := some 6, op := .assign (.tmp 26), type := 4, pos := "through.go:54", after := #[⟨8, .data⟩, ⟨9, .chain⟩, ⟨0, .phase⟩, ⟨1, .phase⟩, ⟨2, .phase⟩, ⟨3, .phase⟩, ⟨4, .phase⟩, ⟨5, .phase⟩, ⟨6, .phase⟩, ⟨7, .phase⟩, ⟨8, .phase⟩, ⟨9, .phase⟩], guard := none } (by rfl) ?_ ?_
  case refine_2 => intro w hSw; (try dsimp only at hSw); obtain ⟨q1, n0, n1, n2, n3, n4⟩ := HCE.out _ hSw; go_simp; (try with_reducible rfl)
  simp only [Act.put, zS0, zS1, zS2]
  refine wpAnyH_done (by kernel_rfl) ?_ _
  have HA : Hid _ := hS0.1
  have xb := hS0.2.1
  have xn := hS0.2.2
  clear hp hS0
  have hlen := len_of HA.out.arcs
  go_upto_region 7 with fail
  have HCE : Hid _ := fun (W : World) (hSw : W.heap[Lb]? = some (.cells #[va, .map (some mb)] 132 (0, 0)) ∧ W.heap[bx]? = some (.cells #[.int .i64 f, .int .i64 t, .int .i64 i, .int .i64 o, .int .i64 x] 64 (0, 0)) ∧ W.heap[bn]? = some (.cells #[.int .i64 f, .int .i64 t, .int .i64 i, .int .i64 o, .int .i64 0] 64 (0, 0))) => (And.intro (cell_of_row _ _ 0 _ _ _ hSw.1) (And.intro (cell_of_row _ _ 1 _ _ _ hSw.1) (And.intro (cell_of_row _ _ 0 _ _ _ hSw.2.2) (And.intro (cell_of_row _ _ 1 _ _ _ hSw.2.2) (And.intro (cell_of_row _ _ 2 _ _ _ hSw.2.2) (And.intro (cell_of_row _ _ 3 _ _ _ hSw.2.2) (cell_of_row _ _ 4 _ _ _ hSw.2.2)))))))
  refine wp_region_held_drew (S := fun W => W.heap[Lb]? = some (.cells #[va, .map (some mb)] 132 (0, 0)) ∧ W.heap[bx]? = some (.cells #[.int .i64 f, .int .i64 t, .int .i64 i, .int .i64 o, .int .i64 x] 64 (0, 0)) ∧ W.heap[bn]? = some (.cells #[.int .i64 f, .int .i64 t, .int .i64 i, .int .i64 o, .int .i64 0] 64 (0, 0))) (by kernel_rfl) (by exact ⟨HA.out.row, xb, xn⟩) (fun hHeld => ?_)
  have hS0 := hHeld
  have HA0 : Hid (Al base VV.drew Lb mb A va) := HA.out.drewN 1
  have HK0 : Hid (Kp (Own Lb mb va) w VV.drew) := HK.out.drewN 1
  have HSZ : Hid (w.heap.size ≤ VV.drew.heap.size) := HSZ.out
  clear HA HK xb xn
  generalize hV : VV.drew = V0 at *
  clear hV
  refine tk (v := ?_) 0 { dst := some 29, op := .move (.tmp 0), type := 180, pos := "through.go:56", after := #[], guard := none } (by rfl) ?_ ?_
  case refine_2 => intro w hSw; (try dsimp only at hSw); obtain ⟨q0, q1, n0, n1, n2, n3, n4⟩ := HCE.out _ hSw; go_simp; (try with_reducible rfl)
  simp only [Act.put, zS0, zS1, zS2]
  refine tk (v := ?_) 1 { dst := some 30, op := .nilCheck (.tmp 29), type := 0, pos := "through.go:56", after := #[⟨0, .data⟩], guard := none } (by rfl) ?_ ?_
  case refine_2 => intro w hSw; (try dsimp only at hSw); obtain ⟨q0, q1, n0, n1, n2, n3, n4⟩ := HCE.out _ hSw; go_simp; (try with_reducible rfl)
  simp only [Act.put, zS0, zS1, zS2]
  refine tk (v := ?_) 2 { dst := some 31, op := .fieldAddr 132 (.tmp 30) 1, type := 0, pos := "through.go:56", after := #[⟨1, .data⟩], guard := none } (by rfl) ?_ ?_
  case refine_2 => intro w hSw; (try dsimp only at hSw); obtain ⟨q0, q1, n0, n1, n2, n3, n4⟩ := HCE.out _ hSw; go_simp; (try with_reducible rfl)
  simp only [Act.put, zS0, zS1, zS2]
  refine tk (v := ?_) 3 { dst := some 32, op := .load 130 (.tmp 31), type := 130, pos := "through.go:56", after := #[⟨2, .data⟩], guard := none } (by rfl) ?_ ?_
  case refine_2 => intro w hSw; (try dsimp only at hSw); obtain ⟨q0, q1, n0, n1, n2, n3, n4⟩ := HCE.out _ hSw; go_simp; (try with_reducible rfl)
  simp only [Act.put, zS0, zS1, zS2]
  refine tk (v := ?_) 4 { dst := some 33, op := .load 64 (.tmp 4), type := 64, pos := "through.go:56", after := #[], guard := none } (by rfl) ?_ ?_
  case refine_2 => intro w hSw; (try dsimp only at hSw); obtain ⟨q0, q1, n0, n1, n2, n3, n4⟩ := HCE.out _ hSw; go_simp; (try with_reducible rfl)
  simp only [Act.put, zS0, zS1, zS2]
  refine tk (v := ?_) 5 { dst := some 34, op := .move (.tmp 0), type := 180, pos := "through.go:56", after := #[], guard := none } (by rfl) ?_ ?_
  case refine_2 => intro w hSw; (try dsimp only at hSw); obtain ⟨q0, q1, n0, n1, n2, n3, n4⟩ := HCE.out _ hSw; go_simp; (try with_reducible rfl)
  simp only [Act.put, zS0, zS1, zS2]
  refine tk (v := ?_) 6 { dst := some 35, op := .nilCheck (.tmp 34), type := 0, pos := "through.go:56", after := #[⟨5, .data⟩], guard := none } (by rfl) ?_ ?_
  case refine_2 => intro w hSw; (try dsimp only at hSw); obtain ⟨q0, q1, n0, n1, n2, n3, n4⟩ := HCE.out _ hSw; go_simp; (try with_reducible rfl)
  simp only [Act.put, zS0, zS1, zS2]
  refine tk (v := ?_) 7 { dst := some 36, op := .fieldAddr 132 (.tmp 35) 0, type := 0, pos := "through.go:56", after := #[⟨6, .data⟩], guard := none } (by rfl) ?_ ?_
  case refine_2 => intro w hSw; (try dsimp only at hSw); obtain ⟨q0, q1, n0, n1, n2, n3, n4⟩ := HCE.out _ hSw; go_simp; (try with_reducible rfl)
  simp only [Act.put, zS0, zS1, zS2]
  refine tk (v := ?_) 8 { dst := some 37, op := .load 22 (.tmp 36), type := 22, pos := "through.go:56", after := #[⟨7, .data⟩], guard := none } (by rfl) ?_ ?_
  case refine_2 => intro w hSw; (try dsimp only at hSw); obtain ⟨q0, q1, n0, n1, n2, n3, n4⟩ := HCE.out _ hSw; go_simp; (try with_reducible rfl)
  simp only [Act.put, zS0, zS1, zS2]
  refine tk (v := ?_) 9 { dst := some 38, op := .call { callee := .builtin .len, args := #[.tmp 37], argTypes := #[22] }, type := 3, pos := "through.go:56", after := #[⟨8, .data⟩], guard := none } (by rfl) ?_ ?_
  case refine_2 => intro w hSw; (try dsimp only at hSw); obtain ⟨q0, q1, n0, n1, n2, n3, n4⟩ := HCE.out _ hSw; go_simp; (try with_reducible rfl)
  simp only [Act.put, zS0, zS1, zS2]
  refine wpAnyH_ready (rs := [10]) (by kernel_rfl) (by simp) ?_
  refine (AllReadyH.cons (o := { dst := none, op := .mapUpdate 130 (.tmp 32) (.tmp 33) (.tmp 38), type := 0, pos := "through.go:56", after := #[⟨3, .data⟩, ⟨4, .data⟩, ⟨9, .data⟩, ⟨0, .phase⟩, ⟨1, .phase⟩, ⟨2, .phase⟩, ⟨3, .phase⟩, ⟨4, .phase⟩, ⟨5, .phase⟩, ⟨6, .phase⟩, ⟨7, .phase⟩, ⟨8, .phase⟩, ⟨9, .phase⟩], guard := none }) rfl (fun K hK => ?_) AllReadyH.nil)
  obtain ⟨W7, hr7, ham, hg7⟩ := HA0.out.mp.store (c := A.length) (by have := HLN.out; unfold maxLen; omega) HOK.out
  unfold vn nam at hr7
  dsimp only at hr7
  go_simp
  have hS7 := And.intro ((hg7.block _ (lt_at hS0.1) (fun e => HAP.out.1 (by cases e; rfl))).trans hS0.1) (And.intro ((hg7.block _ (lt_at hS0.2.1) (fun e => hbm (by cases e; rfl))).trans hS0.2.1) ((hg7.block _ (lt_at hS0.2.2) (fun e => hnm (by cases e; rfl))).trans hS0.2.2))
  refine hK.out _ _ ?_ (fun hHeld => ?_)
  ·exact hS7
  clear hK K
  try simp only [Act.put, zS0, zS1, zS2]
  refine wpAnyH_done (by kernel_rfl) ?_ _
  have HAM : Hid _ := ham
  have HG7 : Hid _ := hg7
  clear ham hg7 hr7 hS0
  go_upto_region 8 with fail
  have HCE : Hid _ := fun (W : World) (hSw : W.heap[bx]? = some (.cells #[.int .i64 f, .int .i64 t, .int .i64 i, .int .i64 o, .int .i64 x] 64 (0, 0))) => (And.intro (cell_of_row _ _ 0 _ _ _ hSw) (And.intro (cell_of_row _ _ 1 _ _ _ hSw) (And.intro (cell_of_row _ _ 2 _ _ _ hSw) (And.intro (cell_of_row _ _ 3 _ _ _ hSw) (cell_of_row _ _ 4 _ _ _ hSw)))))
  refine wp_region_held_drew (S := fun W => W.heap[bx]? = some (.cells #[.int .i64 f, .int .i64 t, .int .i64 i, .int .i64 o, .int .i64 x] 64 (0, 0))) (by kernel_rfl) (by exact hS7.2.1) (fun hHeld => ?_)
  have hS8 := hHeld
  have y0 : W7.drew.heap[Lb]? = _ := hS7.1
  have HK8 : Hid (Kp (fun _ => False) W7 W7.drew) := (Kp.refl _ _).drewN 1
  clear hS7
  generalize hV : W7.drew = V8 at *
  clear hV
  refine tk (v := ?_) 0 { dst := some 39, op := .move (.tmp 0), type := 180, pos := "through.go:57", after := #[], guard := none } (by rfl) ?_ ?_
  case refine_2 => intro w hSw; (try dsimp only at hSw); obtain ⟨z0, z1, z2, z3, z4⟩ := HCE.out _ hSw; go_simp; (try with_reducible rfl)
  simp only [Act.put, zS0, zS1, zS2]
  refine tk (v := ?_) 1 { dst := some 40, op := .move (.tmp 0), type := 180, pos := "through.go:57", after := #[], guard := none } (by rfl) ?_ ?_
  case refine_2 => intro w hSw; (try dsimp only at hSw); obtain ⟨z0, z1, z2, z3, z4⟩ := HCE.out _ hSw; go_simp; (try with_reducible rfl)
  simp only [Act.put, zS0, zS1, zS2]
  refine tk (v := ?_) 2 { dst := some 41, op := .nilCheck (.tmp 40), type := 0, pos := "through.go:57", after := #[⟨1, .data⟩], guard := none } (by rfl) ?_ ?_
  case refine_2 => intro w hSw; (try dsimp only at hSw); obtain ⟨z0, z1, z2, z3, z4⟩ := HCE.out _ hSw; go_simp; (try with_reducible rfl)
  simp only [Act.put, zS0, zS1, zS2]
  refine tk (v := ?_) 3 { dst := some 42, op := .fieldAddr 132 (.tmp 41) 0, type := 0, pos := "through.go:57", after := #[⟨2, .data⟩], guard := none } (by rfl) ?_ ?_
  case refine_2 => intro w hSw; (try dsimp only at hSw); obtain ⟨z0, z1, z2, z3, z4⟩ := HCE.out _ hSw; go_simp; (try with_reducible rfl)
  simp only [Act.put, zS0, zS1, zS2]
  refine tk (v := ?_) 5 { dst := some 44, op := .load 64 (.tmp 3), type := 64, pos := "through.go:57", after := #[], guard := none } (by rfl) ?_ ?_
  case refine_2 => intro w hSw; (try dsimp only at hSw); obtain ⟨z0, z1, z2, z3, z4⟩ := HCE.out _ hSw; go_simp; (try with_reducible rfl)
  simp only [Act.put, zS0, zS1, zS2]
  refine wpAnyH_ready (rs := [4, 6]) (by kernel_rfl) (by simp) ?_
  refine (AllReadyH.cons (o := { dst := some 43, op := .load 22 (.tmp 42), type := 22, pos := "through.go:57", after := #[⟨3, .data⟩], guard := none }) rfl (fun K hK => ?_) (AllReadyH.cons (o := { dst := some 45, op := .buildSlice 22 1 #[(0, .tmp 44)], type := 22, pos := "through.go:57", after := #[⟨5, .data⟩], guard := none }) rfl (fun K hK => ?_) AllReadyH.nil))
  ·skip
   have c4 := cell_of_row _ _ 0 _ _ _ y0
   go_simp
   refine hK.out _ _ ?_ (fun hHeld => ?_)
   ·first | exact xb1 | exact hS8
   clear hK K
   try simp only [Act.put, zS0, zS1, zS2]
   clear c4
   refine wpAnyH_ready (rs := [6]) (by kernel_rfl) (by simp) ?_
   refine (AllReadyH.cons (o := { dst := some 45, op := .buildSlice 22 1 #[(0, .tmp 44)], type := 22, pos := "through.go:57", after := #[⟨5, .data⟩], guard := none }) rfl (fun K hK => ?_) AllReadyH.nil)
   go_simp
   have y1 := (heap_alloc_old V8 (.cells #[.int .i64 f, .int .i64 t, .int .i64 i, .int .i64 o, .int .i64 x] 64) (lt_at y0)).trans y0
   have xb1 := (heap_alloc_old V8 (.cells #[.int .i64 f, .int .i64 t, .int .i64 i, .int .i64 o, .int .i64 x] 64) (lt_at hS8)).trans hS8
   have hn1 := cell_five_at V8 V8.heap.size (.int .i64 f) (.int .i64 t) (.int .i64 i) (.int .i64 o) (.int .i64 x) 64 rfl
   have HK1 : Hid (Kp (fun _ => False) W7 (V8.alloc (.cells #[.int .i64 f, .int .i64 t, .int .i64 i, .int .i64 o, .int .i64 x] 64))) := HK8.out.alloc _
   have hbz : base ≤ (V8.alloc (.cells #[.int .i64 f, .int .i64 t, .int .i64 i, .int .i64 o, .int .i64 x] 64)).heap.size := Nat.le_trans hbase (Nat.le_trans HSZ.out (Nat.le_trans HG7.out.size HK1.out.size))
   refine hK.out _ _ ?_ (fun hHeld => ?_)
   ·exact xb1
   clear hK K
   try simp only [Act.put, zS0, zS1, zS2]
   generalize hV : V8.alloc (.cells #[.int .i64 f, .int .i64 t, .int .i64 i, .int .i64 o, .int .i64 x] 64) = W9 at *
   clear hV
   generalize V8.heap.size = bs at *
   refine wpAnyH_ready (rs := [7]) (by kernel_rfl) (by simp) ?_
   refine (AllReadyH.cons (o := { dst := some 46, op := .call { callee := .builtin .append, args := #[.tmp 43, .tmp 45], argTypes := #[22, 22] }, type := 22, pos := "through.go:57", after := #[⟨4, .data⟩, ⟨6, .data⟩], guard := none }) rfl (fun K hK => ?_) AllReadyH.nil)
   have hov : W9.ownsRow base 64 5 va A.length (acs A) := own_kp2 (own_kp2 HA0.out.arcs ((Kp.refl (fun b => b = mb) V0).grown HG7.out (fun k hk _ => by cases hk; rfl)) (fun k hk e => HAP.out.2.2 (by rw [hk, e]))) HK1.out (fun _ _ => id)
   refine step_append_at rfl (.tmp 43) (.tmp 45) 22 rfl base 64 i0 (.agg #[.int .i64 0, .int .i64 0, .int .i64 0, .int .i64 0, .int .i64 0]) 5 40 Tryd.underlying22 hi hz0 hz1 hz2 rfl (by decide) va _ _ rfl hov ⟨bs, 0, none⟩ 1 1 [.int .i64 f, .int .i64 t, .int .i64 i, .int .i64 o, .int .i64 x] rfl rfl hn1 (five_one _ _ _ _ _) (by have := HLN.out; unfold maxLen; omega) (by have := HLN.out; omega) hbz ?_
   intro v1 w9 ho1 hg1 hl1
   have HF := HA0.out.new (a := (f, t, i, o, x)) HG7.out HAM.out (pos_snoc A _ HNO.out) HK1.out ho1 hg1
   have HF1 : Hid _ := HF
   have y9 := (hg1.block Lb (lt_at y1) (fun e => HAP.out.2.1 e.symm)).trans y1
   have m0 := cell_of_row _ _ 0 _ _ _ y9
   have f0 := frozen_of_row _ _ 0 _ 132 y9
   have xb9 := (hg1.block bx (lt_at xb1) (fun e => hbv e.symm)).trans xb1
   have HFR : Hid (v1.ownBlock = va.ownBlock ∨ ∃ g, v1.ownBlock = some g ∧ w.heap.size ≤ g) := hl1.imp id (fun h => ⟨_, h, Nat.le_trans HSZ.out (Nat.le_trans HG7.out.size HK1.out.size)⟩)
   obtain ⟨gg, cc, rfl, _, _⟩ := own_some ho1 (Nat.succ_pos _)
   clear HF ho1 hg1 hl1
   refine hK.out _ _ ?_ (fun hHeld => ?_)
   ·exact xb9
   clear hK K
   try simp only [Act.put, zS0, zS1, zS2]
   refine tk (v := ?_) 8 { dst := some 47, op := .nilCheck (.tmp 39), type := 0, pos := "through.go:57", after := #[⟨0, .data⟩, ⟨0, .phase⟩, ⟨1, .phase⟩, ⟨2, .phase⟩, ⟨3, .phase⟩, ⟨4, .phase⟩, ⟨5, .phase⟩, ⟨6, .phase⟩, ⟨7, .phase⟩], guard := none } (by rfl) ?_ ?_
   case refine_2 => intro w hSw; (try dsimp only at hSw); obtain ⟨z0, z1, z2, z3, z4⟩ := HCE.out _ hSw; go_simp; (try with_reducible rfl)
   simp only [Act.put, zS0, zS1, zS2]
   refine tk (v := ?_) 9 { dst := some 48, op := .fieldAddr 132 (.tmp 47) 0, type := 0, pos := "through.go:57", after := #[⟨8, .data⟩, ⟨0, .phase⟩, ⟨1, .phase⟩, ⟨2, .phase⟩, ⟨3, .phase⟩, ⟨4, .phase⟩, ⟨5, .phase⟩, ⟨6, .phase⟩, ⟨7, .phase⟩], guard := none } (by rfl) ?_ ?_
   case refine_2 => intro w hSw; (try dsimp only at hSw); obtain ⟨z0, z1, z2, z3, z4⟩ := HCE.out _ hSw; go_simp; (try with_reducible rfl)
   simp only [Act.put, zS0, zS1, zS2]
   refine wpAnyH_ready (rs := [10]) (by kernel_rfl) (by simp) ?_
   refine (AllReadyH.cons (o := { dst := none, op := .store 22 (.tmp 48) (.tmp 46), type := 0, pos := "through.go:57", after := #[⟨9, .data⟩, ⟨7, .data⟩, ⟨7, .chain⟩, ⟨0, .phase⟩, ⟨1, .phase⟩, ⟨2, .phase⟩, ⟨3, .phase⟩, ⟨4, .phase⟩, ⟨5, .phase⟩, ⟨6, .phase⟩, ⟨7, .phase⟩], guard := none }) rfl (fun K hK => ?_) AllReadyH.nil)
   go_simp
   refine hK.out _ _ ?_ (fun hHeld => ?_)
   ·exact (heap_setCell_other _ _ _ _ hbL).trans xb9
   clear hK K
   try simp only [Act.put, zS0, zS1, zS2]
   refine wpAnyH_done (by kernel_rfl) ?_ _
   go_wp2
   go_end0
   exact HPO.out _ _ ⟨rfl, _, by rw [HPP.out]; exact HF1.out.1, HK0.out.trans HF1.out.2, HFR.out⟩
  ·skip
   go_simp
   have y1 := (heap_alloc_old V8 (.cells #[.int .i64 f, .int .i64 t, .int .i64 i, .int .i64 o, .int .i64 x] 64) (lt_at y0)).trans y0
   have xb1 := (heap_alloc_old V8 (.cells #[.int .i64 f, .int .i64 t, .int .i64 i, .int .i64 o, .int .i64 x] 64) (lt_at hS8)).trans hS8
   have hn1 := cell_five_at V8 V8.heap.size (.int .i64 f) (.int .i64 t) (.int .i64 i) (.int .i64 o) (.int .i64 x) 64 rfl
   have HK1 : Hid (Kp (fun _ => False) W7 (V8.alloc (.cells #[.int .i64 f, .int .i64 t, .int .i64 i, .int .i64 o, .int .i64 x] 64))) := HK8.out.alloc _
   have hbz : base ≤ (V8.alloc (.cells #[.int .i64 f, .int .i64 t, .int .i64 i, .int .i64 o, .int .i64 x] 64)).heap.size := Nat.le_trans hbase (Nat.le_trans HSZ.out (Nat.le_trans HG7.out.size HK1.out.size))
   refine hK.out _ _ ?_ (fun hHeld => ?_)
   ·exact xb1
   clear hK K
   try simp only [Act.put, zS0, zS1, zS2]
   generalize hV : V8.alloc (.cells #[.int .i64 f, .int .i64 t, .int .i64 i, .int .i64 o, .int .i64 x] 64) = W9 at *
   clear hV
   generalize V8.heap.size = bs at *
   refine wpAnyH_ready (rs := [4]) (by kernel_rfl) (by simp) ?_
   refine (AllReadyH.cons (o := { dst := some 43, op := .load 22 (.tmp 42), type := 22, pos := "through.go:57", after := #[⟨3, .data⟩], guard := none }) rfl (fun K hK => ?_) AllReadyH.nil)
   have c4 := cell_of_row _ _ 0 _ _ _ y1
   go_simp
   refine hK.out _ _ ?_ (fun hHeld => ?_)
   ·first | exact xb1 | exact hS8
   clear hK K
   try simp only [Act.put, zS0, zS1, zS2]
   clear c4
   refine wpAnyH_ready (rs := [7]) (by kernel_rfl) (by simp) ?_
   refine (AllReadyH.cons (o := { dst := some 46, op := .call { callee := .builtin .append, args := #[.tmp 43, .tmp 45], argTypes := #[22, 22] }, type := 22, pos := "through.go:57", after := #[⟨4, .data⟩, ⟨6, .data⟩], guard := none }) rfl (fun K hK => ?_) AllReadyH.nil)
   have hov : W9.ownsRow base 64 5 va A.length (acs A) := own_kp2 (own_kp2 HA0.out.arcs ((Kp.refl (fun b => b = mb) V0).grown HG7.out (fun k hk _ => by cases hk; rfl)) (fun k hk e => HAP.out.2.2 (by rw [hk, e]))) HK1.out (fun _ _ => id)
   refine step_append_at rfl (.tmp 43) (.tmp 45) 22 rfl base 64 i0 (.agg #[.int .i64 0, .int .i64 0, .int .i64 0, .int .i64 0, .int .i64 0]) 5 40 Tryd.underlying22 hi hz0 hz1 hz2 rfl (by decide) va _ _ rfl hov ⟨bs, 0, none⟩ 1 1 [.int .i64 f, .int .i64 t, .int .i64 i, .int .i64 o, .int .i64 x] rfl rfl hn1 (five_one _ _ _ _ _) (by have := HLN.out; unfold maxLen; omega) (by have := HLN.out; omega) hbz ?_
   intro v1 w9 ho1 hg1 hl1
   have HF := HA0.out.new (a := (f, t, i, o, x)) HG7.out HAM.out (pos_snoc A _ HNO.out) HK1.out ho1 hg1
   have HF1 : Hid _ := HF
   have y9 := (hg1.block Lb (lt_at y1) (fun e => HAP.out.2.1 e.symm)).trans y1
   have m0 := cell_of_row _ _ 0 _ _ _ y9
   have f0 := frozen_of_row _ _ 0 _ 132 y9
   have xb9 := (hg1.block bx (lt_at xb1) (fun e => hbv e.symm)).trans xb1
   have HFR : Hid (v1.ownBlock = va.ownBlock ∨ ∃ g, v1.ownBlock = some g ∧ w.heap.size ≤ g) := hl1.imp id (fun h => ⟨_, h, Nat.le_trans HSZ.out (Nat.le_trans HG7.out.size HK1.out.size)⟩)
   obtain ⟨gg, cc, rfl, _, _⟩ := own_some ho1 (Nat.succ_pos _)
   clear HF ho1 hg1 hl1
   refine hK.out _ _ ?_ (fun hHeld => ?_)
   ·exact xb9
   clear hK K
   try simp only [Act.put, zS0, zS1, zS2]
   refine tk (v := ?_) 8 { dst := some 47, op := .nilCheck (.tmp 39), type := 0, pos := "through.go:57", after := #[⟨0, .data⟩, ⟨0, .phase⟩, ⟨1, .phase⟩, ⟨2, .phase⟩, ⟨3, .phase⟩, ⟨4, .phase⟩, ⟨5, .phase⟩, ⟨6, .phase⟩, ⟨7, .phase⟩], guard := none } (by rfl) ?_ ?_
   case refine_2 => intro w hSw; (try dsimp only at hSw); obtain ⟨z0, z1, z2, z3, z4⟩ := HCE.out _ hSw; go_simp; (try with_reducible rfl)
   simp only [Act.put, zS0, zS1, zS2]
   refine tk (v := ?_) 9 { dst := some 48, op := .fieldAddr 132 (.tmp 47) 0, type := 0, pos := "through.go:57", after := #[⟨8, .data⟩, ⟨0, .phase⟩, ⟨1, .phase⟩, ⟨2, .phase⟩, ⟨3, .phase⟩, ⟨4, .phase⟩, ⟨5, .phase⟩, ⟨6, .phase⟩, ⟨7, .phase⟩], guard := none } (by rfl) ?_ ?_
   case refine_2 => intro w hSw; (try dsimp only at hSw); obtain ⟨z0, z1, z2, z3, z4⟩ := HCE.out _ hSw; go_simp; (try with_reducible rfl)
   simp only [Act.put, zS0, zS1, zS2]
   refine wpAnyH_ready (rs := [10]) (by kernel_rfl) (by simp) ?_
   refine (AllReadyH.cons (o := { dst := none, op := .store 22 (.tmp 48) (.tmp 46), type := 0, pos := "through.go:57", after := #[⟨9, .data⟩, ⟨7, .data⟩, ⟨7, .chain⟩, ⟨0, .phase⟩, ⟨1, .phase⟩, ⟨2, .phase⟩, ⟨3, .phase⟩, ⟨4, .phase⟩, ⟨5, .phase⟩, ⟨6, .phase⟩, ⟨7, .phase⟩], guard := none }) rfl (fun K hK => ?_) AllReadyH.nil)
   go_simp
   refine hK.out _ _ ?_ (fun hHeld => ?_)
   ·exact (heap_setCell_other _ _ _ _ hbL).trans xb9
   clear hK K
   try simp only [Act.put, zS0, zS1, zS2]
   refine wpAnyH_done (by kernel_rfl) ?_ _
   go_wp2
   go_end0
   exact HPO.out _ _ ⟨rfl, _, by rw [HPP.out]; exact HF1.out.1, HK0.out.trans HF1.out.2, HFR.out⟩
 | some k =>
  have hk := pos_lt hp
  have HPP : Hid (putP A (f, t, i, o, x) = low A k x) := by show _ = _; unfold putP; rw [show pos A (nam (f, t, i, o, x)) = some k from hp]
  have HCE : Hid _ := fun (W : World) (hSw : Al base W Lb mb A va ∧ W.heap[bx]? = some (.cells #[.int .i64 f, .int .i64 t, .int .i64 i, .int .i64 o, .int .i64 x] 64 (0, 0)) ∧ W.heap[bn]? = some (.cells #[.int .i64 f, .int .i64 t, .int .i64 i, .int .i64 o, .int .i64 0] 64 (0, 0))) => (And.intro (cell_of_row _ _ 1 _ _ _ hSw.1.row) (And.intro (cell_of_row _ _ 0 _ _ _ hSw.2.2) (And.intro (cell_of_row _ _ 1 _ _ _ hSw.2.2) (And.intro (cell_of_row _ _ 2 _ _ _ hSw.2.2) (And.intro (cell_of_row _ _ 3 _ _ _ hSw.2.2) (cell_of_row _ _ 4 _ _ _ hSw.2.2))))))
  refine wp_region_held_drew (S := fun W => Al base W Lb mb A va ∧ W.heap[bx]? = some (.cells #[.int .i64 f, .int .i64 t, .int .i64 i, .int .i64 o, .int .i64 x] 64 (0, 0)) ∧ W.heap[bn]? = some (.cells #[.int .i64 f, .int .i64 t, .int .i64 i, .int .i64 o, .int .i64 0] 64 (0, 0))) (by kernel_rfl) (by exact ⟨HA.out.drewN 1, xb, xn⟩) (fun hHeld => ?_)
  have hS0 := hHeld
  have HK : Hid (Kp (Own Lb mb va) w VV.drew) := HK.out.drewN 1
  have HSZ : Hid (w.heap.size ≤ VV.drew.heap.size) := HSZ.out
  clear HA xb xn
  generalize hV : VV.drew = VV at *
  clear hV
  refine tk (v := ?_) 0 { dst := some 19, op := .move (.tmp 0), type := 180, pos := "through.go:54", after := #[], guard := none } (by rfl) ?_ ?_
  case refine_2 => intro w hSw; (try dsimp only at hSw); obtain ⟨q1, n0, n1, n2, n3, n4⟩ := HCE.out _ hSw; go_simp; (try with_reducible rfl)
  simp only [Act.put, zS0, zS1, zS2]
  refine tk (v := ?_) 1 { dst := some 20, op := .nilCheck (.tmp 19), type := 0, pos := "through.go:54", after := #[⟨0, .data⟩], guard := none } (by rfl) ?_ ?_
  case refine_2 => intro w hSw; (try dsimp only at hSw); obtain ⟨q1, n0, n1, n2, n3, n4⟩ := HCE.out _ hSw; go_simp; (try with_reducible rfl)
  simp only [Act.put, zS0, zS1, zS2]
  refine tk (v := ?_) 2 { dst := some 21, op := .fieldAddr 132 (.tmp 20) 1, type := 0, pos := "through.go:54", after := #[⟨1, .data⟩], guard := none } (by rfl) ?_ ?_
  case refine_2 => intro w hSw; (try dsimp only at hSw); obtain ⟨q1, n0, n1, n2, n3, n4⟩ := HCE.out _ hSw; go_simp; (try with_reducible rfl)
  simp only [Act.put, zS0, zS1, zS2]
  refine tk (v := ?_) 3 { dst := some 22, op := .load 130 (.tmp 21), type := 130, pos := "through.go:54", after := #[⟨2, .data⟩], guard := none } (by rfl) ?_ ?_
  case refine_2 => intro w hSw; (try dsimp only at hSw); obtain ⟨q1, n0, n1, n2, n3, n4⟩ := HCE.out _ hSw; go_simp; (try with_reducible rfl)
  simp only [Act.put, zS0, zS1, zS2]
  refine tk (v := ?_) 4 { dst := some 23, op := .load 64 (.tmp 4), type := 64, pos := "through.go:54", after := #[], guard := none } (by rfl) ?_ ?_
  case refine_2 => intro w hSw; (try dsimp only at hSw); obtain ⟨q1, n0, n1, n2, n3, n4⟩ := HCE.out _ hSw; go_simp; (try with_reducible rfl)
  simp only [Act.put, zS0, zS1, zS2]
  refine wpAnyH_ready (rs := [5]) (by kernel_rfl) (by simp) ?_
  refine (AllReadyH.cons (o := { dst := some 24, op := .lookup 130 (.tmp 22) (.tmp 23) true, type := 149, pos := "through.go:54", after := #[⟨3, .data⟩, ⟨4, .data⟩], guard := none }) rfl (fun K hK => ?_) AllReadyH.nil)
  have lk := hS0.1.mp.look_yes HOK.out hp
  go_simp
  clear lk
  refine hK.out _ _ ?_ (fun hHeld => ?_)
  ·exact hS0
  clear hK K
  try simp only [Act.put, zS0, zS1, zS2]
  refine tk (v := ?_) 6 { dst := some 18, op := .move (.tmp 24), type := 149, pos := "through.go:54", after := #[⟨5, .data⟩], guard := none } (by rfl) ?_ ?_
  case refine_2 => intro w hSw; (try dsimp only at hSw); obtain ⟨q1, n0, n1, n2, n3, n4⟩ := HCE.out _ hSw; go_simp; (try with_reducible rfl)
  simp only [Act.put, zS0, zS1, zS2]
  refine tk (v := ?_) 7 { dst := some 25, op := .extract (.tmp 18) 0, type := 3, pos := "through.go:54", after := #[⟨6, .data⟩], guard := none } (by rfl) ?_ ?_
  case refine_2 => intro w hSw; (try dsimp only at hSw); obtain ⟨q1, n0, n1, n2, n3, n4⟩ := HCE.out _ hSw; go_simp; (try with_reducible rfl)
  simp only [Act.put, zS0, zS1, zS2]
  refine tk (v := ?_) 8 { dst := some 26, op := .extract (.tmp 18) 1, type := 4, pos := "through.go:54", after := #[⟨6, .data⟩, { on := 9, ground := Ground.gcOnly Departure.lateStores }], guard := none } (by rfl) ?_ ?_
  case refine_2 => intro w hSw; (try dsimp only at hSw); obtain ⟨q1, n0, n1, n2, n3, n4⟩ := HCE.out _ hSw; go_simp; (try with_reducible rfl)
  simp only [Act.put, zS0, zS1, zS2]
  refine tk (v := ?_) 9 { dst := some 5, op := .assign (.tmp 25), type := 3, pos := "through.go:54", after := #[⟨7, .data⟩, ⟨0, .phase⟩, ⟨1, .phase⟩, ⟨2, .phase⟩, ⟨3, .phase⟩, ⟨4, .phase⟩, ⟨5, .phase⟩, ⟨6, .phase⟩, ⟨7, .phase⟩, { on := 8, ground := Ground.textOnly Departure.lateStores }], guard := none } (by rfl) ?_ ?_
  case refine_2 => intro w hSw; (try dsimp only at hSw); obtain ⟨q1, n0, n1, n2, n3, n4⟩ := HCE.out _ hSw; go_simp; (try with_reducible rfl)
  simp only [Act.put, zS0, zS1, zS2]
  refine tk (v := ?_) 10 { dst := some 6, op := .assign (.tmp 26), type := 4, pos := "through.go:54", after := #[⟨8, .data⟩, ⟨9, .chain⟩, ⟨0, .phase⟩, ⟨1, .phase⟩, ⟨2, .phase⟩, ⟨3, .phase⟩, ⟨4, .phase⟩, ⟨5, .phase⟩, ⟨6, .phase⟩, ⟨7, .phase⟩, ⟨8, .phase⟩, ⟨9, .phase⟩], guard := none } (by rfl) ?_ ?_
  case refine_2 => intro w hSw; (try dsimp only at hSw); obtain ⟨q1, n0, n1, n2, n3, n4⟩ := HCE.out _ hSw; go_simp; (try with_reducible rfl)
  simp only [Act.put, zS0, zS1, zS2]
  refine wpAnyH_done (by kernel_rfl) ?_ _
  have HA : Hid _ := hS0.1
  have xb := hS0.2.1
  have xn := hS0.2.2
  clear hp hS0
  obtain ⟨g, cap, rfl, _, _⟩ := own_some HA.out.arcs (by omega)
  have hgL : ¬ Lb = g := fun e => HAP.out.2.1 (by rw [e]; rfl)
  have hgb : ¬ bx = g := fun e => hbv (by rw [e]; rfl)
  have hk' : (k : Int) < (A.length : Int) := by omega
  have hA1 := HLN.out
  go_upto_region 9 with fail
  have HCE : Hid _ := fun (W : World) (hSw : W.heap[Lb]? = some (.cells #[.slice (some ⟨g, 0, none⟩) A.length cap, .map (some mb)] 132 (0, 0)) ∧ W.heap[bx]? = some (.cells #[.int .i64 f, .int .i64 t, .int .i64 i, .int .i64 o, .int .i64 x] 64 (0, 0))) => (And.intro (cell_of_row _ _ 0 _ _ _ hSw.1) (cell_of_row _ _ 4 _ _ _ hSw.2))
  refine wp_region_held_drew (S := fun W => W.heap[Lb]? = some (.cells #[.slice (some ⟨g, 0, none⟩) A.length cap, .map (some mb)] 132 (0, 0)) ∧ W.heap[bx]? = some (.cells #[.int .i64 f, .int .i64 t, .int .i64 i, .int .i64 o, .int .i64 x] 64 (0, 0))) (by kernel_rfl) (by exact ⟨HA.out.row, xb⟩) (fun hHeld => ?_)
  have hS0 := hHeld
  have HA0 : Hid (Al base VV.drew Lb mb A (.slice (some ⟨g, 0, none⟩) A.length cap)) := HA.out.drewN 1
  have HK0 : Hid (Kp (Own Lb mb (.slice (some ⟨g, 0, none⟩) A.length cap)) w VV.drew) := HK.out.drewN 1
  clear HA HK xb xn
  generalize hV : VV.drew = V0 at *
  clear hV
  refine tk (v := ?_) 0 { dst := some 49, op := .move (.tmp 0), type := 180, pos := "through.go:59", after := #[], guard := none } (by rfl) ?_ ?_
  case refine_2 => intro w hSw; (try dsimp only at hSw); obtain ⟨q0, z4⟩ := HCE.out _ hSw; go_simp; (try with_reducible rfl)
  simp only [Act.put, zS0, zS1, zS2]
  refine tk (v := ?_) 1 { dst := some 50, op := .nilCheck (.tmp 49), type := 0, pos := "through.go:59", after := #[⟨0, .data⟩], guard := none } (by rfl) ?_ ?_
  case refine_2 => intro w hSw; (try dsimp only at hSw); obtain ⟨q0, z4⟩ := HCE.out _ hSw; go_simp; (try with_reducible rfl)
  simp only [Act.put, zS0, zS1, zS2]
  refine tk (v := ?_) 2 { dst := some 51, op := .fieldAddr 132 (.tmp 50) 0, type := 0, pos := "through.go:59", after := #[⟨1, .data⟩], guard := none } (by rfl) ?_ ?_
  case refine_2 => intro w hSw; (try dsimp only at hSw); obtain ⟨q0, z4⟩ := HCE.out _ hSw; go_simp; (try with_reducible rfl)
  simp only [Act.put, zS0, zS1, zS2]
  refine tk (v := ?_) 3 { dst := some 52, op := .load 22 (.tmp 51), type := 22, pos := "through.go:59", after := #[⟨2, .data⟩], guard := none } (by rfl) ?_ ?_
  case refine_2 => intro w hSw; (try dsimp only at hSw); obtain ⟨q0, z4⟩ := HCE.out _ hSw; go_simp; (try with_reducible rfl)
  simp only [Act.put, zS0, zS1, zS2]
  refine tk (v := ?_) 4 { dst := some 53, op := .move (.tmp 5), type := 3, pos := "through.go:59", after := #[], guard := none } (by rfl) ?_ ?_
  case refine_2 => intro w hSw; (try dsimp only at hSw); obtain ⟨q0, z4⟩ := HCE.out _ hSw; go_simp; (try with_reducible rfl)
  simp only [Act.put, zS0, zS1, zS2]
  refine tk (v := ?_) 5 { dst := some 54, op := .move (.tmp 0), type := 180, pos := "through.go:59", after := #[], guard := none } (by rfl) ?_ ?_
  case refine_2 => intro w hSw; (try dsimp only at hSw); obtain ⟨q0, z4⟩ := HCE.out _ hSw; go_simp; (try with_reducible rfl)
  simp only [Act.put, zS0, zS1, zS2]
  refine tk (v := ?_) 6 { dst := some 55, op := .nilCheck (.tmp 54), type := 0, pos := "through.go:59", after := #[⟨5, .data⟩], guard := none } (by rfl) ?_ ?_
  case refine_2 => intro w hSw; (try dsimp only at hSw); obtain ⟨q0, z4⟩ := HCE.out _ hSw; go_simp; (try with_reducible rfl)
  simp only [Act.put, zS0, zS1, zS2]
  refine tk (v := ?_) 7 { dst := some 56, op := .fieldAddr 132 (.tmp 55) 0, type := 0, pos := "through.go:59", after := #[⟨6, .data⟩], guard := none } (by rfl) ?_ ?_
  case refine_2 => intro w hSw; (try dsimp only at hSw); obtain ⟨q0, z4⟩ := HCE.out _ hSw; go_simp; (try with_reducible rfl)
  simp only [Act.put, zS0, zS1, zS2]
  refine tk (v := ?_) 8 { dst := some 57, op := .load 22 (.tmp 56), type := 22, pos := "through.go:59", after := #[⟨7, .data⟩], guard := none } (by rfl) ?_ ?_
  case refine_2 => intro w hSw; (try dsimp only at hSw); obtain ⟨q0, z4⟩ := HCE.out _ hSw; go_simp; (try with_reducible rfl)
  simp only [Act.put, zS0, zS1, zS2]
  refine tk (v := ?_) 9 { dst := some 58, op := .move (.tmp 5), type := 3, pos := "through.go:59", after := #[], guard := none } (by rfl) ?_ ?_
  case refine_2 => intro w hSw; (try dsimp only at hSw); obtain ⟨q0, z4⟩ := HCE.out _ hSw; go_simp; (try with_reducible rfl)
  simp only [Act.put, zS0, zS1, zS2]
  refine tk (v := ?_) 10 { dst := some 59, op := .indexAddr 22 (.tmp 57) (.tmp 58), type := 0, pos := "through.go:59", after := #[⟨8, .data⟩, ⟨9, .data⟩], guard := none } (by rfl) ?_ ?_
  case refine_2 => intro w hSw; (try dsimp only at hSw); obtain ⟨q0, z4⟩ := HCE.out _ hSw; go_simp; (try with_reducible rfl)
  simp only [Act.put, zS0, zS1, zS2]
  refine tk (v := ?_) 11 { dst := some 60, op := .fieldAddr 64 (.tmp 59) 4, type := 0, pos := "through.go:59", after := #[⟨10, .data⟩], guard := none } (by rfl) ?_ ?_
  case refine_2 => intro w hSw; (try dsimp only at hSw); obtain ⟨q0, z4⟩ := HCE.out _ hSw; go_simp; (try with_reducible rfl)
  simp only [Act.put, zS0, zS1, zS2]
  refine tk (v := ?_) 13 { dst := some 62, op := .fieldAddr 64 (.tmp 3) 4, type := 0, pos := "through.go:59", after := #[], guard := none } (by rfl) ?_ ?_
  case refine_2 => intro w hSw; (try dsimp only at hSw); obtain ⟨q0, z4⟩ := HCE.out _ hSw; go_simp; (try with_reducible rfl)
  simp only [Act.put, zS0, zS1, zS2]
  refine tk (v := ?_) 14 { dst := some 63, op := .load 3 (.tmp 62), type := 3, pos := "through.go:59", after := #[⟨13, .data⟩], guard := none } (by rfl) ?_ ?_
  case refine_2 => intro w hSw; (try dsimp only at hSw); obtain ⟨q0, z4⟩ := HCE.out _ hSw; go_simp; (try with_reducible rfl)
  simp only [Act.put, zS0, zS1, zS2]
  refine wpAnyH_ready (rs := [12]) (by kernel_rfl) (by simp) ?_
  refine (AllReadyH.cons (o := { dst := some 61, op := .load 3 (.tmp 60), type := 3, pos := "through.go:59", after := #[⟨11, .data⟩], guard := none }) rfl (fun K hK => ?_) AllReadyH.nil)
  have c12 := HA0.out.arcs.cellAt (k * 5 + 4) (by omega)
  rw [(acs_at A k hk).2.2.2.2] at c12
  go_simp
  refine hK.out _ _ ?_ (fun hHeld => ?_)
  ·exact hS0
  clear hK K
  try simp only [Act.put, zS0, zS1, zS2]
  clear c12
  refine tk (v := ?_) 15 { dst := some 64, op := .call { callee := .builtin .min, args := #[.tmp 61, .tmp 63], argTypes := #[3, 3] }, type := 3, pos := "through.go:59", after := #[⟨12, .data⟩, ⟨14, .data⟩], guard := none } (by rfl) ?_ ?_
  case refine_2 => intro w hSw; (try dsimp only at hSw); obtain ⟨q0, z4⟩ := HCE.out _ hSw; go_simp; (try with_reducible rfl)
  simp only [Act.put, zS0, zS1, zS2]
  refine tk (v := ?_) 16 { dst := some 65, op := .indexAddr 22 (.tmp 52) (.tmp 53), type := 0, pos := "through.go:59", after := #[⟨3, .data⟩, ⟨4, .data⟩, ⟨0, .phase⟩, ⟨1, .phase⟩, ⟨2, .phase⟩, ⟨3, .phase⟩, ⟨4, .phase⟩, ⟨5, .phase⟩, ⟨6, .phase⟩, ⟨7, .phase⟩, ⟨8, .phase⟩, ⟨9, .phase⟩, ⟨10, .phase⟩, ⟨11, .phase⟩, ⟨12, .phase⟩, ⟨13, .phase⟩, ⟨14, .phase⟩, ⟨15, .phase⟩], guard := none } (by rfl) ?_ ?_
  case refine_2 => intro w hSw; (try dsimp only at hSw); obtain ⟨q0, z4⟩ := HCE.out _ hSw; go_simp; (try with_reducible rfl)
  simp only [Act.put, zS0, zS1, zS2]
  refine tk (v := ?_) 17 { dst := some 66, op := .fieldAddr 64 (.tmp 65) 4, type := 0, pos := "through.go:59", after := #[⟨16, .data⟩, ⟨0, .phase⟩, ⟨1, .phase⟩, ⟨2, .phase⟩, ⟨3, .phase⟩, ⟨4, .phase⟩, ⟨5, .phase⟩, ⟨6, .phase⟩, ⟨7, .phase⟩, ⟨8, .phase⟩, ⟨9, .phase⟩, ⟨10, .phase⟩, ⟨11, .phase⟩, ⟨12, .phase⟩, ⟨13, .phase⟩, ⟨14, .phase⟩, ⟨15, .phase⟩], guard := none } (by rfl) ?_ ?_
  case refine_2 => intro w hSw; (try dsimp only at hSw); obtain ⟨q0, z4⟩ := HCE.out _ hSw; go_simp; (try with_reducible rfl)
  simp only [Act.put, zS0, zS1, zS2]
  refine wpAnyH_ready (rs := [18]) (by kernel_rfl) (by simp) ?_
  refine (AllReadyH.cons (o := { dst := none, op := .store 3 (.tmp 66) (.tmp 64), type := 0, pos := "through.go:59", after := #[⟨17, .data⟩, ⟨15, .data⟩, ⟨0, .phase⟩, ⟨1, .phase⟩, ⟨2, .phase⟩, ⟨3, .phase⟩, ⟨4, .phase⟩, ⟨5, .phase⟩, ⟨6, .phase⟩, ⟨7, .phase⟩, ⟨8, .phase⟩, ⟨9, .phase⟩, ⟨10, .phase⟩, ⟨11, .phase⟩, ⟨12, .phase⟩, ⟨13, .phase⟩, ⟨14, .phase⟩, ⟨15, .phase⟩], guard := none }) rfl (fun K hK => ?_) AllReadyH.nil)
  have c18 := HA0.out.arcs.cellAt (k * 5 + 4) (by omega)
  rw [(acs_at A k hk).2.2.2.2] at c18
  have f18 := HA0.out.arcs.frozenAt (k * 5 + 4)
  go_simp
  refine hK.out _ _ ?_ (fun hHeld => ?_)
  ·exact ⟨(heap_setCell_other _ _ _ _ hgL).trans hS0.1, (heap_setCell_other _ _ _ _ hgb).trans hS0.2⟩
  clear hK K
  try simp only [Act.put, zS0, zS1, zS2]
  refine wpAnyH_done (by kernel_rfl) ?_ _
  go_wp2
  all_goals go_end0
  all_goals exact HPO.out _ _ ⟨rfl, .slice (some ⟨g, 0, none⟩) (low A k x).length cap, by rw [HPP.out]; exact (HA0.out.less x hk _ (by split <;> omega)).1, HK0.out.trans (HA0.out.less x hk _ (by split <;> omega)).2, .inl rfl⟩
set_option maxHeartbeats 4000000 in
set_option maxRecDepth 100000 in
/-- the first arc -/
theorem put_none (base : Nat) (Lb : Nat) (f t i o x : Int) (w : World) (h : w.heap[Lb]? = some (.cells #[.slice none 0 0, .map none] 132 (0, 0))) (hok : Ok4 (f, t, i, o)) (hbase : base ≤ w.heap.size) :
  Calls Tryd.prog 65 #[.pointer (some ⟨Lb, 0, none⟩), .agg #[.int .i64 f, .int .i64 t, .int .i64 i, .int .i64 o, .int .i64 x]] w fun e w' => e = .returned (.tuple #[]) ∧ ∃ mb va', Al base w' Lb mb [(f, t, i, o, x)] va' ∧ Kp (fun b => b = Lb) w w' ∧ w.heap.size ≤ mb ∧ (∀ b, va'.ownBlock = some b → w.heap.size ≤ b) := by
 obtain ⟨i0, hi, hz0, hz1, hz2⟩ := info_parts info36
 have heq := eql_none
 have hmm := @run_makeMap Tryd.prog
 have hL := lt_at h
 have x1 := (heap_alloc_old w (.cells #[.int .i64 f, .int .i64 t, .int .i64 i, .int .i64 o, .int .i64 x] 64) hL).trans h
 have b1 := heap_alloc_new w (.cells #[.int .i64 f, .int .i64 t, .int .i64 i, .int .i64 o, .int .i64 x] 64)
 have hK1 : Kp (fun b => b = Lb) w (w.alloc (.cells #[.int .i64 f, .int .i64 t, .int .i64 i, .int .i64 o, .int .i64 x] 64)) := (Kp.refl _ w).alloc _
 have hws : w.heap.size < (w.alloc (.cells #[.int .i64 f, .int .i64 t, .int .i64 i, .int .i64 o, .int .i64 x] 64)).heap.size := by simp
 have u1 := cell_of_row _ _ 1 _ _ _ x1
 go_enter Tryd.func65, Tryd.ntmps65
 go_upto_region 1 with fail
 generalize hV1 : w.alloc (.cells #[.int .i64 f, .int .i64 t, .int .i64 i, .int .i64 o, .int .i64 x] 64) = V1 at *
 clear hV1
 have hbL : w.heap.size ≠ Lb := by omega
 have hLn : V1.heap.size ≠ Lb := by have := lt_at x1; omega
 clear hL h
 have hm2 := made V1
 have x2 := (heap_alloc_old V1 (.map #[] 0) (lt_at x1)).trans x1
 have b2 := (heap_alloc_old V1 (.map #[] 0) (lt_at b1)).trans b1
 have hK2 : Kp (fun b => b = Lb) w (V1.alloc (.map #[] 0)) := hK1.alloc _
 have u2 := cell_of_row _ _ 1 _ _ _ x2
 have f2 := frozen_of_row _ _ 1 _ 132 x2
 go_upto_region 3 with fail
 clear u1 u2 f2 heq hmm x1 b1 hK1
 generalize hW2 : V1.alloc (.map #[] 0) = W2 at *
 clear hW2
 generalize V1.heap.size = mb at *
 have hA3 : Al base (W2.setCell ⟨Lb, 1, none⟩ (.map (some mb))) Lb mb [] (.slice none 0 0) := by
  refine ⟨?_, ⟨rfl, .inl ⟨rfl, rfl⟩⟩, ?_⟩
  ·have := heap_setCell_same W2 Lb 1 _ 132 (.map (some mb)) x2
   simpa using this
  ·exact hm2.kept (heap_setCell_other _ _ _ _ hLn)
 have xb1 : (W2.setCell ⟨Lb, 1, none⟩ (.map (some mb))).heap[w.heap.size]? = _ := (heap_setCell_other _ _ _ _ hbL).trans b2
 have HK1 : Hid (Kp (Own Lb mb (.slice none 0 0)) w (W2.setCell ⟨Lb, 1, none⟩ (.map (some mb)))) := (hK2.mono (fun k _ e => .inl e)).setCell _ _ _ (fun _ => .inl rfl)
 clear hm2 x2 b2 hK2
 generalize hV : W2.setCell ⟨Lb, 1, none⟩ (.map (some mb)) = V at *
 clear hV
 have HAP : Hid _ := hA3.apart
 have HOK : Hid (Ok4 (nam (f, t, i, o, x))) := hok
 have hbm : ¬ mb = w.heap.size := by omega
 have HMB : Hid (w.heap.size ≤ mb) := by show _ ≤ _; omega
 clear hws hLn
 obtain ⟨A, hAe⟩ : ∃ A : List Arc, A = [] := ⟨_, rfl⟩
 obtain ⟨va, hva⟩ : ∃ v : Value, v = .slice none 0 0 := ⟨_, rfl⟩
 have hbv : va.ownBlock ≠ some w.heap.size := by rw [hva]; intro e; cases e
 have HLN : Hid (A.length ≤ 20001) := by rw [hAe]; exact Nat.zero_le _
 have HPO : Hid (∀ e w', (e = .returned (.tuple #[]) ∧ ∃ va', Al base w' Lb mb (putP A (f, t, i, o, x)) va' ∧ Kp (Own Lb mb va) w w' ∧ (va'.ownBlock = va.ownBlock ∨ ∃ g, va'.ownBlock = some g ∧ w.heap.size ≤ g)) → (e = Ending.returned (.tuple #[]) ∧ ∃ mb va', Al base w' Lb mb [(f, t, i, o, x)] va' ∧ Kp (fun b => b = Lb) w w' ∧ w.heap.size ≤ mb ∧ (∀ b, va'.ownBlock = some b → w.heap.size ≤ b))) := by
  rintro e w' ⟨he, va', h1, h2, h3⟩
  refine ⟨he, mb, va', by rw [hAe] at h1; exact h1, h2.mono (fun k hk hx => ?_), HMB.out, fun b hb => ?_⟩
  ·rcases hx with hx | hx | hx
   ·exact hx
   ·have := HMB.out; omega
   ·rw [hva] at hx; cases hx
  ·rcases h3 with h3 | ⟨g, h3, h4⟩
   ·rw [hva] at h3; rw [h3] at hb; cases hb
   ·rw [h3] at hb; cases hb; exact h4
 have HA1 : Hid (Al base V Lb mb A va) := by show Al base V Lb mb A va; rw [hAe, hva]; exact hA3
 rw [← hva] at HK1 HAP
 clear hA3 hAe hva hok HMB
 have v0 := cell_of_row _ _ 0 _ _ _ xb1
 have v1 := cell_of_row _ _ 1 _ _ _ xb1
 have v2 := cell_of_row _ _ 2 _ _ _ xb1
 have v3 := cell_of_row _ _ 3 _ _ _ xb1
 have v4 := cell_of_row _ _ 4 _ _ _ xb1
 go_upto_region 5 with fail
 have xn := heap_alloc_new V (.cells #[.int .i64 f, .int .i64 t, .int .i64 i, .int .i64 o, .int .i64 0] 64)
 have xb := (heap_alloc_old V (.cells #[.int .i64 f, .int .i64 t, .int .i64 i, .int .i64 o, .int .i64 0] 64) (lt_at xb1)).trans xb1
 have HA : Hid (Al base (V.alloc (.cells #[.int .i64 f, .int .i64 t, .int .i64 i, .int .i64 o, .int .i64 0] 64)) Lb mb A va) := HA1.out.alloc _
 have HK : Hid (Kp (Own Lb mb va) w (V.alloc (.cells #[.int .i64 f, .int .i64 t, .int .i64 i, .int .i64 o, .int .i64 0] 64))) := HK1.out.alloc _
 have hnm : ¬ mb = V.heap.size := fun e => by have := HA1.out.mp.lt; omega
 have HSZ : Hid (w.heap.size ≤ (V.alloc (.cells #[.int .i64 f, .int .i64 t, .int .i64 i, .int .i64 o, .int .i64 0] 64)).heap.size) := HK.out.size
 clear v0 v1 v2 v3 v4 HA1 HK1 xb1
 generalize hV : V.alloc (.cells #[.int .i64 f, .int .i64 t, .int .i64 i, .int .i64 o, .int .i64 0] 64) = VV at *
 clear hV
 generalize V.heap.size = bn at *
 generalize w.heap.size = bx at xb hbL hbm hbv ⊢
 cases hp : pos A (f, t, i, o) with
 | none =>
  have HNO : Hid (pos A (nam (f, t, i, o, x)) = none) := hp
  have HPP : Hid (putP A (f, t, i, o, x) = A ++ [(f, t, i, o, x)]) := by show _ = _; unfold putP; rw [HNO.out]
  have HCE : Hid _ := fun (W : World) (hSw : Al base W Lb mb A va ∧ W.heap[bx]? = some (.cells #[.int .i64 f, .int .i64 t, .int .i64 i, .int .i64 o, .int .i64 x] 64 (0, 0)) ∧ W.heap[bn]? = some (.cells #[.int .i64 f, .int .i64 t, .int .i64 i, .int .i64 o, .int .i64 0] 64 (0, 0))) => (And.intro (cell_of_row _ _ 1 _ _ _ hSw.1.row) (And.intro (cell_of_row _ _ 0 _ _ _ hSw.2.2) (And.intro (cell_of_row _ _ 1 _ _ _ hSw.2.2) (And.intro (cell_of_row _ _ 2 _ _ _ hSw.2.2) (And.intro (cell_of_row _ _ 3 _ _ _ hSw.2.2) (cell_of_row _ _ 4 _ _ _ hSw.2.2))))))
  refine wp_region_held_drew (S := fun W => Al base W Lb mb A va ∧ W.heap[bx]? = some (.cells #[.int .i64 f, .int .i64 t, .int .i64 i, .int .i64 o, .int .i64 x] 64 (0, 0)) ∧ W.heap[bn]? = some (.cells #[.int .i64 f, .int .i64 t, .int .i64 i, .int .i64 o, .int .i64 0] 64 (0, 0))) (by kernel_rfl) (by exact ⟨HA.out.drewN 1, xb, xn⟩) (fun hHeld => ?_)
  have hS0 := hHeld
  have HK : Hid (Kp (Own Lb mb va) w VV.drew) := HK.out.drewN 1
  have HSZ : Hid (w.heap.size ≤ VV.drew.heap.size) := HSZ.out
  clear HA xb xn
  generalize hV : VV.drew = VV at *
  clear hV
  refine tk (v := ?_) 0 { dst := some 19, op := .move (.tmp 0), type := 180, pos := "through.go:54", after := #[], guard := none } (by rfl) ?_ ?_
  case refine_2 => intro w hSw; (try dsimp only at hSw); obtain ⟨q1, n0, n1, n2, n3, n4⟩ := HCE.out _ hSw; go_simp; (try with_reducible rfl)
  simp only [Act.put, zS0, zS1, zS2]
  refine tk (v := ?_) 1 { dst := some 20, op := .nilCheck (.tmp 19), type := 0, pos := "through.go:54", after := #[⟨0, .data⟩], guard := none } (by rfl) ?_ ?_
  case refine_2 => intro w hSw; (try dsimp only at hSw); obtain ⟨q1, n0, n1, n2, n3, n4⟩ := HCE.out _ hSw; go_simp; (try with_reducible rfl)
  simp only [Act.put, zS0, zS1, zS2]
  refine tk (v := ?_) 2 { dst := some 21, op := .fieldAddr 132 (.tmp 20) 1, type := 0, pos := "through.go:54", after := #[⟨1, .data⟩], guard := none } (by rfl) ?_ ?_
  case refine_2 => intro w hSw; (try dsimp only at hSw); obtain ⟨q1, n0, n1, n2, n3, n4⟩ := HCE.out _ hSw; go_simp; (try with_reducible rfl)
  simp only [Act.put, zS0, zS1, zS2]
  refine tk (v := ?_) 3 { dst := some 22, op := .load 130 (.tmp 21), type := 130, pos := "through.go:54", after := #[⟨2, .data⟩], guard := none } (by rfl) ?_ ?_
  case refine_2 => intro w hSw; (try dsimp only at hSw); obtain ⟨q1, n0, n1, n2, n3, n4⟩ := HCE.out _ hSw; go_simp; (try with_reducible rfl)
  simp only [Act.put, zS0, zS1, zS2]
  refine tk (v := ?_) 4 { dst := some 23, op := .load 64 (.tmp 4), type := 64, pos := "through.go:54", after := #[], guard := none } (by rfl) ?_ ?_
  case refine_2 => intro w hSw; (try dsimp only at hSw); obtain ⟨q1, n0, n1, n2, n3, n4⟩ := HCE.out _ hSw; go_simp; (try with_reducible rfl)
  simp only [Act.put, zS0, zS1, zS2]
  refine wpAnyH_ready (rs := [5]) (by kernel_rfl) (by simp) ?_
  refine (AllReadyH.cons (o := { dst := some 24, op := .lookup 130 (.tmp 22) (.tmp 23) true, type := 149, pos := "through.go:54", after := #[⟨3, .data⟩, ⟨4, .data⟩], guard := none }) rfl (fun K hK => ?_) AllReadyH.nil)
  have lk := hS0.1.mp.look_no HOK.out hp
  go_simp
  clear lk
  refine hK.out _ _ ?_ (fun hHeld => ?_)
  ·exact hS0
  clear hK K
  try simp only [Act.put, zS0, zS1, zS2]
  refine tk (v := ?_) 6 { dst := some 18, op := .move (.tmp 24), type := 149, pos := "through.go:54", after := #[⟨5, .data⟩], guard := none } (by rfl) ?_ ?_
  case refine_2 => intro w hSw; (try dsimp only at hSw); obtain ⟨q1, n0, n1, n2, n3, n4⟩ := HCE.out _ hSw; go_simp; (try with_reducible rfl)
  simp only [Act.put, zS0, zS1, zS2]
  refine tk (v := ?_) 7 { dst := some 25, op := .extract (.tmp 18) 0, type := 3, pos := "through.go:54", after := #[⟨6, .data⟩], guard := none } (by rfl) ?_ ?_
  case refine_2 => intro w hSw; (try dsimp only at hSw); obtain ⟨q1, n0, n1, n2, n3, n4⟩ := HCE.out _ hSw; go_simp; (try with_reducible rfl)
  simp only [Act.put, zS0, zS1, zS2]
  refine tk (v := ?_) 8 { dst := some 26, op := .extract (.tmp 18) 1, type := 4, pos := "through.go:54", after := #[⟨6, .data⟩, { on := 9, ground := Ground.gcOnly Departure.lateStores }], guard := none } (by rfl) ?_ ?_
  case refine_2 => intro w hSw; (try dsimp only at hSw); obtain ⟨q1, n0, n1, n2, n3, n4⟩ := HCE.out _ hSw; go_simp; (try with_reducible rfl)
  simp only [Act.put, zS0, zS1, zS2]
  refine tk (v := ?_) 9 { dst := some 5, op := .assign (.tmp 25), type := 3, pos := "through.go:54", after := #[⟨7, .data⟩, ⟨0, .phase⟩, ⟨1, .phase⟩, ⟨2, .phase⟩, ⟨3, .phase⟩, ⟨4, .phase⟩, ⟨5, .phase⟩, ⟨6, .phase⟩, ⟨7, .phase⟩, { on := 8, ground := Ground.textOnly Departure.lateStores }], guard := none } (by rfl) ?_ ?_
  case refine_2 => intro w hSw; (try dsimp only at hSw); obtain ⟨q1, n0, n1, n2, n3, n4⟩ := HCE.out _ hSw; go_simp; (try with_reducible rfl)
  simp only [Act.put, zS0, zS1, zS2]
  refine tk (v := ?_) 10 { dst := some 6, op := .assign (.tmp 26), type := 4, pos := "through.go:54", after := #[⟨8, .data⟩, ⟨9, .chain⟩, ⟨0, .phase⟩, ⟨1, .phase⟩, ⟨2, .phase⟩, ⟨3, .phase⟩, ⟨4, .phase⟩, ⟨5, .phase⟩, ⟨6, .phase⟩, ⟨7, .phase⟩, ⟨8, .phase⟩, ⟨9, .phase⟩], guard := none } (by rfl) ?_ ?_
  case refine_2 => intro w hSw; (try dsimp only at hSw); obtain ⟨q1, n0, n1, n2, n3, n4⟩ := HCE.out _ hSw; go_simp; (try with_reducible rfl)
  simp only [Act.put, zS0, zS1, zS2]
  refine wpAnyH_done (by kernel_rfl) ?_ _
  have HA : Hid _ := hS0.1
  have xb := hS0.2.1
  have xn := hS0.2.2
  clear hp hS0
  have hlen := len_of HA.out.arcs
  go_upto_region 7 with fail
  have HCE : Hid _ := fun (W : World) (hSw : W.heap[Lb]? = some (.cells #[va, .map (some mb)] 132 (0, 0)) ∧ W.heap[bx]? = some (.cells #[.int .i64 f, .int .i64 t, .int .i64 i, .int .i64 o, .int .i64 x] 64 (0, 0)) ∧ W.heap[bn]? = some (.cells #[.int .i64 f, .int .i64 t, .int .i64 i, .int .i64 o, .int .i64 0] 64 (0, 0))) => (And.intro (cell_of_row _ _ 0 _ _ _ hSw.1) (And.intro (cell_of_row _ _ 1 _ _ _ hSw.1) (And.intro (cell_of_row _ _ 0 _ _ _ hSw.2.2) (And.intro (cell_of_row _ _ 1 _ _ _ hSw.2.2) (And.intro (cell_of_row _ _ 2 _ _ _ hSw.2.2) (And.intro (cell_of_row _ _ 3 _ _ _ hSw.2.2) (cell_of_row _ _ 4 _ _ _ hSw.2.2)))))))
  refine wp_region_held_drew (S := fun W => W.heap[Lb]? = some (.cells #[va, .map (some mb)] 132 (0, 0)) ∧ W.heap[bx]? = some (.cells #[.int .i64 f, .int .i64 t, .int .i64 i, .int .i64 o, .int .i64 x] 64 (0, 0)) ∧ W.heap[bn]? = some (.cells #[.int .i64 f, .int .i64 t, .int .i64 i, .int .i64 o, .int .i64 0] 64 (0, 0))) (by kernel_rfl) (by exact ⟨HA.out.row, xb, xn⟩) (fun hHeld => ?_)
  have hS0 := hHeld
  have HA0 : Hid (Al base VV.drew Lb mb A va) := HA.out.drewN 1
  have HK0 : Hid (Kp (Own Lb mb va) w VV.drew) := HK.out.drewN 1
  have HSZ : Hid (w.heap.size ≤ VV.drew.heap.size) := HSZ.out
  clear HA HK xb xn
  generalize hV : VV.drew = V0 at *
  clear hV
  refine tk (v := ?_) 0 { dst := some 29, op := .move (.tmp 0), type := 180, pos := "through.go:56", after := #[], guard := none } (by rfl) ?_ ?_
  case refine_2 => intro w hSw; (try dsimp only at hSw); obtain ⟨q0, q1, n0, n1, n2, n3, n4⟩ := HCE.out _ hSw; go_simp; (try with_reducible rfl)
  simp only [Act.put, zS0, zS1, zS2]
  refine tk (v := ?_) 1 { dst := some 30, op := .nilCheck (.tmp 29), type := 0, pos := "through.go:56", after := #[⟨0, .data⟩], guard := none } (by rfl) ?_ ?_
  case refine_2 => intro w hSw; (try dsimp only at hSw); obtain ⟨q0, q1, n0, n1, n2, n3, n4⟩ := HCE.out _ hSw; go_simp; (try with_reducible rfl)
  simp only [Act.put, zS0, zS1, zS2]
  refine tk (v := ?_) 2 { dst := some 31, op := .fieldAddr 132 (.tmp 30) 1, type := 0, pos := "through.go:56", after := #[⟨1, .data⟩], guard := none } (by rfl) ?_ ?_
  case refine_2 => intro w hSw; (try dsimp only at hSw); obtain ⟨q0, q1, n0, n1, n2, n3, n4⟩ := HCE.out _ hSw; go_simp; (try with_reducible rfl)
  simp only [Act.put, zS0, zS1, zS2]
  refine tk (v := ?_) 3 { dst := some 32, op := .load 130 (.tmp 31), type := 130, pos := "through.go:56", after := #[⟨2, .data⟩], guard := none } (by rfl) ?_ ?_
  case refine_2 => intro w hSw; (try dsimp only at hSw); obtain ⟨q0, q1, n0, n1, n2, n3, n4⟩ := HCE.out _ hSw; go_simp; (try with_reducible rfl)
  simp only [Act.put, zS0, zS1, zS2]
  refine tk (v := ?_) 4 { dst := some 33, op := .load 64 (.tmp 4), type := 64, pos := "through.go:56", after := #[], guard := none } (by rfl) ?_ ?_
  case refine_2 => intro w hSw; (try dsimp only at hSw); obtain ⟨q0, q1, n0, n1, n2, n3, n4⟩ := HCE.out _ hSw; go_simp; (try with_reducible rfl)
  simp only [Act.put, zS0, zS1, zS2]
  refine tk (v := ?_) 5 { dst := some 34, op := .move (.tmp 0), type := 180, pos := "through.go:56", after := #[], guard := none } (by rfl) ?_ ?_
  case refine_2 => intro w hSw; (try dsimp only at hSw); obtain ⟨q0, q1, n0, n1, n2, n3, n4⟩ := HCE.out _ hSw; go_simp; (try with_reducible rfl)
  simp only [Act.put, zS0, zS1, zS2]
  refine tk (v := ?_) 6 { dst := some 35, op := .nilCheck (.tmp 34), type := 0, pos := "through.go:56", after := #[⟨5, .data⟩], guard := none } (by rfl) ?_ ?_
  case refine_2 => intro w hSw; (try dsimp only at hSw); obtain ⟨q0, q1, n0, n1, n2, n3, n4⟩ := HCE.out _ hSw; go_simp; (try with_reducible rfl)
  simp only [Act.put, zS0, zS1, zS2]
  refine tk (v := ?_) 7 { dst := some 36, op := .fieldAddr 132 (.tmp 35) 0, type := 0, pos := "through.go:56", after := #[⟨6, .data⟩], guard := none } (by rfl) ?_ ?_
  case refine_2 => intro w hSw; (try dsimp only at hSw); obtain ⟨q0, q1, n0, n1, n2, n3, n4⟩ := HCE.out _ hSw; go_simp; (try with_reducible rfl)
  simp only [Act.put, zS0, zS1, zS2]
  refine tk (v := ?_) 8 { dst := some 37, op := .load 22 (.tmp 36), type := 22, pos := "through.go:56", after := #[⟨7, .data⟩], guard := none } (by rfl) ?_ ?_
  case refine_2 => intro w hSw; (try dsimp only at hSw); obtain ⟨q0, q1, n0, n1, n2, n3, n4⟩ := HCE.out _ hSw; go_simp; (try with_reducible rfl)
  simp only [Act.put, zS0, zS1, zS2]
  refine tk (v := ?_) 9 { dst := some 38, op := .call { callee := .builtin .len, args := #[.tmp 37], argTypes := #[22] }, type := 3, pos := "through.go:56", after := #[⟨8, .data⟩], guard := none } (by rfl) ?_ ?_
  case refine_2 => intro w hSw; (try dsimp only at hSw); obtain ⟨q0, q1, n0, n1, n2, n3, n4⟩ := HCE.out _ hSw; go_simp; (try with_reducible rfl)
  simp only [Act.put, zS0, zS1, zS2]
  refine wpAnyH_ready (rs := [10]) (by kernel_rfl) (by simp) ?_
  refine (AllReadyH.cons (o := { dst := none, op := .mapUpdate 130 (.tmp 32) (.tmp 33) (.tmp 38), type := 0, pos := "through.go:56", after := #[⟨3, .data⟩, ⟨4, .data⟩, ⟨9, .data⟩, ⟨0, .phase⟩, ⟨1, .phase⟩, ⟨2, .phase⟩, ⟨3, .phase⟩, ⟨4, .phase⟩, ⟨5, .phase⟩, ⟨6, .phase⟩, ⟨7, .phase⟩, ⟨8, .phase⟩, ⟨9, .phase⟩], guard := none }) rfl (fun K hK => ?_) AllReadyH.nil)
  obtain ⟨W7, hr7, ham, hg7⟩ := HA0.out.mp.store (c := A.length) (by have := HLN.out; unfold maxLen; omega) HOK.out
  unfold vn nam at hr7
  dsimp only at hr7
  go_simp
  have hS7 := And.intro ((hg7.block _ (lt_at hS0.1) (fun e => HAP.out.1 (by cases e; rfl))).trans hS0.1) (And.intro ((hg7.block _ (lt_at hS0.2.1) (fun e => hbm (by cases e; rfl))).trans hS0.2.1) ((hg7.block _ (lt_at hS0.2.2) (fun e => hnm (by cases e; rfl))).trans hS0.2.2))
  refine hK.out _ _ ?_ (fun hHeld => ?_)
  ·exact hS7
  clear hK K
  try simp only [Act.put, zS0, zS1, zS2]
  refine wpAnyH_done (by kernel_rfl) ?_ _
  have HAM : Hid _ := ham
  have HG7 : Hid _ := hg7
  clear ham hg7 hr7 hS0
  go_upto_region 8 with fail
  have HCE : Hid _ := fun (W : World) (hSw : W.heap[bx]? = some (.cells #[.int .i64 f, .int .i64 t, .int .i64 i, .int .i64 o, .int .i64 x] 64 (0, 0))) => (And.intro (cell_of_row _ _ 0 _ _ _ hSw) (And.intro (cell_of_row _ _ 1 _ _ _ hSw) (And.intro (cell_of_row _ _ 2 _ _ _ hSw) (And.intro (cell_of_row _ _ 3 _ _ _ hSw) (cell_of_row _ _ 4 _ _ _ hSw)))))
  refine wp_region_held_drew (S := fun W => W.heap[bx]? = some (.cells #[.int .i64 f, .int .i64 t, .int .i64 i, .int .i64 o, .int .i64 x] 64 (0, 0))) (by kernel_rfl) (by exact hS7.2.1) (fun hHeld => ?_)
  have hS8 := hHeld
  have y0 : W7.drew.heap[Lb]? = _ := hS7.1
  have HK8 : Hid (Kp (fun _ => False) W7 W7.drew) := (Kp.refl _ _).drewN 1
  clear hS7
  generalize hV : W7.drew = V8 at *
  clear hV
  refine tk (v := ?_) 0 { dst := some 39, op := .move (.tmp 0), type := 180, pos := "through.go:57", after := #[], guard := none } (by rfl) ?_ ?_
  case refine_2 => intro w hSw; (try dsimp only at hSw); obtain ⟨z0, z1, z2, z3, z4⟩ := HCE.out _ hSw; go_simp; (try with_reducible rfl)
  simp only [Act.put, zS0, zS1, zS2]
  refine tk (v := ?_) 1 { dst := some 40, op := .move (.tmp 0), type := 180, pos := "through.go:57", after := #[], guard := none } (by rfl) ?_ ?_
  case refine_2 => intro w hSw; (try dsimp only at hSw); obtain ⟨z0, z1, z2, z3, z4⟩ := HCE.out _ hSw; go_simp; (try with_reducible rfl)
  simp only [Act.put, zS0, zS1, zS2]
  refine tk (v := ?_) 2 { dst := some 41, op := .nilCheck (.tmp 40), type := 0, pos := "through.go:57", after := #[⟨1, .data⟩], guard := none } (by rfl) ?_ ?_
  case refine_2 => intro w hSw; (try dsimp only at hSw); obtain ⟨z0, z1, z2, z3, z4⟩ := HCE.out _ hSw; go_simp; (try with_reducible rfl)
  simp only [Act.put, zS0, zS1, zS2]
  refine tk (v := ?_) 3 { dst := some 42, op := .fieldAddr 132 (.tmp 41) 0, type := 0, pos := "through.go:57", after := #[⟨2, .data⟩], guard := none } (by rfl) ?_ ?_
  case refine_2 => intro w hSw; (try dsimp only at hSw); obtain ⟨z0, z1, z2, z3, z4⟩ := HCE.out _ hSw; go_simp; (try with_reducible rfl)
  simp only [Act.put, zS0, zS1, zS2]
  refine tk (v := ?_) 5 { dst := some 44, op := .load 64 (.tmp 3), type := 64, pos := "through.go:57", after := #[], guard := none } (by rfl) ?_ ?_
  case refine_2 => intro w hSw; (try dsimp only at hSw); obtain ⟨z0, z1, z2, z3, z4⟩ := HCE.out _ hSw; go_simp; (try with_reducible rfl)
  simp only [Act.put, zS0, zS1, zS2]
  refine wpAnyH_ready (rs := [4, 6]) (by kernel_rfl) (by simp) ?_
  refine (AllReadyH.cons (o := { dst := some 43, op := .load 22 (.tmp 42), type := 22, pos := "through.go:57", after := #[⟨3, .data⟩], guard := none }) rfl (fun K hK => ?_) (AllReadyH.cons (o := { dst := some 45, op := .buildSlice 22 1 #[(0, .tmp 44)], type := 22, pos := "through.go:57", after := #[⟨5, .data⟩], guard := none }) rfl (fun K hK => ?_) AllReadyH.nil))
  ·skip
   have c4 := cell_of_row _ _ 0 _ _ _ y0
   go_simp
   refine hK.out _ _ ?_ (fun hHeld => ?_)
   ·first | exact xb1 | exact hS8
   clear hK K
   try simp only [Act.put, zS0, zS1, zS2]
   clear c4
   refine wpAnyH_ready (rs := [6]) (by kernel_rfl) (by simp) ?_
   refine (AllReadyH.cons (o := { dst := some 45, op := .buildSlice 22 1 #[(0, .tmp 44)], type := 22, pos := "through.go:57", after := #[⟨5, .data⟩], guard := none }) rfl (fun K hK => ?_) AllReadyH.nil)
   go_simp
   have y1 := (heap_alloc_old V8 (.cells #[.int .i64 f, .int .i64 t, .int .i64 i, .int .i64 o, .int .i64 x] 64) (lt_at y0)).trans y0
   have xb1 := (heap_alloc_old V8 (.cells #[.int .i64 f, .int .i64 t, .int .i64 i, .int .i64 o, .int .i64 x] 64) (lt_at hS8)).trans hS8
   have hn1 := cell_five_at V8 V8.heap.size (.int .i64 f) (.int .i64 t) (.int .i64 i) (.int .i64 o) (.int .i64 x) 64 rfl
   have HK1 : Hid (Kp (fun _ => False) W7 (V8.alloc (.cells #[.int .i64 f, .int .i64 t, .int .i64 i, .int .i64 o, .int .i64 x] 64))) := HK8.out.alloc _
   have hbz : base ≤ (V8.alloc (.cells #[.int .i64 f, .int .i64 t, .int .i64 i, .int .i64 o, .int .i64 x] 64)).heap.size := Nat.le_trans hbase (Nat.le_trans HSZ.out (Nat.le_trans HG7.out.size HK1.out.size))
   refine hK.out _ _ ?_ (fun hHeld => ?_)
   ·exact xb1
   clear hK K
   try simp only [Act.put, zS0, zS1, zS2]
   generalize hV : V8.alloc (.cells #[.int .i64 f, .int .i64 t, .int .i64 i, .int .i64 o, .int .i64 x] 64) = W9 at *
   clear hV
   generalize V8.heap.size = bs at *
   refine wpAnyH_ready (rs := [7]) (by kernel_rfl) (by simp) ?_
   refine (AllReadyH.cons (o := { dst := some 46, op := .call { callee := .builtin .append, args := #[.tmp 43, .tmp 45], argTypes := #[22, 22] }, type := 22, pos := "through.go:57", after := #[⟨4, .data⟩, ⟨6, .data⟩], guard := none }) rfl (fun K hK => ?_) AllReadyH.nil)
   have hov : W9.ownsRow base 64 5 va A.length (acs A) := own_kp2 (own_kp2 HA0.out.arcs ((Kp.refl (fun b => b = mb) V0).grown HG7.out (fun k hk _ => by cases hk; rfl)) (fun k hk e => HAP.out.2.2 (by rw [hk, e]))) HK1.out (fun _ _ => id)
   refine step_append_at rfl (.tmp 43) (.tmp 45) 22 rfl base 64 i0 (.agg #[.int .i64 0, .int .i64 0, .int .i64 0, .int .i64 0, .int .i64 0]) 5 40 Tryd.underlying22 hi hz0 hz1 hz2 rfl (by decide) va _ _ rfl hov ⟨bs, 0, none⟩ 1 1 [.int .i64 f, .int .i64 t, .int .i64 i, .int .i64 o, .int .i64 x] rfl rfl hn1 (five_one _ _ _ _ _) (by have := HLN.out; unfold maxLen; omega) (by have := HLN.out; omega) hbz ?_
   intro v1 w9 ho1 hg1 hl1
   have HF := HA0.out.new (a := (f, t, i, o, x)) HG7.out HAM.out (pos_snoc A _ HNO.out) HK1.out ho1 hg1
   have HF1 : Hid _ := HF
   have y9 := (hg1.block Lb (lt_at y1) (fun e => HAP.out.2.1 e.symm)).trans y1
   have m0 := cell_of_row _ _ 0 _ _ _ y9
   have f0 := frozen_of_row _ _ 0 _ 132 y9
   have xb9 := (hg1.block bx (lt_at xb1) (fun e => hbv e.symm)).trans xb1
   have HFR : Hid (v1.ownBlock = va.ownBlock ∨ ∃ g, v1.ownBlock = some g ∧ w.heap.size ≤ g) := hl1.imp id (fun h => ⟨_, h, Nat.le_trans HSZ.out (Nat.le_trans HG7.out.size HK1.out.size)⟩)
   obtain ⟨gg, cc, rfl, _, _⟩ := own_some ho1 (Nat.succ_pos _)
   clear HF ho1 hg1 hl1
   refine hK.out _ _ ?_ (fun hHeld => ?_)
   ·exact xb9
   clear hK K
   try simp only [Act.put, zS0, zS1, zS2]
   refine tk (v := ?_) 8 { dst := some 47, op := .nilCheck (.tmp 39), type := 0, pos := "through.go:57", after := #[⟨0, .data⟩, ⟨0, .phase⟩, ⟨1, .phase⟩, ⟨2, .phase⟩, ⟨3, .phase⟩, ⟨4, .phase⟩, ⟨5, .phase⟩, ⟨6, .phase⟩, ⟨7, .phase⟩], guard := none } (by rfl) ?_ ?_
   case refine_2 => intro w hSw; (try dsimp only at hSw); obtain ⟨z0, z1, z2, z3, z4⟩ := HCE.out _ hSw; go_simp; (try with_reducible rfl)
   simp only [Act.put, zS0, zS1, zS2]
   refine tk (v := ?_) 9 { dst := some 48, op := .fieldAddr 132 (.tmp 47) 0, type := 0, pos := "through.go:57", after := #[⟨8, .data⟩, ⟨0, .phase⟩, ⟨1, .phase⟩, ⟨2, .phase⟩, ⟨3, .phase⟩, ⟨4, .phase⟩, ⟨5, .phase⟩, ⟨6, .phase⟩, ⟨7, .phase⟩], guard := none } (by rfl) ?_ ?_
   case refine_2 => intro w hSw; (try dsimp only at hSw); obtain ⟨z0, z1, z2, z3, z4⟩ := HCE.out _ hSw; go_simp; (try with_reducible rfl)
   simp only [Act.put, zS0, zS1, zS2]
   refine wpAnyH_ready (rs := [10]) (by kernel_rfl) (by simp) ?_
   refine (AllReadyH.cons (o := { dst := none, op := .store 22 (.tmp 48) (.tmp 46), type := 0, pos := "through.go:57", after := #[⟨9, .data⟩, ⟨7, .data⟩, ⟨7, .chain⟩, ⟨0, .phase⟩, ⟨1, .phase⟩, ⟨2, .phase⟩, ⟨3, .phase⟩, ⟨4, .phase⟩, ⟨5, .phase⟩, ⟨6, .phase⟩, ⟨7, .phase⟩], guard := none }) rfl (fun K hK => ?_) AllReadyH.nil)
   go_simp
   refine hK.out _ _ ?_ (fun hHeld => ?_)
   ·exact (heap_setCell_other _ _ _ _ hbL).trans xb9
   clear hK K
   try simp only [Act.put, zS0, zS1, zS2]
   refine wpAnyH_done (by kernel_rfl) ?_ _
   go_wp2
   go_end0
   exact HPO.out _ _ ⟨rfl, _, by rw [HPP.out]; exact HF1.out.1, HK0.out.trans HF1.out.2, HFR.out⟩
  ·skip
   go_simp
   have y1 := (heap_alloc_old V8 (.cells #[.int .i64 f, .int .i64 t, .int .i64 i, .int .i64 o, .int .i64 x] 64) (lt_at y0)).trans y0
   have xb1 := (heap_alloc_old V8 (.cells #[.int .i64 f, .int .i64 t, .int .i64 i, .int .i64 o, .int .i64 x] 64) (lt_at hS8)).trans hS8
   have hn1 := cell_five_at V8 V8.heap.size (.int .i64 f) (.int .i64 t) (.int .i64 i) (.int .i64 o) (.int .i64 x) 64 rfl
   have HK1 : Hid (Kp (fun _ => False) W7 (V8.alloc (.cells #[.int .i64 f, .int .i64 t, .int .i64 i, .int .i64 o, .int .i64 x] 64))) := HK8.out.alloc _
   have hbz : base ≤ (V8.alloc (.cells #[.int .i64 f, .int .i64 t, .int .i64 i, .int .i64 o, .int .i64 x] 64)).heap.size := Nat.le_trans hbase (Nat.le_trans HSZ.out (Nat.le_trans HG7.out.size HK1.out.size))
   refine hK.out _ _ ?_ (fun hHeld => ?_)
   ·exact xb1
   clear hK K
   try simp only [Act.put, zS0, zS1, zS2]
   generalize hV : V8.alloc (.cells #[.int .i64 f, .int .i64 t, .int .i64 i, .int .i64 o, .int .i64 x] 64) = W9 at *
   clear hV
   generalize V8.heap.size = bs at *
   refine wpAnyH_ready (rs := [4]) (by kernel_rfl) (by simp) ?_
   refine (AllReadyH.cons (o := { dst := some 43, op := .load 22 (.tmp 42), type := 22, pos := "through.go:57", after := #[⟨3, .data⟩], guard := none }) rfl (fun K hK => ?_) AllReadyH.nil)
   have c4 := cell_of_row _ _ 0 _ _ _ y1
   go_simp
   refine hK.out _ _ ?_ (fun hHeld => ?_)
   ·first | exact xb1 | exact hS8
   clear hK K
   try simp only [Act.put, zS0, zS1, zS2]
   clear c4
   refine wpAnyH_ready (rs := [7]) (by kernel_rfl) (by simp) ?_
   refine (AllReadyH.cons (o := { dst := some 46, op := .call { callee := .builtin .append, args := #[.tmp 43, .tmp 45], argTypes := #[22, 22] }, type := 22, pos := "through.go:57", after := #[⟨4, .data⟩, ⟨6, .data⟩], guard := none }) rfl (fun K hK => ?_) AllReadyH.nil)
   have hov : W9.ownsRow base 64 5 va A.length (acs A) := own_kp2 (own_kp2 HA0.out.arcs ((Kp.refl (fun b => b = mb) V0).grown HG7.out (fun k hk _ => by cases hk; rfl)) (fun k hk e => HAP.out.2.2 (by rw [hk, e]))) HK1.out (fun _ _ => id)
   refine step_append_at rfl (.tmp 43) (.tmp 45) 22 rfl base 64 i0 (.agg #[.int .i64 0, .int .i64 0, .int .i64 0, .int .i64 0, .int .i64 0]) 5 40 Tryd.underlying22 hi hz0 hz1 hz2 rfl (by decide) va _ _ rfl hov ⟨bs, 0, none⟩ 1 1 [.int .i64 f, .int .i64 t, .int .i64 i, .int .i64 o, .int .i64 x] rfl rfl hn1 (five_one _ _ _ _ _) (by have := HLN.out; unfold maxLen; omega) (by have := HLN.out; omega) hbz ?_
   intro v1 w9 ho1 hg1 hl1
   have HF := HA0.out.new (a := (f, t, i, o, x)) HG7.out HAM.out (pos_snoc A _ HNO.out) HK1.out ho1 hg1
   have HF1 : Hid _ := HF
   have y9 := (hg1.block Lb (lt_at y1) (fun e => HAP.out.2.1 e.symm)).trans y1
   have m0 := cell_of_row _ _ 0 _ _ _ y9
   have f0 := frozen_of_row _ _ 0 _ 132 y9
   have xb9 := (hg1.block bx (lt_at xb1) (fun e => hbv e.symm)).trans xb1
   have HFR : Hid (v1.ownBlock = va.ownBlock ∨ ∃ g, v1.ownBlock = some g ∧ w.heap.size ≤ g) := hl1.imp id (fun h => ⟨_, h, Nat.le_trans HSZ.out (Nat.le_trans HG7.out.size HK1.out.size)⟩)
   obtain ⟨gg, cc, rfl, _, _⟩ := own_some ho1 (Nat.succ_pos _)
   clear HF ho1 hg1 hl1
   refine hK.out _ _ ?_ (fun hHeld => ?_)
   ·exact xb9
   clear hK K
   try simp only [Act.put, zS0, zS1, zS2]
   refine tk (v := ?_) 8 { dst := some 47, op := .nilCheck (.tmp 39), type := 0, pos := "through.go:57", after := #[⟨0, .data⟩, ⟨0, .phase⟩, ⟨1, .phase⟩, ⟨2, .phase⟩, ⟨3, .phase⟩, ⟨4, .phase⟩, ⟨5, .phase⟩, ⟨6, .phase⟩, ⟨7, .phase⟩], guard := none } (by rfl) ?_ ?_
   case refine_2 => intro w hSw; (try dsimp only at hSw); obtain ⟨z0, z1, z2, z3, z4⟩ := HCE.out _ hSw; go_simp; (try with_reducible rfl)
   simp only [Act.put, zS0, zS1, zS2]
   refine tk (v := ?_) 9 { dst := some 48, op := .fieldAddr 132 (.tmp 47) 0, type := 0, pos := "through.go:57", after := #[⟨8, .data⟩, ⟨0, .phase⟩, ⟨1, .phase⟩, ⟨2, .phase⟩, ⟨3, .phase⟩, ⟨4, .phase⟩, ⟨5, .phase⟩, ⟨6, .phase⟩, ⟨7, .phase⟩], guard := none } (by rfl) ?_ ?_
   case refine_2 => intro w hSw; (try dsimp only at hSw); obtain ⟨z0, z1, z2, z3, z4⟩ := HCE.out _ hSw; go_simp; (try with_reducible rfl)
   simp only [Act.put, zS0, zS1, zS2]
   refine wpAnyH_ready (rs := [10]) (by kernel_rfl) (by simp) ?_
   refine (AllReadyH.cons (o := { dst := none, op := .store 22 (.tmp 48) (.tmp 46), type := 0, pos := "through.go:57", after := #[⟨9, .data⟩, ⟨7, .data⟩, ⟨7, .chain⟩, ⟨0, .phase⟩, ⟨1, .phase⟩, ⟨2, .phase⟩, ⟨3, .phase⟩, ⟨4, .phase⟩, ⟨5, .phase⟩, ⟨6, .phase⟩, ⟨7, .phase⟩], guard := none }) rfl (fun K hK => ?_) AllReadyH.nil)
   go_simp
   refine hK.out _ _ ?_ (fun hHeld => ?_)
   ·exact (heap_setCell_other _ _ _ _ hbL).trans xb9
   clear hK K
   try simp only [Act.put, zS0, zS1, zS2]
   refine wpAnyH_done (by kernel_rfl) ?_ _
   go_wp2
   go_end0
   exact HPO.out _ _ ⟨rfl, _, by rw [HPP.out]; exact HF1.out.1, HK0.out.trans HF1.out.2, HFR.out⟩
 | some k =>
  have hk := pos_lt hp
  have HPP : Hid (putP A (f, t, i, o, x) = low A k x) := by show _ = _; unfold putP; rw [show pos A (nam (f, t, i, o, x)) = some k from hp]
  have HCE : Hid _ := fun (W : World) (hSw : Al base W Lb mb A va ∧ W.heap[bx]? = some (.cells #[.int .i64 f, .int .i64 t, .int .i64 i, .int .i64 o, .int .i64 x] 64 (0, 0)) ∧ W.heap[bn]? = some (.cells #[.int .i64 f, .int .i64 t, .int .i64 i, .int .i64 o, .int .i64 0] 64 (0, 0))) => (And.intro (cell_of_row _ _ 1 _ _ _ hSw.1.row) (And.intro (cell_of_row _ _ 0 _ _ _ hSw.2.2) (And.intro (cell_of_row _ _ 1 _ _ _ hSw.2.2) (And.intro (cell_of_row _ _ 2 _ _ _ hSw.2.2) (And.intro (cell_of_row _ _ 3 _ _ _ hSw.2.2) (cell_of_row _ _ 4 _ _ _ hSw.2.2))))))
  refine wp_region_held_drew (S := fun W => Al base W Lb mb A va ∧ W.heap[bx]? = some (.cells #[.int .i64 f, .int .i64 t, .int .i64 i, .int .i64 o, .int .i64 x] 64 (0, 0)) ∧ W.heap[bn]? = some (.cells #[.int .i64 f, .int .i64 t, .int .i64 i, .int .i64 o, .int .i64 0] 64 (0, 0))) (by kernel_rfl) (by exact ⟨HA.out.drewN 1, xb, xn⟩) (fun hHeld => ?_)
  have hS0 := hHeld
  have HK : Hid (Kp (Own Lb mb va) w VV.drew) := HK.out.drewN 1
  have HSZ : Hid (w.heap.size ≤ VV.drew.heap.size) := HSZ.out
  clear HA xb xn
  generalize hV : VV.drew = VV at *
  clear hV
  refine tk (v := ?_) 0 { dst := some 19, op := .move (.tmp 0), type := 180, pos := "through.go:54", after := #[], guard := none } (by rfl) ?_ ?_
  case refine_2 => intro w hSw; (try dsimp only at hSw); obtain ⟨q1, n0, n1, n2, n3, n4⟩ := HCE.out _ hSw; go_simp; (try with_reducible rfl)
  simp only [Act.put, zS0, zS1, zS2]
  refine tk (v := ?_) 1 { dst := some 20, op := .nilCheck (.tmp 19), type := 0, pos := "through.go:54", after := #[⟨0, .data⟩], guard := none } (by rfl) ?_ ?_
  case refine_2 => intro w hSw; (try dsimp only at hSw); obtain ⟨q1, n0, n1, n2, n3, n4⟩ := HCE.out _ hSw; go_simp; (try with_reducible rfl)
  simp only [Act.put, zS0, zS1, zS2]
  refine tk (v := ?_) 2 { dst := some 21, op := .fieldAddr 132 (.tmp 20) 1, type := 0, pos := "through.go:54", after := #[⟨1, .data⟩], guard := none } (by rfl) ?_ ?_
  case refine_2 => intro w hSw; (try dsimp only at hSw); obtain ⟨q1, n0, n1, n2, n3, n4⟩ := HCE.out _ hSw; go_simp; (try with_reducible rfl)
  simp only [Act.put, zS0, zS1, zS2]
  refine tk (v := ?_) 3 { dst := some 22, op := .load 130 (.tmp 21), type := 130, pos := "through.go:54", after := #[⟨2, .data⟩], guard := none } (by rfl) ?_ ?_
  case refine_2 => intro w hSw; (try dsimp only at hSw); obtain ⟨q1, n0, n1, n2, n3, n4⟩ := HCE.out _ hSw; go_simp; (try with_reducible rfl)
  simp only [Act.put, zS0, zS1, zS2]
  refine tk (v := ?_) 4 { dst := some 23, op := .load 64 (.tmp 4), type := 64, pos := "through.go:54", after := #[], guard := none } (by rfl) ?_ ?_
  case refine_2 => intro w hSw; (try dsimp only at hSw); obtain ⟨q1, n0, n1, n2, n3, n4⟩ := HCE.out _ hSw; go_simp; (try with_reducible rfl)
  simp only [Act.put, zS0, zS1, zS2]
  refine wpAnyH_ready (rs := [5]) (by kernel_rfl) (by simp) ?_
  refine (AllReadyH.cons (o := { dst := some 24, op := .lookup 130 (.tmp 22) (.tmp 23) true, type := 149, pos := "through.go:54", after := #[⟨3, .data⟩, ⟨4, .data⟩], guard := none }) rfl (fun K hK => ?_) AllReadyH.nil)
  have lk := hS0.1.mp.look_yes HOK.out hp
  go_simp
  clear lk
  refine hK.out _ _ ?_ (fun hHeld => ?_)
  ·exact hS0
  clear hK K
  try simp only [Act.put, zS0, zS1, zS2]
  refine tk (v := ?_) 6 { dst := some 18, op := .move (.tmp 24), type := 149, pos := "through.go:54", after := #[⟨5, .data⟩], guard := none } (by rfl) ?_ ?_
  case refine_2 => intro w hSw; (try dsimp only at hSw); obtain ⟨q1, n0, n1, n2, n3, n4⟩ := HCE.out _ hSw; go_simp; (try with_reducible rfl)
  simp only [Act.put, zS0, zS1, zS2]
  refine tk (v := ?_) 7 { dst := some 25, op := .extract (.tmp 18) 0, type := 3, pos := "through.go:54", after := #[⟨6, .data⟩], guard := none } (by rfl) ?_ ?_
  case refine_2 => intro w hSw; (try dsimp only at hSw); obtain ⟨q1, n0, n1, n2, n3, n4⟩ := HCE.out _ hSw; go_simp; (try with_reducible rfl)
  simp only [Act.put, zS0, zS1, zS2]
  refine tk (v := ?_) 8 { dst := some 26, op := .extract (.tmp 18) 1, type := 4, pos := "through.go:54", after := #[⟨6, .data⟩, { on := 9, ground := Ground.gcOnly Departure.lateStores }], guard := none } (by rfl) ?_ ?_
  case refine_2 => intro w hSw; (try dsimp only at hSw); obtain ⟨q1, n0, n1, n2, n3, n4⟩ := HCE.out _ hSw; go_simp; (try with_reducible rfl)
  simp only [Act.put, zS0, zS1, zS2]
  refine tk (v := ?_) 9 { dst := some 5, op := .assign (.tmp 25), type := 3, pos := "through.go:54", after := #[⟨7, .data⟩, ⟨0, .phase⟩, ⟨1, .phase⟩, ⟨2, .phase⟩, ⟨3, .phase⟩, ⟨4, .phase⟩, ⟨5, .phase⟩, ⟨6, .phase⟩, ⟨7, .phase⟩, { on := 8, ground := Ground.textOnly Departure.lateStores }], guard := none } (by rfl) ?_ ?_
  case refine_2 => intro w hSw; (try dsimp only at hSw); obtain ⟨q1, n0, n1, n2, n3, n4⟩ := HCE.out _ hSw; go_simp; (try with_reducible rfl)
  simp only [Act.put, zS0, zS1, zS2]
  refine tk (v := ?_) 10 { dst := some 6, op := .assign (.tmp 26), type := 4, pos := "through.go:54", after := #[⟨8, .data⟩, ⟨9, .chain⟩, ⟨0, .phase⟩, ⟨1, .phase⟩, ⟨2, .phase⟩, ⟨3, .phase⟩, ⟨4, .phase⟩, ⟨5, .phase⟩, ⟨6, .phase⟩, ⟨7, .phase⟩, ⟨8, .phase⟩, ⟨9, .phase⟩], guard := none } (by rfl) ?_ ?_
  case refine_2 => intro w hSw; (try dsimp only at hSw); obtain ⟨q1, n0, n1, n2, n3, n4⟩ := HCE.out _ hSw; go_simp; (try with_reducible rfl)
  simp only [Act.put, zS0, zS1, zS2]
  refine wpAnyH_done (by kernel_rfl) ?_ _
  have HA : Hid _ := hS0.1
  have xb := hS0.2.1
  have xn := hS0.2.2
  clear hp hS0
  obtain ⟨g, cap, rfl, _, _⟩ := own_some HA.out.arcs (by omega)
  have hgL : ¬ Lb = g := fun e => HAP.out.2.1 (by rw [e]; rfl)
  have hgb : ¬ bx = g := fun e => hbv (by rw [e]; rfl)
  have hk' : (k : Int) < (A.length : Int) := by omega
  have hA1 := HLN.out
  go_upto_region 9 with fail
  have HCE : Hid _ := fun (W : World) (hSw : W.heap[Lb]? = some (.cells #[.slice (some ⟨g, 0, none⟩) A.length cap, .map (some mb)] 132 (0, 0)) ∧ W.heap[bx]? = some (.cells #[.int .i64 f, .int .i64 t, .int .i64 i, .int .i64 o, .int .i64 x] 64 (0, 0))) => (And.intro (cell_of_row _ _ 0 _ _ _ hSw.1) (cell_of_row _ _ 4 _ _ _ hSw.2))
  refine wp_region_held_drew (S := fun W => W.heap[Lb]? = some (.cells #[.slice (some ⟨g, 0, none⟩) A.length cap, .map (some mb)] 132 (0, 0)) ∧ W.heap[bx]? = some (.cells #[.int .i64 f, .int .i64 t, .int .i64 i, .int .i64 o, .int .i64 x] 64 (0, 0))) (by kernel_rfl) (by exact ⟨HA.out.row, xb⟩) (fun hHeld => ?_)
  have hS0 := hHeld
  have HA0 : Hid (Al base VV.drew Lb mb A (.slice (some ⟨g, 0, none⟩) A.length cap)) := HA.out.drewN 1
  have HK0 : Hid (Kp (Own Lb mb (.slice (some ⟨g, 0, none⟩) A.length cap)) w VV.drew) := HK.out.drewN 1
  clear HA HK xb xn
  generalize hV : VV.drew = V0 at *
  clear hV
  refine tk (v := ?_) 0 { dst := some 49, op := .move (.tmp 0), type := 180, pos := "through.go:59", after := #[], guard := none } (by rfl) ?_ ?_
  case refine_2 => intro w hSw; (try dsimp only at hSw); obtain ⟨q0, z4⟩ := HCE.out _ hSw; go_simp; (try with_reducible rfl)
  simp only [Act.put, zS0, zS1, zS2]
  refine tk (v := ?_) 1 { dst := some 50, op := .nilCheck (.tmp 49), type := 0, pos := "through.go:59", after := #[⟨0, .data⟩], guard := none } (by rfl) ?_ ?_
  case refine_2 => intro w hSw; (try dsimp only at hSw); obtain ⟨q0, z4⟩ := HCE.out _ hSw; go_simp; (try with_reducible rfl)
  simp only [Act.put, zS0, zS1, zS2]
  refine tk (v := ?_) 2 { dst := some 51, op := .fieldAddr 132 (.tmp 50) 0, type := 0, pos := "through.go:59", after := #[⟨1, .data⟩], guard := none } (by rfl) ?_ ?_
  case refine_2 => intro w hSw; (try dsimp only at hSw); obtain ⟨q0, z4⟩ := HCE.out _ hSw; go_simp; (try with_reducible rfl)
  simp only [Act.put, zS0, zS1, zS2]
  refine tk (v := ?_) 3 { dst := some 52, op := .load 22 (.tmp 51), type := 22, pos := "through.go:59", after := #[⟨2, .data⟩], guard := none } (by rfl) ?_ ?_
  case refine_2 => intro w hSw; (try dsimp only at hSw); obtain ⟨q0, z4⟩ := HCE.out _ hSw; go_simp; (try with_reducible rfl)
  simp only [Act.put, zS0, zS1, zS2]
  refine tk (v := ?_) 4 { dst := some 53, op := .move (.tmp 5), type := 3, pos := "through.go:59", after := #[], guard := none } (by rfl) ?_ ?_
  case refine_2 => intro w hSw; (try dsimp only at hSw); obtain ⟨q0, z4⟩ := HCE.out _ hSw; go_simp; (try with_reducible rfl)
  simp only [Act.put, zS0, zS1, zS2]
  refine tk (v := ?_) 5 { dst := some 54, op := .move (.tmp 0), type := 180, pos := "through.go:59", after := #[], guard := none } (by rfl) ?_ ?_
  case refine_2 => intro w hSw; (try dsimp only at hSw); obtain ⟨q0, z4⟩ := HCE.out _ hSw; go_simp; (try with_reducible rfl)
  simp only [Act.put, zS0, zS1, zS2]
  refine tk (v := ?_) 6 { dst := some 55, op := .nilCheck (.tmp 54), type := 0, pos := "through.go:59", after := #[⟨5, .data⟩], guard := none } (by rfl) ?_ ?_
  case refine_2 => intro w hSw; (try dsimp only at hSw); obtain ⟨q0, z4⟩ := HCE.out _ hSw; go_simp; (try with_reducible rfl)
  simp only [Act.put, zS0, zS1, zS2]
  refine tk (v := ?_) 7 { dst := some 56, op := .fieldAddr 132 (.tmp 55) 0, type := 0, pos := "through.go:59", after := #[⟨6, .data⟩], guard := none } (by rfl) ?_ ?_
  case refine_2 => intro w hSw; (try dsimp only at hSw); obtain ⟨q0, z4⟩ := HCE.out _ hSw; go_simp; (try with_reducible rfl)
  simp only [Act.put, zS0, zS1, zS2]
  refine tk (v := ?_) 8 { dst := some 57, op := .load 22 (.tmp 56), type := 22, pos := "through.go:59", after := #[⟨7, .data⟩], guard := none } (by rfl) ?_ ?_
  case refine_2 => intro w hSw; (try dsimp only at hSw); obtain ⟨q0, z4⟩ := HCE.out _ hSw; go_simp; (try with_reducible rfl)
  simp only [Act.put, zS0, zS1, zS2]
  refine tk (v := ?_) 9 { dst := some 58, op := .move (.tmp 5), type := 3, pos := "through.go:59", after := #[], guard := none } (by rfl) ?_ ?_
  case refine_2 => intro w hSw; (try dsimp only at hSw); obtain ⟨q0, z4⟩ := HCE.out _ hSw; go_simp; (try with_reducible rfl)
  simp only [Act.put, zS0, zS1, zS2]
  refine tk (v := ?_) 10 { dst := some 59, op := .indexAddr 22 (.tmp 57) (.tmp 58), type := 0, pos := "through.go:59", after := #[⟨8, .data⟩, ⟨9, .data⟩], guard := none } (by rfl) ?_ ?_
  case refine_2 => intro w hSw; (try dsimp only at hSw); obtain ⟨q0, z4⟩ := HCE.out _ hSw; go_simp; (try with_reducible rfl)
  simp only [Act.put, zS0, zS1, zS2]
  refine tk (v := ?_) 11 { dst := some 60, op := .fieldAddr 64 (.tmp 59) 4, type := 0, pos := "through.go:59", after := #[⟨10, .data⟩], guard := none } (by rfl) ?_ ?_
  case refine_2 => intro w hSw; (try dsimp only at hSw); obtain ⟨q0, z4⟩ := HCE.out _ hSw; go_simp; (try with_reducible rfl)
  simp only [Act.put, zS0, zS1, zS2]
  refine tk (v := ?_) 13 { dst := some 62, op := .fieldAddr 64 (.tmp 3) 4, type := 0, pos := "through.go:59", after := #[], guard := none } (by rfl) ?_ ?_
  case refine_2 => intro w hSw; (try dsimp only at hSw); obtain ⟨q0, z4⟩ := HCE.out _ hSw; go_simp; (try with_reducible rfl)
  simp only [Act.put, zS0, zS1, zS2]
  refine tk (v := ?_) 14 { dst := some 63, op := .load 3 (.tmp 62), type := 3, pos := "through.go:59", after := #[⟨13, .data⟩], guard := none } (by rfl) ?_ ?_
  case refine_2 => intro w hSw; (try dsimp only at hSw); obtain ⟨q0, z4⟩ := HCE.out _ hSw; go_simp; (try with_reducible rfl)
  simp only [Act.put, zS0, zS1, zS2]
  refine wpAnyH_ready (rs := [12]) (by kernel_rfl) (by simp) ?_
  refine (AllReadyH.cons (o := { dst := some 61, op := .load 3 (.tmp 60), type := 3, pos := "through.go:59", after := #[⟨11, .data⟩], guard := none }) rfl (fun K hK => ?_) AllReadyH.nil)
  have c12 := HA0.out.arcs.cellAt (k * 5 + 4) (by omega)
  rw [(acs_at A k hk).2.2.2.2] at c12
  go_simp
  refine hK.out _ _ ?_ (fun hHeld => ?_)
  ·exact hS0
  clear hK K
  try simp only [Act.put, zS0, zS1, zS2]
  clear c12
  refine tk (v := ?_) 15 { dst := some 64, op := .call { callee := .builtin .min, args := #[.tmp 61, .tmp 63], argTypes := #[3, 3] }, type := 3, pos := "through.go:59", after := #[⟨12, .data⟩, ⟨14, .data⟩], guard := none } (by rfl) ?_ ?_
  case refine_2 => intro w hSw; (try dsimp only at hSw); obtain ⟨q0, z4⟩ := HCE.out _ hSw; go_simp; (try with_reducible rfl)
  simp only [Act.put, zS0, zS1, zS2]
  refine tk (v := ?_) 16 { dst := some 65, op := .indexAddr 22 (.tmp 52) (.tmp 53), type := 0, pos := "through.go:59", after := #[⟨3, .data⟩, ⟨4, .data⟩, ⟨0, .phase⟩, ⟨1, .phase⟩, ⟨2, .phase⟩, ⟨3, .phase⟩, ⟨4, .phase⟩, ⟨5, .phase⟩, ⟨6, .phase⟩, ⟨7, .phase⟩, ⟨8, .phase⟩, ⟨9, .phase⟩, ⟨10, .phase⟩, ⟨11, .phase⟩, ⟨12, .phase⟩, ⟨13, .phase⟩, ⟨14, .phase⟩, ⟨15, .phase⟩], guard := none } (by rfl) ?_ ?_
  case refine_2 => intro w hSw; (try dsimp only at hSw); obtain ⟨q0, z4⟩ := HCE.out _ hSw; go_simp; (try with_reducible rfl)
  simp only [Act.put, zS0, zS1, zS2]
  refine tk (v := ?_) 17 { dst := some 66, op := .fieldAddr 64 (.tmp 65) 4, type := 0, pos := "through.go:59", after := #[⟨16, .data⟩, ⟨0, .phase⟩, ⟨1, .phase⟩, ⟨2, .phase⟩, ⟨3, .phase⟩, ⟨4, .phase⟩, ⟨5, .phase⟩, ⟨6, .phase⟩, ⟨7, .phase⟩, ⟨8, .phase⟩, ⟨9, .phase⟩, ⟨10, .phase⟩, ⟨11, .phase⟩, ⟨12, .phase⟩, ⟨13, .phase⟩, ⟨14, .phase⟩, ⟨15, .phase⟩], guard := none } (by rfl) ?_ ?_
  case refine_2 => intro w hSw; (try dsimp only at hSw); obtain ⟨q0, z4⟩ := HCE.out _ hSw; go_simp; (try with_reducible rfl)
  simp only [Act.put, zS0, zS1, zS2]
  refine wpAnyH_ready (rs := [18]) (by kernel_rfl) (by simp) ?_
  refine (AllReadyH.cons (o := { dst := none, op := .store 3 (.tmp 66) (.tmp 64), type := 0, pos := "through.go:59", after := #[⟨17, .data⟩, ⟨15, .data⟩, ⟨0, .phase⟩, ⟨1, .phase⟩, ⟨2, .phase⟩, ⟨3, .phase⟩, ⟨4, .phase⟩, ⟨5, .phase⟩, ⟨6, .phase⟩, ⟨7, .phase⟩, ⟨8, .phase⟩, ⟨9, .phase⟩, ⟨10, .phase⟩, ⟨11, .phase⟩, ⟨12, .phase⟩, ⟨13, .phase⟩, ⟨14, .phase⟩, ⟨15, .phase⟩], guard := none }) rfl (fun K hK => ?_) AllReadyH.nil)
  have c18 := HA0.out.arcs.cellAt (k * 5 + 4) (by omega)
  rw [(acs_at A k hk).2.2.2.2] at c18
  have f18 := HA0.out.arcs.frozenAt (k * 5 + 4)
  go_simp
  refine hK.out _ _ ?_ (fun hHeld => ?_)
  ·exact ⟨(heap_setCell_other _ _ _ _ hgL).trans hS0.1, (heap_setCell_other _ _ _ _ hgb).trans hS0.2⟩
  clear hK K
  try simp only [Act.put, zS0, zS1, zS2]
  refine wpAnyH_done (by kernel_rfl) ?_ _
  go_wp2
  all_goals go_end0
  all_goals exact HPO.out _ _ ⟨rfl, .slice (some ⟨g, 0, none⟩) (low A k x).length cap, by rw [HPP.out]; exact (HA0.out.less x hk _ (by split <;> omega)).1, HK0.out.trans (HA0.out.less x hk _ (by split <;> omega)).2, .inl rfl⟩
end Go.Proofs.YtfjocafepigijaaDoor.Am
