/- The document's Void (80), sameSet (81), Ends (82): is a set empty, are two the same, is one of a set final? Conditions: a set has at most 100,000 places; finals are states. -/
import Derived.Test.YtfjocafepigijaaDoorDa
import Derived.Deep.RegionHeld3
namespace Go.Proofs.YtfjocafepigijaaDoor.Su
open Go.RowKit Mv Po Ps Cm

/-- is one of the set final? -/
def fi (F : List (Int × Int)) (bs : List Bool) : Bool := F.any fun f => bs.getD f.1.toNat false
theorem fi_yes {F : List (Int × Int)} {bs : List Bool} {k s : Nat} (hk : k < F.length) (h1 : (F[k]).1 = (s : Int)) (h2 : bs[s]? = some true) : fi F bs = true := by
  unfold fi
  rw [List.any_eq_true]
  refine ⟨F[k], List.getElem_mem hk, ?_⟩
  rw [h1, Int.toNat_natCast, List.getD_eq_getElem?_getD, h2]
  rfl
theorem fi_no {F : List (Int × Int)} {bs : List Bool} (h : ∀ k (hk : k < F.length), ∃ s : Nat, (F[k]).1 = (s : Int) ∧ bs[s]? = some false) : fi F bs = false := by
  unfold fi
  rw [List.any_eq_false]
  intro f hf
  obtain ⟨k, hk, rfl⟩ := List.getElem_of_mem hf
  obtain ⟨s, h1, h2⟩ := h k hk
  rw [h1, Int.toNat_natCast, List.getD_eq_getElem?_getD, h2]
  simp
theorem fin_cells {w : World} {a : Option Addr} {c : Nat} {F : List (Int × Int)} (h : Mv.Row w (.slice a F.length c) 2 F.length (fcs F)) {k : Nat} (hk : k < F.length) {s x : Int} (he : F[k] = (s, x)) :
    ∃ b off, a = some ⟨b, off, none⟩ ∧ b < w.heap.size ∧ w.cell? ⟨b, off + k * 2, none⟩ = some (.int .i64 s) ∧ w.cell? ⟨b, off + k * 2 + 1, none⟩ = some (.int .i64 x) := by
  obtain ⟨_, a', c', e, _, hx⟩ := h
  rw [Value.slice.injEq] at e
  obtain ⟨rfl, _, rfl⟩ := e
  obtain ⟨b, off, rfl, hb, hc⟩ := hx.resolve_left (by omega)
  have u := fcs_at F k hk
  rw [he] at u
  have p1 := hc _ _ u.2
  rw [← Nat.add_assoc] at p1
  exact ⟨b, off, rfl, hb, hc _ _ u.1, p1⟩
end Go.Proofs.YtfjocafepigijaaDoor.Su
/- The document's table of sets while it is made: how its parts lie, a set more, a number more of a row, a row more. No conditions. -/
namespace Go.Proofs.YtfjocafepigijaaDoor.Su
open Go.RowKit Mv Po Ps Cm

/-- where a symbol leads, as a number -/
def enc (o : Option Nat) : Int := match o with | some j => (j : Int) | none => -1
section
variable {w wr w1 : World} {bx p2 p4 S : Nat} {mb : Array Value} {vs vt vf : Value} {sets : List (List Bool)} {sv tv : List Value} {tos : List (List (Option Nat))} {fins : List Bool}
end
end Go.Proofs.YtfjocafepigijaaDoor.Su
/- The document's table of sets while a row of it is made: how the row lies beside the rest; the row's numbers in plain words. No conditions. -/
namespace Go.Proofs.YtfjocafepigijaaDoor.Su
open Go.RowKit Mv Po Ps Cm

theorem inf3' : (Tryd.prog.info? 3).map (fun i => (i.zero, i.size, i.bytes)) = some (some (.int .i64 0), 1, 8) := by kernel_rfl
theorem inf26' : (Tryd.prog.info? 26).map (fun i => (i.zero, i.size, i.bytes)) = some (some (.slice none 0 0), 1, 24) := by kernel_rfl
section
variable {w wr w1 : World} {bx p2 p4 S tb : Nat} {mb : Array Value} {vs vt vf : Value} {sets : List (List Bool)} {sv tv : List Value} {tos : List (List (Option Nat))} {fins : List Bool} {rw : List Int}
end
end Go.Proofs.YtfjocafepigijaaDoor.Su
/- Plain (the document's 21, the program's 46): does each arc write what it reads, and does nothing cost anything? No conditions. -/
namespace Go.Proofs.YtfjocafepigijaaDoor.Su
open Go.RowKit Mv Po Ps Cm

def plA (a : Int × Int × Int × Int × Int) : Bool := a.2.2.1 == a.2.2.2.1 && a.2.2.2.2 == 0
/-- plain, in plain words -/
def plB (A : List (Int × Int × Int × Int × Int)) (F : List (Int × Int)) : Bool := A.all plA && F.all fun f => f.2 == 0
theorem plB_arc {A : List (Int × Int × Int × Int × Int)} {F : List (Int × Int)} {k : Nat} (hk : k < A.length) (h : plA A[k] = false) : plB A F = false := by
  unfold plB
  rw [show A.all plA = false from List.all_eq_false.2 ⟨_, List.getElem_mem hk, by simp [h]⟩]
  rfl
theorem plB_fin {A : List (Int × Int × Int × Int × Int)} {F : List (Int × Int)} {k : Nat} (hk : k < F.length) (h : (F[k]).2 ≠ 0) : plB A F = false := by
  unfold plB
  rw [show (F.all fun f => f.2 == 0) = false from List.all_eq_false.2 ⟨_, List.getElem_mem hk, by simpa using h⟩, Bool.and_false]
theorem plB_yes {A : List (Int × Int × Int × Int × Int)} {F : List (Int × Int)} (h1 : ∀ k (hk : k < A.length), plA A[k] = true) (h2 : ∀ k (hk : k < F.length), (F[k]).2 = 0) : plB A F = true := by
  unfold plB
  rw [Bool.and_eq_true, List.all_eq_true, List.all_eq_true]
  refine ⟨fun a ha => ?_, fun f hf => ?_⟩
  · obtain ⟨k, hk, rfl⟩ := List.getElem_of_mem ha
    exact h1 k hk
  · obtain ⟨k, hk, rfl⟩ := List.getElem_of_mem hf
    simpa using h2 k hk
theorem pl_no {f t i o x : Int} (h : ¬ i = o) : plA (f, t, i, o, x) = false := by simp [plA, h]
theorem pl_no2 {f t i o x : Int} (h : ¬ x = 0) : plA (f, t, i, o, x) = false := by simp [plA, h]
theorem pl_yes (f t i : Int) : plA (f, t, i, i, 0) = true := by simp [plA]
set_option maxHeartbeats 2000000 in
set_option maxRecDepth 100000 in
theorem plain_any (S : Int) (A : List (Int × Int × Int × Int × Int)) (F : List (Int × Int)) (aa af : Option Addr) (ca cf : Nat) (w : World) (hA : Mv.Row w (.slice aa A.length ca) 5 A.length (acs A)) (hF : Mv.Row w (.slice af F.length cf) 2 F.length (fcs F)) :
    Calls Tryd.prog 46 #[.agg #[.int .i64 S, .slice aa A.length ca, .slice af F.length cf]] w fun e w' => e = .returned (.bool (plB A F)) ∧ Below w.heap.size w w' := by
  have hFl : F.length ≤ 140737488355328 := by obtain ⟨_, _, _, _, h, _⟩ := hF; exact h
  have hAl : A.length ≤ 140737488355328 := by obtain ⟨_, _, _, _, h, _⟩ := hA; exact h
  have HA : Hid (Mv.Row w (.slice aa A.length ca) 5 A.length (acs A) ∧ Mv.Row w (.slice af F.length cf) 2 F.length (fcs F)) := ⟨hA, hF⟩
  clear hF hA
  obtain ⟨O1, hO1⟩ : ∃ O1 : Obj, Obj.cells #[.int .i64 S, .slice aa A.length ca, .slice af F.length cf] 25 = O1 := ⟨_, rfl⟩
  have HBX : Hid (Below w.heap.size w (w.alloc O1) ∧ (w.alloc O1).heap[w.heap.size]? = some (.cells #[.int .i64 S, .slice aa A.length ca, .slice af F.length cf] 25 (0, 0))) := ⟨below_al _ _, by rw [← hO1]; exact heap_alloc_new _ _⟩
  go_enter Tryd.func46, Tryd.ntmps46
  go_upto_region 1 with fail
  clear hO1
  generalize w.alloc O1 = W1 at *
  obtain ⟨bx, hbx⟩ : ∃ bx, w.heap.size = bx := ⟨_, rfl⟩
  have HB : Hid (Below w.heap.size w W1) := HBX.out.1
  have HX : Hid (W1.heap[bx]? = some (.cells #[.int .i64 S, .slice aa A.length ca, .slice af F.length cf] 25 (0, 0))) := by have h := HBX.out.2; rw [hbx] at h; exact h
  rw [hbx]
  clear hbx HBX
  have b1 := cell_of_row _ _ 1 _ _ _ HX.out
  go_upto_region 2 with fail
  clear b1
  go_loopw [10] (fun i wr => ∃ k : Nat, i = .int .i64 (k : Int) ∧ k ≤ A.length ∧ Below W1.heap.size W1 wr ∧ ∀ j (hj : j < A.length), j < k → plA A[j] = true) (fun i _ => A.length - (intOf i).toNat)
  case atStart => exact ⟨0, rfl, Nat.zero_le _, Below.refl _ _, fun j _ h => absurd h (Nat.not_lt_zero j)⟩
  case round =>
    obtain ⟨k, rfl, hk, hbw, hz⟩ := hrel
    have HZ : Hid (∀ j (hj : j < A.length), j < k → plA A[j] = true) := hz
    have HW : Hid (Below W1.heap.size W1 wr) := hbw
    clear hz hbw
    by_cases hlt : k < A.length
    · obtain ⟨f, t, i, o, x, he⟩ : ∃ f t i o x, A[k] = (f, t, i, o, x) := ⟨_, _, _, _, _, rfl⟩
      obtain ⟨ab, ao, rfl, _, p0, p1, p2, p3, p4⟩ := arc_cells ((HA.out.1.below HB.out).below HW.out) hlt he
      have hx1 := heap_alloc_new wr (.cells #[.int .i64 f, .int .i64 t, .int .i64 i, .int .i64 o, .int .i64 x] 64)
      have HW3 : Hid (Below W1.heap.size W1 (wr.alloc (.cells #[.int .i64 f, .int .i64 t, .int .i64 i, .int .i64 o, .int .i64 x] 64))) := HW.out.alloc HW.out.size _
      go_upto_region 4 with fail
      clear p0 p1 p2 p3 p4
      generalize wr.alloc (.cells #[.int .i64 f, .int .i64 t, .int .i64 i, .int .i64 o, .int .i64 x] 64) = W3 at *
      generalize wr.heap.size = b4 at *
      have c2 := cell_of_row _ _ 2 _ _ _ hx1
      have c3 := cell_of_row _ _ 3 _ _ _ hx1
      have c4 := cell_of_row _ _ 4 _ _ _ hx1
      clear hx1
      by_cases h1 : i = o
      · by_cases h2 : x = 0
        · have HX2 : Hid (∀ j (hj : j < A.length), j < k + 1 → plA A[j] = true) := fun j hj hjk => by
            by_cases e : j = k
            · subst e; rw [he, h1, h2]; exact pl_yes _ _ _
            · exact HZ.out j hj (by omega)
          subst h1 h2
          clear he
          have q1 : (i != i) = false := by simp
          go_wp2
          repeat (go_quiet (fail); go_wp2)
          go_roundw
          case rel => exact ⟨k + 1, by go_num, hlt, by first | exact HW3.out | exact (below_drewN HW3.out _), HX2.out⟩
          case measure => simp [intOf]; omega
        · have HV : Hid (plB A F = false) := plB_arc hlt (by rw [he]; exact pl_no2 h2)
          subst h1
          have q1 : (i != i) = false := by simp
          have q2 : (x != 0) = true := by simpa using h2
          clear he
          go_wp2
          repeat (go_quiet (fail); go_wp2)
          go_ret
          exact ⟨(by rw [HV.out]; rfl), by first | exact HB.out.trans (HW3.out.mono HB.out.size) | exact below_drewN (HB.out.trans (HW3.out.mono HB.out.size)) _⟩
      · have HV : Hid (plB A F = false) := plB_arc hlt (by rw [he]; exact pl_no h1)
        have q1 : (i != o) = true := by simpa using h1
        clear he
        go_wp2
        repeat (go_quiet (fail); go_wp2)
        go_ret
        exact ⟨(by rw [HV.out]; rfl), by first | exact HB.out.trans (HW3.out.mono HB.out.size) | exact below_drewN (HB.out.trans (HW3.out.mono HB.out.size)) _⟩
    · obtain rfl : k = A.length := by omega
      generalize wr = W2 at *
      have hx := (HW.out.block bx (lt_at HX.out)).trans HX.out
      have b2 := cell_of_row _ _ 2 _ _ _ hx
      clear hx
      go_upto_region 8 with fail
      clear b2
      go_loopw [28] (fun i wr => ∃ k : Nat, i = .int .i64 (k : Int) ∧ k ≤ F.length ∧ Below W2.heap.size W2 wr ∧ ∀ j (hj : j < F.length), j < k → (F[j]).2 = 0) (fun i _ => F.length - (intOf i).toNat)
      case atStart => exact ⟨0, rfl, Nat.zero_le _, Below.refl _ _, fun j _ h => absurd h (Nat.not_lt_zero j)⟩
      case round =>
        obtain ⟨k, rfl, hk, hbw, hz⟩ := hrel
        have HZ2 : Hid (∀ j (hj : j < F.length), j < k → (F[j]).2 = 0) := hz
        have HW2 : Hid (Below W2.heap.size W2 wr) := hbw
        have HWW : Hid (Below w.heap.size w wr) := HB.out.trans ((HW.out.trans (hbw.mono HW.out.size)).mono HB.out.size)
        clear hz hbw
        by_cases hlt : k < F.length
        · obtain ⟨s, x, he⟩ : ∃ s x, F[k] = (s, x) := ⟨_, _, rfl⟩
          obtain ⟨fb, fo, rfl, _, p0, p1⟩ := fin_cells (HA.out.2.below HWW.out) hlt he
          have hx1 := heap_alloc_new wr (.cells #[.int .i64 s, .int .i64 x] 66)
          have HW3 : Hid (Below W2.heap.size W2 (wr.alloc (.cells #[.int .i64 s, .int .i64 x] 66)) ∧ Below w.heap.size w (wr.alloc (.cells #[.int .i64 s, .int .i64 x] 66))) := ⟨HW2.out.alloc HW2.out.size _, HWW.out.alloc HWW.out.size _⟩
          go_upto_region 10 with fail
          clear p0 p1
          generalize wr.alloc (.cells #[.int .i64 s, .int .i64 x] 66) = W3 at *
          generalize wr.heap.size = b4 at *
          have c1 := cell_of_row _ _ 1 _ _ _ hx1
          clear hx1
          by_cases h2 : x = 0
          · have HX2 : Hid (∀ j (hj : j < F.length), j < k + 1 → (F[j]).2 = 0) := fun j hj hjk => by
              by_cases e : j = k
              · subst e; rw [he]; exact h2
              · exact HZ2.out j hj (by omega)
            subst h2
            clear he
            go_wp2
            repeat (go_quiet (fail); go_wp2)
            go_roundw
            case rel => exact ⟨k + 1, by go_num, hlt, by first | exact HW3.out.1 | exact (below_drewN HW3.out.1 _), HX2.out⟩
            case measure => simp [intOf]; omega
          · have HV : Hid (plB A F = false) := plB_fin hlt (by rw [he]; exact h2)
            have q2 : (x != 0) = true := by simpa using h2
            clear he
            go_wp2
            repeat (go_quiet (fail); go_wp2)
            go_ret
            exact ⟨(by rw [HV.out]; rfl), by first | exact HW3.out.2 | exact below_drewN HW3.out.2 _⟩
        · obtain rfl : k = F.length := by omega
          have HV : Hid (plB A F = true) := plB_yes (fun j hj => HZ.out j hj hj) (fun j hj => HZ2.out j hj hj)
          go_wp2
          go_ret
          exact ⟨(by rw [HV.out]; rfl), HWW.out⟩
end Go.Proofs.YtfjocafepigijaaDoor.Su
