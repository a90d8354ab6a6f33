/- The document's Same, of two lists that hold the same numbers. Condition: there are at most 1000. -/
import Derived.Test.YtbmgkgoghgdbhaaTk
namespace Go.Proofs.Ytbmgkgoghgdbhaa.Te
open Go.RowKit

/-- how numbers lie -/
def NsAt (w : World) (cs : List Nat) (a : Option Addr) : Prop := cs.length = 0 ∨ ∃ g off, a = some ⟨g, off, none⟩ ∧ g < w.heap.size ∧ ∀ j (h : j < cs.length), w.cell? ⟨g, off + j, none⟩ = some (.int .i64 (cs[j] : Int))
theorem NsAt.below {w w' : World} {cs : List Nat} {a : Option Addr} (h : NsAt w cs a) (hb : Below w.heap.size w w') : NsAt w' cs a := by
  rcases h with h | ⟨g, off, h1, h2, h3⟩
  · exact .inl h
  · exact .inr ⟨g, off, h1, Nat.lt_of_lt_of_le h2 hb.size, fun j hj => (hb.cell (p := ⟨g, _, none⟩) h2).trans (h3 j hj)⟩
set_option maxRecDepth 100000 in
set_option maxHeartbeats 1000000 in
theorem sameN_any (cs : List Nat) (a a' : Option Addr) (c c' : Nat) (w : World) (hn : cs.length ≤ 1000) (h : NsAt w cs a) (h' : NsAt w cs a') : Calls Try.prog 29 #[.slice a cs.length c, .slice a' cs.length c'] w fun e w' => e = .returned (.bool true) ∧ Below w.heap.size w w' := by
  have H1 : Hid (NsAt w cs a) := h
  have H2 : Hid (NsAt w cs a') := h'
  clear h h'
  go_enter Try.func29, Try.ntmps29
  go_wp2
  go_loopw [5] (fun iv wr => ∃ k : Nat, iv = .int .i64 (k : Int) ∧ k ≤ cs.length ∧ Below w.heap.size w wr) (fun iv _ => cs.length - (intOf iv).toNat)
  case atStart => exact ⟨0, rfl, by omega, Below.refl _ _⟩
  case round =>
    obtain ⟨k, rfl, hkl', hB⟩ := hrel
    by_cases hkl : k < cs.length
    · have hkl2 : (k : Int) < (cs.length : Int) := by omega
      obtain ⟨g1, o1, rfl, hg1, hy1⟩ : ∃ g off, a = some ⟨g, off, none⟩ ∧ g < w.heap.size ∧ ∀ j (h : j < cs.length), w.cell? ⟨g, off + j, none⟩ = some (.int .i64 (cs[j] : Int)) := by
        rcases H1.out with h | h
        · omega
        · exact h
      obtain ⟨g2, o2, rfl, hg2, hy2⟩ : ∃ g off, a' = some ⟨g, off, none⟩ ∧ g < w.heap.size ∧ ∀ j (h : j < cs.length), w.cell? ⟨g, off + j, none⟩ = some (.int .i64 (cs[j] : Int)) := by
        rcases H2.out with h | h
        · omega
        · exact h
      have y1 := hy1 k hkl
      have y2 := hy2 k hkl
      clear hy1 hy2
      generalize cs[k] = n at *
      go_upto_region 6 with fail
      have HCE : Hid _ := fun (W : World) (hSw : Below w.heap.size w W) => (And.intro ((hSw.cell (p := ⟨g1, _, none⟩) hg1).trans y1) ((hSw.cell (p := ⟨g2, _, none⟩) hg2).trans y2))
      refine wp_region_held_drew (S := fun W => Below w.heap.size w W) (by kernel_rfl) (by exact below_drewN hB 1) (fun hHeld => ?_)
      have hS0 := hHeld
      generalize hV : wr.drew = V0 at *
      clear hV
      refine wpAnyH_take (i := 0) (oi := { dst := some 17, op := Op.move (Operand.tmp 0), type := 50, pos := "machine.go:221", after := #[], guard := none }) (v := ?_) rfl (by kernel_rfl) (by kernel_rfl) (by kernel_rfl) (fun _ _ _ h => h) (Or.inl ⟨by rfl, ?_⟩) (by assumption) ?_
      case refine_2 => intro w hSw; (try dsimp only at hSw); obtain ⟨p0, p1⟩ := HCE.out _ hSw; go_simp; (try with_reducible rfl)
      simp only [Act.put, List.setIfInBounds_toArray, List.set_cons_zero, List.set_cons_succ]
      refine wpAnyH_take (i := 1) (oi := { dst := some 18, op := Op.move (Operand.tmp 5), type := 3, pos := "machine.go:221", after := #[], guard := none }) (v := ?_) rfl (by kernel_rfl) (by kernel_rfl) (by kernel_rfl) (fun _ _ _ h => h) (Or.inl ⟨by rfl, ?_⟩) (by assumption) ?_
      case refine_2 => intro w hSw; (try dsimp only at hSw); obtain ⟨p0, p1⟩ := HCE.out _ hSw; go_simp; (try with_reducible rfl)
      simp only [Act.put, List.setIfInBounds_toArray, List.set_cons_zero, List.set_cons_succ]
      refine wpAnyH_take (i := 2) (oi := { dst := some 19, op := Op.indexAddr 50 (Operand.tmp 17) (Operand.tmp 18), type := 0, pos := "machine.go:221", after := #[{ on := 0, ground := Ground.data }, { on := 1, ground := Ground.data }], guard := none }) (v := ?_) rfl (by kernel_rfl) (by kernel_rfl) (by kernel_rfl) (fun _ _ _ h => h) (Or.inl ⟨by rfl, ?_⟩) (by assumption) ?_
      case refine_2 => intro w hSw; (try dsimp only at hSw); obtain ⟨p0, p1⟩ := HCE.out _ hSw; go_simp; (try with_reducible rfl)
      simp only [Act.put, List.setIfInBounds_toArray, List.set_cons_zero, List.set_cons_succ]
      refine wpAnyH_take (i := 3) (oi := { dst := some 20, op := Op.load 3 (Operand.tmp 19), type := 3, pos := "machine.go:221", after := #[{ on := 2, ground := Ground.data }], guard := none }) (v := ?_) rfl (by kernel_rfl) (by kernel_rfl) (by kernel_rfl) (fun _ _ _ h => h) (Or.inl ⟨by rfl, ?_⟩) (by assumption) ?_
      case refine_2 => intro w hSw; (try dsimp only at hSw); obtain ⟨p0, p1⟩ := HCE.out _ hSw; go_simp; (try with_reducible rfl)
      simp only [Act.put, List.setIfInBounds_toArray, List.set_cons_zero, List.set_cons_succ]
      refine wpAnyH_take (i := 4) (oi := { dst := some 21, op := Op.move (Operand.tmp 1), type := 50, pos := "machine.go:221", after := #[], guard := none }) (v := ?_) rfl (by kernel_rfl) (by kernel_rfl) (by kernel_rfl) (fun _ _ _ h => h) (Or.inl ⟨by rfl, ?_⟩) (by assumption) ?_
      case refine_2 => intro w hSw; (try dsimp only at hSw); obtain ⟨p0, p1⟩ := HCE.out _ hSw; go_simp; (try with_reducible rfl)
      simp only [Act.put, List.setIfInBounds_toArray, List.set_cons_zero, List.set_cons_succ]
      refine wpAnyH_take (i := 5) (oi := { dst := some 22, op := Op.move (Operand.tmp 5), type := 3, pos := "machine.go:221", after := #[], guard := none }) (v := ?_) rfl (by kernel_rfl) (by kernel_rfl) (by kernel_rfl) (fun _ _ _ h => h) (Or.inl ⟨by rfl, ?_⟩) (by assumption) ?_
      case refine_2 => intro w hSw; (try dsimp only at hSw); obtain ⟨p0, p1⟩ := HCE.out _ hSw; go_simp; (try with_reducible rfl)
      simp only [Act.put, List.setIfInBounds_toArray, List.set_cons_zero, List.set_cons_succ]
      refine wpAnyH_take (i := 6) (oi := { dst := some 23, op := Op.indexAddr 50 (Operand.tmp 21) (Operand.tmp 22), type := 0, pos := "machine.go:221", after := #[{ on := 4, ground := Ground.data }, { on := 5, ground := Ground.data }], guard := none }) (v := ?_) rfl (by kernel_rfl) (by kernel_rfl) (by kernel_rfl) (fun _ _ _ h => h) (Or.inl ⟨by rfl, ?_⟩) (by assumption) ?_
      case refine_2 => intro w hSw; (try dsimp only at hSw); obtain ⟨p0, p1⟩ := HCE.out _ hSw; go_simp; (try with_reducible rfl)
      simp only [Act.put, List.setIfInBounds_toArray, List.set_cons_zero, List.set_cons_succ]
      refine wpAnyH_take (i := 7) (oi := { dst := some 24, op := Op.load 3 (Operand.tmp 23), type := 3, pos := "machine.go:221", after := #[{ on := 6, ground := Ground.data }], guard := none }) (v := ?_) rfl (by kernel_rfl) (by kernel_rfl) (by kernel_rfl) (fun _ _ _ h => h) (Or.inl ⟨by rfl, ?_⟩) (by assumption) ?_
      case refine_2 => intro w hSw; (try dsimp only at hSw); obtain ⟨p0, p1⟩ := HCE.out _ hSw; go_simp; (try with_reducible rfl)
      simp only [Act.put, List.setIfInBounds_toArray, List.set_cons_zero, List.set_cons_succ]
      refine wpAnyH_take (i := 8) (oi := { dst := some 25, op := Op.binOp BinOp.neq 3 (Operand.tmp 20) (Operand.tmp 24) 3, type := 4, pos := "machine.go:221", after := #[{ on := 3, ground := Ground.data }, { on := 7, ground := Ground.data }], guard := none }) (v := ?_) rfl (by kernel_rfl) (by kernel_rfl) (by kernel_rfl) (fun _ _ _ h => h) (Or.inl ⟨by rfl, ?_⟩) (by assumption) ?_
      case refine_2 => intro w hSw; (try dsimp only at hSw); obtain ⟨p0, p1⟩ := HCE.out _ hSw; go_simp; (try with_reducible rfl)
      simp only [Act.put, List.setIfInBounds_toArray, List.set_cons_zero, List.set_cons_succ]
      refine wpAnyH_done (by kernel_rfl) ?_ _
      go_wp2
      go_roundw
      case rel => exact ⟨k + 1, by go_num, by omega, hS0⟩
      case measure => simp [intOf]; omega
    · have hkl2 : ¬ (k : Int) < (cs.length : Int) := by omega
      go_wp2
      go_ret
      exact ⟨rfl, hB⟩
end Go.Proofs.Ytbmgkgoghgdbhaa.Te
