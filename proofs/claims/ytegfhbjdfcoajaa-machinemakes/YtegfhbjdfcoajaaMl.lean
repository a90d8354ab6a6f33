/- light: it answers. Condition: none. -/
import Derived.Test.YtegfhbjdfcoajaaMc
namespace Go.Proofs.Ytegfhbjdfcoajaa.Mc
open Go.RowKit Mv Wk Sy Rz

/-- it answers yes or no -/
def Tells (e : Ending) : Prop := ∃ b : Bool, e = .returned (.bool b)
set_option maxHeartbeats 1000000 in
set_option maxRecDepth 100000 in
theorem light_any (m : M) (v : Value) (w : World) (h : IsM w v m) : Calls Try.prog 8 #[v] w fun e w' => Tells e ∧ Below w.heap.size w w' := by
  obtain ⟨st, arcs, fins⟩ := m
  obtain ⟨va, vf, rfl, ⟨_, aa, ca, rfl, ha, hA⟩, ⟨_, af, cf, rfl, hf, hF⟩⟩ := h
  dsimp only at ha hf hA hF
  have HA : Hid (arcs.length = 0 ∨ ∃ b off, aa = some ⟨b, off, none⟩ ∧ b < w.heap.size ∧ ∀ j u, (acs arcs)[j]? = some u → w.cell? ⟨b, off + j, none⟩ = some u) := hA
  have HF : Hid (fins.length = 0 ∨ ∃ b off, af = some ⟨b, off, none⟩ ∧ b < w.heap.size ∧ ∀ j u, (fcs fins)[j]? = some u → w.cell? ⟨b, off + j, none⟩ = some u) := hF
  have hb := fun o => (Below.refl w.heap.size w).alloc (Nat.le_refl _) o
  clear hA hF
  go_enter Try.func8, Try.ntmps8
  by_cases h1 : (20 : Int) < st
  · go_wp2
    repeat (go_quiet (fail); go_wp2)
    go_ret
    exact ⟨⟨_, rfl⟩, by first | exact hb _ | exact below_drewN (hb _) _⟩
  · by_cases h2 : (40 : Int) < (arcs.length : Int)
    · go_wp2
      repeat (go_quiet (fail); go_wp2)
      go_ret
      exact ⟨⟨_, rfl⟩, by first | exact hb _ | exact below_drewN (hb _) _⟩
    · go_wp2
      repeat (go_quiet (fail); go_wp2)
      go_loopw [3] (fun iv wr => ∃ k : Nat, iv = .int .i64 k ∧ k ≤ arcs.length ∧ Below (w.alloc (.cells #[.int .i64 st, .slice aa arcs.length ca, .slice af fins.length cf] 25)).heap.size (w.alloc (.cells #[.int .i64 st, .slice aa arcs.length ca, .slice af fins.length cf] 25)) wr) (fun iv _ => arcs.length - (intOf iv).toNat)
      case atStart => exact ⟨0, rfl, Nat.zero_le _, by first | exact Below.refl _ _ | exact below_drewN (Below.refl _ _) _⟩
      case round =>
        obtain ⟨k, rfl, hk, hbx⟩ := hrel
        have bx := box3 hbx
        obtain ⟨bx0, bx1, bx2⟩ := bx
        have hw : Below w.heap.size w wr := (hb _).trans (hbx.mono (by simp))
        have HB : Hid (Below (w.alloc (.cells #[.int .i64 st, .slice aa arcs.length ca, .slice af fins.length cf] 25)).heap.size (w.alloc (.cells #[.int .i64 st, .slice aa arcs.length ca, .slice af fins.length cf] 25)) wr) := hbx
        clear hbx
        by_cases hlt : k < arcs.length
        · obtain ⟨b, off, rfl, hbl, hcs⟩ := HA.out.resolve_left (by omega)
          obtain ⟨x, hx⟩ : ∃ x, (arcs[k]).2.2.2.2 = x := ⟨_, rfl⟩
          have c4 : wr.cell? ⟨b, off + k * 5 + 4, none⟩ = some (.int .i64 x) := by rw [← hx]; exact (hw.cell hbl).trans (hcs _ _ (acs_at arcs k hlt).2.2.2.2)
          clear hx
          by_cases h5 : (500000 : Int) < x
          · go_wp2
            go_ret
            exact ⟨⟨_, rfl⟩, hw⟩
          · go_wp2
            go_roundw
            case rel => exact ⟨k + 1, by go_num, hlt, HB.out⟩
            case measure => simp [intOf]; omega
        · go_wp2
          go_loopw [4] (fun iv wr => ∃ k : Nat, iv = .int .i64 k ∧ k ≤ fins.length ∧ Below (w.alloc (.cells #[.int .i64 st, .slice aa arcs.length ca, .slice af fins.length cf] 25)).heap.size (w.alloc (.cells #[.int .i64 st, .slice aa arcs.length ca, .slice af fins.length cf] 25)) wr) (fun iv _ => fins.length - (intOf iv).toNat)
          case atStart => exact ⟨0, rfl, Nat.zero_le _, HB.out⟩
          case round =>
            obtain ⟨y, rfl, hy, hby⟩ := hrel
            have bz := box3 hby
            obtain ⟨bz0, bz1, bz2⟩ := bz
            have hv : Below w.heap.size w _ := (hb _).trans (hby.mono (by simp))
            have HY : Hid _ := hby
            clear hby
            by_cases hly : y < fins.length
            · obtain ⟨b, off, rfl, hbl, hcs⟩ := HF.out.resolve_left (by omega)
              obtain ⟨x, hx⟩ : ∃ x, (fins[y]).2 = x := ⟨_, rfl⟩
              have c4 := (hv.cell hbl).trans (hcs _ _ (fcs_at fins y hly).2)
              rw [hx, ← Nat.add_assoc] at c4
              clear hx
              by_cases h5 : (500000 : Int) < x
              · go_wp2
                go_ret
                exact ⟨⟨_, rfl⟩, hv⟩
              · go_wp2
                go_roundw
                case rel => exact ⟨y + 1, by go_num, hly, HY.out⟩
                case measure => simp [intOf]; omega
            · go_wp2
              go_ret
              exact ⟨⟨_, rfl⟩, hv⟩
end Go.Proofs.Ytegfhbjdfcoajaa.Mc
