/- groupOf, has, usefulPairs' all, visit. Conditions: the numbers lie in their rows. -/
import Derived.Test.YtfjocafepigijaaDoorCkP2M
import Derived.Laws.ResultCell
import Derived.Deep.LoopGhost
import Derived.Deep.QuietTactic
import Derived.BigQuiet
import Derived.Deep.RegionHeld
import Derived.Deep.CutRange
namespace Go.Proofs.YtfjocafepigijaaDoor.Pa
open Go.RowKit Mv Set

set_option maxHeartbeats 400000 in
theorem has_walk (g off cap n k x : Nat) (w : World) (h1 : k / 64 < n) (hk : k < 1000000000) (hn : n ≤ 281474976710656) (hc : w.cell? ⟨g, off + k / 64, none⟩ = some (.int .u64 (x : Int))) :
    Calls Tryd.prog 68 #[.slice (some ⟨g, off, none⟩) n cap, .int .i64 k] w fun e w' => e = .returned (.bool (bits .and .u64 (x : Int) (IntKind.u64.wrap (2 ^ (k % 64))) != 0)) ∧ Below w.heap.size w w' := by
  go_enter Tryd.func68, Tryd.ntmps68
  go_upto_region 1 with fail
  go_quiet (fail)
  go_wp2
  go_ret
  exact ⟨rfl, below_drewN (Below.refl _ _) _⟩
theorem has_any (base : Nat) (v : Value) (n k : Nat) (ws : List Nat) (w : World) (h : IsSet w base v n ws) (hk : k < n) (hk2 : k < 1000000000) :
    Calls Tryd.prog 68 #[v, .int .i64 k] w fun e w' => e = .returned (.bool (mem ws k)) ∧ Below w.heap.size w w' := by
  obtain ⟨hown, hbd, hnw, hlw⟩ := h
  have hkw : k / 64 < ws.length := by omega
  have hv : ∃ g cap, v = .slice (some ⟨g, 0, none⟩) ws.length cap := by
    rcases hown.2 with ⟨_, h0⟩ | ⟨g, cap, cur, hv, _⟩
    · omega
    · exact ⟨g, cap, hv⟩
  obtain ⟨g, cap, rfl⟩ := hv
  have ex : ws[k / 64]?.getD 0 = ws[k / 64] := by simp [hkw]
  have hc : w.cell? ⟨g, 0 + k / 64, none⟩ = some (.int .u64 ((ws[k / 64] : Nat) : Int)) := by
    rw [Nat.zero_add, hown.cellAt (k / 64) (by omega)]
    simp [cellsW, hkw]
  have hx := hbd _ (List.getElem_mem hkw)
  refine (has_walk g 0 cap ws.length k ws[k / 64] w hkw hk2 hlw hc).mono ?_
  rintro e w' ⟨rfl, hb⟩
  have := and_bit _ _ hx (Nat.mod_lt k (show 0 < 64 by decide))
  refine ⟨?_, hb⟩
  rw [bne, this]
  unfold mem
  rw [ex]
  simp

end Go.Proofs.YtfjocafepigijaaDoor.Pa
