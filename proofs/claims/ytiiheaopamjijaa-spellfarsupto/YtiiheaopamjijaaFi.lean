/- The program's first row. No conditions. -/
import Derived.Test.YtiiheaopamjijaaAy
namespace Go.Proofs.Ytiiheaopamjijaa.Fi
open Go.RowKit Uni UnitsP Rw Ay

/-- the first row: n behind n units -/
def f0 (n : Nat) : Nat → Int := fun j => if j ≤ n then (j : Int) else 0
theorem f0_zero (j : Nat) : (0 : Int) = f0 0 j := by unfold f0; split <;> omega
theorem f0_succ (k j : Nat) : upd (f0 k) (k + 1) ((k : Int) + 1) j = f0 (k + 1) j := by
  unfold upd f0
  by_cases e : j = k + 1
  · subst e
    simp
  · rw [if_neg e]
    by_cases h : j ≤ k
    · rw [if_pos h, if_pos (by omega)]
    · rw [if_neg h, if_neg (by omega)]

set_option maxHeartbeats 1000000 in
set_option maxRecDepth 100000 in
theorem first_any (v : Value) (l : List ByteArray) (w : World) (h : IsZ w v l) (hn : l.length ≤ 200) :
    Calls Try.prog 21 #[v] w fun e w' => e = .returned (.agg (cs (f0 l.length))) ∧ Below w.heap.size w w' := by
  obtain ⟨a, cap, rfl, hc⟩ := h.len
  have hz := z52
  go_enter Try.func21, Try.ntmps21
  go_wp2
  obtain ⟨W, hW⟩ : ∃ W, (w.alloc (Obj.cells (cs fun x => 0) 52)).alloc (Obj.cells (cs fun x => 0) 52) = W := ⟨_, rfl⟩
  have A0 : Arr W w.heap.size (fun _ => 0) := by rw [← hW]; exact (Arr.new _ _).alloc _
  have A1 : Arr W (w.heap.size + 1) (fun _ => 0) := by
    have := Arr.new (w.alloc (Obj.cells (cs fun x => 0) 52)) (fun _ => 0)
    rw [World.size_alloc] at this
    rw [← hW]
    exact this
  have BW : Below w.heap.size w W := by rw [← hW]; exact ((Below.refl _ _).alloc (Nat.le_refl _) _).alloc (by simp) _
  rw [hW]
  clear hW h hz
  go_loopw [7] (fun i wr => ∃ k : Nat, i = .int .i64 k ∧ k ≤ l.length ∧ Arr wr w.heap.size (fun _ => 0) ∧ Arr wr (w.heap.size + 1) (f0 k) ∧ Below w.heap.size w wr) (fun i _ => l.length - (intOf i).toNat)
  case atStart => exact ⟨0, rfl, by omega, A0, A1.congr (fun j _ => f0_zero j), BW⟩
  case round =>
    obtain ⟨k, rfl, hk, R0, R1, RB⟩ := hrel
    by_cases hlt : k < l.length
    · have c1 := R1.cell (k + 1) (by omega)
      have c2 := R1.frozen (k + 1)
      go_wp2
      refine ⟨⟨k + 1, by simp, by omega, R0.setOther (by simp) _, (R1.set (k + 1) _).congr (fun j _ => f0_succ k j), RB.setCell (by simp) _⟩, by simp [intOf]; omega⟩
    · have : k = l.length := by omega
      subst this
      have R2 := R0.row (f0 l.length)
      go_wp2_with (first
        | (with_reducible show wpList _ _ _ ({ dst := _, op := Op.load 52 _, type := _, pos := _, after := _, guard := _ } :: _) _ _; refine wpList_ld rfl (.tmp 3) rfl _ _ rfl R1 ?_)
        | (with_reducible show wpList _ _ _ ({ dst := _, op := Op.store 52 _ _, type := _, pos := _, after := _, guard := _ } :: _) _ _; refine wpList_st rfl (.tmp 2) (.tmp 16) rfl _ _ _ rfl rfl R0 ?_))
      exact bodyPost_ret (results_arr rfl rfl R2) rfl ⟨rfl, below_setRow RB (Nat.le_refl _) _⟩
end Go.Proofs.Ytiiheaopamjijaa.Fi
