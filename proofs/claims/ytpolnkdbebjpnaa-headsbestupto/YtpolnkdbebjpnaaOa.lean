/- How rows of numbers lie in memory, out of the reading of the argument. Condition: the rows take no more bytes than the form's own reach. -/
import Derived.Test.YtpolnkdbebjpnaaRows
import Derived.Test.YtpolnkdbebjpnaaNm
import Derived.ProofKit
import Derived.OpenShut
import Derived.ChangeOld
import Derived.JoinedCond
import Derived.Carry
import Derived.Lib.SmallJoins
import Derived.SizedLaws
import Derived.Deep.SlicePairs
namespace Go.Proofs.Ytpolnkdbebjpnaa.Hd
open Go.ChangeShapes Go.WideShapes Go.ChangeAt Go.RowKit Go.Deep

theorem slice_len {H : Type} {P : Program} {t e : TypeId} (ht : P.underlying t = some (.slice e)) (hb : 0 < P.bytesOf e) {elems spare : List (DataW H)} (h : ∀ n ∈ (DataW.slice elems spare).weights P t, n ≤ reachBytes) : elems.length ≤ 140737488355328 := by
  have h1 := h ((elems.length + spare.length) * P.bytesOf e) (by simp [DataW.weights, ht])
  have h2 : elems.length + spare.length ≤ (elems.length + spare.length) * P.bytesOf e := Nat.le_mul_of_pos_right _ hb
  have h3 := reachBytes_lt
  omega
theorem spot_none {w : World} {a : Addr} {u : Value} (h : w.cell? (a.add 0) = some u) : a = ⟨a.block, a.off, none⟩ := by
  obtain ⟨b, o, s⟩ := a
  cases s with
  | none => rfl
  | some x =>
    exfalso
    unfold World.cell? Addr.add at h
    split at h
    · simp at h
    · cases h
theorem cell_lt {w : World} {a : Addr} {u : Value} (h : w.cell? a = some u) : a.block < w.heap.size := World.block_lt_of_cell? w a h
/-- one row -/
theorem open_row {H : Type} {enc : TypeId × Value → H} {w : World} {spare : Nat → Bool} {held : Bool} {fuel : Nat} {u : Value} {x : DataW H × List MemPlace} (h : DataW.trod enc Try.prog w 0 spare held fuel 26 [u] = some x) :
    ∃ (l : List Int) (ra : Option Addr) (rc : Nat), u = .slice ra l.length rc ∧ Rl w ra l := by
  rcases open_ints Try.underlying26 Try.underlying3 (by kernel_rfl) h with ⟨hcs, _⟩ | ⟨a, len, cap, zs, hcs, _, hl, hm, hz, hx, hcell, _⟩
  · simp only [List.cons.injEq, and_true] at hcs
    subst hcs
    exact ⟨[], none, 0, rfl, fun h0 => absurd h0 (Nat.lt_irrefl _)⟩
  · simp only [List.cons.injEq, and_true] at hcs
    subst hcs
    have hlz : len ≤ zs.length := by rw [hz]; split <;> omega
    have e : (zs.take len).length = len := by rw [List.length_take]; omega
    refine ⟨zs.take len, some a, cap, by rw [e], fun h0 => ?_⟩
    rw [e] at h0
    have c0 := hcell 0 (by omega)
    have ea := spot_none c0
    refine ⟨a.block, a.off, by rw [← ea], cell_lt (a := a.add 0) c0, fun j hj => ?_⟩
    rw [e] at hj
    have hc := hcell j (by omega)
    rw [ea, add_at] at hc
    rw [hc]
    congr 2
    rw [List.getD_eq_getElem?_getD, List.getD_eq_getElem?_getD, List.getElem?_take, if_pos hj]
/-- all rows -/
theorem open_rows {H : Type} {enc : TypeId × Value → H} {w : World} {spare : Nat → Bool} {held : Bool} {fuel : Nat} {v : Value} {x : DataW H × List MemPlace} (h : DataW.trod enc Try.prog w 0 spare held fuel 22 [v] = some x) (hb : ∀ n ∈ x.1.weights Try.prog 22, n ≤ reachBytes) :
    ∃ (rows : List (List Int)) (a : Option Addr) (cap b off : Nat) (ra : Nat → Option Addr) (rc : Nat → Nat), v = .slice a rows.length cap ∧ Rw w a b off ra rc rows ∧ rows.length ≤ 140737488355328 := by
  rcases open_slice (e := 26) Try.underlying22 h with ⟨hcs, _⟩ | ⟨a, len, cap, m, n, D, Pl, hcs, _, hl, hm, hmm, hx, hel⟩
  · simp only [List.cons.injEq, and_true] at hcs
    subst hcs
    exact ⟨[], none, 0, 0, 0, fun _ => none, fun _ => 0, rfl, ⟨fun h0 => absurd h0 (Nat.lt_irrefl _), fun k hk => absurd hk (Nat.not_lt_zero _), fun k hk => absurd hk (Nat.not_lt_zero _)⟩, Nat.zero_le _⟩
  · simp only [List.cons.injEq, and_true] at hcs
    subst hcs
    have k26 : Try.prog.cellsOf 26 = 1 := by kernel_rfl
    rw [k26] at hel
    have hlm : len ≤ m := by rw [hmm]; split <;> omega
    rw [hx] at hb
    have hlen : len ≤ 140737488355328 := by
      have := slice_len Try.underlying22 (of_decide_eq_true (by kernel_rfl)) hb
      rwa [List.length_map, List.length_range] at this
    have each : ∀ i, i < len → ∃ y : List Int × Option Addr × Nat, w.cell? (a.add i) = some (.slice y.2.1 y.1.length y.2.2) ∧ Rl w y.2.1 y.1 := by
      intro i hi
      obtain ⟨cs', h1, h2⟩ := hel i (by omega)
      obtain ⟨_, hlc, hc⟩ := World.cells?_some h1
      match cs', hlc with
      | [u], _ =>
        obtain ⟨l, ra, rc, hu, hr⟩ := open_row h2
        have := hc 0 (by decide)
        rw [Go.Deep.add_add, Nat.mul_one, Nat.add_zero] at this
        exact ⟨(l, ra, rc), by rw [this, ← hu]; rfl, hr⟩
    obtain ⟨S, hS⟩ := choose_lt each
    have hll : ((List.range len).map fun i => (S i).1).length = len := by simp
    have hget : ∀ i, i < len → ((List.range len).map fun i => (S i).1).getD i [] = (S i).1 := fun i hi => by
      rw [List.getD_eq_getElem?_getD, List.getElem?_map, List.getElem?_range hi]
      rfl
    have ha : 0 < len → a = ⟨a.block, a.off, none⟩ ∧ a.block < w.heap.size := fun h0 => ⟨spot_none (hS 0 h0).1, cell_lt (a := a.add 0) (hS 0 h0).1⟩
    refine ⟨(List.range len).map fun i => (S i).1, some a, cap, a.block, a.off, fun i => (S i).2.1, fun i => (S i).2.2, by rw [hll], ⟨fun h0 => ?_, fun k hk => ?_, fun k hk => ?_⟩, by rw [hll]; exact hlen⟩
    · rw [hll] at h0
      exact ⟨by rw [← (ha h0).1], (ha h0).2⟩
    · rw [hll] at hk
      have hc := (hS k hk).1
      rw [(ha (by omega)).1, add_at] at hc
      rw [hget k hk]
      exact hc
    · rw [hll] at hk
      rw [hget k hk]
      exact (hS k hk).2
end Go.Proofs.Ytpolnkdbebjpnaa.Hd
