/- How a list of edits lies in memory, out of the reading of the arguments. Condition: the bulk of what is read. -/
import Derived.Test.YtiiheaopamjijaaRows
import Derived.Test.YtiiheaopamjijaaDr
import Derived.ProofKit
import Derived.OpenShut
import Derived.ChangeOld
import Derived.JoinedCond
import Derived.Carry
import Derived.Deep.SlicePairs
namespace Go.Proofs.Ytiiheaopamjijaa.Oe
open Go.ChangeShapes Go.WideShapes Go.ChangeAt Go.RowKit Go.Deep
open Rw Rv Dr

theorem spot_none {w : World} {a : Addr} {u : Value} (h : w.cell? (a.add 0) = some u) : a = ⟨a.block, a.off, none⟩ := by
  obtain ⟨b, o, s⟩ := a
  cases s with
  | none => rfl
  | some x =>
    exfalso
    unfold World.cell? Addr.add at h
    split at h
    · simp at h
    · cases h
theorem add_none (b o i : Nat) : (⟨b, o, none⟩ : Addr).add i = ⟨b, o + i, none⟩ := by unfold Addr.add; split <;> simp_all
theorem cell_lt {w : World} {a : Addr} {u : Value} (h : w.cell? a = some u) : a.block < w.heap.size := World.block_lt_of_cell? w a h
theorem bulk_mem {H : Type} {d : DataW H} {l : List (DataW H)} (h : d ∈ l) : Rows.uptoBulk d ≤ Rows.uptoBulkAll l := by
  induction l with
  | nil => cases h
  | cons e l ih =>
    simp only [Rows.uptoBulkAll]
    rcases List.mem_cons.1 h with rfl | h
    · omega
    · have := ih h
      omega
theorem bulk_pos {H : Type} (d : DataW H) : 1 ≤ Rows.uptoBulk d := by
  cases d with
  | lit l => cases l <;> simp only [Rows.uptoBulk] <;> omega
  | _ => simp only [Rows.uptoBulk] <;> omega
theorem bulk_length {H : Type} (l : List (DataW H)) : l.length ≤ Rows.uptoBulkAll l := by
  induction l with
  | nil => exact Nat.zero_le _
  | cons d l ih =>
    have := bulk_pos d
    simp only [Rows.uptoBulkAll, List.length_cons]
    omega
theorem pick_lt {α : Type} [Inhabited α] {n : Nat} {p : Nat → α → Prop} (h : ∀ i, i < n → ∃ y, p i y) : ∃ S : Nat → α, ∀ i, i < n → p i (S i) :=
  ⟨fun i => if hi : i < n then Classical.choose (h i hi) else default, fun i hi => by simp only [hi, dif_pos]; exact Classical.choose_spec (h i hi)⟩
theorem ecs_two (L : List (Int × ByteArray)) (i : Nat) (hi : i < L.length) (j : Nat) (hj : j = i * 2 ∨ j = i * 2 + 1) : (ecs L)[j]? = some (if j = i * 2 then .int .i64 L[i].1 else .string L[i].2) := by
  have := ecs_at L i hi
  rcases hj with rfl | rfl
  · rw [if_pos rfl]; exact this.1
  · rw [if_neg (by omega)]; exact this.2

theorem open_edits {H : Type} {enc : TypeId × Value → H} {w : World} {spare : Nat → Bool} {held : Bool} {fuel : Nat} {v : Value} {x : DataW H × List MemPlace} (h : DataW.trod enc Try.prog w 0 spare held fuel 22 [v] = some x) (hk : Rows.uptoBulk x.1 ≤ 1048576) :
    ∃ L : List (Int × ByteArray), L.length ≤ 1048576 ∧ Row w v 2 L.length (ecs L) ∧ ∀ e ∈ L, e.2.size ≤ 1048576 := by
  rcases open_slice_pairs Try.underlying22 Try.underlying34 (by kernel_rfl) rfl rfl (by kernel_rfl) (by kernel_rfl) h with ⟨hcs, _⟩ | ⟨a, len, cap, m, n, V0, V1, D0, D1, P0, P1, hcs, _, hl, hm, hmm, hx, hel⟩
  · simp only [List.cons.injEq, and_true] at hcs
    subst hcs
    exact ⟨[], Nat.zero_le _, row_nil w 2, fun p hp => by cases hp⟩
  · simp only [List.cons.injEq, and_true] at hcs
    subst hcs
    have hlm : len ≤ m := by rw [hmm]; split <;> omega
    rw [hx] at hk
    simp only [Rows.uptoBulk] at hk
    have hlen : len ≤ Rows.uptoBulkAll ((List.range len).map fun i => DataW.agg [D0 i, D1 i]) := by
      have := bulk_length ((List.range len).map fun i => DataW.agg [D0 i, D1 i])
      rwa [List.length_map, List.length_range] at this
    have each : ∀ i, i < len → ∃ e : Int × ByteArray, V0 i = .int .i64 e.1 ∧ V1 i = .string e.2 ∧ e.2.size ≤ 1048576 := by
      intro i hi
      obtain ⟨_, _, t0, t1⟩ := hel i (by omega)
      obtain ⟨k, hkv, _⟩ := DataW.trod_int Try.underlying3 t0
      obtain ⟨s, hsv, hsx, _⟩ := DataW.trod_string Try.underlying9 t1
      simp only [List.cons.injEq, and_true] at hkv hsv
      have h1 : Rows.uptoBulk (DataW.agg [D0 i, D1 i]) ≤ Rows.uptoBulkAll ((List.range len).map fun i => DataW.agg [D0 i, D1 i]) := bulk_mem (List.mem_map.2 ⟨i, List.mem_range.2 hi, rfl⟩)
      have e1 : D1 i = .lit (.string s.data.toList) := congrArg Prod.fst hsx
      rw [e1] at h1
      simp only [Rows.uptoBulk, Rows.uptoBulkAll] at h1
      have e2 : s.data.toList.length = s.size := by rw [Array.length_toList]; rfl
      refine ⟨(k, s), hkv, hsv, ?_⟩
      show s.size ≤ 1048576
      omega
    haveI : Inhabited (Int × ByteArray) := ⟨(0, ByteArray.empty)⟩
    obtain ⟨S, hS⟩ := pick_lt each
    let L : List (Int × ByteArray) := (List.range len).map S
    have hll : L.length = len := by simp [L]
    have hget : ∀ i (hi : i < L.length), L[i] = S i := by
      intro i hi
      simp [L]
    refine ⟨L, by omega, ⟨ecs_len L, some a, cap, by rw [hll], by omega, by omega, (fun h => by cases h), ?_⟩, ?_⟩
    · rcases Nat.eq_zero_or_pos len with h0 | h0
      · exact .inl (by omega)
      · have c0 := (hel 0 (by omega)).1
        rw [Nat.zero_mul] at c0
        have ea := spot_none c0
        refine .inr ⟨a.block, a.off, by rw [← ea], cell_lt (a := a.add 0) c0, fun j u hu => ?_⟩
        have hj : j < len * 2 := by
          have := (List.getElem?_eq_some_iff.1 hu).1
          rw [ecs_len, hll] at this
          exact this
        have hi : j / 2 < L.length := by omega
        have hv := ecs_at L (j / 2) hi
        rw [hget _ hi] at hv
        have hc := hel (j / 2) (by omega)
        have hs := hS (j / 2) (by omega)
        rw [ea, add_none, add_none] at hc
        rcases Nat.mod_two_eq_zero_or_one j with e | e
        · have ej : j / 2 * 2 = j := by omega
          rw [ej] at hv hc
          rw [hc.1, hs.1]
          exact hv.1.symm.trans hu
        · have ej : j / 2 * 2 + 1 = j := by omega
          rw [ej] at hv hc
          rw [hc.2.1, hs.2.1]
          exact hv.2.symm.trans hu
    · intro p hp
      obtain ⟨i, hi, rfl⟩ := List.mem_map.1 hp
      exact (hS i (List.mem_range.1 hi)).2.2
end Go.Proofs.Ytiiheaopamjijaa.Oe
