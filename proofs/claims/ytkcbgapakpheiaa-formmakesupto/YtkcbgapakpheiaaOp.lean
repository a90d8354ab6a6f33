/- How what comes in lies in memory: lists of numbers, spots, changes, out of the reading of the arguments. Condition: the bulk of what is read. -/
import Derived.Test.YtkcbgapakpheiaaRows
import Derived.Test.YtkcbgapakpheiaaMd
import Derived.ProofKit
import Derived.OpenShut
import Derived.ChangeOld
import Derived.JoinedCond
import Derived.Carry
import Derived.Lib.SmallJoins
import Derived.Deep.SlicePairs
namespace Go.Proofs.Ytkcbgapakpheiaa.Opn
open Go.ChangeShapes Go.WideShapes Go.ChangeAt Go.RowKit Go.Deep
open Sd Md

theorem bulk_lits {H : Type} (k : IntKind) (zs : List Int) : Rows.uptoBulkAll (lits (H := H) k zs) = zs.length := by
  induction zs with
  | nil => rfl
  | cons z zs ih =>
    have : lits (H := H) k (z :: zs) = .lit (.int k z) :: lits k zs := rfl
    rw [this]
    simp only [Rows.uptoBulkAll, Rows.uptoBulk, List.length_cons, ih]
    omega
theorem spot_none {w : World} {a : Addr} {u : Value} (h : w.cell? (a.add 0) = some u) : a = ⟨a.block, a.off, none⟩ := by
  obtain ⟨b, o, s⟩ := a
  cases s with
  | none => rfl
  | some x =>
    exfalso
    unfold World.cell? Addr.add at h
    split at h
    · simp at h
    · cases h
theorem add_none (b o i : Nat) : (⟨b, o, none⟩ : Addr).add i = ⟨b, o + i, none⟩ := by unfold Addr.add; split <;> simp_all
theorem cell_lt {w : World} {a : Addr} {u : Value} (h : w.cell? a = some u) : a.block < w.heap.size := World.block_lt_of_cell? w a h

theorem open_isI {H : Type} {enc : TypeId × Value → H} {w : World} {spare : Nat → Bool} {held : Bool} {fuel : Nat} {v : Value} {x : DataW H × List MemPlace} (h : DataW.trod enc Try.prog w 0 spare held fuel 27 [v] = some x) (hk : Rows.uptoBulk x.1 ≤ 1048576) :
    ∃ l : List Int, l.length ≤ Rows.uptoBulk x.1 ∧ IsI w v l := by
  rcases open_ints Try.underlying27 Try.underlying3 (by kernel_rfl) h with ⟨hcs, _⟩ | ⟨a, len, cap, zs, hcs, _, hl, hm, hz, hx, hcell, _⟩
  · simp only [List.cons.injEq, and_true] at hcs
    subst hcs
    exact ⟨[], Nat.zero_le _, rfl, none, 0, rfl, Nat.le_refl _, Nat.zero_le _, fun _ => rfl, .inl rfl⟩
  · simp only [List.cons.injEq, and_true] at hcs
    subst hcs
    have hlz : len ≤ zs.length := by rw [hz]; split <;> omega
    have e : (zs.take len).length = len := by rw [List.length_take]; omega
    have hb : len ≤ Rows.uptoBulk x.1 := by
      rw [hx]
      simp only [Rows.uptoBulk, bulk_lits, e]
      omega
    refine ⟨zs.take len, by omega, by simp [ints], some a, cap, by rw [e], by omega, by omega, (fun h => by cases h), ?_⟩
    rcases Nat.eq_zero_or_pos len with h0 | h0
    · exact .inl (by omega)
    · have c0 := hcell 0 (by omega)
      have ea := spot_none c0
      refine .inr ⟨a.block, a.off, by rw [← ea], cell_lt (a := a.add 0) c0, fun j u hu => ?_⟩
      have hj : j < len := by
        have := (List.getElem?_eq_some_iff.1 hu).1
        simp only [ints, List.length_map] at this
        omega
      have := hcell j (by omega)
      rw [ea, add_none] at this
      rw [this]
      simp only [ints, List.getElem?_map, List.getElem?_take, hj, if_true, List.getElem?_eq_getElem (show j < zs.length by omega), Option.map_some] at hu
      simpa [List.getD_eq_getElem?_getD, List.getElem?_eq_getElem (show j < zs.length by omega)] using hu

theorem bulk_mem {H : Type} {d : DataW H} {l : List (DataW H)} (h : d ∈ l) : Rows.uptoBulk d ≤ Rows.uptoBulkAll l := by
  induction l with
  | nil => cases h
  | cons e l ih =>
    simp only [Rows.uptoBulkAll]
    rcases List.mem_cons.1 h with rfl | h
    · omega
    · have := ih h
      omega
theorem bulk_pos {H : Type} (d : DataW H) : 1 ≤ Rows.uptoBulk d := by
  cases d with
  | lit l => cases l <;> simp only [Rows.uptoBulk] <;> omega
  | _ => simp only [Rows.uptoBulk] <;> omega
theorem bulk_length {H : Type} (l : List (DataW H)) : l.length ≤ Rows.uptoBulkAll l := by
  induction l with
  | nil => exact Nat.zero_le _
  | cons d l ih =>
    have := bulk_pos d
    simp only [Rows.uptoBulkAll, List.length_cons]
    omega
/-- a list of spots, opened -/
theorem open_isS {H : Type} {enc : TypeId × Value → H} {w : World} {spare : Nat → Bool} {held : Bool} {fuel : Nat} {v : Value} {x : DataW H × List MemPlace} (h : DataW.trod enc Try.prog w 0 spare held fuel 56 [v] = some x) (hk : Rows.uptoBulk x.1 ≤ 1048576) :
    ∃ ls : List VS, ls.length ≤ Rows.uptoBulk x.1 ∧ IsS w v ls := by
  rcases open_slice_pairs Try.underlying56 Try.underlying71 (by kernel_rfl) rfl rfl (by kernel_rfl) (by kernel_rfl) h with ⟨hcs, _⟩ | ⟨a, len, cap, m, n, V0, V1, D0, D1, P0, P1, hcs, _, hl, hm, hmm, hx, hel⟩
  · simp only [List.cons.injEq, and_true] at hcs
    subst hcs
    exact ⟨[], Nat.zero_le _, ⟨rfl, none, 0, rfl, Nat.le_refl _, Nat.zero_le _, fun _ => rfl, .inl rfl⟩, fun p hp => by cases hp⟩
  · simp only [List.cons.injEq, and_true] at hcs
    subst hcs
    have hlm : len ≤ m := by rw [hmm]; split <;> omega
    rw [hx] at hk ⊢
    simp only [Rows.uptoBulk] at hk ⊢
    have hlen : len ≤ Rows.uptoBulkAll ((List.range len).map fun i => DataW.agg [D0 i, D1 i]) := by
      have := bulk_length ((List.range len).map fun i => DataW.agg [D0 i, D1 i])
      rwa [List.length_map, List.length_range] at this
    have each : ∀ i, i < len → ∃ s : Sp, IsI w (V0 i) s.any ∧ V1 i = .bool s.edge := by
      intro i hi
      obtain ⟨_, _, t0, t1⟩ := hel i (by omega)
      have hb : Rows.uptoBulk (D0 i) ≤ 1048576 := by
        have h1 : Rows.uptoBulk (DataW.agg [D0 i, D1 i]) ≤ Rows.uptoBulkAll ((List.range len).map fun i => DataW.agg [D0 i, D1 i]) := bulk_mem (List.mem_map.2 ⟨i, List.mem_range.2 hi, rfl⟩)
        simp only [Rows.uptoBulk, Rows.uptoBulkAll] at h1
        omega
      obtain ⟨l, _, hI⟩ := open_isI t0 hb
      obtain ⟨b, hbv, _⟩ := DataW.trod_bool Try.underlying4 t1
      simp only [List.cons.injEq, and_true] at hbv
      exact ⟨⟨l, b⟩, hI, hbv⟩
    haveI : Inhabited Sp := ⟨⟨[], false⟩⟩
    obtain ⟨S, hS⟩ := choose_lt each
    let ls : List VS := (List.range len).map fun i => (V0 i, S i)
    have hll : ls.length = len := by simp [ls]
    have hget : ∀ i (hi : i < ls.length), ls[i] = (V0 i, S i) := by
      intro i hi
      simp [ls]
    refine ⟨ls, by omega, ⟨vscs_length ls, some a, cap, by rw [hll], by omega, by omega, (fun h => by cases h), ?_⟩, ?_⟩
    · rcases Nat.eq_zero_or_pos len with h0 | h0
      · exact .inl (by omega)
      · have c0 := (hel 0 (by omega)).1
        rw [Nat.zero_mul] at c0
        have ea := spot_none c0
        refine .inr ⟨a.block, a.off, by rw [← ea], cell_lt (a := a.add 0) c0, fun j u hu => ?_⟩
        have hj : j < len * 2 := by
          have := (List.getElem?_eq_some_iff.1 hu).1
          rw [vscs_length, hll] at this
          exact this
        have hi : j / 2 < ls.length := by omega
        have hv := vscs_at ls (j / 2) hi
        rw [hget _ hi] at hv
        have hc := hel (j / 2) (by omega)
        rw [ea, add_none, add_none] at hc
        rcases Nat.mod_two_eq_zero_or_one j with e | e
        · have ej : j / 2 * 2 = j := by omega
          rw [ej] at hv hc
          rw [hc.1]
          exact hv.1.symm.trans hu
        · have ej : j / 2 * 2 + 1 = j := by omega
          rw [ej] at hv hc
          rw [hc.2.1, (hS (j / 2) (by omega)).2]
          exact hv.2.symm.trans hu
    · intro p hp
      obtain ⟨i, hi, rfl⟩ := List.mem_map.1 hp
      exact (hS i (List.mem_range.1 hi)).1

theorem trod_struct5 {H : Type} {enc : TypeId × Value → H} {P : Program} {w : World} {base : Nat} {spare : Nat → Bool} {held : Bool} {t : TypeId} {f0 f1 f2 f3 f4 : Field} {fuel : Nat} {cs : List Value} {x : DataW H × List MemPlace} (ht : P.underlying t = some (.struct #[f0, f1, f2, f3, f4])) (h : DataW.trod enc P w base spare held fuel t cs = some x) :
    ∃ y0 y1 y2 y3 y4 n, x.1 = .agg [y0.1, y1.1, y2.1, y3.1, y4.1] ∧ cs.length = P.cellsOf t ∧ DataW.trod enc P w base spare held n f0.type ((cs.drop f0.offset).take (P.cellsOf f0.type)) = some y0 ∧
      DataW.trod enc P w base spare held n f1.type ((cs.drop f1.offset).take (P.cellsOf f1.type)) = some y1 ∧ DataW.trod enc P w base spare held n f2.type ((cs.drop f2.offset).take (P.cellsOf f2.type)) = some y2 ∧
      DataW.trod enc P w base spare held n f3.type ((cs.drop f3.offset).take (P.cellsOf f3.type)) = some y3 ∧ DataW.trod enc P w base spare held n f4.type ((cs.drop f4.offset).take (P.cellsOf f4.type)) = some y4 := by
  obtain ⟨xs, n, _, rfl, hl, hlen, hf⟩ := DataW.trod_struct ht h
  match xs, hlen with
  | [y0, y1, y2, y3, y4], _ => exact ⟨y0, y1, y2, y3, y4, n, by simp, hl, by simpa using hf 0 f0 rfl, by simpa using hf 1 f1 rfl, by simpa using hf 2 f2 rfl, by simpa using hf 3 f3 rfl, by simpa using hf 4 f4 rfl⟩

/-- a change out of its five cells -/
theorem open_cells {H : Type} {enc : TypeId × Value → H} {w : World} {spare : Nat → Bool} {held : Bool} {fuel : Nat} {c0 c1 c2 c3 c4 : Value} {x : DataW H × List MemPlace} (h : DataW.trod enc Try.prog w 0 spare held fuel 58 [c0, c1, c2, c3, c4] = some x) (hk : Rows.uptoBulk x.1 ≤ 1048576) :
    ∃ y : VC, y.val = .agg #[c0, c1, c2, c3, c4] ∧ IsC w y ∧ y.ls.length + y.rs.length ≤ 2097152 := by
  obtain ⟨y0, y1, y2, y3, y4, n, hx, _, h0, h1, h2, h3, h4⟩ := trod_struct5 Try.underlying58 h
  have k3 : Try.prog.cellsOf 3 = 1 := by kernel_rfl
  have k22 : Try.prog.cellsOf 27 = 1 := by kernel_rfl
  have k23 : Try.prog.cellsOf 56 = 1 := by kernel_rfl
  dsimp only at h0 h1 h2 h3 h4
  rw [k3] at h0
  rw [k22] at h1 h2
  rw [k23] at h3 h4
  change DataW.trod enc Try.prog w 0 spare held n 3 [c0] = some y0 at h0
  change DataW.trod enc Try.prog w 0 spare held n 27 [c1] = some y1 at h1
  change DataW.trod enc Try.prog w 0 spare held n 27 [c2] = some y2 at h2
  change DataW.trod enc Try.prog w 0 spare held n 56 [c3] = some y3 at h3
  change DataW.trod enc Try.prog w 0 spare held n 56 [c4] = some y4 at h4
  rw [hx] at hk
  simp only [Rows.uptoBulk, Rows.uptoBulkAll] at hk
  obtain ⟨k, hkv, _, hwf⟩ := DataW.trod_int Try.underlying3 h0
  simp only [List.cons.injEq, and_true] at hkv
  subst hkv
  obtain ⟨frm, _, hf⟩ := open_isI h1 (by omega)
  obtain ⟨tt, _, ht⟩ := open_isI h2 (by omega)
  obtain ⟨ls, hll, hls⟩ := open_isS h3 (by omega)
  obtain ⟨rs, hrl, hrs⟩ := open_isS h4 (by omega)
  exact ⟨⟨⟨k, frm, tt, sps ls, sps rs⟩, c1, c2, c3, c4, ls, rs⟩, rfl, ⟨rfl, rfl, hf, ht, hls, hrs, hwf⟩, by dsimp only; omega⟩

theorem array5 {α : Type} {cs : Array α} (h : cs.size = 5) : ∃ c0 c1 c2 c3 c4, cs = #[c0, c1, c2, c3, c4] := by
  obtain ⟨l⟩ := cs
  match l, h with
  | [c0, c1, c2, c3, c4], _ => exact ⟨c0, c1, c2, c3, c4, rfl⟩
/-- a change that comes in by value -/
theorem open_change {H : Type} {enc : TypeId × Value → H} {w : World} {r : Reach} {b0 : Nat} {spare : Nat → Bool} {held : Bool} {v : Value} {d : DataW H} {p : List MemPlace} (hv : Value.okWide Try.prog w r b0 58 v) (h : DataW.Trod enc Try.prog w 0 spare held 58 v d p) (hk : Rows.uptoBulk d ≤ 1048576) :
    ∃ y : VC, v = y.val ∧ IsC w y ∧ y.ls.length + y.rs.length ≤ 2097152 := by
  obtain ⟨cs, rfl, hsz⟩ := okWide_struct Try.underlying58 hv
  obtain ⟨c0, c1, c2, c3, c4, rfl⟩ := array5 (hsz.trans (by kernel_rfl))
  obtain ⟨fuel, hf⟩ := h
  obtain ⟨y, hy, hC, hs⟩ := open_cells (x := (d, p)) hf hk
  exact ⟨y, hy.symm, hC, hs⟩
end Go.Proofs.Ytkcbgapakpheiaa.Opn
