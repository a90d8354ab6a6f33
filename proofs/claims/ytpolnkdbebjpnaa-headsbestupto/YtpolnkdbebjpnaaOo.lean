/- HeadsBest returns true at every two tables of numbers (and how rows lie in memory, out of the reading of the arguments). Condition: what comes in is of bulk at most 1048576. -/
import Derived.Test.YtpolnkdbebjpnaaRows
import Derived.Test.YtpolnkdbebjpnaaOa
import Derived.Test.YtpolnkdbebjpnaaOn
namespace Go.Proofs.Ytpolnkdbebjpnaa.Hd
open Go.ChangeShapes Go.WideShapes Go.ChangeAt Go.RowKit Go.Deep

theorem bulk_one {H : Type} (d : DataW H) : 1 ≤ Rows.uptoBulk d := by
  cases d with
  | lit l => cases l <;> simp [Rows.uptoBulk]
  | nil => simp [Rows.uptoBulk]
  | ptr d => simp [Rows.uptoBulk]
  | slice elems spare => simp [Rows.uptoBulk]
  | agg parts => simp [Rows.uptoBulk]
  | iface t d => simp [Rows.uptoBulk]
  | map entries => simp [Rows.uptoBulk]
  | held h => simp [Rows.uptoBulk]
theorem bulk_len {H : Type} (l : List (DataW H)) : l.length ≤ Rows.uptoBulkAll l := by
  induction l with
  | nil => simp [Rows.uptoBulkAll]
  | cons x r ih => have := bulk_one x; simp only [Rows.uptoBulkAll, List.length_cons]; omega
theorem bulk_mem {H : Type} {d : DataW H} {l : List (DataW H)} (h : d ∈ l) : Rows.uptoBulk d ≤ Rows.uptoBulkAll l := by
  induction l with
  | nil => cases h
  | cons x r ih =>
    simp only [Rows.uptoBulkAll]
    rcases List.mem_cons.1 h with rfl | h
    · omega
    · have := ih h; omega
theorem bulk_slice {H : Type} (e s : List (DataW H)) : Rows.uptoBulkAll e + 1 ≤ Rows.uptoBulk (.slice e s) := by
  simp only [Rows.uptoBulk]
  omega
theorem openu_row {H : Type} {enc : TypeId × Value → H} {w : World} {spare : Nat → Bool} {held : Bool} {fuel : Nat} {u : Value} {x : DataW H × List MemPlace} (h : DataW.trod enc Try.prog w 0 spare held fuel 26 [u] = some x) :
    ∃ (l : List Int) (ra : Option Addr) (rc : Nat), u = .slice ra l.length rc ∧ Rl w ra l ∧ l.length ≤ Rows.uptoBulk x.1 := by
  obtain ⟨l, ra, rc, hu, hr⟩ := open_row h
  refine ⟨l, ra, rc, hu, hr, ?_⟩
  rcases open_ints Try.underlying26 Try.underlying3 (by kernel_rfl) h with ⟨hcs, _⟩ | ⟨a, len, cap, zs, hcs, _, hl, hm, hz, hx, hcell, _⟩
  · simp only [List.cons.injEq, and_true] at hcs
    rw [hcs] at hu
    have e : 0 = l.length := by injection hu
    omega
  · simp only [List.cons.injEq, and_true] at hcs
    rw [hcs] at hu
    have e : len = l.length := by injection hu
    have hlz : len ≤ zs.length := by rw [hz]; split <;> omega
    have h1 := bulk_slice (H := H) (lits .i64 (zs.take len)) (lits .i64 (zs.drop len))
    have h2 := bulk_len (H := H) (lits .i64 (zs.take len))
    have h3 : (lits (H := H) .i64 (zs.take len)).length = len := by simp [lits]; omega
    rw [hx]
    dsimp only
    omega
theorem openu_rows {H : Type} {enc : TypeId × Value → H} {w : World} {spare : Nat → Bool} {held : Bool} {fuel : Nat} {v : Value} {x : DataW H × List MemPlace} (h : DataW.trod enc Try.prog w 0 spare held fuel 22 [v] = some x) :
    ∃ (rows : List (List Int)) (a : Option Addr) (cap b off : Nat) (ra : Nat → Option Addr) (rc : Nat → Nat), v = .slice a rows.length cap ∧ Rw w a b off ra rc rows ∧ rows.length ≤ Rows.uptoBulk x.1 ∧ ∀ k, k < rows.length → (rows.getD k []).length ≤ Rows.uptoBulk x.1 := by
  rcases open_slice (e := 26) Try.underlying22 h with ⟨hcs, _⟩ | ⟨a, len, cap, m, n, D, Pl, hcs, _, hl, hm, hmm, hx, hel⟩
  · simp only [List.cons.injEq, and_true] at hcs
    subst hcs
    exact ⟨[], none, 0, 0, 0, fun _ => none, fun _ => 0, rfl, ⟨fun h0 => absurd h0 (Nat.lt_irrefl _), fun k hk => absurd hk (Nat.not_lt_zero _), fun k hk => absurd hk (Nat.not_lt_zero _)⟩, Nat.zero_le _, fun k hk => absurd hk (Nat.not_lt_zero _)⟩
  · simp only [List.cons.injEq, and_true] at hcs
    subst hcs
    have k26 : Try.prog.cellsOf 26 = 1 := by kernel_rfl
    rw [k26] at hel
    have hlm : len ≤ m := by rw [hmm]; split <;> omega
    have hb1 := bulk_slice ((List.range len).map D) ((List.range (m - len)).map fun j => D (len + j))
    have hb2 := bulk_len ((List.range len).map D)
    rw [List.length_map, List.length_range] at hb2
    have each : ∀ i, i < len → ∃ y : List Int × Option Addr × Nat, w.cell? (a.add i) = some (.slice y.2.1 y.1.length y.2.2) ∧ Rl w y.2.1 y.1 ∧ y.1.length ≤ Rows.uptoBulk (D i) := by
      intro i hi
      obtain ⟨cs', h1, h2⟩ := hel i (by omega)
      obtain ⟨_, hlc, hc⟩ := World.cells?_some h1
      match cs', hlc with
      | [u], _ =>
        obtain ⟨l, ra, rc, hu, hr, hbl⟩ := openu_row h2
        have := hc 0 (by decide)
        rw [Go.Deep.add_add, Nat.mul_one, Nat.add_zero] at this
        exact ⟨(l, ra, rc), by rw [this, ← hu]; rfl, hr, hbl⟩
    obtain ⟨S, hS⟩ := choose_lt each
    have hll : ((List.range len).map fun i => (S i).1).length = len := by simp
    have hget : ∀ i, i < len → ((List.range len).map fun i => (S i).1).getD i [] = (S i).1 := fun i hi => by
      rw [List.getD_eq_getElem?_getD, List.getElem?_map, List.getElem?_range hi]
      rfl
    have ha : 0 < len → a = ⟨a.block, a.off, none⟩ ∧ a.block < w.heap.size := fun h0 => ⟨spot_none (hS 0 h0).1, cell_lt (a := a.add 0) (hS 0 h0).1⟩
    refine ⟨(List.range len).map fun i => (S i).1, some a, cap, a.block, a.off, fun i => (S i).2.1, fun i => (S i).2.2, by rw [hll], ⟨fun h0 => ?_, fun k hk => ?_, fun k hk => ?_⟩, by rw [hll, hx]; dsimp only; omega, fun k hk => ?_⟩
    · rw [hll] at h0
      exact ⟨by rw [← (ha h0).1], (ha h0).2⟩
    · rw [hll] at hk
      have hc := (hS k hk).1
      rw [(ha (by omega)).1, add_at] at hc
      rw [hget k hk]
      exact hc
    · rw [hll] at hk
      rw [hget k hk]
      exact (hS k hk).2.1
    · rw [hll] at hk
      rw [hget k hk, hx]
      have h1 := (hS k hk).2.2
      have h2 := bulk_mem (d := D k) (l := (List.range len).map D) (List.mem_map.2 ⟨k, List.mem_range.2 hk, rfl⟩)
      dsimp only
      omega
end Go.Proofs.Ytpolnkdbebjpnaa.Hd
namespace Go.Proofs.Ytpolnkdbebjpnaa.headsBestUpto
open Go.ChangeShapes Go.WideShapes Go.ChangeAt Go.RowKit
open Hd

theorem own : ownKnob Try.prog.godebug = none := by kernel_rfl
theorem one_cell {W : World} {base : Nat} {v : Value} (h : Value.okWide Try.prog W .any base 22 v) : v.cells.toList = [v] := by
  obtain ⟨a, l, c, hv⟩ := okWide_slice Try.underlying22 h
  rw [hv]
  rfl
theorem small {H : Type} {d0 d1 : DataW H} (hk : Rows.uptoSmall H [d0, d1] = true) : Rows.uptoBulk d0 ≤ 1048576 ∧ Rows.uptoBulk d1 ≤ 1048576 := by
  have h : Rows.uptoBulkAll [d0, d1] ≤ 1048576 := of_decide_eq_true hk
  simp only [Rows.uptoBulkAll] at h
  omega
theorem best_all (rows rows2 : List (List Int)) (a a2 : Option Addr) (cap b off cap2 b2 off2 : Nat) (ra ra2 : Nat → Option Addr) (rc rc2 : Nat → Nat) (w : World) (hR : Rw w a b off ra rc rows) (hN : rows.length ≤ 1048576) (hR2 : Rw w a2 b2 off2 ra2 rc2 rows2) (hN2 : rows2.length ≤ 1048576) (hM : ∀ k, k < rows2.length → (rows2.getD k []).length ≤ 1048576) :
    Calls Try.prog 3 #[.slice a rows.length cap, .slice a2 rows2.length cap2] w fun e w' => e = .returned (.bool true) ∧ Below w.heap.size w w' := by
  by_cases hc : chk rows = 0
  · obtain ⟨n, hF⟩ := fit_of hc
    obtain rfl := (hF.sc hR).1
    have h := best_yes rows rows2 n a2 b off cap b2 off2 cap2 ra ra2 rc rc2 w hR hR2 (by omega) (by omega) (fun k hk => by have := hM k hk; omega) hF
    rw [← hF.len] at h
    exact h
  · exact best_no rows rows2 a a2 b off cap b2 off2 cap2 ra ra2 rc rc2 w hR hR2 (by omega) (by omega) (fun k hk => by have := hM k hk; omega) hc

set_option maxRecDepth 100000 in
theorem contract (H : Type) (enc : TypeId × Value → H) (W : World) (base : Nat) (args : Array Value) (ds gs : List (DataW H)) (before : List MemPlace)
    (hval : ∀ (j : Nat) t v, Try.f3.params[j]? = some t → args[j]? = some v → Value.okWide Try.prog W .any base t v)
    (hW : DataW.Whole enc Try.prog Try.f3.params.toList Rows.headsBestSpec.vars false W args.toList ds gs before) (hk : Rows.uptoSmall H (ds ++ gs) = true) :
    Calls Try.prog 3 args W fun e W' => ∃ v, e = .returned v ∧ Rows.headsBestSpec.post enc Try.prog Try.f3 false true false false W args v W' := by
  have hW' := hW
  obtain ⟨p, q, hA0, hV, rfl, hfz, hnd⟩ := hW
  have hA : DataW.TrodAll enc Try.prog W 0 (fun _ => true) true Try.f3.params.toList args.toList ds p := hA0
  have hlt := DataW.TrodAll.lt hA
  rw [Try.params3] at hA hval
  obtain ⟨v0, vs0, d0, ds0, p0, q0, hargs, rfl, rfl, h0, r0⟩ := trodAll_cons hA
  obtain ⟨v1, vs1, d1, ds1, p1, q1, rfl, rfl, rfl, h1, r1⟩ := trodAll_cons r0
  obtain ⟨rfl, rfl, rfl⟩ := trodAll_nil r1
  obtain rfl : args = #[v0, v1] := by cases args; simp_all
  obtain ⟨rfl, rfl⟩ := trodVars_none hV
  simp only [List.append_nil] at hW' hk hlt
  obtain ⟨b0, b1⟩ := small hk
  have h0' := h0
  obtain ⟨fuel0, hf0⟩ := h0'
  have hc0 : v0.cells.toList = [v0] := one_cell (hval 0 22 v0 rfl rfl)
  rw [hc0] at hf0
  obtain ⟨rows, a, cap, b, off, ra, rc, hv0, hR, hN, _⟩ := openu_rows (x := (d0, p0)) hf0
  have h1' := h1
  obtain ⟨fuel1, hf1⟩ := h1'
  have hc1 : v1.cells.toList = [v1] := one_cell (hval 1 22 v1 rfl rfl)
  rw [hc1] at hf1
  obtain ⟨rows2, a2, cap2, b2, off2, ra2, rc2, hv1, hR2, hN2, hM2⟩ := openu_rows (x := (d1, p1)) hf1
  have hwalk := best_all rows rows2 a a2 cap b off cap2 b2 off2 ra ra2 rc rc2 W hR (Nat.le_trans hN b0) hR2 (Nat.le_trans hN2 b1) (fun k hk => Nat.le_trans (hM2 k hk) b1)
  rw [← hv0, ← hv1] at hwalk
  refine hwalk.mono fun e W' ⟨he, bel⟩ => ?_
  subst he
  have a0 := bel.trod (by kernel_rfl) (by kernel_rfl) (of_decide_eq_true (by kernel_rfl)) h0 (fun y hy => hlt y (List.mem_append_left _ hy))
  have a1 := bel.trod (by kernel_rfl) (by kernel_rfl) (of_decide_eq_true (by kernel_rfl)) h1 (fun y hy => hlt y (List.mem_append_right _ hy))
  exact ⟨_, rfl, _, _, _, [], _, [], hW', trodAll_mk1 (shut_bool Try.underlying4 _), (trodAll_cons_mk a0 (trodAll_cons_mk a1 trodAll_mk0)), rfl, bel.frame _, fun h => by cases h⟩

set_option maxRecDepth 100000 in
theorem lifted (os : Os) (started : os.Started) (H : Type) (enc : TypeId × Value → H) (F : Stop.Interp) :
    ReturnsInHanded {} Try.checked os 3 .any ((Rows.OpenSpec.upto Rows.headsBestSpec).pre6 enc Try.prog Try.f3 Rows.headsBestUptoRow.domain false) (((Rows.OpenSpec.upto Rows.headsBestSpec).at F).post enc Try.prog Try.f3 false true false false) := by
  refine returnsInHanded_of_cond (C := Try.checked) (s := Rows.OpenSpec.upto Rows.headsBestSpec) (k := Rows.uptoSmall) rfl own started (by kernel_rfl) Try.func3
    (OpenSpec.witness (enc := enc) (C := Try.checked) (s := Rows.OpenSpec.upto Rows.headsBestSpec) (k := Rows.uptoSmall) rfl false ⟨#[], #[.slice none 0 0, .slice none 0 0], []⟩ 8 (by kernel_rfl) (by kernel_rfl) (by kernel_rfl)
      (x := ([.nil, .nil], [], [])) (by kernel_rfl) rfl (by kernel_rfl)) ?_
  intro W base args ds gs before hval hW _ hk _
  exact contract H enc W base args ds gs before hval hW hk

theorem proved : Rows.HeadsBestUptoSaid :=
  OpenClaim.holds_of_cond 3 Try.f3 rfl rfl rfl rfl rfl rfl rfl ⟨rfl, rfl, rfl, rfl, rfl⟩ rfl rfl rfl rfl rfl (by kernel_rfl) Try.func3 (by kernel_rfl)
    (of_decide_eq_true (by kernel_rfl)) (by unfold Func.isWrapper; first | (rw [if_pos (by decide +kernel)]; kernel_rfl) | (rw [if_neg (by decide +kernel)]; exact ⟨rfl, rfl⟩))
    (fun os started H enc _ F => lifted os started H enc F)
end Go.Proofs.Ytpolnkdbebjpnaa.headsBestUpto
namespace Go.Proofs.Ytpolnkdbebjpnaa
theorem headsBest_upto : Rows.HeadsBestUptoSaid := headsBestUpto.proved
#print axioms headsBest_upto
end Go.Proofs.Ytpolnkdbebjpnaa
