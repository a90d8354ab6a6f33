/- SoundAlls returns true at every list of changes and every text: the program's All answers what the document's does. Condition: what comes in is of bulk at most 1048576. -/
import Derived.Test.YtjjpgnahmliblabRows
import Derived.Test.YtjjpgnahmliblabSL
import Derived.Test.YtjjpgnahmliblabOp
namespace Go.Proofs.Ytjjpgnahmliblab.soundAlls
open Go.ChangeShapes Go.WideShapes Go.ChangeAt Go.RowKit Go.Deep
open Sd Md Ls Opn

theorem own : ownKnob Try.prog.godebug = none := by kernel_rfl

theorem small {H : Type} {d0 d1 : DataW H} (hk : Rows.uptoSmall H [d0, d1] = true) : Rows.uptoBulk d0 ≤ 1048576 ∧ Rows.uptoBulk d1 ≤ 1048576 := by
  have h : Rows.uptoBulkAll [d0, d1] ≤ 1048576 := of_decide_eq_true hk
  simp only [Rows.uptoBulkAll] at h
  omega

/-- a list of changes, opened -/
theorem open_isL {H : Type} {enc : TypeId × Value → H} {w : World} {spare : Nat → Bool} {held : Bool} {fuel : Nat} {v : Value} {x : DataW H × List MemPlace} (h : DataW.trod enc Try.prog w 0 spare held fuel 33 [v] = some x) (hk : Rows.uptoBulk x.1 ≤ 1048576) :
    ∃ xs : List VC, IsL w v xs := by
  rcases open_slice (e := 25) Try.underlying33 h with ⟨hcs, _⟩ | ⟨a, len, cap, m, n, D, Pl, hcs, _, hl, hm, hmm, hx, hel⟩
  · simp only [List.cons.injEq, and_true] at hcs
    subst hcs
    exact ⟨[], ⟨rfl, none, 0, rfl, Nat.le_refl _, Nat.zero_le _, fun _ => rfl, .inl rfl⟩, fun p hp => by cases hp⟩
  · simp only [List.cons.injEq, and_true] at hcs
    subst hcs
    have k25 : Try.prog.cellsOf 25 = 5 := by kernel_rfl
    rw [k25] at hel
    have hlm : len ≤ m := by rw [hmm]; split <;> omega
    rw [hx] at hk
    simp only [Rows.uptoBulk] at hk
    have hlen : len ≤ 1048576 := by
      have := bulk_length ((List.range len).map D)
      rw [List.length_map, List.length_range] at this
      omega
    have each : ∀ i, i < len → ∃ y : VC, IsC w y ∧ y.ls.length + y.rs.length ≤ 2097152 ∧ w.cells? 0 (a.add (i * 5)) 5 = some (vcc y) := by
      intro i hi
      obtain ⟨cs', h1, h2⟩ := hel i (by omega)
      obtain ⟨_, hlc, _⟩ := World.cells?_some h1
      have hb : Rows.uptoBulk (D i) ≤ 1048576 := by
        have hm1 : Rows.uptoBulk (D i) ≤ Rows.uptoBulkAll ((List.range len).map D) := bulk_mem (List.mem_map.2 ⟨i, List.mem_range.2 hi, rfl⟩)
        omega
      match cs', hlc with
      | [c0, c1, c2, c3, c4], _ =>
        obtain ⟨y, hy, hC, hs⟩ := open_cells (x := (D i, Pl i)) h2 hb
        refine ⟨y, hC, hs, ?_⟩
        rw [h1]
        have e : (VC.val y) = .agg (vcc y).toArray := rfl
        rw [e] at hy
        simp only [Value.agg.injEq] at hy
        have := congrArg Array.toList hy
        simpa using this.symm
    haveI : Inhabited VC := ⟨⟨⟨0, [], [], [], []⟩, .slice none 0 0, .slice none 0 0, .slice none 0 0, .slice none 0 0, [], []⟩⟩
    obtain ⟨S, hS⟩ := choose_lt each
    let xs : List VC := (List.range len).map S
    have hll : xs.length = len := by simp [xs]
    have hget : ∀ i (hi : i < xs.length), xs[i] = S i := by
      intro i hi
      simp [xs]
    refine ⟨xs, ⟨vccs_length xs, some a, cap, by rw [hll], by omega, by omega, (fun h => by cases h), ?_⟩, ?_⟩
    · rcases Nat.eq_zero_or_pos len with h0 | h0
      · exact .inl (by omega)
      · obtain ⟨_, _, hc0⟩ := World.cells?_some (hS 0 h0).2.2
        have c0 : w.cell? (a.add 0) = some (.int .i64 (S 0).c.kinds) := by
          have := hc0 0 (by omega)
          rw [Go.Deep.add_add] at this
          exact this
        have ea := spot_none c0
        refine .inr ⟨a.block, a.off, by rw [← ea], cell_lt (a := a.add 0) c0, fun j u hu => ?_⟩
        have hj : j < len * 5 := by
          have := (List.getElem?_eq_some_iff.1 hu).1
          rw [vccs_length, hll] at this
          exact this
        have hi : j / 5 < xs.length := by omega
        have ej : j / 5 * 5 + j % 5 = j := by omega
        have hv := vccs_at xs (j / 5) hi (j % 5) (by omega)
        rw [hget _ hi, ej] at hv
        obtain ⟨_, _, hc⟩ := World.cells?_some (hS (j / 5) (by omega)).2.2
        have := hc (j % 5) (by omega)
        rw [Go.Deep.add_add, ej, ea, add_none] at this
        rw [this]
        exact hv.symm.trans hu
    · intro p hp
      obtain ⟨i, hi, rfl⟩ := List.mem_map.1 hp
      have := hS i (List.mem_range.1 hi)
      exact ⟨this.1, this.2.1⟩

set_option maxRecDepth 100000 in
theorem contract (H : Type) (enc : TypeId × Value → H) (W : World) (base : Nat) (args : Array Value) (ds gs : List (DataW H)) (before : List MemPlace)
    (hval : ∀ (j : Nat) t v, Try.f4.params[j]? = some t → args[j]? = some v → Value.okWide Try.prog W .any base t v)
    (hW : DataW.Whole enc Try.prog Try.f4.params.toList Rows.soundAllsSpec.vars false W args.toList ds gs before) (hk : Rows.uptoSmall H (ds ++ gs) = true) :
    Calls Try.prog 4 args W fun e W' => ∃ v, e = .returned v ∧ Rows.soundAllsSpec.post enc Try.prog Try.f4 false true false false W args v W' := by
  have hW' := hW
  obtain ⟨p, q, hA0, hV, rfl, hfz, hnd⟩ := hW
  have hA : DataW.TrodAll enc Try.prog W 0 (fun _ => true) true Try.f4.params.toList args.toList ds p := hA0
  have hlt := DataW.TrodAll.lt hA
  rw [Try.params4] at hA hval
  obtain ⟨v0, vs0, d0, ds0, p0, q0, hargs, rfl, rfl, h0, r0⟩ := trodAll_cons hA
  obtain ⟨v1, vs1, d1, ds1, p1, q1, rfl, rfl, rfl, h1, r1⟩ := trodAll_cons r0
  obtain ⟨rfl, rfl, rfl⟩ := trodAll_nil r1
  obtain rfl : args = #[v0, v1] := by cases args; simp_all
  obtain ⟨rfl, rfl⟩ := trodVars_none hV
  simp only [List.append_nil] at hW' hk hlt
  obtain ⟨b0, b1⟩ := small hk
  obtain ⟨fuel0, hf0⟩ := h0
  have hc0 : v0.cells.toList = [v0] := by
    obtain ⟨a, l, c, hv⟩ := okWide_slice Try.underlying33 (hval 0 33 v0 rfl rfl)
    rw [hv]
    rfl
  rw [hc0] at hf0
  obtain ⟨xs, hL⟩ := open_isL (x := (d0, p0)) hf0 b0
  obtain ⟨fuel, hf1⟩ := h1
  have hc1 : v1.cells.toList = [v1] := by
    obtain ⟨a, l, c, hv⟩ := okWide_slice Try.underlying22 (hval 1 22 v1 rfl rfl)
    rw [hv]
    rfl
  rw [hc1] at hf1
  obtain ⟨l, _, hI⟩ := open_isI (x := (d1, p1)) hf1 b1
  refine (SL.walk v0 v1 xs l W hL hI).mono fun e W' ⟨he, bel⟩ => ?_
  subst he
  have a0 := bel.trod (by kernel_rfl) (by kernel_rfl) (of_decide_eq_true (by kernel_rfl)) (⟨fuel0, by rw [hc0]; exact hf0⟩ : DataW.Trod enc Try.prog W 0 (fun _ => true) true 33 v0 d0 p0) (fun y hy => hlt y (List.mem_append_left _ hy))
  have a1 := bel.trod (by kernel_rfl) (by kernel_rfl) (of_decide_eq_true (by kernel_rfl)) (⟨fuel, by rw [hc1]; exact hf1⟩ : DataW.Trod enc Try.prog W 0 (fun _ => true) true 22 v1 d1 p1) (fun y hy => hlt y (List.mem_append_right _ hy))
  exact ⟨_, rfl, _, _, _, [], _, [], hW', trodAll_mk1 (shut_bool Try.underlying4 _), (trodAll_cons_mk a0 (trodAll_cons_mk a1 trodAll_mk0)), rfl, bel.frame _, fun h => by cases h⟩

set_option maxRecDepth 100000 in
theorem lifted (os : Os) (started : os.Started) (H : Type) (enc : TypeId × Value → H) (F : Stop.Interp) :
    ReturnsInHanded {} Try.checked os 4 .any ((Rows.OpenSpec.upto Rows.soundAllsSpec).pre6 enc Try.prog Try.f4 Rows.soundAllsUptoRow.domain false) (((Rows.OpenSpec.upto Rows.soundAllsSpec).at F).post enc Try.prog Try.f4 false true false false) := by
  refine returnsInHanded_of_cond (C := Try.checked) (s := Rows.OpenSpec.upto Rows.soundAllsSpec) (k := Rows.uptoSmall) rfl own started (by kernel_rfl) Try.func4
    (OpenSpec.witness (enc := enc) (C := Try.checked) (s := Rows.OpenSpec.upto Rows.soundAllsSpec) (k := Rows.uptoSmall) rfl false ⟨#[], #[.slice none 0 0, .slice none 0 0], []⟩ 8 (by kernel_rfl) (by kernel_rfl) (by kernel_rfl)
      (x := ([.nil, .nil], [], [])) (by kernel_rfl) rfl (by kernel_rfl)) ?_
  intro W base args ds gs before hval hW _ hk _
  exact contract H enc W base args ds gs before hval hW hk

theorem proved : Rows.SoundAllsUptoSaid :=
  OpenClaim.holds_of_cond 4 Try.f4 rfl rfl rfl rfl rfl rfl rfl ⟨rfl, rfl, rfl, rfl, rfl⟩ rfl rfl rfl rfl rfl (by kernel_rfl) Try.func4 (by kernel_rfl)
    (of_decide_eq_true (by kernel_rfl)) (by unfold Func.isWrapper; first | (rw [if_pos (by decide +kernel)]; kernel_rfl) | (rw [if_neg (by decide +kernel)]; exact ⟨rfl, rfl⟩))
    (fun os started H enc _ F => lifted os started H enc F)
end Go.Proofs.Ytjjpgnahmliblab.soundAlls
namespace Go.Proofs.Ytjjpgnahmliblab
theorem soundAlls_holds : Rows.SoundAllsUptoSaid := soundAlls.proved
#print axioms soundAlls_holds
end Go.Proofs.Ytjjpgnahmliblab
