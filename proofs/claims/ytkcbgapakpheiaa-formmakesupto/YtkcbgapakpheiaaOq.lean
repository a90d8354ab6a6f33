/- How a lexicon lies in memory, out of the reading of the arguments. Condition: the bulk of what is read. -/
import Derived.Test.YtkcbgapakpheiaaOp
import Derived.Test.YtkcbgapakpheiaaLzM
namespace Go.Proofs.Ytkcbgapakpheiaa.Opn
open Go.ChangeShapes Go.WideShapes Go.ChangeAt Go.RowKit Go.Deep
open Sd Md Ls Lx Ly Lz

/-- a list of changes, opened -/
theorem open_isL {H : Type} {enc : TypeId × Value → H} {w : World} {spare : Nat → Bool} {held : Bool} {fuel : Nat} {v : Value} {x : DataW H × List MemPlace} (h : DataW.trod enc Try.prog w 0 spare held fuel 24 [v] = some x) (hk : Rows.uptoBulk x.1 ≤ 1048576) :
    ∃ xs : List VC, IsL w v xs := by
  rcases open_slice (e := 58) Try.underlying24 h with ⟨hcs, _⟩ | ⟨a, len, cap, m, n, D, Pl, hcs, _, hl, hm, hmm, hx, hel⟩
  · simp only [List.cons.injEq, and_true] at hcs
    subst hcs
    exact ⟨[], ⟨rfl, none, 0, rfl, Nat.le_refl _, Nat.zero_le _, fun _ => rfl, .inl rfl⟩, fun p hp => by cases hp⟩
  · simp only [List.cons.injEq, and_true] at hcs
    subst hcs
    have k25 : Try.prog.cellsOf 58 = 5 := by kernel_rfl
    rw [k25] at hel
    have hlm : len ≤ m := by rw [hmm]; split <;> omega
    rw [hx] at hk
    simp only [Rows.uptoBulk] at hk
    have hlen : len ≤ 1048576 := by
      have := bulk_length ((List.range len).map D)
      rw [List.length_map, List.length_range] at this
      omega
    have each : ∀ i, i < len → ∃ y : VC, IsC w y ∧ y.ls.length + y.rs.length ≤ 2097152 ∧ w.cells? 0 (a.add (i * 5)) 5 = some (vcc y) := by
      intro i hi
      obtain ⟨cs', h1, h2⟩ := hel i (by omega)
      obtain ⟨_, hlc, _⟩ := World.cells?_some h1
      have hb : Rows.uptoBulk (D i) ≤ 1048576 := by
        have hm1 : Rows.uptoBulk (D i) ≤ Rows.uptoBulkAll ((List.range len).map D) := bulk_mem (List.mem_map.2 ⟨i, List.mem_range.2 hi, rfl⟩)
        omega
      match cs', hlc with
      | [c0, c1, c2, c3, c4], _ =>
        obtain ⟨y, hy, hC, hs⟩ := open_cells (x := (D i, Pl i)) h2 hb
        refine ⟨y, hC, hs, ?_⟩
        rw [h1]
        have e : (VC.val y) = .agg (vcc y).toArray := rfl
        rw [e] at hy
        simp only [Value.agg.injEq] at hy
        have := congrArg Array.toList hy
        simpa using this.symm
    haveI : Inhabited VC := ⟨⟨⟨0, [], [], [], []⟩, .slice none 0 0, .slice none 0 0, .slice none 0 0, .slice none 0 0, [], []⟩⟩
    obtain ⟨S, hS⟩ := choose_lt each
    let xs : List VC := (List.range len).map S
    have hll : xs.length = len := by simp [xs]
    have hget : ∀ i (hi : i < xs.length), xs[i] = S i := by
      intro i hi
      simp [xs]
    refine ⟨xs, ⟨vccs_length xs, some a, cap, by rw [hll], by omega, by omega, (fun h => by cases h), ?_⟩, ?_⟩
    · rcases Nat.eq_zero_or_pos len with h0 | h0
      · exact .inl (by omega)
      · obtain ⟨_, _, hc0⟩ := World.cells?_some (hS 0 h0).2.2
        have c0 : w.cell? (a.add 0) = some (.int .i64 (S 0).c.kinds) := by
          have := hc0 0 (by omega)
          rw [Go.Deep.add_add] at this
          exact this
        have ea := spot_none c0
        refine .inr ⟨a.block, a.off, by rw [← ea], cell_lt (a := a.add 0) c0, fun j u hu => ?_⟩
        have hj : j < len * 5 := by
          have := (List.getElem?_eq_some_iff.1 hu).1
          rw [vccs_length, hll] at this
          exact this
        have hi : j / 5 < xs.length := by omega
        have ej : j / 5 * 5 + j % 5 = j := by omega
        have hv := vccs_at xs (j / 5) hi (j % 5) (by omega)
        rw [hget _ hi, ej] at hv
        obtain ⟨_, _, hc⟩ := World.cells?_some (hS (j / 5) (by omega)).2.2
        have := hc (j % 5) (by omega)
        rw [Go.Deep.add_add, ej, ea, add_none] at this
        rw [this]
        exact hv.symm.trans hu
    · intro p hp
      obtain ⟨i, hi, rfl⟩ := List.mem_map.1 hp
      have := hS i (List.mem_range.1 hi)
      exact ⟨this.1, this.2.1⟩


/-- a list of structs, opened -/
theorem open_isR {α : Type} [Inhabited α] (f : α → List Value) (k : Nat) (hk : ∀ a, (f a).length = k) (hk0 : 0 < k) (Q : World → α → Prop) {t e : TypeId} (ht : Try.prog.underlying t = some (.slice e)) (ke : Try.prog.cellsOf e = k)
    {H : Type} {enc : TypeId × Value → H} {w : World} {spare : Nat → Bool} {held : Bool} (op : ∀ n cs (x : DataW H × List MemPlace), DataW.trod enc Try.prog w 0 spare held n e cs = some x → cs.length = k → Rows.uptoBulk x.1 ≤ 1048576 → ∃ a, Q w a ∧ cs = f a)
    {fuel : Nat} {v : Value} {x : DataW H × List MemPlace} (h : DataW.trod enc Try.prog w 0 spare held fuel t [v] = some x) (hb : Rows.uptoBulk x.1 ≤ 1048576) : ∃ l : List α, IsR f k Q w v l := by
  rcases open_slice (e := e) ht h with ⟨hcs, _⟩ | ⟨a, len, cap, m, n, D, Pl, hcs, _, hl, hm, hmm, hx, hel⟩
  · simp only [List.cons.injEq, and_true] at hcs
    subst hcs
    exact ⟨[], ⟨by simp, none, 0, rfl, Nat.le_refl _, Nat.zero_le _, fun _ => rfl, .inl rfl⟩, fun p hp => by cases hp⟩
  · simp only [List.cons.injEq, and_true] at hcs
    subst hcs
    rw [ke] at hel
    have hlm : len ≤ m := by rw [hmm]; split <;> omega
    rw [hx] at hb
    simp only [Rows.uptoBulk] at hb
    have hlen : len ≤ 1048576 := by
      have := bulk_length ((List.range len).map D)
      rw [List.length_map, List.length_range] at this
      omega
    have each : ∀ i, i < len → ∃ y : α, Q w y ∧ w.cells? 0 (a.add (i * k)) k = some (f y) := by
      intro i hi
      obtain ⟨cs', h1, h2⟩ := hel i (by omega)
      obtain ⟨_, hlc, _⟩ := World.cells?_some h1
      have hb1 : Rows.uptoBulk (D i) ≤ 1048576 := by
        have hm1 : Rows.uptoBulk (D i) ≤ Rows.uptoBulkAll ((List.range len).map D) := bulk_mem (List.mem_map.2 ⟨i, List.mem_range.2 hi, rfl⟩)
        omega
      obtain ⟨y, hy, hc⟩ := op n cs' (D i, Pl i) h2 hlc hb1
      exact ⟨y, hy, by rw [h1, hc]⟩
    obtain ⟨S, hS⟩ := choose_lt each
    let xs : List α := (List.range len).map S
    have hll : xs.length = len := by simp [xs]
    have hget : ∀ i (hi : i < xs.length), xs[i] = S i := by
      intro i hi
      simp [xs]
    refine ⟨xs, ⟨fm_length f k hk xs, some a, cap, by rw [hll], by omega, by omega, (fun h => by cases h), ?_⟩, ?_⟩
    · rcases Nat.eq_zero_or_pos len with h0 | h0
      · exact .inl (by omega)
      · obtain ⟨_, _, hc0⟩ := World.cells?_some (hS 0 h0).2
        have c0 := hc0 0 hk0
        rw [Go.Deep.add_add, Nat.zero_mul, List.getElem?_eq_getElem (by rw [hk]; exact hk0)] at c0
        have ea := spot_none c0
        have hl0 := cell_lt (a := a.add 0) c0
        refine .inr ⟨a.block, a.off, by rw [← ea], hl0, fun j u hu => ?_⟩
        have hj : j < len * k := by
          have := (List.getElem?_eq_some_iff.1 hu).1
          rw [fm_length f k hk, hll] at this
          exact this
        have hi : j / k < xs.length := by rw [hll]; exact Nat.div_lt_of_lt_mul (by rw [Nat.mul_comm]; exact hj)
        have hmod : j % k < k := Nat.mod_lt _ hk0
        have ej : j / k * k + j % k = j := by rw [Nat.mul_comm]; exact Nat.div_add_mod j k
        have hv := fm_at f k hk xs (j / k) hi (j % k) hmod
        rw [hget _ hi, ej] at hv
        obtain ⟨_, _, hc⟩ := World.cells?_some (hS (j / k) (by omega)).2
        have := hc (j % k) hmod
        rw [Go.Deep.add_add, ej, ea, add_none] at this
        rw [this]
        exact hv.symm.trans hu
    · intro p hp
      obtain ⟨i, hi, rfl⟩ := List.mem_map.1 hp
      exact (hS i (List.mem_range.1 hi)).1

theorem trod_struct2 {H : Type} {enc : TypeId × Value → H} {P : Program} {w : World} {base : Nat} {spare : Nat → Bool} {held : Bool} {t : TypeId} {f0 f1 : Field} {fuel : Nat} {cs : List Value} {x : DataW H × List MemPlace} (ht : P.underlying t = some (.struct #[f0, f1])) (h : DataW.trod enc P w base spare held fuel t cs = some x) :
    ∃ y0 y1 n, x.1 = .agg [y0.1, y1.1] ∧ cs.length = P.cellsOf t ∧ DataW.trod enc P w base spare held n f0.type ((cs.drop f0.offset).take (P.cellsOf f0.type)) = some y0 ∧
      DataW.trod enc P w base spare held n f1.type ((cs.drop f1.offset).take (P.cellsOf f1.type)) = some y1 := by
  obtain ⟨xs, n, _, rfl, hl, hlen, hf⟩ := DataW.trod_struct ht h
  match xs, hlen with
  | [y0, y1], _ => exact ⟨y0, y1, n, by simp, hl, by simpa using hf 0 f0 rfl, by simpa using hf 1 f1 rfl⟩
theorem trod_struct3 {H : Type} {enc : TypeId × Value → H} {P : Program} {w : World} {base : Nat} {spare : Nat → Bool} {held : Bool} {t : TypeId} {f0 f1 f2 : Field} {fuel : Nat} {cs : List Value} {x : DataW H × List MemPlace} (ht : P.underlying t = some (.struct #[f0, f1, f2])) (h : DataW.trod enc P w base spare held fuel t cs = some x) :
    ∃ y0 y1 y2 n, x.1 = .agg [y0.1, y1.1, y2.1] ∧ cs.length = P.cellsOf t ∧ DataW.trod enc P w base spare held n f0.type ((cs.drop f0.offset).take (P.cellsOf f0.type)) = some y0 ∧
      DataW.trod enc P w base spare held n f1.type ((cs.drop f1.offset).take (P.cellsOf f1.type)) = some y1 ∧ DataW.trod enc P w base spare held n f2.type ((cs.drop f2.offset).take (P.cellsOf f2.type)) = some y2 := by
  obtain ⟨xs, n, _, rfl, hl, hlen, hf⟩ := DataW.trod_struct ht h
  match xs, hlen with
  | [y0, y1, y2], _ => exact ⟨y0, y1, y2, n, by simp, hl, by simpa using hf 0 f0 rfl, by simpa using hf 1 f1 rfl, by simpa using hf 2 f2 rfl⟩
theorem trod_struct4 {H : Type} {enc : TypeId × Value → H} {P : Program} {w : World} {base : Nat} {spare : Nat → Bool} {held : Bool} {t : TypeId} {f0 f1 f2 f3 : Field} {fuel : Nat} {cs : List Value} {x : DataW H × List MemPlace} (ht : P.underlying t = some (.struct #[f0, f1, f2, f3])) (h : DataW.trod enc P w base spare held fuel t cs = some x) :
    ∃ y0 y1 y2 y3 n, x.1 = .agg [y0.1, y1.1, y2.1, y3.1] ∧ cs.length = P.cellsOf t ∧ DataW.trod enc P w base spare held n f0.type ((cs.drop f0.offset).take (P.cellsOf f0.type)) = some y0 ∧
      DataW.trod enc P w base spare held n f1.type ((cs.drop f1.offset).take (P.cellsOf f1.type)) = some y1 ∧ DataW.trod enc P w base spare held n f2.type ((cs.drop f2.offset).take (P.cellsOf f2.type)) = some y2 ∧
      DataW.trod enc P w base spare held n f3.type ((cs.drop f3.offset).take (P.cellsOf f3.type)) = some y3 := by
  obtain ⟨xs, n, _, rfl, hl, hlen, hf⟩ := DataW.trod_struct ht h
  match xs, hlen with
  | [y0, y1, y2, y3], _ => exact ⟨y0, y1, y2, y3, n, by simp, hl, by simpa using hf 0 f0 rfl, by simpa using hf 1 f1 rfl, by simpa using hf 2 f2 rfl, by simpa using hf 3 f3 rfl⟩

theorem open_stem {H : Type} {enc : TypeId × Value → H} {w : World} {spare : Nat → Bool} {held : Bool} (n : Nat) (cs : List Value) (x : DataW H × List MemPlace) (h : DataW.trod enc Try.prog w 0 spare held n 51 cs = some x) (hl : cs.length = 2) (hk : Rows.uptoBulk x.1 ≤ 1048576) : ∃ a : VSt, stQ w a ∧ cs = stc a := by
  match cs, hl with
  | [c0, c1], _ =>
    obtain ⟨y0, y1, n, hx, _, h0, h1⟩ := trod_struct2 Try.underlying51 h
    have k3 : Try.prog.cellsOf 3 = 1 := by kernel_rfl
    have k27 : Try.prog.cellsOf 27 = 1 := by kernel_rfl
    dsimp only at h0 h1
    rw [k27] at h0
    rw [k3] at h1
    change DataW.trod enc Try.prog w 0 spare held n 27 [c0] = some y0 at h0
    change DataW.trod enc Try.prog w 0 spare held n 3 [c1] = some y1 at h1
    rw [hx] at hk
    simp only [Rows.uptoBulk, Rows.uptoBulkAll] at hk
    obtain ⟨k, hkv, _, hwf⟩ := DataW.trod_int Try.underlying3 h1
    simp only [List.cons.injEq, and_true] at hkv
    subst hkv
    obtain ⟨frm, _, hf⟩ := open_isI h0 (by omega)
    exact ⟨(c0, ⟨frm, k⟩), hf, rfl⟩
theorem open_cell {H : Type} {enc : TypeId × Value → H} {w : World} {spare : Nat → Bool} {held : Bool} (n : Nat) (cs : List Value) (x : DataW H × List MemPlace) (h : DataW.trod enc Try.prog w 0 spare held n 53 cs = some x) (hl : cs.length = 3) (hk : Rows.uptoBulk x.1 ≤ 1048576) : ∃ a : VCe, ceQ w a ∧ cs = cec a := by
  match cs, hl with
  | [c0, c1, c2], _ =>
    obtain ⟨y0, y1, y2, n, hx, _, h0, h1, h2⟩ := trod_struct3 Try.underlying53 h
    have k3 : Try.prog.cellsOf 3 = 1 := by kernel_rfl
    have k27 : Try.prog.cellsOf 27 = 1 := by kernel_rfl
    dsimp only at h0 h1 h2
    rw [k3] at h0
    rw [k27] at h1 h2
    change DataW.trod enc Try.prog w 0 spare held n 3 [c0] = some y0 at h0
    change DataW.trod enc Try.prog w 0 spare held n 27 [c1] = some y1 at h1
    change DataW.trod enc Try.prog w 0 spare held n 27 [c2] = some y2 at h2
    rw [hx] at hk
    simp only [Rows.uptoBulk, Rows.uptoBulkAll] at hk
    obtain ⟨k, hkv, _, hwf⟩ := DataW.trod_int Try.underlying3 h0
    simp only [List.cons.injEq, and_true] at hkv
    subst hkv
    obtain ⟨a, _, ha⟩ := open_isI h1 (by omega)
    obtain ⟨b, _, hb⟩ := open_isI h2 (by omega)
    exact ⟨((c1, c2), ⟨k, a, b⟩), ⟨ha, hb⟩, rfl⟩
theorem array4 {α : Type} {cs : Array α} (h : cs.size = 4) : ∃ c0 c1 c2 c3, cs = #[c0, c1, c2, c3] := by
  obtain ⟨l⟩ := cs
  match l, h with
  | [c0, c1, c2, c3], _ => exact ⟨c0, c1, c2, c3, rfl⟩
/-- a lexicon that comes in by value -/
theorem open_lexicon {H : Type} {enc : TypeId × Value → H} {w : World} {r : Reach} {b0 : Nat} {spare : Nat → Bool} {held : Bool} {v : Value} {d : DataW H} {p : List MemPlace} (hv : Value.okWide Try.prog w r b0 26 v) (h : DataW.Trod enc Try.prog w 0 spare held 26 v d p) (hk : Rows.uptoBulk d ≤ 1048576) :
    ∃ y : VX, v = y.val ∧ IsX w y := by
  obtain ⟨cs, rfl, hsz⟩ := okWide_struct Try.underlying26 hv
  obtain ⟨c0, c1, c2, c3, rfl⟩ := array4 (hsz.trans (by kernel_rfl))
  obtain ⟨fuel, hf⟩ := h
  obtain ⟨y0, y1, y2, y3, n, hx, _, h0, h1, h2, h3⟩ := trod_struct4 Try.underlying26 hf
  have k3 : Try.prog.cellsOf 3 = 1 := by kernel_rfl
  have k22 : Try.prog.cellsOf 22 = 1 := by kernel_rfl
  have k23 : Try.prog.cellsOf 23 = 1 := by kernel_rfl
  have k24 : Try.prog.cellsOf 24 = 1 := by kernel_rfl
  dsimp only at h0 h1 h2 h3
  rw [k3] at h0
  rw [k22] at h1
  rw [k23] at h2
  rw [k24] at h3
  change DataW.trod enc Try.prog w 0 spare held n 3 [c0] = some y0 at h0
  change DataW.trod enc Try.prog w 0 spare held n 22 [c1] = some y1 at h1
  change DataW.trod enc Try.prog w 0 spare held n 23 [c2] = some y2 at h2
  change DataW.trod enc Try.prog w 0 spare held n 24 [c3] = some y3 at h3
  dsimp only at hx
  rw [hx] at hk
  simp only [Rows.uptoBulk, Rows.uptoBulkAll] at hk
  obtain ⟨k, hkv, _, hwf⟩ := DataW.trod_int Try.underlying3 h0
  simp only [List.cons.injEq, and_true] at hkv
  subst hkv
  haveI : Inhabited VSt := ⟨(.slice none 0 0, ⟨[], 0⟩)⟩
  haveI : Inhabited VCe := ⟨((.slice none 0 0, .slice none 0 0), ⟨0, [], []⟩)⟩
  obtain ⟨sts, hs⟩ := open_isR stc 2 (fun _ => rfl) (by omega) stQ Try.underlying22 (by kernel_rfl) open_stem h1 (by omega)
  obtain ⟨ces, hc⟩ := open_isR cec 3 (fun _ => rfl) (by omega) ceQ Try.underlying23 (by kernel_rfl) open_cell h2 (by omega)
  obtain ⟨xs, hL⟩ := open_isL h3 (by omega)
  exact ⟨⟨k, c1, c2, c3, sts, ces, xs⟩, rfl, hs, hc, hL⟩
end Go.Proofs.Ytkcbgapakpheiaa.Opn
