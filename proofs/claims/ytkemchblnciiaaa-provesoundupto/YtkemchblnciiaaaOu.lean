/- How premises and lines lie in memory, out of the reading of the arguments. Condition: the bulk of what is read. -/
import Derived.Test.YtkemchblnciiaaaOw
import Derived.Test.YtkemchblnciiaaaRi
namespace Go.Proofs.Ytkemchblnciiaaa.Opu
open Go.ChangeShapes Go.WideShapes Go.ChangeAt Go.RowKit Go.Deep
open Cl Cf Cs Ag Ri Opw

theorem bulk_lits {H : Type} (k : IntKind) (zs : List Int) : Rows.uptoBulkAll (lits (H := H) k zs) = zs.length := by
  induction zs with
  | nil => rfl
  | cons z zs ih =>
    have : lits (H := H) k (z :: zs) = .lit (.int k z) :: lits k zs := rfl
    rw [this]
    simp only [Rows.uptoBulkAll, Rows.uptoBulk, List.length_cons, ih]
    omega
theorem bulk_mem {H : Type} {d : DataW H} {l : List (DataW H)} (h : d ∈ l) : Rows.uptoBulk d ≤ Rows.uptoBulkAll l := by
  induction l with
  | nil => cases h
  | cons e l ih =>
    simp only [Rows.uptoBulkAll]
    rcases List.mem_cons.1 h with rfl | h
    · omega
    · have := ih h
      omega
theorem bulk_pos {H : Type} (d : DataW H) : 1 ≤ Rows.uptoBulk d := by
  cases d with
  | lit l => cases l <;> simp only [Rows.uptoBulk] <;> omega
  | _ => simp only [Rows.uptoBulk] <;> omega
theorem bulk_length {H : Type} (l : List (DataW H)) : l.length ≤ Rows.uptoBulkAll l := by
  induction l with
  | nil => exact Nat.zero_le _
  | cons d l ih =>
    have := bulk_pos d
    simp only [Rows.uptoBulkAll, List.length_cons]
    omega

theorem open_isI {H : Type} {enc : TypeId × Value → H} {w : World} {spare : Nat → Bool} {held : Bool} {fuel : Nat} {v : Value} {x : DataW H × List MemPlace} (h : DataW.trod enc Try.prog w 0 spare held fuel 22 [v] = some x) (hk : Rows.uptoBulk x.1 ≤ 1048576) :
    ∃ l : List Int, IsI w v l ∧ l.length ≤ 1048576 := by
  rcases open_ints Try.underlying22 Try.underlying3 (by kernel_rfl) h with ⟨hcs, _⟩ | ⟨a, len, cap, zs, hcs, _, hl, hm, hz, hx, hcell, _⟩
  · simp only [List.cons.injEq, and_true] at hcs
    subst hcs
    exact ⟨[], ⟨rfl, none, 0, rfl, Nat.zero_le _, .inl rfl⟩, Nat.zero_le _⟩
  · simp only [List.cons.injEq, and_true] at hcs
    subst hcs
    have hlz : len ≤ zs.length := by rw [hz]; split <;> omega
    have e : (zs.take len).length = len := by rw [List.length_take]; omega
    have hb : len ≤ 1048576 := by
      rw [hx] at hk
      simp only [Rows.uptoBulk, bulk_lits, e] at hk
      omega
    refine ⟨zs.take len, ⟨by simp [nv], some a, cap, by rw [e], by omega, ?_⟩, by omega⟩
    rcases Nat.eq_zero_or_pos len with h0 | h0
    · exact .inl (by omega)
    · have c0 := hcell 0 (by omega)
      have ea := spot_none c0
      refine .inr ⟨a.block, a.off, by rw [← ea], cell_lt (a := a.add 0) c0, fun j u hu => ?_⟩
      have hj : j < len := by
        have := (List.getElem?_eq_some_iff.1 hu).1
        simp only [nv, List.length_map] at this
        omega
      have := hcell j (by omega)
      rw [ea, add_none] at this
      rw [this]
      simp only [nv, List.getElem?_map, List.getElem?_take, hj, if_true, List.getElem?_eq_getElem (show j < zs.length by omega), Option.map_some] at hu
      simpa [List.getD_eq_getElem?_getD, List.getElem?_eq_getElem (show j < zs.length by omega)] using hu

/-- a list of structs, opened -/
theorem open_rows {α : Type} [Inhabited α] (f : α → List Value) (k : Nat) (hk : ∀ a, (f a).length = k) (hk0 : 0 < k) {t e : TypeId} (ht : Try.prog.underlying t = some (.slice e)) (ke : Try.prog.cellsOf e = k) (Pr : α → Prop)
    {H : Type} {enc : TypeId × Value → H} {w : World} {spare : Nat → Bool} {held : Bool} (op : ∀ n cs (x : DataW H × List MemPlace), DataW.trod enc Try.prog w 0 spare held n e cs = some x → cs.length = k → Rows.uptoBulk x.1 ≤ 1048576 → ∃ a, cs = f a ∧ Pr a)
    {fuel : Nat} {v : Value} {x : DataW H × List MemPlace} (h : DataW.trod enc Try.prog w 0 spare held fuel t [v] = some x) (hb : Rows.uptoBulk x.1 ≤ 1048576) : ∃ l : List α, Cl.Row w v k l.length (l.flatMap f) ∧ (∀ a ∈ l, Pr a) ∧ l.length ≤ 1048576 ∧ ∃ a cap, v = .slice a l.length cap ∧ l.length ≤ cap := by
  rcases open_slice (e := e) ht h with ⟨hcs, _⟩ | ⟨a, len, cap, m, n, D, Pl, hcs, _, hl, hm, hmm, hx, hel⟩
  · simp only [List.cons.injEq, and_true] at hcs
    subst hcs
    exact ⟨[], ⟨by simp, none, 0, rfl, Nat.zero_le _, .inl rfl⟩, (fun a h => by cases h), Nat.zero_le _, none, 0, rfl, Nat.le_refl _⟩
  · simp only [List.cons.injEq, and_true] at hcs
    subst hcs
    rw [ke] at hel
    have hlm : len ≤ m := by rw [hmm]; split <;> omega
    rw [hx] at hb
    simp only [Rows.uptoBulk] at hb
    have hlen : len ≤ 1048576 := by
      have := bulk_length ((List.range len).map D)
      rw [List.length_map, List.length_range] at this
      omega
    have each : ∀ i, i < len → ∃ y : α, w.cells? 0 (a.add (i * k)) k = some (f y) ∧ Pr y := by
      intro i hi
      obtain ⟨cs', h1, h2⟩ := hel i (by omega)
      obtain ⟨_, hlc, _⟩ := World.cells?_some h1
      have hbD : Rows.uptoBulk (D i) ≤ Rows.uptoBulkAll ((List.range len).map D) := bulk_mem (List.mem_map.2 ⟨i, List.mem_range.2 hi, rfl⟩)
      obtain ⟨y, hc, hp⟩ := op n cs' (D i, Pl i) h2 hlc (by dsimp only; omega)
      exact ⟨y, by rw [h1, hc], hp⟩
    obtain ⟨S, hS⟩ := choose_lt each
    let xs : List α := (List.range len).map S
    have hll : xs.length = len := by simp [xs]
    have hget : ∀ i (hi : i < xs.length), xs[i] = S i := by
      intro i hi
      simp [xs]
    refine ⟨xs, ⟨fm_length f k hk xs, some a, cap, by rw [hll], by omega, ?_⟩, ?_, by omega, some a, cap, by rw [hll], by omega⟩
    · rcases Nat.eq_zero_or_pos len with h0 | h0
      · exact .inl (by omega)
      · obtain ⟨_, _, hc0⟩ := World.cells?_some (hS 0 h0).1
        have c0 := hc0 0 hk0
        rw [Go.Deep.add_add, Nat.zero_mul, List.getElem?_eq_getElem (by rw [hk]; exact hk0)] at c0
        have ea := spot_none c0
        have hl0 := cell_lt (a := a.add 0) c0
        refine .inr ⟨a.block, a.off, by rw [← ea], hl0, fun j u hu => ?_⟩
        have hj : j < len * k := by
          have := (List.getElem?_eq_some_iff.1 hu).1
          rw [fm_length f k hk, hll] at this
          exact this
        have hi : j / k < xs.length := by rw [hll]; exact Nat.div_lt_of_lt_mul (by rw [Nat.mul_comm]; exact hj)
        have hmod : j % k < k := Nat.mod_lt _ hk0
        have ej : j / k * k + j % k = j := by rw [Nat.mul_comm]; exact Nat.div_add_mod j k
        have hv := fm_at f k hk xs (j / k) hi (j % k) hmod
        rw [hget _ hi, ej] at hv
        obtain ⟨_, _, hc⟩ := World.cells?_some (hS (j / k) (by omega)).1
        have := hc (j % k) hmod
        rw [Go.Deep.add_add, ej, ea, add_none] at this
        rw [this]
        exact hv.symm.trans hu
    · intro y hy
      obtain ⟨i, hi, rfl⟩ := List.mem_map.1 hy
      exact (hS i (List.mem_range.1 hi)).2

theorem open_claims {H : Type} {enc : TypeId × Value → H} {w : World} {spare : Nat → Bool} {held : Bool} {fuel : Nat} {v : Value} {x : DataW H × List MemPlace} (h : DataW.trod enc Try.prog w 0 spare held fuel 32 [v] = some x) (hb : Rows.uptoBulk x.1 ≤ 1048576) : ∃ l : List C, IsC w v l := by
  obtain ⟨l, hr, _⟩ := open_rows cc 3 (fun _ => rfl) (by omega) Try.underlying32 (by kernel_rfl) (fun _ => True) (fun n cs x h hl _ => by
    obtain ⟨a, ha⟩ := open_cc n cs x h hl
    exact ⟨a, ha, trivial⟩) h hb
  exact ⟨l, hr⟩

/-- a line, opened -/
theorem open_line {H : Type} {enc : TypeId × Value → H} {w : World} {spare : Nat → Bool} {held : Bool} (n : Nat) (cs : List Value) (x : DataW H × List MemPlace) (h : DataW.trod enc Try.prog w 0 spare held n 36 cs = some x) (hl : cs.length = 5) (hb : Rows.uptoBulk x.1 ≤ 1048576) : ∃ a : Ln × Value, cs = zc a ∧ IsI w a.2 a.1.2.2 ∧ a.1.2.2.length ≤ 1048576 := by
  match cs, hl with
  | [c0, c1, c2, c3, c4], _ =>
    obtain ⟨y0, y1, y2, n, hx, _, h0, h1, h2⟩ := Opw.trod_struct3 Try.underlying36 h
    have k3 : Try.prog.cellsOf 3 = 1 := by kernel_rfl
    have k24 : Try.prog.cellsOf 24 = 3 := by kernel_rfl
    have k22 : Try.prog.cellsOf 22 = 1 := by kernel_rfl
    dsimp only at h0 h1 h2
    rw [k3] at h0
    rw [k24] at h1
    rw [k22] at h2
    change DataW.trod enc Try.prog w 0 spare held n 3 [c0] = some y0 at h0
    change DataW.trod enc Try.prog w 0 spare held n 24 [c1, c2, c3] = some y1 at h1
    change DataW.trod enc Try.prog w 0 spare held n 22 [c4] = some y2 at h2
    rw [hx] at hb
    simp only [Rows.uptoBulk, Rows.uptoBulkAll] at hb
    obtain ⟨k0, e0, _⟩ := DataW.trod_int Try.underlying3 h0
    obtain ⟨⟨b, a1, a2⟩, ha⟩ := open_cc n _ y1 h1 rfl
    obtain ⟨l, hI, hn⟩ := open_isI h2 (by omega)
    simp only [cc, List.cons.injEq, and_true] at e0 ha
    obtain ⟨e1, e2, e3⟩ := ha
    subst e0 e1 e2 e3
    exact ⟨((k0, (b, a1, a2), l), c4), rfl, hI, hn⟩
theorem open_lines {H : Type} {enc : TypeId × Value → H} {w : World} {spare : Nat → Bool} {held : Bool} {fuel : Nat} {v : Value} {x : DataW H × List MemPlace} (h : DataW.trod enc Try.prog w 0 spare held fuel 33 [v] = some x) (hb : Rows.uptoBulk x.1 ≤ 1048576) :
    ∃ (Z : List (Ln × Value)) (al : Option Addr) (kl : Nat), v = .slice al Z.length kl ∧ IsL w v Z ∧ Z.length ≤ kl ∧ (∀ z ∈ Z, z.1.2.2.length ≤ 1048576) ∧ Z.length ≤ 1048576 := by
  obtain ⟨Z, hr, hp, hn, a, cap, hv, hc⟩ := open_rows zc 5 (fun _ => rfl) (by omega) Try.underlying33 (by kernel_rfl) (fun a : Ln × Value => IsI w a.2 a.1.2.2 ∧ a.1.2.2.length ≤ 1048576) open_line h hb
  exact ⟨Z, a, cap, hv, ⟨hr, fun z hz => (hp z hz).1⟩, hc, fun z hz => (hp z hz).2, hn⟩
end Go.Proofs.Ytkemchblnciiaaa.Opu
