/- How parts and lists of them lie in memory, out of the reading of the arguments. Condition: the bulk of what is read. -/
import Derived.Test.YtbmgkgoghgdbhaaWa
namespace Go.Proofs.Ytbmgkgoghgdbhaa.Opw
open Go.ChangeShapes Go.WideShapes Go.ChangeAt Go.RowKit Go.Deep
open Te

theorem bulk_mem {H : Type} {d : DataW H} {l : List (DataW H)} (h : d ∈ l) : Rows.uptoBulk d ≤ Rows.uptoBulkAll l := by
  induction l with
  | nil => cases h
  | cons e l ih =>
    simp only [Rows.uptoBulkAll]
    rcases List.mem_cons.1 h with rfl | h
    · omega
    · have := ih h
      omega
theorem bulk_pos {H : Type} (d : DataW H) : 1 ≤ Rows.uptoBulk d := by
  cases d with
  | lit l => cases l <;> simp only [Rows.uptoBulk] <;> omega
  | _ => simp only [Rows.uptoBulk] <;> omega
theorem bulk_length {H : Type} (l : List (DataW H)) : l.length ≤ Rows.uptoBulkAll l := by
  induction l with
  | nil => exact Nat.zero_le _
  | cons d l ih =>
    have := bulk_pos d
    simp only [Rows.uptoBulkAll, List.length_cons]
    omega
/-- a list of structs, opened, by how much is in them -/
theorem openu_rows {α : Type} (a0 : α) (f : α → List Value) (k : Nat) (hk : ∀ a, (f a).length = k) (hk0 : 0 < k) {t e : TypeId} (ht : Try.prog.underlying t = some (.slice e)) (ke : Try.prog.cellsOf e = k) (Pr : α → Prop)
    {H : Type} {enc : TypeId × Value → H} {w : World} {spare : Nat → Bool} {held : Bool} (s : Nat) (op : ∀ n cs (x : DataW H × List MemPlace), SizeOf.sizeOf x.1 < s → DataW.trod enc Try.prog w 0 spare held n e cs = some x → cs.length = k → Rows.uptoBulk x.1 ≤ 1048576 → ∃ a, cs = f a ∧ Pr a)
    {fuel : Nat} {v : Value} {x : DataW H × List MemPlace} (hsz : SizeOf.sizeOf x.1 ≤ s) (h : DataW.trod enc Try.prog w 0 spare held fuel t [v] = some x) (hb : Rows.uptoBulk x.1 ≤ 1048576) : ∃ (l : List α) (a : Option Addr) (c : Nat), v = .slice a l.length c ∧ l.length ≤ c ∧ l.length ≤ 1048576 ∧ (∀ y ∈ l, Pr y) ∧ (l.length = 0 ∨ ∃ g off, a = some ⟨g, off, none⟩ ∧ g < w.heap.size ∧ ∀ i (hi : i < l.length) j u, (f l[i])[j]? = some u → w.cell? ⟨g, off + i * k + j, none⟩ = some u) := by
  rcases open_slice (e := e) ht h with ⟨hcs, _⟩ | ⟨a, len, cap, m, n, D, Pl, hcs, _, hl, hm, hmm, hx, hel⟩
  · simp only [List.cons.injEq, and_true] at hcs
    subst hcs
    exact ⟨[], none, 0, rfl, by simp, by simp, (fun a h => by cases h), .inl rfl⟩
  · simp only [List.cons.injEq, and_true] at hcs
    subst hcs
    rw [ke] at hel
    have hlm : len ≤ m := by rw [hmm]; split <;> omega
    rw [hx] at hb hsz
    simp only [Rows.uptoBulk] at hb
    have hlen : len ≤ 1048576 := by
      have := bulk_length ((List.range len).map D)
      rw [List.length_map, List.length_range] at this
      omega
    have each : ∀ i, i < len → ∃ y : α, w.cells? 0 (a.add (i * k)) k = some (f y) ∧ Pr y := by
      intro i hi
      obtain ⟨cs', h1, h2⟩ := hel i (by omega)
      obtain ⟨_, hlc, _⟩ := World.cells?_some h1
      have hmem : D i ∈ (List.range len).map D := List.mem_map.2 ⟨i, List.mem_range.2 hi, rfl⟩
      have hs2 := List.sizeOf_lt_of_mem hmem
      obtain ⟨y, hc, hp⟩ := op n cs' (D i, Pl i) (by simp only [DataW.slice.sizeOf_spec] at hsz; dsimp only; omega) h2 hlc (by have := bulk_mem hmem; dsimp only; omega)
      exact ⟨y, by rw [h1, hc], hp⟩
    haveI : Inhabited α := ⟨a0⟩
    obtain ⟨S, hS⟩ := choose_lt each
    let xs : List α := (List.range len).map S
    have hll : xs.length = len := by simp [xs]
    have hget : ∀ i (hi : i < xs.length), xs[i] = S i := by
      intro i hi
      simp [xs]
    refine ⟨xs, some a, cap, by rw [hll], by rw [hll]; exact hl, by rw [hll]; exact hlen, ?_, ?_⟩
    · intro y hy
      obtain ⟨i, hi, rfl⟩ := List.mem_map.1 hy
      exact (hS i (List.mem_range.1 hi)).2
    · rcases Nat.eq_zero_or_pos len with h0 | h0
      · exact .inl (by omega)
      · obtain ⟨_, _, hc0⟩ := World.cells?_some (hS 0 h0).1
        have c0 := hc0 0 hk0
        rw [Go.Deep.add_add, Nat.zero_mul, List.getElem?_eq_getElem (by rw [hk]; exact hk0)] at c0
        have ea := spot_none c0
        have hl0 := cellLt (a := a.add 0) c0
        refine .inr ⟨a.block, a.off, by rw [← ea], hl0, fun i hi j u hu => ?_⟩
        rw [hget i hi] at hu
        obtain ⟨_, _, hc⟩ := World.cells?_some (hS i (by omega)).1
        have hj : j < k := by
          have := (List.getElem?_eq_some_iff.1 hu).1
          rwa [hk] at this
        have := hc j hj
        rw [Go.Deep.add_add, ea, Zz.addr_add, ← Nat.add_assoc] at this
        exact this.trans hu
theorem openu_ty {H : Type} {enc : TypeId × Value → H} {w : World} {spare : Nat → Bool} {held : Bool} : ∀ (s fuel : Nat) (cs : List Value) (x : DataW H × List MemPlace), SizeOf.sizeOf x.1 < s → DataW.trod enc Try.prog w 0 spare held fuel 24 cs = some x → cs.length = 3 → Rows.uptoBulk x.1 ≤ 1048576 → ∃ y : Et, cs = tyc y.1 y.2.1 y.2.2.1 ∧ TyAt w y.2.2.2 y.1 y.2.1 y.2.2.1 := by
  intro s
  induction s with
  | zero => intro fuel cs x h; omega
  | succ s ih =>
    intro fuel cs x hs h hl hb
    match cs, hl with
    | [c0, c1, c2], _ =>
      obtain ⟨y0, y1, y2, n, hx, _, h0, h1, h2⟩ := trod_struct3 Try.underlying24 h
      dsimp only at h0 h1 h2 hx
      rw [k3] at h0 h1
      rw [k22] at h2
      change DataW.trod enc Try.prog w 0 spare held n 3 [c0] = some y0 at h0
      change DataW.trod enc Try.prog w 0 spare held n 3 [c1] = some y1 at h1
      change DataW.trod enc Try.prog w 0 spare held n 22 [c2] = some y2 at h2
      rw [hx] at hb hs
      simp only [Rows.uptoBulk, Rows.uptoBulkAll] at hb
      obtain ⟨q0, e0, _, w0⟩ := DataW.trod_int Try.underlying3 h0
      obtain ⟨q1, e1, _, w1⟩ := DataW.trod_int Try.underlying3 h1
      have hs2 : SizeOf.sizeOf y2.1 ≤ s := by
        simp only [DataW.agg.sizeOf_spec, List.cons.sizeOf_spec, List.nil.sizeOf_spec] at hs
        omega
      obtain ⟨l, a, c, hv, hroom, hn, hp, hc⟩ := openu_rows (⟨⟨0, 0, []⟩, none, 0, 0⟩ : Et) (fun y => tyc y.1 y.2.1 y.2.2.1) 3 (fun _ => rfl) (by omega) Try.underlying22 k24 (fun y => TyAt w y.2.2.2 y.1 y.2.1 y.2.2.1) s (fun n cs x hx => ih n cs x hx) hs2 h2 (by omega)
      clear hroom
      simp only [List.cons.injEq, and_true] at e0 e1
      subst e0 e1 hv
      refine ⟨⟨⟨q0, q1, l.map (·.1)⟩, a, c, _⟩, ?_, kids_at (i64_wf w0) (i64_wf w1) (by omega) hp hc⟩
      simp [tyc]
theorem openu_tys {H : Type} {enc : TypeId × Value → H} {w : World} {spare : Nat → Bool} {held : Bool} {fuel : Nat} {v : Value} {x : DataW H × List MemPlace} (h : DataW.trod enc Try.prog w 0 spare held fuel 22 [v] = some x) (hb : Rows.uptoBulk x.1 ≤ 1048576) : ∃ (l : List Ty) (a : Option Addr) (c d : Nat), v = .slice a l.length c ∧ l.length ≤ c ∧ l.length ≤ 1048576 ∧ TyAt w (d + 1) ⟨0, 0, l⟩ a c := by
  obtain ⟨l, a, c, hv, hroom, hn, hp, hc⟩ := openu_rows (⟨⟨0, 0, []⟩, none, 0, 0⟩ : Et) (fun y => tyc y.1 y.2.1 y.2.2.1) 3 (fun _ => rfl) (by omega) Try.underlying22 k24 (fun y => TyAt w y.2.2.2 y.1 y.2.1 y.2.2.1) _ (fun n cs x hx => openu_ty _ n cs x hx) (Nat.le_refl _) h hb
  refine ⟨l.map (·.1), a, c, (l.map (·.2.2.2)).sum, by rw [List.length_map]; exact hv, by rw [List.length_map]; exact hroom, by rw [List.length_map]; exact hn, ?_⟩
  exact kids_at (k := 0) (n := 0) (by unfold i64B; omega) (by unfold i64B; omega) (by omega) hp hc
set_option maxRecDepth 100000 in
/-- a part that comes in by value -/
theorem openu_part {H : Type} {enc : TypeId × Value → H} {w : World} {r : Reach} {b0 : Nat} {spare : Nat → Bool} {held : Bool} {v : Value} {d : DataW H} {p : List MemPlace} (hv : Value.okWide Try.prog w r b0 24 v) (h : DataW.Trod enc Try.prog w 0 spare held 24 v d p) (hk : Rows.uptoBulk d ≤ 1048576) :
    ∃ (t : Ty) (a : Option Addr) (c e : Nat), v = vty t a c ∧ TyAt w e t a c := by
  obtain ⟨cs, rfl, hsz⟩ := okWide_struct Try.underlying24 hv
  obtain ⟨c0, c1, c2, rfl⟩ := array3 (hsz.trans (by kernel_rfl))
  obtain ⟨fuel, hf⟩ := h
  obtain ⟨⟨t, a, c, e⟩, hc, hy⟩ := openu_ty _ fuel _ (d, p) (Nat.lt_succ_self _) hf rfl hk
  refine ⟨t, a, c, e, ?_, hy⟩
  have hc' : [c0, c1, c2] = tyc t a c := hc
  simp only [tyc, List.cons.injEq, and_true] at hc'
  obtain ⟨rfl, rfl, rfl⟩ := hc'
  rfl
end Go.Proofs.Ytbmgkgoghgdbhaa.Opw
