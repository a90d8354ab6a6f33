/- How a machine and a text lie in memory, out of the reading of the arguments. Condition: each slice takes no more bytes than the form's own reach. -/
import Derived.Test.YtegfhbjdfcoajaaRows
import Derived.Test.YtegfhbjdfcoajaaPd
import Derived.ProofKit
import Derived.OpenShut
import Derived.ChangeOld
import Derived.JoinedCond
import Derived.Carry
import Derived.Lib.SmallJoins
import Derived.SizedLaws
import Derived.Deep.SlicePairs
import Derived.Test.YtegfhbjdfcoajaaLnM
import Derived.Test.YtegfhbjdfcoajaaNx
namespace Go.Proofs.Ytegfhbjdfcoajaa.Opw
open Go.ChangeShapes Go.WideShapes Go.ChangeAt Go.RowKit Go.Deep
open Mv Sy Pd

/-- how long a slice may be -/
theorem slice_len {H : Type} {P : Program} {t e : TypeId} (ht : P.underlying t = some (.slice e)) (hb : 0 < P.bytesOf e) {elems spare : List (DataW H)} (h : ∀ n ∈ (DataW.slice elems spare).weights P t, n ≤ reachBytes) : elems.length ≤ 140737488355328 := by
  have h1 := h ((elems.length + spare.length) * P.bytesOf e) (by simp [DataW.weights, ht])
  have h2 : elems.length + spare.length ≤ (elems.length + spare.length) * P.bytesOf e := Nat.le_mul_of_pos_right _ hb
  have h3 := reachBytes_lt
  omega
theorem spot_none {w : World} {a : Addr} {u : Value} (h : w.cell? (a.add 0) = some u) : a = ⟨a.block, a.off, none⟩ := by
  obtain ⟨b, o, s⟩ := a
  cases s with
  | none => rfl
  | some x =>
    exfalso
    unfold World.cell? Addr.add at h
    split at h
    · simp at h
    · cases h
theorem add_none (b o i : Nat) : (⟨b, o, none⟩ : Addr).add i = ⟨b, o + i, none⟩ := by unfold Addr.add; split <;> simp_all
theorem cell_lt {w : World} {a : Addr} {u : Value} (h : w.cell? a = some u) : a.block < w.heap.size := World.block_lt_of_cell? w a h

theorem open_isJ {H : Type} {enc : TypeId × Value → H} {w : World} {spare : Nat → Bool} {held : Bool} {fuel : Nat} {v : Value} {x : DataW H × List MemPlace} (h : DataW.trod enc Try.prog w 0 spare held fuel 26 [v] = some x) (hk : ∀ n ∈ x.1.weights Try.prog 26, n ≤ reachBytes) :
    ∃ (a : Option Addr) (c : Nat) (l : List Int), v = .slice a l.length c ∧ IsJ w a c l := by
  rcases open_ints Try.underlying26 Try.underlying3 (by kernel_rfl) h with ⟨hcs, _⟩ | ⟨a, len, cap, zs, hcs, _, hl, hm, hz, hx, hcell, _⟩
  · simp only [List.cons.injEq, and_true] at hcs
    subst hcs
    exact ⟨none, 0, [], rfl, ⟨rfl, none, 0, rfl, Nat.zero_le _, .inl rfl⟩, Nat.le_refl _⟩
  · simp only [List.cons.injEq, and_true] at hcs
    subst hcs
    have hlz : len ≤ zs.length := by rw [hz]; split <;> omega
    have e : (zs.take len).length = len := by rw [List.length_take]; omega
    have hb : len ≤ 140737488355328 := by
      rw [hx] at hk
      have := slice_len Try.underlying26 (of_decide_eq_true (by kernel_rfl)) hk
      rwa [show (lits (H := H) .i64 (zs.take len)).length = (zs.take len).length from List.length_map _, e] at this
    refine ⟨some a, cap, zs.take len, by rw [e], ⟨by simp [ints], some a, cap, rfl, by omega, ?_⟩, by omega⟩
    rcases Nat.eq_zero_or_pos len with h0 | h0
    · exact .inl (by omega)
    · have c0 := hcell 0 (by omega)
      have ea := spot_none c0
      refine .inr ⟨a.block, a.off, by rw [← ea], cell_lt (a := a.add 0) c0, fun j u hu => ?_⟩
      have hj : j < len := by
        have := (List.getElem?_eq_some_iff.1 hu).1
        simp only [ints, List.length_map] at this
        omega
      have := hcell j (by omega)
      rw [ea, add_none] at this
      rw [this]
      simp only [ints, List.getElem?_map, List.getElem?_take, hj, if_true, List.getElem?_eq_getElem (show j < zs.length by omega), Option.map_some] at hu
      simpa [List.getD_eq_getElem?_getD, List.getElem?_eq_getElem (show j < zs.length by omega)] using hu

theorem fm_length {α : Type} (f : α → List Value) (k : Nat) (hk : ∀ a, (f a).length = k) (l : List α) : (l.flatMap f).length = l.length * k := by
  induction l with
  | nil => simp
  | cons a l ih => simp only [List.flatMap_cons, List.length_append, ih, hk, List.length_cons, Nat.add_mul]; omega
theorem fm_at {α : Type} (f : α → List Value) (k : Nat) (hk : ∀ a, (f a).length = k) (l : List α) (i : Nat) (hi : i < l.length) (j : Nat) (hj : j < k) : (l.flatMap f)[i * k + j]? = (f l[i])[j]? := by
  induction l generalizing i with
  | nil => simp at hi
  | cons a l ih =>
    cases i with
    | zero =>
      simp only [List.flatMap_cons, Nat.zero_mul, Nat.zero_add, List.getElem_cons_zero]
      exact List.getElem?_append_left (by rw [hk]; exact hj)
    | succ i =>
      have e : (i + 1) * k + j = (f a).length + (i * k + j) := by rw [hk, Nat.add_mul]; omega
      simp only [List.flatMap_cons, List.getElem_cons_succ]
      rw [e, List.getElem?_append_right (by omega), Nat.add_sub_cancel_left]
      exact ih i (by simpa using hi)
/-- a list of structs, opened -/
theorem open_isR {α : Type} [Inhabited α] (f : α → List Value) (k : Nat) (hk : ∀ a, (f a).length = k) (hk0 : 0 < k) {t e : TypeId} (ht : Try.prog.underlying t = some (.slice e)) (ke : Try.prog.cellsOf e = k) (kb : 0 < Try.prog.bytesOf e)
    {H : Type} {enc : TypeId × Value → H} {w : World} {spare : Nat → Bool} {held : Bool} (op : ∀ n cs (x : DataW H × List MemPlace), DataW.trod enc Try.prog w 0 spare held n e cs = some x → cs.length = k → ∃ a, cs = f a)
    {fuel : Nat} {v : Value} {x : DataW H × List MemPlace} (h : DataW.trod enc Try.prog w 0 spare held fuel t [v] = some x) (hb : ∀ n ∈ x.1.weights Try.prog t, n ≤ reachBytes) : ∃ l : List α, Mv.Row w v k l.length (l.flatMap f) := by
  rcases open_slice (e := e) ht h with ⟨hcs, _⟩ | ⟨a, len, cap, m, n, D, Pl, hcs, _, hl, hm, hmm, hx, hel⟩
  · simp only [List.cons.injEq, and_true] at hcs
    subst hcs
    exact ⟨[], by simp, none, 0, rfl, Nat.zero_le _, .inl rfl⟩
  · simp only [List.cons.injEq, and_true] at hcs
    subst hcs
    rw [ke] at hel
    have hlm : len ≤ m := by rw [hmm]; split <;> omega
    rw [hx] at hb
    have hlen : len ≤ 140737488355328 := by
      have := slice_len ht kb hb
      rwa [List.length_map, List.length_range] at this
    have each : ∀ i, i < len → ∃ y : α, w.cells? 0 (a.add (i * k)) k = some (f y) := by
      intro i hi
      obtain ⟨cs', h1, h2⟩ := hel i (by omega)
      obtain ⟨_, hlc, _⟩ := World.cells?_some h1
      obtain ⟨y, hc⟩ := op n cs' (D i, Pl i) h2 hlc
      exact ⟨y, by rw [h1, hc]⟩
    obtain ⟨S, hS⟩ := choose_lt each
    let xs : List α := (List.range len).map S
    have hll : xs.length = len := by simp [xs]
    have hget : ∀ i (hi : i < xs.length), xs[i] = S i := by
      intro i hi
      simp [xs]
    refine ⟨xs, fm_length f k hk xs, some a, cap, by rw [hll], by omega, ?_⟩
    · rcases Nat.eq_zero_or_pos len with h0 | h0
      · exact .inl (by omega)
      · obtain ⟨_, _, hc0⟩ := World.cells?_some (hS 0 h0)
        have c0 := hc0 0 hk0
        rw [Go.Deep.add_add, Nat.zero_mul, List.getElem?_eq_getElem (by rw [hk]; exact hk0)] at c0
        have ea := spot_none c0
        have hl0 := cell_lt (a := a.add 0) c0
        refine .inr ⟨a.block, a.off, by rw [← ea], hl0, fun j u hu => ?_⟩
        have hj : j < len * k := by
          have := (List.getElem?_eq_some_iff.1 hu).1
          rw [fm_length f k hk, hll] at this
          exact this
        have hi : j / k < xs.length := by rw [hll]; exact Nat.div_lt_of_lt_mul (by rw [Nat.mul_comm]; exact hj)
        have hmod : j % k < k := Nat.mod_lt _ hk0
        have ej : j / k * k + j % k = j := by rw [Nat.mul_comm]; exact Nat.div_add_mod j k
        have hv := fm_at f k hk xs (j / k) hi (j % k) hmod
        rw [hget _ hi, ej] at hv
        obtain ⟨_, _, hc⟩ := World.cells?_some (hS (j / k) (by omega))
        have := hc (j % k) hmod
        rw [Go.Deep.add_add, ej, ea, add_none] at this
        rw [this]
        exact hv.symm.trans hu

theorem trod_struct2 {H : Type} {enc : TypeId × Value → H} {P : Program} {w : World} {base : Nat} {spare : Nat → Bool} {held : Bool} {t : TypeId} {f0 f1 : Field} {fuel : Nat} {cs : List Value} {x : DataW H × List MemPlace} (ht : P.underlying t = some (.struct #[f0, f1])) (h : DataW.trod enc P w base spare held fuel t cs = some x) :
    ∃ y0 y1 n, x.1 = .agg [y0.1, y1.1] ∧ cs.length = P.cellsOf t ∧ DataW.trod enc P w base spare held n f0.type ((cs.drop f0.offset).take (P.cellsOf f0.type)) = some y0 ∧
      DataW.trod enc P w base spare held n f1.type ((cs.drop f1.offset).take (P.cellsOf f1.type)) = some y1 := by
  obtain ⟨xs, n, _, rfl, hl, hlen, hf⟩ := DataW.trod_struct ht h
  match xs, hlen with
  | [y0, y1], _ => exact ⟨y0, y1, n, by simp, hl, by simpa using hf 0 f0 rfl, by simpa using hf 1 f1 rfl⟩
theorem trod_struct3 {H : Type} {enc : TypeId × Value → H} {P : Program} {w : World} {base : Nat} {spare : Nat → Bool} {held : Bool} {t : TypeId} {f0 f1 f2 : Field} {fuel : Nat} {cs : List Value} {x : DataW H × List MemPlace} (ht : P.underlying t = some (.struct #[f0, f1, f2])) (h : DataW.trod enc P w base spare held fuel t cs = some x) :
    ∃ y0 y1 y2 n, x.1 = .agg [y0.1, y1.1, y2.1] ∧ cs.length = P.cellsOf t ∧ DataW.trod enc P w base spare held n f0.type ((cs.drop f0.offset).take (P.cellsOf f0.type)) = some y0 ∧
      DataW.trod enc P w base spare held n f1.type ((cs.drop f1.offset).take (P.cellsOf f1.type)) = some y1 ∧ DataW.trod enc P w base spare held n f2.type ((cs.drop f2.offset).take (P.cellsOf f2.type)) = some y2 := by
  obtain ⟨xs, n, _, rfl, hl, hlen, hf⟩ := DataW.trod_struct ht h
  match xs, hlen with
  | [y0, y1, y2], _ => exact ⟨y0, y1, y2, n, by simp, hl, by simpa using hf 0 f0 rfl, by simpa using hf 1 f1 rfl, by simpa using hf 2 f2 rfl⟩
theorem trod_struct5 {H : Type} {enc : TypeId × Value → H} {P : Program} {w : World} {base : Nat} {spare : Nat → Bool} {held : Bool} {t : TypeId} {f0 f1 f2 f3 f4 : Field} {fuel : Nat} {cs : List Value} {x : DataW H × List MemPlace} (ht : P.underlying t = some (.struct #[f0, f1, f2, f3, f4])) (h : DataW.trod enc P w base spare held fuel t cs = some x) :
    ∃ y0 y1 y2 y3 y4 n, x.1 = .agg [y0.1, y1.1, y2.1, y3.1, y4.1] ∧ cs.length = P.cellsOf t ∧ DataW.trod enc P w base spare held n f0.type ((cs.drop f0.offset).take (P.cellsOf f0.type)) = some y0 ∧
      DataW.trod enc P w base spare held n f1.type ((cs.drop f1.offset).take (P.cellsOf f1.type)) = some y1 ∧ DataW.trod enc P w base spare held n f2.type ((cs.drop f2.offset).take (P.cellsOf f2.type)) = some y2 ∧
      DataW.trod enc P w base spare held n f3.type ((cs.drop f3.offset).take (P.cellsOf f3.type)) = some y3 ∧ DataW.trod enc P w base spare held n f4.type ((cs.drop f4.offset).take (P.cellsOf f4.type)) = some y4 := by
  obtain ⟨xs, n, _, rfl, hl, hlen, hf⟩ := DataW.trod_struct ht h
  match xs, hlen with
  | [y0, y1, y2, y3, y4], _ => exact ⟨y0, y1, y2, y3, y4, n, by simp, hl, by simpa using hf 0 f0 rfl, by simpa using hf 1 f1 rfl, by simpa using hf 2 f2 rfl, by simpa using hf 3 f3 rfl, by simpa using hf 4 f4 rfl⟩
theorem open_arc {H : Type} {enc : TypeId × Value → H} {w : World} {spare : Nat → Bool} {held : Bool} (n : Nat) (cs : List Value) (x : DataW H × List MemPlace) (h : DataW.trod enc Try.prog w 0 spare held n 46 cs = some x) (hl : cs.length = 5) : ∃ a : Int × Int × Int × Int × Int, cs = ac a := by
  match cs, hl with
  | [c0, c1, c2, c3, c4], _ =>
    obtain ⟨y0, y1, y2, y3, y4, n, _, _, h0, h1, h2, h3, h4⟩ := trod_struct5 Try.underlying46 h
    have k3 : Try.prog.cellsOf 3 = 1 := by kernel_rfl
    dsimp only at h0 h1 h2 h3 h4
    rw [k3] at h0 h1 h2 h3 h4
    change DataW.trod enc Try.prog w 0 spare held n 3 [c0] = some y0 at h0
    change DataW.trod enc Try.prog w 0 spare held n 3 [c1] = some y1 at h1
    change DataW.trod enc Try.prog w 0 spare held n 3 [c2] = some y2 at h2
    change DataW.trod enc Try.prog w 0 spare held n 3 [c3] = some y3 at h3
    change DataW.trod enc Try.prog w 0 spare held n 3 [c4] = some y4 at h4
    obtain ⟨k0, e0, _⟩ := DataW.trod_int Try.underlying3 h0
    obtain ⟨k1, e1, _⟩ := DataW.trod_int Try.underlying3 h1
    obtain ⟨k2, e2, _⟩ := DataW.trod_int Try.underlying3 h2
    obtain ⟨k3, e3, _⟩ := DataW.trod_int Try.underlying3 h3
    obtain ⟨k4, e4, _⟩ := DataW.trod_int Try.underlying3 h4
    simp only [List.cons.injEq, and_true] at e0 e1 e2 e3 e4
    subst e0 e1 e2 e3 e4
    exact ⟨(k0, k1, k2, k3, k4), rfl⟩
theorem open_fin {H : Type} {enc : TypeId × Value → H} {w : World} {spare : Nat → Bool} {held : Bool} (n : Nat) (cs : List Value) (x : DataW H × List MemPlace) (h : DataW.trod enc Try.prog w 0 spare held n 48 cs = some x) (hl : cs.length = 2) : ∃ a : Int × Int, cs = fc a := by
  match cs, hl with
  | [c0, c1], _ =>
    obtain ⟨y0, y1, n, hx, _, h0, h1⟩ := trod_struct2 Try.underlying48 h
    have k3 : Try.prog.cellsOf 3 = 1 := by kernel_rfl
    dsimp only at h0 h1
    rw [k3] at h0 h1
    change DataW.trod enc Try.prog w 0 spare held n 3 [c0] = some y0 at h0
    change DataW.trod enc Try.prog w 0 spare held n 3 [c1] = some y1 at h1
    obtain ⟨k0, e0, _⟩ := DataW.trod_int Try.underlying3 h0
    obtain ⟨k1, e1, _⟩ := DataW.trod_int Try.underlying3 h1
    simp only [List.cons.injEq, and_true] at e0 e1
    subst e0 e1
    exact ⟨(k0, k1), rfl⟩
theorem array3 {α : Type} {cs : Array α} (h : cs.size = 3) : ∃ c0 c1 c2, cs = #[c0, c1, c2] := by
  obtain ⟨l⟩ := cs
  match l, h with
  | [c0, c1, c2], _ => exact ⟨c0, c1, c2, rfl⟩
/-- a machine that comes in by value -/
theorem open_machine {H : Type} {enc : TypeId × Value → H} {w : World} {r : Reach} {b0 : Nat} {spare : Nat → Bool} {held : Bool} {v : Value} {d : DataW H} {p : List MemPlace} (hv : Value.okWide Try.prog w r b0 25 v) (h : DataW.Trod enc Try.prog w 0 spare held 25 v d p) (hk : ∀ n ∈ d.weights Try.prog 25, n ≤ reachBytes) :
    ∃ m : M, IsM w v m := by
  obtain ⟨cs, rfl, hsz⟩ := okWide_struct Try.underlying25 hv
  obtain ⟨c0, c1, c2, rfl⟩ := array3 (hsz.trans (by kernel_rfl))
  obtain ⟨fuel, hf⟩ := h
  obtain ⟨y0, y1, y2, n, hx, _, h0, h1, h2⟩ := trod_struct3 Try.underlying25 hf
  have k3 : Try.prog.cellsOf 3 = 1 := by kernel_rfl
  have kA : Try.prog.cellsOf 22 = 1 := by kernel_rfl
  have kF : Try.prog.cellsOf 23 = 1 := by kernel_rfl
  dsimp only at h0 h1 h2
  rw [k3] at h0
  rw [kA] at h1
  rw [kF] at h2
  change DataW.trod enc Try.prog w 0 spare held n 3 [c0] = some y0 at h0
  change DataW.trod enc Try.prog w 0 spare held n 22 [c1] = some y1 at h1
  change DataW.trod enc Try.prog w 0 spare held n 23 [c2] = some y2 at h2
  dsimp only at hx
  rw [hx] at hk
  simp only [DataW.weights, Try.underlying25, List.map_cons, DataW.weightsEach, List.mem_append] at hk
  obtain ⟨k, hkv, _, hwf⟩ := DataW.trod_int Try.underlying3 h0
  simp only [List.cons.injEq, and_true] at hkv
  subst hkv
  obtain ⟨arcs, ha⟩ := open_isR ac 5 (fun _ => rfl) (by omega) Try.underlying22 (by kernel_rfl) (of_decide_eq_true (by kernel_rfl)) open_arc h1 (fun n hn => hk n (.inr (.inl hn)))
  obtain ⟨fins, hf⟩ := open_isR fc 2 (fun _ => rfl) (by omega) Try.underlying23 (by kernel_rfl) (of_decide_eq_true (by kernel_rfl)) open_fin h2 (fun n hn => hk n (.inr (.inr (.inl hn))))
  exact ⟨⟨k, arcs, fins⟩, c1, c2, rfl, ha, hf⟩
end Go.Proofs.Ytegfhbjdfcoajaa.Opw
/- MachineMakes returns true at every two machines and two texts: what Either, Chain, Repeat, Turn and Side make reads, writes and costs what the document asks. No conditions beyond the form's own reach. -/
namespace Go.Proofs.Ytegfhbjdfcoajaa.machineMakesFull
open Go.ChangeShapes Go.WideShapes Go.ChangeAt Go.RowKit
open Mv Sy Opw

theorem own : ownKnob Try.prog.godebug = none := by kernel_rfl
theorem field_ok : Cq.FieldOk := Nx.field_any

theorem one_cell {W : World} {base : Nat} {v : Value} (h : Value.okWide Try.prog W .any base 26 v) : v.cells.toList = [v] := by
  obtain ⟨a, l, c, hv⟩ := okWide_slice Try.underlying26 h
  rw [hv]
  rfl

set_option maxRecDepth 100000 in
theorem contract (H : Type) (enc : TypeId × Value → H) (W : World) (base : Nat) (args : Array Value) (ds gs : List (DataW H)) (before : List MemPlace)
    (hval : ∀ (j : Nat) t v, Try.f3.params[j]? = some t → args[j]? = some v → Value.okWide Try.prog W .any base t v)
    (hW : DataW.Whole enc Try.prog Try.f3.params.toList Rows.machineMakesSpec.vars false W args.toList ds gs before) (hk : (DataW.weightsEach Try.prog (Try.f3.params.toList ++ Rows.machineMakesSpec.plain.varTypes Try.prog) (ds ++ gs)).all (· ≤ reachBytes) = true) :
    Calls Try.prog 3 args W fun e W' => ∃ v, e = .returned v ∧ Rows.machineMakesSpec.post enc Try.prog Try.f3 false true false false W args v W' := by
  have hW' := hW
  obtain ⟨p, q, hA0, hV, rfl, hfz, hnd⟩ := hW
  have hA : DataW.TrodAll enc Try.prog W 0 (fun _ => true) true Try.f3.params.toList args.toList ds p := hA0
  have hlt := DataW.TrodAll.lt hA
  rw [Try.params3] at hA hval hk
  obtain ⟨v0, vs0, d0, ds0, p0, q0, hargs, rfl, rfl, h0, r0⟩ := trodAll_cons hA
  obtain ⟨v1, vs1, d1, ds1, p1, q1, rfl, rfl, rfl, h1, r1⟩ := trodAll_cons r0
  obtain ⟨v2, vs2, d2, ds2, p2, q2, rfl, rfl, rfl, h2, r2⟩ := trodAll_cons r1
  obtain ⟨v3, vs3, d3, ds3, p3, q3, rfl, rfl, rfl, h3, r3⟩ := trodAll_cons r2
  obtain ⟨rfl, rfl, rfl⟩ := trodAll_nil r3
  obtain rfl : args = #[v0, v1, v2, v3] := by cases args; simp_all
  obtain ⟨rfl, rfl⟩ := trodVars_none hV
  simp only [List.append_nil] at hW' hk hlt
  have hall : ∀ n ∈ DataW.weightsEach Try.prog ([25, 25, 26, 26] ++ Rows.machineMakesSpec.plain.varTypes Try.prog) [d0, d1, d2, d3], n ≤ reachBytes := fun n hn => of_decide_eq_true (List.all_eq_true.1 hk n hn)
  have b0 : ∀ n ∈ d0.weights Try.prog 25, n ≤ reachBytes := fun n hn => hall n (DataW.weights_mem_each (j := 0) rfl rfl n hn)
  have b1 : ∀ n ∈ d1.weights Try.prog 25, n ≤ reachBytes := fun n hn => hall n (DataW.weights_mem_each (j := 1) rfl rfl n hn)
  have b2 : ∀ n ∈ d2.weights Try.prog 26, n ≤ reachBytes := fun n hn => hall n (DataW.weights_mem_each (j := 2) rfl rfl n hn)
  have b3 : ∀ n ∈ d3.weights Try.prog 26, n ≤ reachBytes := fun n hn => hall n (DataW.weights_mem_each (j := 3) rfl rfl n hn)
  obtain ⟨m, hM⟩ := open_machine (hval 0 25 v0 rfl rfl) h0 b0
  obtain ⟨m', hM'⟩ := open_machine (hval 1 25 v1 rfl rfl) h1 b1
  obtain ⟨fuel2, hf2⟩ := h2
  have hc2 : v2.cells.toList = [v2] := one_cell (hval 2 26 v2 rfl rfl)
  rw [hc2] at hf2
  obtain ⟨ai, ci, inn, hv2, hI⟩ := open_isJ (x := (d2, p2)) hf2 b2
  obtain ⟨fuel3, hf3⟩ := h3
  have hc3 : v3.cells.toList = [v3] := one_cell (hval 3 26 v3 rfl rfl)
  rw [hc3] at hf3
  obtain ⟨ao, co, out, hv3, hO⟩ := open_isJ (x := (d3, p3)) hf3 b3
  have hwalk := Ln.walk field_ok m m' inn out v0 v1 ai ao ci co W hM hM' hI hO
  rw [← hv2, ← hv3] at hwalk
  refine hwalk.mono fun e W' ⟨he, bel⟩ => ?_
  subst he
  have a0 := bel.trod (by kernel_rfl) (by kernel_rfl) (of_decide_eq_true (by kernel_rfl)) h0 (fun y hy => hlt y (List.mem_append_left _ hy))
  have a1 := bel.trod (by kernel_rfl) (by kernel_rfl) (of_decide_eq_true (by kernel_rfl)) h1 (fun y hy => hlt y (List.mem_append_right _ (List.mem_append_left _ hy)))
  have a2 := bel.trod (by kernel_rfl) (by kernel_rfl) (of_decide_eq_true (by kernel_rfl)) (⟨fuel2, by rw [hc2]; exact hf2⟩ : DataW.Trod enc Try.prog W 0 (fun _ => true) true 26 v2 d2 p2) (fun y hy => hlt y (List.mem_append_right _ (List.mem_append_right _ (List.mem_append_left _ hy))))
  have a3 := bel.trod (by kernel_rfl) (by kernel_rfl) (of_decide_eq_true (by kernel_rfl)) (⟨fuel3, by rw [hc3]; exact hf3⟩ : DataW.Trod enc Try.prog W 0 (fun _ => true) true 26 v3 d3 p3) (fun y hy => hlt y (List.mem_append_right _ (List.mem_append_right _ (List.mem_append_right _ hy))))
  exact ⟨_, rfl, _, _, _, [], _, [], hW', trodAll_mk1 (shut_bool Try.underlying4 _), (trodAll_cons_mk a0 (trodAll_cons_mk a1 (trodAll_cons_mk a2 (trodAll_cons_mk a3 trodAll_mk0)))), rfl, bel.frame _, fun h => by cases h⟩

set_option maxRecDepth 100000 in
theorem lifted (os : Os) (started : os.Started) (H : Type) (enc : TypeId × Value → H) :
    ReturnsInHanded {} Try.checked os 3 .any (Rows.machineMakesSpec.pre6 enc Try.prog Try.f3 Rows.machineMakesRow.domain false) (Rows.machineMakesSpec.post enc Try.prog Try.f3 false true false false) := by
  refine returnsInHanded_of_change_sized (C := Try.checked) own started (by kernel_rfl) Try.func3
    (ChangeSpec.witness6 (enc := enc) (C := Try.checked) false ⟨#[], #[.agg #[.int .i64 0, .slice none 0 0, .slice none 0 0], .agg #[.int .i64 0, .slice none 0 0, .slice none 0 0], .slice none 0 0, .slice none 0 0], []⟩ 8 (by kernel_rfl) (by kernel_rfl) (by kernel_rfl) (by kernel_rfl)) ?_
  intro W base args ds gs before hval hW _ hk _
  exact contract H enc W base args ds gs before hval hW hk

theorem proved : Rows.MachineMakesSaid :=
  OpenClaim.holds_of_wide 3 Try.f3 rfl rfl rfl rfl rfl rfl rfl ⟨rfl, rfl, rfl, rfl, rfl⟩ rfl rfl rfl rfl rfl (by kernel_rfl) Try.func3 (by kernel_rfl)
    (of_decide_eq_true (by kernel_rfl)) (by unfold Func.isWrapper; first | (rw [if_pos (by decide +kernel)]; kernel_rfl) | (rw [if_neg (by decide +kernel)]; exact ⟨rfl, rfl⟩))
    (fun os started H enc _ => lifted os started H enc)
end Go.Proofs.Ytegfhbjdfcoajaa.machineMakesFull
namespace Go.Proofs.Ytegfhbjdfcoajaa
theorem machineMakes_full : Rows.MachineMakesSaid := machineMakesFull.proved
#print axioms machineMakes_full
end Go.Proofs.Ytegfhbjdfcoajaa
