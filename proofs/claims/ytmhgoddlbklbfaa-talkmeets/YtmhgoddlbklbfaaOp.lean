/- How steps and what was told lie in memory, out of the reading of the arguments. Condition: each slice takes no more bytes than the form's own reach. -/
import Derived.Test.YtmhgoddlbklbfaaRows
import Derived.Test.YtmhgoddlbklbfaaLd
import Derived.ProofKit
import Derived.OpenShut
import Derived.ChangeOld
import Derived.JoinedCond
import Derived.Carry
import Derived.Lib.SmallJoins
import Derived.SizedLaws
import Derived.Deep.SlicePairs
namespace Go.Proofs.Ytmhgoddlbklbfaa.Opw
open Go.ChangeShapes Go.WideShapes Go.ChangeAt Go.RowKit Go.Deep
open Ta Tb Ra Lb

theorem spot_none {w : World} {a : Addr} {u : Value} (h : w.cell? (a.add 0) = some u) : a = ⟨a.block, a.off, none⟩ := by
  obtain ⟨b, o, s⟩ := a
  cases s with
  | none => rfl
  | some x =>
    exfalso
    unfold World.cell? Addr.add at h
    split at h
    · simp at h
    · cases h
theorem cellLt {w : World} {a : Addr} {u : Value} (h : w.cell? a = some u) : a.block < w.heap.size := World.block_lt_of_cell? w a h
theorem fml {α : Type} (f : α → List Value) (k : Nat) (hk : ∀ a, (f a).length = k) (l : List α) : (l.flatMap f).length = l.length * k := by
  induction l with
  | nil => simp
  | cons a l ih => simp only [List.flatMap_cons, List.length_append, ih, hk, List.length_cons, Nat.add_mul]; omega
theorem weights_all {H : Type} {P : Program} {e : TypeId} : ∀ {l : List (DataW H)} {d : DataW H}, d ∈ l → ∀ n ∈ d.weights P e, n ∈ DataW.weightsAll P e l
  | d' :: l, d, h, n, hn => by
    simp only [DataW.weightsAll, List.mem_append]
    rcases List.mem_cons.1 h with rfl | h
    · exact .inl hn
    · exact .inr (weights_all h n hn)
/-- a list of structs, opened -/
theorem open_rows {α : Type} (a0 : α) (f : α → List Value) (k : Nat) (hk : ∀ a, (f a).length = k) (hk0 : 0 < k) {t e : TypeId} (ht : Try.prog.underlying t = some (.slice e)) (ke : Try.prog.cellsOf e = k) (Pr : α → Prop)
    {H : Type} {enc : TypeId × Value → H} {w : World} {spare : Nat → Bool} {held : Bool} (op : ∀ n cs (x : DataW H × List MemPlace), DataW.trod enc Try.prog w 0 spare held n e cs = some x → cs.length = k → (∀ m ∈ x.1.weights Try.prog e, m ≤ reachBytes) → ∃ a, cs = f a ∧ Pr a)
    {fuel : Nat} {v : Value} {x : DataW H × List MemPlace} (h : DataW.trod enc Try.prog w 0 spare held fuel t [v] = some x) (hb : ∀ n ∈ x.1.weights Try.prog t, n ≤ reachBytes) : ∃ (l : List α) (a : Option Addr) (c : Nat), v = .slice a l.length c ∧ l.length * Try.prog.bytesOf e ≤ reachBytes ∧ (∀ y ∈ l, Pr y) ∧ (l.length = 0 ∨ ∃ g off, a = some ⟨g, off, none⟩ ∧ g < w.heap.size ∧ ∀ j u, (l.flatMap f)[j]? = some u → w.cell? ⟨g, off + j, none⟩ = some u) := by
  rcases open_slice (e := e) ht h with ⟨hcs, _⟩ | ⟨a, len, cap, m, n, D, Pl, hcs, _, hl, hm, hmm, hx, hel⟩
  · simp only [List.cons.injEq, and_true] at hcs
    subst hcs
    exact ⟨[], none, 0, rfl, by simp, (fun a h => by cases h), .inl rfl⟩
  · simp only [List.cons.injEq, and_true] at hcs
    subst hcs
    rw [ke] at hel
    have hlm : len ≤ m := by rw [hmm]; split <;> omega
    rw [hx] at hb
    simp only [DataW.weights, ht, List.mem_cons, List.mem_append] at hb
    have hlen : len * Try.prog.bytesOf e ≤ reachBytes := by
      have := hb _ (.inl rfl)
      rw [List.length_map, List.length_range, Nat.add_mul] at this
      omega
    have each : ∀ i, i < len → ∃ y : α, w.cells? 0 (a.add (i * k)) k = some (f y) ∧ Pr y := by
      intro i hi
      obtain ⟨cs', h1, h2⟩ := hel i (by omega)
      obtain ⟨_, hlc, _⟩ := World.cells?_some h1
      obtain ⟨y, hc, hp⟩ := op n cs' (D i, Pl i) h2 hlc (fun q hq => hb q (.inr (.inl (weights_all (List.mem_map.2 ⟨i, List.mem_range.2 hi, rfl⟩) q hq))))
      exact ⟨y, by rw [h1, hc], hp⟩
    haveI : Inhabited α := ⟨a0⟩
    obtain ⟨S, hS⟩ := choose_lt each
    let xs : List α := (List.range len).map S
    have hll : xs.length = len := by simp [xs]
    have hget : ∀ i (hi : i < xs.length), xs[i] = S i := by
      intro i hi
      simp [xs]
    refine ⟨xs, some a, cap, by rw [hll], by rw [hll]; exact hlen, ?_, ?_⟩
    · intro y hy
      obtain ⟨i, hi, rfl⟩ := List.mem_map.1 hy
      exact (hS i (List.mem_range.1 hi)).2
    · rcases Nat.eq_zero_or_pos len with h0 | h0
      · exact .inl (by omega)
      · obtain ⟨_, _, hc0⟩ := World.cells?_some (hS 0 h0).1
        have c0 := hc0 0 hk0
        rw [Go.Deep.add_add, Nat.zero_mul, List.getElem?_eq_getElem (by rw [hk]; exact hk0)] at c0
        have ea := spot_none c0
        have hl0 := cellLt (a := a.add 0) c0
        refine .inr ⟨a.block, a.off, by rw [← ea], hl0, fun j u hu => ?_⟩
        have hj : j < len * k := by
          have := (List.getElem?_eq_some_iff.1 hu).1
          rw [fml f k hk, hll] at this
          exact this
        have hi : j / k < xs.length := by rw [hll]; exact Nat.div_lt_of_lt_mul (by rw [Nat.mul_comm]; exact hj)
        have hmod : j % k < k := Nat.mod_lt _ hk0
        have ej : j / k * k + j % k = j := by rw [Nat.mul_comm]; exact Nat.div_add_mod j k
        have hv := fm_at f k hk xs (j / k) hi (j % k) hmod
        rw [hget _ hi, ej] at hv
        obtain ⟨_, _, hc⟩ := World.cells?_some (hS (j / k) (by omega)).1
        have := hc (j % k) hmod
        rw [Go.Deep.add_add, ej, ea, Zz.addr_add] at this
        rw [this]
        exact hv.symm.trans hu

theorem trod_struct5 {H : Type} {enc : TypeId × Value → H} {P : Program} {w : World} {base : Nat} {spare : Nat → Bool} {held : Bool} {t : TypeId} {f0 f1 f2 f3 f4 : Field} {fuel : Nat} {cs : List Value} {x : DataW H × List MemPlace} (ht : P.underlying t = some (.struct #[f0, f1, f2, f3, f4])) (h : DataW.trod enc P w base spare held fuel t cs = some x) :
    ∃ y0 y1 y2 y3 y4 n, x.1 = .agg [y0.1, y1.1, y2.1, y3.1, y4.1] ∧ cs.length = P.cellsOf t ∧ DataW.trod enc P w base spare held n f0.type ((cs.drop f0.offset).take (P.cellsOf f0.type)) = some y0 ∧
      DataW.trod enc P w base spare held n f1.type ((cs.drop f1.offset).take (P.cellsOf f1.type)) = some y1 ∧ DataW.trod enc P w base spare held n f2.type ((cs.drop f2.offset).take (P.cellsOf f2.type)) = some y2 ∧
      DataW.trod enc P w base spare held n f3.type ((cs.drop f3.offset).take (P.cellsOf f3.type)) = some y3 ∧ DataW.trod enc P w base spare held n f4.type ((cs.drop f4.offset).take (P.cellsOf f4.type)) = some y4 := by
  obtain ⟨xs, n, _, rfl, hl, hlen, hf⟩ := DataW.trod_struct ht h
  match xs, hlen with
  | [y0, y1, y2, y3, y4], _ => exact ⟨y0, y1, y2, y3, y4, n, by simp, hl, by simpa using hf 0 f0 rfl, by simpa using hf 1 f1 rfl, by simpa using hf 2 f2 rfl, by simpa using hf 3 f3 rfl, by simpa using hf 4 f4 rfl⟩
theorem trod_struct7 {H : Type} {enc : TypeId × Value → H} {P : Program} {w : World} {base : Nat} {spare : Nat → Bool} {held : Bool} {t : TypeId} {f0 f1 f2 f3 f4 f5 f6 : Field} {fuel : Nat} {cs : List Value} {x : DataW H × List MemPlace} (ht : P.underlying t = some (.struct #[f0, f1, f2, f3, f4, f5, f6])) (h : DataW.trod enc P w base spare held fuel t cs = some x) :
    ∃ y0 y1 y2 y3 y4 y5 y6 n, x.1 = .agg [y0.1, y1.1, y2.1, y3.1, y4.1, y5.1, y6.1] ∧ cs.length = P.cellsOf t ∧ DataW.trod enc P w base spare held n f0.type ((cs.drop f0.offset).take (P.cellsOf f0.type)) = some y0 ∧
      DataW.trod enc P w base spare held n f1.type ((cs.drop f1.offset).take (P.cellsOf f1.type)) = some y1 ∧ DataW.trod enc P w base spare held n f2.type ((cs.drop f2.offset).take (P.cellsOf f2.type)) = some y2 ∧
      DataW.trod enc P w base spare held n f3.type ((cs.drop f3.offset).take (P.cellsOf f3.type)) = some y3 ∧ DataW.trod enc P w base spare held n f4.type ((cs.drop f4.offset).take (P.cellsOf f4.type)) = some y4 ∧
      DataW.trod enc P w base spare held n f5.type ((cs.drop f5.offset).take (P.cellsOf f5.type)) = some y5 ∧ DataW.trod enc P w base spare held n f6.type ((cs.drop f6.offset).take (P.cellsOf f6.type)) = some y6 := by
  obtain ⟨xs, n, _, rfl, hl, hlen, hf⟩ := DataW.trod_struct ht h
  match xs, hlen with
  | [y0, y1, y2, y3, y4, y5, y6], _ => exact ⟨y0, y1, y2, y3, y4, y5, y6, n, by simp, hl, by simpa using hf 0 f0 rfl, by simpa using hf 1 f1 rfl, by simpa using hf 2 f2 rfl, by simpa using hf 3 f3 rfl, by simpa using hf 4 f4 rfl, by simpa using hf 5 f5 rfl, by simpa using hf 6 f6 rfl⟩
theorem open_tl {H : Type} {enc : TypeId × Value → H} {w : World} {spare : Nat → Bool} {held : Bool} (n : Nat) (cs : List Value) (x : DataW H × List MemPlace) (h : DataW.trod enc Try.prog w 0 spare held n 44 cs = some x) (hl : cs.length = 5) : ∃ t : To, cs = tl t := by
  match cs, hl with
  | [c0, c1, c2, c3, c4], _ =>
    obtain ⟨y0, y1, y2, y3, y4, n, _, _, h0, h1, h2, h3, h4⟩ := trod_struct5 Try.underlying44 h
    have k3 : Try.prog.cellsOf 3 = 1 := by kernel_rfl
    have k9 : Try.prog.cellsOf 9 = 1 := by kernel_rfl
    have k4 : Try.prog.cellsOf 4 = 1 := by kernel_rfl
    dsimp only at h0 h1 h2 h3 h4
    rw [k3] at h0 h1 h2
    rw [k9] at h3
    rw [k4] at h4
    change DataW.trod enc Try.prog w 0 spare held n 3 [c0] = some y0 at h0
    change DataW.trod enc Try.prog w 0 spare held n 3 [c1] = some y1 at h1
    change DataW.trod enc Try.prog w 0 spare held n 3 [c2] = some y2 at h2
    change DataW.trod enc Try.prog w 0 spare held n 9 [c3] = some y3 at h3
    change DataW.trod enc Try.prog w 0 spare held n 4 [c4] = some y4 at h4
    obtain ⟨k0, e0, _⟩ := DataW.trod_int Try.underlying3 h0
    obtain ⟨k1, e1, _⟩ := DataW.trod_int Try.underlying3 h1
    obtain ⟨k2, e2, _⟩ := DataW.trod_int Try.underlying3 h2
    obtain ⟨s3, e3, _⟩ := DataW.trod_string Try.underlying9 h3
    obtain ⟨b4, e4, _⟩ := DataW.trod_bool Try.underlying4 h4
    simp only [List.cons.injEq, and_true] at e0 e1 e2 e3 e4
    subst e0 e1 e2 e3 e4
    exact ⟨⟨k0, k1, k2, s3, b4⟩, rfl⟩
theorem bytes44 : Try.prog.bytesOf 44 = 48 := by kernel_rfl
theorem bytes38 : 0 < Try.prog.bytesOf 38 := of_decide_eq_true (by kernel_rfl)
theorem i64_wf {n : Int} (h : (Lit.int .i64 n).wf = true) : i64B n := by
  have h' : (decide (IntKind.i64.min ≤ n) && decide (n ≤ IntKind.i64.max)) = true := h
  simp only [Bool.and_eq_true, decide_eq_true_eq] at h'
  exact ⟨h'.1, h'.2⟩
def aTo : To := ⟨0, 0, 0, ByteArray.empty, false⟩
def aSp : Sp := ⟨0, 0, 0, 0, ByteArray.empty, false, none, 0, []⟩
def OkO (w : World) (o : Sp) : Prop := IsT w o.la o.l ∧ (o.l.length = 0 ∨ ∀ p, o.la = some p → p.block < w.heap.size) ∧ i64B o.who ∧ i64B o.n ∧ o.l.length * 48 ≤ 140737488355328
theorem open_told {H : Type} {enc : TypeId × Value → H} {w : World} {spare : Nat → Bool} {held : Bool} {fuel : Nat} {v : Value} {x : DataW H × List MemPlace} (h : DataW.trod enc Try.prog w 0 spare held fuel 36 [v] = some x) (hb : ∀ n ∈ x.1.weights Try.prog 36, n ≤ reachBytes) : ∃ (l : List To) (a : Option Addr) (c : Nat), v = .slice a l.length c ∧ IsT w a l ∧ (l.length = 0 ∨ ∀ p, a = some p → p.block < w.heap.size) ∧ l.length * 48 ≤ 140737488355328 := by
  obtain ⟨l, a, c, hv, hn, _, hc⟩ := open_rows aTo tl 5 (fun _ => rfl) (by omega) Try.underlying36 (by kernel_rfl) (fun _ => True) (fun n cs x h hl _ => by
    obtain ⟨t, ht⟩ := open_tl n cs x h hl
    exact ⟨t, ht, trivial⟩) h hb
  rw [bytes44] at hn
  have hr := reachBytes_lt
  refine ⟨l, a, c, hv, ⟨by omega, hc⟩, ?_, by omega⟩
  rcases hc with h0 | ⟨g, off, ha, hg, _⟩
  · exact .inl h0
  · refine .inr fun p hp => ?_
    rw [ha] at hp
    simp only [Option.some.injEq] at hp
    subst hp
    exact hg
theorem open_op {H : Type} {enc : TypeId × Value → H} {w : World} {spare : Nat → Bool} {held : Bool} (n : Nat) (cs : List Value) (x : DataW H × List MemPlace) (h : DataW.trod enc Try.prog w 0 spare held n 38 cs = some x) (hl : cs.length = 7) (hb : ∀ m ∈ x.1.weights Try.prog 38, m ≤ reachBytes) : ∃ o : Sp, cs = oc o ∧ OkO w o ∧ i64B o.sl ∧ o.val.size ≤ maxLen := by
  match cs, hl with
  | [c0, c1, c2, c3, c4, c5, c6], _ =>
    obtain ⟨y0, y1, y2, y3, y4, y5, y6, n, hx, _, h0, h1, h2, h3, h4, h5, h6⟩ := trod_struct7 Try.underlying38 h
    have k3 : Try.prog.cellsOf 3 = 1 := by kernel_rfl
    have k9 : Try.prog.cellsOf 9 = 1 := by kernel_rfl
    have k4 : Try.prog.cellsOf 4 = 1 := by kernel_rfl
    have k36 : Try.prog.cellsOf 36 = 1 := by kernel_rfl
    dsimp only at h0 h1 h2 h3 h4 h5 h6 hx
    rw [k3] at h0 h1 h2 h3
    rw [k9] at h4
    rw [k4] at h5
    rw [k36] at h6
    change DataW.trod enc Try.prog w 0 spare held n 3 [c0] = some y0 at h0
    change DataW.trod enc Try.prog w 0 spare held n 3 [c1] = some y1 at h1
    change DataW.trod enc Try.prog w 0 spare held n 3 [c2] = some y2 at h2
    change DataW.trod enc Try.prog w 0 spare held n 3 [c3] = some y3 at h3
    change DataW.trod enc Try.prog w 0 spare held n 9 [c4] = some y4 at h4
    change DataW.trod enc Try.prog w 0 spare held n 4 [c5] = some y5 at h5
    change DataW.trod enc Try.prog w 0 spare held n 36 [c6] = some y6 at h6
    rw [hx] at hb
    simp only [DataW.weights, Try.underlying38, List.map_cons, DataW.weightsEach, List.mem_append] at hb
    obtain ⟨k0, e0, _⟩ := DataW.trod_int Try.underlying3 h0
    obtain ⟨k1, e1, _, w1⟩ := DataW.trod_int Try.underlying3 h1
    obtain ⟨k2, e2, _, w2⟩ := DataW.trod_int Try.underlying3 h2
    obtain ⟨k3, e3, _, w3⟩ := DataW.trod_int Try.underlying3 h3
    obtain ⟨s4, e4, _, hs4⟩ := DataW.trod_string Try.underlying9 h4
    obtain ⟨b5, e5, _⟩ := DataW.trod_bool Try.underlying4 h5
    obtain ⟨l, a, c, e6, hT, hp, hn⟩ := open_told h6 (fun n hn => hb n (by simp [hn]))
    simp only [List.cons.injEq, and_true] at e0 e1 e2 e3 e4 e5
    subst e0 e1 e2 e3 e4 e5 e6
    exact ⟨⟨k0, k1, k2, k3, s4, b5, a, c, l⟩, rfl, ⟨hT, hp, i64_wf w1, i64_wf w3, hn⟩, i64_wf w2, hs4⟩
theorem open_ops {H : Type} {enc : TypeId × Value → H} {w : World} {spare : Nat → Bool} {held : Bool} {fuel : Nat} {v : Value} {x : DataW H × List MemPlace} (h : DataW.trod enc Try.prog w 0 spare held fuel 22 [v] = some x) (hb : ∀ n ∈ x.1.weights Try.prog 22, n ≤ reachBytes) : ∃ (os : List Sp) (a : Option Addr) (c : Nat), v = .slice a os.length c ∧ IsO w a os ∧ ∀ o ∈ os, i64B o.sl ∧ o.val.size ≤ maxLen := by
  obtain ⟨l, a, c, hv, hn, hp, hc⟩ := open_rows aSp oc 7 (fun _ => rfl) (by omega) Try.underlying22 (by kernel_rfl) (fun o => OkO w o ∧ i64B o.sl ∧ o.val.size ≤ maxLen) open_op h hb
  have hr := reachBytes_lt
  have := Nat.le_mul_of_pos_right l.length bytes38
  exact ⟨l, a, c, hv, ⟨by omega, fun o ho => (hp o ho).1, hc⟩, fun o ho => (hp o ho).2⟩
end Go.Proofs.Ytmhgoddlbklbfaa.Opw
