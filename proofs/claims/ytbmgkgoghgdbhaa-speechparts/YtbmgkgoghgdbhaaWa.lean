/- How a proof, parts and lists of them lie in memory, out of the reading of the arguments. Condition: each slice takes no more bytes than the form's own reach. -/
import Derived.Test.YtbmgkgoghgdbhaaRows
import Derived.Test.YtbmgkgoghgdbhaaRh
import Derived.ProofKit
import Derived.OpenShut
import Derived.ChangeOld
import Derived.JoinedCond
import Derived.Carry
import Derived.Lib.SmallJoins
import Derived.SizedLaws
import Derived.Deep.SlicePairs
namespace Go.Proofs.Ytbmgkgoghgdbhaa.Opw
open Go.ChangeShapes Go.WideShapes Go.ChangeAt Go.RowKit Go.Deep
open Te

theorem spot_none {w : World} {a : Addr} {u : Value} (h : w.cell? (a.add 0) = some u) : a = ⟨a.block, a.off, none⟩ := by
  obtain ⟨b, o, s⟩ := a
  cases s with
  | none => rfl
  | some x =>
    exfalso
    unfold World.cell? Addr.add at h
    split at h
    · simp at h
    · cases h
theorem cellLt {w : World} {a : Addr} {u : Value} (h : w.cell? a = some u) : a.block < w.heap.size := World.block_lt_of_cell? w a h
theorem weights_all {H : Type} {P : Program} {e : TypeId} : ∀ {l : List (DataW H)} {d : DataW H}, d ∈ l → ∀ n ∈ d.weights P e, n ∈ DataW.weightsAll P e l
  | d' :: l, d, h, n, hn => by
    simp only [DataW.weightsAll, List.mem_append]
    rcases List.mem_cons.1 h with rfl | h
    · exact .inl hn
    · exact .inr (weights_all h n hn)
theorem le_sum : ∀ {l : List Nat} {x : Nat}, x ∈ l → x ≤ l.sum
  | y :: l, x, h => by
    rw [List.sum_cons]
    rcases List.mem_cons.1 h with rfl | h
    · omega
    · have := le_sum h; omega
/-- a list of structs, opened, by how much is in them -/
theorem open_rows {α : Type} (a0 : α) (f : α → List Value) (k : Nat) (hk : ∀ a, (f a).length = k) (hk0 : 0 < k) {t e : TypeId} (ht : Try.prog.underlying t = some (.slice e)) (ke : Try.prog.cellsOf e = k) (Pr : α → Prop)
    {H : Type} {enc : TypeId × Value → H} {w : World} {spare : Nat → Bool} {held : Bool} (s : Nat) (op : ∀ n cs (x : DataW H × List MemPlace), SizeOf.sizeOf x.1 < s → DataW.trod enc Try.prog w 0 spare held n e cs = some x → cs.length = k → (∀ m ∈ x.1.weights Try.prog e, m ≤ reachBytes) → ∃ a, cs = f a ∧ Pr a)
    {fuel : Nat} {v : Value} {x : DataW H × List MemPlace} (hsz : SizeOf.sizeOf x.1 ≤ s) (h : DataW.trod enc Try.prog w 0 spare held fuel t [v] = some x) (hb : ∀ n ∈ x.1.weights Try.prog t, n ≤ reachBytes) : ∃ (l : List α) (a : Option Addr) (c : Nat), v = .slice a l.length c ∧ l.length ≤ c ∧ l.length * Try.prog.bytesOf e ≤ reachBytes ∧ (∀ y ∈ l, Pr y) ∧ (l.length = 0 ∨ ∃ g off, a = some ⟨g, off, none⟩ ∧ g < w.heap.size ∧ ∀ i (hi : i < l.length) j u, (f l[i])[j]? = some u → w.cell? ⟨g, off + i * k + j, none⟩ = some u) := by
  rcases open_slice (e := e) ht h with ⟨hcs, _⟩ | ⟨a, len, cap, m, n, D, Pl, hcs, _, hl, hm, hmm, hx, hel⟩
  · simp only [List.cons.injEq, and_true] at hcs
    subst hcs
    exact ⟨[], none, 0, rfl, by simp, by simp, (fun a h => by cases h), .inl rfl⟩
  · simp only [List.cons.injEq, and_true] at hcs
    subst hcs
    rw [ke] at hel
    have hlm : len ≤ m := by rw [hmm]; split <;> omega
    rw [hx] at hb hsz
    simp only [DataW.weights, ht, List.mem_cons, List.mem_append] at hb
    have hlen : len * Try.prog.bytesOf e ≤ reachBytes := by
      have := hb _ (.inl rfl)
      rw [List.length_map, List.length_range, Nat.add_mul] at this
      omega
    have each : ∀ i, i < len → ∃ y : α, w.cells? 0 (a.add (i * k)) k = some (f y) ∧ Pr y := by
      intro i hi
      obtain ⟨cs', h1, h2⟩ := hel i (by omega)
      obtain ⟨_, hlc, _⟩ := World.cells?_some h1
      have hmem : D i ∈ (List.range len).map D := List.mem_map.2 ⟨i, List.mem_range.2 hi, rfl⟩
      have hs2 := List.sizeOf_lt_of_mem hmem
      obtain ⟨y, hc, hp⟩ := op n cs' (D i, Pl i) (by simp only [DataW.slice.sizeOf_spec] at hsz; dsimp only; omega) h2 hlc (fun q hq => hb q (.inr (.inl (weights_all hmem q hq))))
      exact ⟨y, by rw [h1, hc], hp⟩
    haveI : Inhabited α := ⟨a0⟩
    obtain ⟨S, hS⟩ := choose_lt each
    let xs : List α := (List.range len).map S
    have hll : xs.length = len := by simp [xs]
    have hget : ∀ i (hi : i < xs.length), xs[i] = S i := by
      intro i hi
      simp [xs]
    refine ⟨xs, some a, cap, by rw [hll], by rw [hll]; exact hl, by rw [hll]; exact hlen, ?_, ?_⟩
    · intro y hy
      obtain ⟨i, hi, rfl⟩ := List.mem_map.1 hy
      exact (hS i (List.mem_range.1 hi)).2
    · rcases Nat.eq_zero_or_pos len with h0 | h0
      · exact .inl (by omega)
      · obtain ⟨_, _, hc0⟩ := World.cells?_some (hS 0 h0).1
        have c0 := hc0 0 hk0
        rw [Go.Deep.add_add, Nat.zero_mul, List.getElem?_eq_getElem (by rw [hk]; exact hk0)] at c0
        have ea := spot_none c0
        have hl0 := cellLt (a := a.add 0) c0
        refine .inr ⟨a.block, a.off, by rw [← ea], hl0, fun i hi j u hu => ?_⟩
        rw [hget i hi] at hu
        obtain ⟨_, _, hc⟩ := World.cells?_some (hS i (by omega)).1
        have hj : j < k := by
          have := (List.getElem?_eq_some_iff.1 hu).1
          rwa [hk] at this
        have := hc j hj
        rw [Go.Deep.add_add, ea, Zz.addr_add, ← Nat.add_assoc] at this
        exact this.trans hu
theorem trod_struct3 {H : Type} {enc : TypeId × Value → H} {P : Program} {w : World} {base : Nat} {spare : Nat → Bool} {held : Bool} {t : TypeId} {f0 f1 f2 : Field} {fuel : Nat} {cs : List Value} {x : DataW H × List MemPlace} (ht : P.underlying t = some (.struct #[f0, f1, f2])) (h : DataW.trod enc P w base spare held fuel t cs = some x) :
    ∃ y0 y1 y2 n, x.1 = .agg [y0.1, y1.1, y2.1] ∧ cs.length = P.cellsOf t ∧ DataW.trod enc P w base spare held n f0.type ((cs.drop f0.offset).take (P.cellsOf f0.type)) = some y0 ∧
      DataW.trod enc P w base spare held n f1.type ((cs.drop f1.offset).take (P.cellsOf f1.type)) = some y1 ∧ DataW.trod enc P w base spare held n f2.type ((cs.drop f2.offset).take (P.cellsOf f2.type)) = some y2 := by
  obtain ⟨xs, n, _, rfl, hl, hlen, hf⟩ := DataW.trod_struct ht h
  match xs, hlen with
  | [y0, y1, y2], _ => exact ⟨y0, y1, y2, n, by simp, hl, by simpa using hf 0 f0 rfl, by simpa using hf 1 f1 rfl, by simpa using hf 2 f2 rfl⟩
theorem trod_struct6 {H : Type} {enc : TypeId × Value → H} {P : Program} {w : World} {base : Nat} {spare : Nat → Bool} {held : Bool} {t : TypeId} {f0 f1 f2 f3 f4 f5 : Field} {fuel : Nat} {cs : List Value} {x : DataW H × List MemPlace} (ht : P.underlying t = some (.struct #[f0, f1, f2, f3, f4, f5])) (h : DataW.trod enc P w base spare held fuel t cs = some x) :
    ∃ y0 y1 y2 y3 y4 y5 n, x.1 = .agg [y0.1, y1.1, y2.1, y3.1, y4.1, y5.1] ∧ cs.length = P.cellsOf t ∧ DataW.trod enc P w base spare held n f0.type ((cs.drop f0.offset).take (P.cellsOf f0.type)) = some y0 ∧
      DataW.trod enc P w base spare held n f1.type ((cs.drop f1.offset).take (P.cellsOf f1.type)) = some y1 ∧ DataW.trod enc P w base spare held n f2.type ((cs.drop f2.offset).take (P.cellsOf f2.type)) = some y2 ∧ DataW.trod enc P w base spare held n f3.type ((cs.drop f3.offset).take (P.cellsOf f3.type)) = some y3 ∧
      DataW.trod enc P w base spare held n f4.type ((cs.drop f4.offset).take (P.cellsOf f4.type)) = some y4 ∧ DataW.trod enc P w base spare held n f5.type ((cs.drop f5.offset).take (P.cellsOf f5.type)) = some y5 := by
  obtain ⟨xs, n, _, rfl, hl, hlen, hf⟩ := DataW.trod_struct ht h
  match xs, hlen with
  | [y0, y1, y2, y3, y4, y5], _ => exact ⟨y0, y1, y2, y3, y4, y5, n, by simp, hl, by simpa using hf 0 f0 rfl, by simpa using hf 1 f1 rfl, by simpa using hf 2 f2 rfl, by simpa using hf 3 f3 rfl, by simpa using hf 4 f4 rfl, by simpa using hf 5 f5 rfl⟩
theorem i64_wf {n : Int} (h : (Lit.int .i64 n).wf = true) : i64B n := by
  have h' : (decide (IntKind.i64.min ≤ n) && decide (n ≤ IntKind.i64.max)) = true := h
  simp only [Bool.and_eq_true, decide_eq_true_eq] at h'
  exact ⟨h'.1, h'.2⟩
theorem bytes24 : 0 < Try.prog.bytesOf 24 := of_decide_eq_true (by kernel_rfl)
theorem bytes37 : 0 < Try.prog.bytesOf 37 := of_decide_eq_true (by kernel_rfl)
abbrev Et := Ty × Option Addr × Nat × Nat
/-- a row of types is a type's kids -/
theorem kids_at {w : World} {l : List Et} {a : Option Addr} {c : Nat} {k n : Int} (hk : i64B k) (hn : i64B n) (hl : l.length ≤ 140737488355328) (hp : ∀ y ∈ l, TyAt w y.2.2.2 y.1 y.2.1 y.2.2.1)
    (hc : l.length = 0 ∨ ∃ g off, a = some ⟨g, off, none⟩ ∧ g < w.heap.size ∧ ∀ i (hi : i < l.length) j u, (tyc l[i].1 l[i].2.1 l[i].2.2.1)[j]? = some u → w.cell? ⟨g, off + i * 3 + j, none⟩ = some u) : TyAt w ((l.map (·.2.2.2)).sum + 1) ⟨k, n, l.map (·.1)⟩ a c := by
  have hll : (l.map (·.1)).length = l.length := List.length_map _
  refine ⟨hk, hn, by rw [hll]; exact hl, ?_⟩
  rcases hc with h0 | ⟨g, off, ha, hg, hc⟩
  · exact .inl (by rw [hll]; exact h0)
  · refine .inr ⟨g, off, ha, hg, fun j hj => ?_⟩
    have hj' : j < l.length := by rw [hll] at hj; exact hj
    have e : (l.map (·.1))[j] = l[j].1 := List.getElem_map _
    dsimp only
    rw [e]
    refine ⟨l[j].2.1, l[j].2.2.1, hc j hj' 0 _ rfl, hc j hj' 1 _ rfl, hc j hj' 2 _ rfl, ?_⟩
    have hm := List.getElem_mem hj'
    exact ((hp _ hm).within.upto (le_sum (List.mem_map.2 ⟨_, hm, rfl⟩))).at
theorem k3 : Try.prog.cellsOf 3 = 1 := by kernel_rfl
theorem k22 : Try.prog.cellsOf 22 = 1 := by kernel_rfl
theorem k24 : Try.prog.cellsOf 24 = 3 := by kernel_rfl
theorem k35 : Try.prog.cellsOf 35 = 1 := by kernel_rfl
theorem k37 : Try.prog.cellsOf 37 = 8 := by kernel_rfl
theorem open_ty {H : Type} {enc : TypeId × Value → H} {w : World} {spare : Nat → Bool} {held : Bool} : ∀ (s fuel : Nat) (cs : List Value) (x : DataW H × List MemPlace), SizeOf.sizeOf x.1 < s → DataW.trod enc Try.prog w 0 spare held fuel 24 cs = some x → cs.length = 3 → (∀ m ∈ x.1.weights Try.prog 24, m ≤ reachBytes) → ∃ y : Et, cs = tyc y.1 y.2.1 y.2.2.1 ∧ TyAt w y.2.2.2 y.1 y.2.1 y.2.2.1 := by
  intro s
  induction s with
  | zero => intro fuel cs x h; omega
  | succ s ih =>
    intro fuel cs x hs h hl hb
    match cs, hl with
    | [c0, c1, c2], _ =>
      obtain ⟨y0, y1, y2, n, hx, _, h0, h1, h2⟩ := trod_struct3 Try.underlying24 h
      dsimp only at h0 h1 h2 hx
      rw [k3] at h0 h1
      rw [k22] at h2
      change DataW.trod enc Try.prog w 0 spare held n 3 [c0] = some y0 at h0
      change DataW.trod enc Try.prog w 0 spare held n 3 [c1] = some y1 at h1
      change DataW.trod enc Try.prog w 0 spare held n 22 [c2] = some y2 at h2
      rw [hx] at hb hs
      simp only [DataW.weights, Try.underlying24, List.map_cons, DataW.weightsEach, List.mem_append] at hb
      obtain ⟨q0, e0, _, w0⟩ := DataW.trod_int Try.underlying3 h0
      obtain ⟨q1, e1, _, w1⟩ := DataW.trod_int Try.underlying3 h1
      have hs2 : SizeOf.sizeOf y2.1 ≤ s := by
        simp only [DataW.agg.sizeOf_spec, List.cons.sizeOf_spec, List.nil.sizeOf_spec] at hs
        omega
      obtain ⟨l, a, c, hv, hroom, hn, hp, hc⟩ := open_rows (⟨⟨0, 0, []⟩, none, 0, 0⟩ : Et) (fun y => tyc y.1 y.2.1 y.2.2.1) 3 (fun _ => rfl) (by omega) Try.underlying22 k24 (fun y => TyAt w y.2.2.2 y.1 y.2.1 y.2.2.1) s (fun n cs x hx => ih n cs x hx) hs2 h2 (fun n hn => hb n (by simp [hn]))
      have hr := reachBytes_lt
      have hle := Nat.le_mul_of_pos_right l.length bytes24
      clear hroom
      simp only [List.cons.injEq, and_true] at e0 e1
      subst e0 e1 hv
      refine ⟨⟨⟨q0, q1, l.map (·.1)⟩, a, c, _⟩, ?_, kids_at (i64_wf w0) (i64_wf w1) (by omega) hp hc⟩
      simp [tyc]
theorem open_tys {H : Type} {enc : TypeId × Value → H} {w : World} {spare : Nat → Bool} {held : Bool} {fuel : Nat} {v : Value} {x : DataW H × List MemPlace} (h : DataW.trod enc Try.prog w 0 spare held fuel 22 [v] = some x) (hb : ∀ n ∈ x.1.weights Try.prog 22, n ≤ reachBytes) : ∃ (l : List Ty) (a : Option Addr) (c d : Nat), v = .slice a l.length c ∧ l.length ≤ c ∧ TyAt w (d + 1) ⟨0, 0, l⟩ a c := by
  obtain ⟨l, a, c, hv, hroom, hn, hp, hc⟩ := open_rows (⟨⟨0, 0, []⟩, none, 0, 0⟩ : Et) (fun y => tyc y.1 y.2.1 y.2.2.1) 3 (fun _ => rfl) (by omega) Try.underlying22 k24 (fun y => TyAt w y.2.2.2 y.1 y.2.1 y.2.2.1) _ (fun n cs x hx => open_ty _ n cs x hx) (Nat.le_refl _) h hb
  have hr := reachBytes_lt
  have hle := Nat.le_mul_of_pos_right l.length bytes24
  refine ⟨l.map (·.1), a, c, (l.map (·.2.2.2)).sum, by rw [List.length_map]; exact hv, by rw [List.length_map]; exact hroom, ?_⟩
  exact kids_at (k := 0) (n := 0) (by unfold i64B; omega) (by unfold i64B; omega) (by omega) hp hc
theorem ty_free {w : World} {d : Nat} {t : Ty} {a : Option Addr} {c : Nat} (h : TyAt w d t a c) : TyP (fun _ => True) w d t a c := h.within.keep (Nat.le_refl _) (fun _ _ _ => ⟨trivial, rfl⟩)
/-- more depth of the parts does no harm -/
theorem pf_deep {P : Nat → Prop} {w : World} {d d' : Nat} (hd : d ≤ d') : ∀ {e : Nat} {p : Pf} {x : Pl}, PfAt P w d e p x → PfAt P w d' e p x := by
  intro e
  induction e with
  | zero => intro p x h; exact h.elim
  | succ e ih =>
    intro p x h
    obtain ⟨h1, h2, h3, h4, h5, h6, h⟩ := h
    refine ⟨h1, h2, h3, ⟨h4.1.upto (by omega), h4.2⟩, h5.upto hd, h6, ?_⟩
    rcases h with h | ⟨g, off, ha, hg, hP, h⟩
    · exact .inl h
    · refine .inr ⟨g, off, ha, hg, hP, fun j hj => ?_⟩
      obtain ⟨y, hc, hp⟩ := h j hj
      exact ⟨y, hc, ih hp⟩
structure Ep where
  p : Pf
  x : Pl
  d : Nat
  e : Nat
def OkP (w : World) (y : Ep) : Prop := PfAt (fun _ => True) w y.d y.e y.p y.x
theorem open_pf {H : Type} {enc : TypeId × Value → H} {w : World} {spare : Nat → Bool} {held : Bool} : ∀ (s fuel : Nat) (cs : List Value) (x : DataW H × List MemPlace), SizeOf.sizeOf x.1 < s → DataW.trod enc Try.prog w 0 spare held fuel 37 cs = some x → cs.length = 8 → (∀ m ∈ x.1.weights Try.prog 37, m ≤ reachBytes) → ∃ y : Ep, cs = pfc y.p y.x ∧ OkP w y := by
  intro s
  induction s with
  | zero => intro fuel cs x h; omega
  | succ s ih =>
    intro fuel cs x hs h hl hb
    match cs, hl with
    | [c0, c1, c2, c3, c4, c5, c6, c7], _ =>
      obtain ⟨y0, y1, y2, y3, y4, y5, n, hx, _, h0, h1, h2, h3, h4, h5⟩ := trod_struct6 Try.underlying37 h
      dsimp only at h0 h1 h2 h3 h4 h5 hx
      rw [k3] at h0 h3 h4
      rw [k22] at h1
      rw [k24] at h2
      rw [k35] at h5
      change DataW.trod enc Try.prog w 0 spare held n 3 [c0] = some y0 at h0
      change DataW.trod enc Try.prog w 0 spare held n 22 [c1] = some y1 at h1
      change DataW.trod enc Try.prog w 0 spare held n 24 [c2, c3, c4] = some y2 at h2
      change DataW.trod enc Try.prog w 0 spare held n 3 [c5] = some y3 at h3
      change DataW.trod enc Try.prog w 0 spare held n 3 [c6] = some y4 at h4
      change DataW.trod enc Try.prog w 0 spare held n 35 [c7] = some y5 at h5
      rw [hx] at hb hs
      simp only [DataW.weights, Try.underlying37, List.map_cons, DataW.weightsEach, List.mem_append] at hb
      obtain ⟨q0, e0, _, w0⟩ := DataW.trod_int Try.underlying3 h0
      obtain ⟨q3, e3, _, w3⟩ := DataW.trod_int Try.underlying3 h3
      obtain ⟨q4, e4, _, w4⟩ := DataW.trod_int Try.underlying3 h4
      obtain ⟨left, la, lc, ld, el, hroomL, hL⟩ := open_tys (x := y1) h1 (fun n hn => hb n (by simp [hn]))
      obtain ⟨⟨ty, ab, cb, db⟩, e2, hty⟩ := open_ty _ n _ y2 (Nat.lt_succ_self _) h2 rfl (fun n hn => hb n (by simp [hn]))
      have hs2 : SizeOf.sizeOf y5.1 ≤ s := by
        simp only [DataW.agg.sizeOf_spec, List.cons.sizeOf_spec, List.nil.sizeOf_spec] at hs
        omega
      obtain ⟨l, a, c, hv, hroom, hn, hp, hc⟩ := open_rows (⟨⟨0, [], ⟨0, 0, []⟩, 0, 0, []⟩, ⟨none, 0, none, 0, none, 0⟩, 0, 0⟩ : Ep) (fun y => pfc y.p y.x) 8 (fun _ => rfl) (by omega) Try.underlying35 k37 (OkP w) s (fun n cs x hx => ih n cs x hx) hs2 h5 (fun n hn => hb n (by simp [hn]))
      have hr := reachBytes_lt
      have hle := Nat.le_mul_of_pos_right l.length bytes37
      clear hroom
      simp only [List.cons.injEq, and_true] at e0 e3 e4
      simp only [tyc, List.cons.injEq, and_true] at e2
      obtain ⟨e2, e5, e6⟩ := e2
      subst e0 e3 e4 e2 e5 e6 hv el
      have hll : (l.map (·.p)).length = l.length := List.length_map _
      refine ⟨⟨⟨q0, left, ty, q3, q4, l.map (·.p)⟩, ⟨la, lc, ab, cb, a, c⟩, ld + db + (l.map (·.d)).sum, (l.map (·.e)).sum + 1⟩, by simp [pfc], i64_wf w0, i64_wf w3, i64_wf w4, ⟨(ty_free hL).upto (by dsimp only; omega), hroomL⟩, (ty_free hty).upto (by dsimp only; omega), by rw [hll]; omega, ?_⟩
      rcases hc with h0 | ⟨g, off, ha, hg, hc⟩
      · exact .inl (by rw [hll]; exact h0)
      · refine .inr ⟨g, off, ha, hg, trivial, fun j hj => ?_⟩
        have hj' : j < l.length := by rw [hll] at hj; exact hj
        have e : (l.map (·.p))[j] = l[j].p := List.getElem_map _
        dsimp only
        rw [e]
        have hm := List.getElem_mem hj'
        have hd := le_sum (List.mem_map.2 ⟨_, hm, rfl⟩ : l[j].d ∈ l.map (·.d))
        exact ⟨l[j].x, ⟨hc j hj' 0 _ rfl, hc j hj' 1 _ rfl, hc j hj' 2 _ rfl, hc j hj' 3 _ rfl, hc j hj' 4 _ rfl, hc j hj' 5 _ rfl, hc j hj' 6 _ rfl, hc j hj' 7 _ rfl⟩, (pf_deep (by omega) (hp _ hm)).upto (le_sum (List.mem_map.2 ⟨_, hm, rfl⟩))⟩
theorem array8 {α : Type} {cs : Array α} (h : cs.size = 8) : ∃ c0 c1 c2 c3 c4 c5 c6 c7, cs = #[c0, c1, c2, c3, c4, c5, c6, c7] := by
  obtain ⟨l⟩ := cs
  match l, h with
  | [c0, c1, c2, c3, c4, c5, c6, c7], _ => exact ⟨c0, c1, c2, c3, c4, c5, c6, c7, rfl⟩
theorem array3 {α : Type} {cs : Array α} (h : cs.size = 3) : ∃ c0 c1 c2, cs = #[c0, c1, c2] := by
  obtain ⟨l⟩ := cs
  match l, h with
  | [c0, c1, c2], _ => exact ⟨c0, c1, c2, rfl⟩
set_option maxRecDepth 100000 in
/-- a proof that comes in by value -/
theorem open_proof {H : Type} {enc : TypeId × Value → H} {w : World} {r : Reach} {b0 : Nat} {spare : Nat → Bool} {held : Bool} {v : Value} {d : DataW H} {p : List MemPlace} (hv : Value.okWide Try.prog w r b0 37 v) (h : DataW.Trod enc Try.prog w 0 spare held 37 v d p) (hk : ∀ n ∈ d.weights Try.prog 37, n ≤ reachBytes) :
    ∃ y : Ep, v = vpf y.p y.x ∧ OkP w y := by
  obtain ⟨cs, rfl, hsz⟩ := okWide_struct Try.underlying37 hv
  obtain ⟨c0, c1, c2, c3, c4, c5, c6, c7, rfl⟩ := array8 (hsz.trans (by kernel_rfl))
  obtain ⟨fuel, hf⟩ := h
  obtain ⟨y, hc, hy⟩ := open_pf _ fuel _ (d, p) (Nat.lt_succ_self _) hf rfl hk
  refine ⟨y, ?_, hy⟩
  have hc' : [c0, c1, c2, c3, c4, c5, c6, c7] = pfc y.p y.x := hc
  simp only [pfc, List.cons.injEq, and_true] at hc'
  obtain ⟨rfl, rfl, rfl, rfl, rfl, rfl, rfl, rfl⟩ := hc'
  rfl
set_option maxRecDepth 100000 in
/-- a part that comes in by value -/
theorem open_part {H : Type} {enc : TypeId × Value → H} {w : World} {r : Reach} {b0 : Nat} {spare : Nat → Bool} {held : Bool} {v : Value} {d : DataW H} {p : List MemPlace} (hv : Value.okWide Try.prog w r b0 24 v) (h : DataW.Trod enc Try.prog w 0 spare held 24 v d p) (hk : ∀ n ∈ d.weights Try.prog 24, n ≤ reachBytes) :
    ∃ (t : Ty) (a : Option Addr) (c e : Nat), v = vty t a c ∧ TyAt w e t a c := by
  obtain ⟨cs, rfl, hsz⟩ := okWide_struct Try.underlying24 hv
  obtain ⟨c0, c1, c2, rfl⟩ := array3 (hsz.trans (by kernel_rfl))
  obtain ⟨fuel, hf⟩ := h
  obtain ⟨⟨t, a, c, e⟩, hc, hy⟩ := open_ty _ fuel _ (d, p) (Nat.lt_succ_self _) hf rfl hk
  refine ⟨t, a, c, e, ?_, hy⟩
  have hc' : [c0, c1, c2] = tyc t a c := hc
  simp only [tyc, List.cons.injEq, and_true] at hc'
  obtain ⟨rfl, rfl, rfl⟩ := hc'
  rfl
set_option maxRecDepth 100000 in
theorem one_cell {W : World} {base : Nat} {v : Value} (h : Value.okWide Try.prog W .any base 22 v) : v.cells.toList = [v] := by
  obtain ⟨a, l, c, hv⟩ := okWide_slice Try.underlying22 h
  rw [hv]
  rfl
end Go.Proofs.Ytbmgkgoghgdbhaa.Opw
