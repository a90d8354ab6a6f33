/- The queue's entries in plain words: what is moved about stays what it was but for its order. No conditions. -/
import Derived.Test.YtfjocafepigijaaDoorWk4M
import Derived.Deep.LoopGhost
import Derived.Deep.QuietTactic
import Derived.BigQuiet
import Derived.Deep.MidRow
namespace Go.Proofs.YtfjocafepigijaaDoor.Qp
open Go.RowKit Mv

theorem fcs_set (l : List (Int × Int)) (k : Nat) (a b : Int) : ((fcs l).set (k * 2) (.int .i64 a)).set (k * 2 + 1) (.int .i64 b) = fcs (l.set k (a, b)) := by
  induction l generalizing k with
  | nil => simp [fcs]
  | cons x l ih =>
    cases k with
    | zero => simp [fcs, fc]
    | succ k =>
      have e : (k + 1) * 2 = k * 2 + 1 + 1 := by omega
      have := ih k
      rw [e]
      have e2 : ∀ m : List (Int × Int), fcs (x :: m) = .int .i64 x.1 :: .int .i64 x.2 :: fcs m := fun m => rfl
      simp only [e2, List.set_cons_succ, ← this]

/-- a thing moved from one place to another, and another one laid where it was -/
theorem set_swap (l : List (Int × Int)) (i j : Nat) (e : Int × Int) (hi : i < l.length) (hj : j < l.length) (hne : i ≠ j) : ((l.set i l[j]).set j e).Perm (l.set i e) := by
  rw [List.perm_iff_count]
  intro b
  have h1 : (l.set i l[j]).count b = l.count b - (if l[i] == b then 1 else 0) + (if l[j] == b then 1 else 0) := by rw [List.count_set hi]
  have h2 : (l.set i e).count b = l.count b - (if l[i] == b then 1 else 0) + (if e == b then 1 else 0) := by rw [List.count_set hi]
  have hj' : j < (l.set i l[j]).length := by simpa using hj
  have h3 : ((l.set i l[j]).set j e).count b = (l.set i l[j]).count b - (if (l.set i l[j])[j] == b then 1 else 0) + (if e == b then 1 else 0) := by rw [List.count_set hj']
  have h4 : (l.set i l[j])[j] = l[j] := List.getElem_set_ne hne _
  rw [h3, h4, h1, h2]
  have hp : (if l[i] == b then 1 else 0) ≤ l.count b := by
    split
    · rename_i h
      have : b = l[i] := by simpa using (beq_iff_eq.1 h).symm
      exact List.count_pos_iff.2 (this ▸ List.getElem_mem hi)
    · omega
  generalize (if l[i] == b then 1 else 0) = x at *
  generalize (if l[j] == b then 1 else 0) = y at *
  generalize (if e == b then 1 else 0) = z at *
  omega
theorem wrap_idx {k n : Nat} (h : k < n) (hn : n ≤ 1000000000000) : ∃ m2 k1 k2 : Nat, k1 = 2 * k + 1 ∧ k2 = 2 * k + 2 ∧ wrap64 (2 * (k : Int)) = (m2 : Int) ∧ wrap64 ((m2 : Int) + 1) = (k1 : Int) ∧ wrap64 ((k1 : Int) + 1) = (k2 : Int) ∧ IntKind.i64.wrap ((k1 : Int) + 1) = (k2 : Int) := by
  refine ⟨2 * k, 2 * k + 1, 2 * k + 2, rfl, rfl, ?_, ?_, ?_, ?_⟩
  · unfold wrap64; omega
  · unfold wrap64; omega
  · unfold wrap64; omega
  · rw [IntKind.wrap_i64]; omega
end Go.Proofs.YtfjocafepigijaaDoor.Qp
/- The program's sink: the entries stay, but for the first one, which makes room for another one. Condition: there is one. -/
namespace Go.Proofs.YtfjocafepigijaaDoor.Sk
open Go.RowKit Mv Qp

/-- an entry laid at a place of a row -/
theorem put2 {w : World} {base g cap n : Nat} {p : List (Int × Int)} (h : w.ownsRow base 192 2 (.slice (some ⟨g, 0, none⟩) n cap) n (fcs p)) (k : Nat) (a b : Int) (d : Nat) :
    (((w.drewN d).setCell ⟨g, k * 2, none⟩ (.int .i64 a)).setCell ⟨g, k * 2 + 1, none⟩ (.int .i64 b)).ownsRow base 192 2 (.slice (some ⟨g, 0, none⟩) n cap) n (fcs (p.set k (a, b))) ∧ w.grownBy (((w.drewN d).setCell ⟨g, k * 2, none⟩ (.int .i64 a)).setCell ⟨g, k * 2 + 1, none⟩ (.int .i64 b)) (some g) := by
  have h0 : (w.drewN d).ownsRow base 192 2 (.slice (some ⟨g, 0, none⟩) n cap) n (fcs p) := h
  have h1 := h0.stored (k * 2) (.int .i64 a)
  have h2 := h1.1.stored (k * 2 + 1) (.int .i64 b)
  rw [fcs_set] at h2
  have g0 : w.grownBy (w.drewN d) (some g) := ⟨rfl, rfl, rfl, Nat.le_refl _, fun _ _ _ => rfl⟩
  exact ⟨h2.1, (g0.trans h1.2).trans h2.2⟩
theorem moved {w0 w : World} {base g cap n k kk : Nat} {p z : List (Int × Int)} {c s a b : Int} (hown : w.ownsRow base 192 2 (.slice (some ⟨g, 0, none⟩) n cap) n (fcs p)) (hgr : w0.grownBy w (some g)) (hperm : (p.set k (c, s)).Perm z) (hpl : p.length = n) (hk : k < n) (hkk : kk < n) (hne : k ≠ kk) (hv : p[kk]? = some (a, b)) (d : Nat) :
    ∃ (k' : Nat) (p' : List (Int × Int)), Value.int .i64 (kk : Int) = .int .i64 (k' : Int) ∧ k' < n ∧ p'.length = n ∧ (p'.set k' (c, s)).Perm z ∧ (((w.drewN d).setCell ⟨g, k * 2, none⟩ (.int .i64 a)).setCell ⟨g, k * 2 + 1, none⟩ (.int .i64 b)).ownsRow base 192 2 (.slice (some ⟨g, 0, none⟩) n cap) n (fcs p') ∧ w0.grownBy (((w.drewN d).setCell ⟨g, k * 2, none⟩ (.int .i64 a)).setCell ⟨g, k * 2 + 1, none⟩ (.int .i64 b)) (some g) := by
  have h := put2 hown k a b d
  have e : p[kk]'(by omega) = (a, b) := (List.getElem?_eq_some_iff.1 hv).2
  refine ⟨kk, p.set k (a, b), rfl, hkk, by simpa using hpl, ?_, h.1, hgr.trans h.2⟩
  rw [← e]
  exact (set_swap p k kk (c, s) (by omega) (by omega) hne).trans hperm
theorem box_cell {w0 w : World} {g t : Nat} {x y : Value} (hg : g < w0.heap.size) (h : (w0.alloc (.cells #[x, y] t)).grownBy w (some g)) : w.cell? ⟨w0.heap.size, 0, none⟩ = some x ∧ w.cell? ⟨w0.heap.size, 1, none⟩ = some y := by
  have hb := h.block w0.heap.size (by simp) (by simp; omega)
  constructor
  · rw [World.cell?_of_block (w := w0.alloc (.cells #[x, y] t)) hb]; simp
  · rw [World.cell?_of_block (w := w0.alloc (.cells #[x, y] t)) hb]; simp

set_option maxHeartbeats 2000000 in
set_option maxRecDepth 100000 in
theorem sink_any (base g cap : Nat) (q : List (Int × Int)) (c s : Int) (w : World) (hown : w.ownsRow base 192 2 (.slice (some ⟨g, 0, none⟩) q.length cap) q.length (fcs q)) (hq : 0 < q.length) (hb : q.length ≤ 1000000000000) :
    Calls Tryd.prog 102 #[.slice (some ⟨g, 0, none⟩) q.length cap, .agg #[.int .i64 c, .int .i64 s]] w fun e w' => e = .returned (.tuple #[]) ∧ ∃ q', q'.Perm (q.set 0 (c, s)) ∧ w'.ownsRow base 192 2 (.slice (some ⟨g, 0, none⟩) q.length cap) q.length (fcs q') ∧ w.grownBy w' (some g) := by
  have hg := (hown.lt g rfl).2
  go_enter Tryd.func102, Tryd.ntmps102
  go_wp2
  go_loopw [4] (fun a wr => ∃ (k : Nat) (p : List (Int × Int)), a = .int .i64 k ∧ k < q.length ∧ p.length = q.length ∧ (p.set k (c, s)).Perm (q.set 0 (c, s)) ∧ wr.ownsRow base 192 2 (.slice (some ⟨g, 0, none⟩) q.length cap) q.length (fcs p) ∧ (w.alloc (.cells #[.int .i64 c, .int .i64 s] 192)).grownBy wr (some g)) (fun a _ => q.length - (intOf a).toNat)
  case atStart => exact ⟨0, q, rfl, hq, rfl, List.Perm.refl _, hown.alloc _, ⟨rfl, rfl, rfl, Nat.le_refl _, fun _ _ _ => rfl⟩⟩
  case round =>
    clear hown
    obtain ⟨k, p, rfl, hk, hpl, hperm, hown, hgr⟩ := hrel
    have y := box_cell hg hgr
    have y0 := y.1
    have y1 := y.2
    clear y
    obtain ⟨m2, k1, k2, e1, e2, a1, a2, a3, a4⟩ := wrap_idx hk hb
    have HE : Hid (k1 = 2 * k + 1 ∧ k2 = 2 * k + 2) := ⟨e1, e2⟩
    clear e1 e2
    have HP : Hid _ := hperm
    have HB : Hid (q.length ≤ 1000000000000) := hb
    clear hperm hb
    have f0 := hown.frozenAt (k * 2)
    have f1 := hown.frozenAt (k * 2 + 1)
    obtain ⟨z0, c0⟩ : ∃ z, wr.cell? ⟨g, k * 2, none⟩ = some z := ⟨_, by rw [hown.cellAt _ (by omega)]; exact (fcs_at p k (by omega)).1⟩
    obtain ⟨z1, c1⟩ : ∃ z, wr.cell? ⟨g, k * 2 + 1, none⟩ = some z := ⟨_, by rw [hown.cellAt _ (by omega)]; exact (fcs_at p k (by omega)).2⟩
    by_cases h2 : k2 < q.length
    · have h1 : k1 < q.length := by have := HE.out; omega
      obtain ⟨⟨v2, s2⟩, ek2⟩ : ∃ v, p[k2]? = some v := ⟨_, List.getElem?_eq_getElem (by omega)⟩
      have ck2a : wr.cell? ⟨g, k2 * 2, none⟩ = some (.int .i64 v2) := by rw [hown.cellAt _ (by omega), (fcs_at p k2 (by omega)).1, (List.getElem?_eq_some_iff.1 ek2).2]
      have ck2b : wr.cell? ⟨g, k2 * 2 + 1, none⟩ = some (.int .i64 s2) := by rw [hown.cellAt _ (by omega), (fcs_at p k2 (by omega)).2, (List.getElem?_eq_some_iff.1 ek2).2]
      have Hk2 : Hid (p[k2]? = some (v2, s2)) := ek2
      clear ek2
      obtain ⟨⟨v1, s1⟩, ek1⟩ : ∃ v, p[k1]? = some v := ⟨_, List.getElem?_eq_getElem (by omega)⟩
      have ck1a : wr.cell? ⟨g, k1 * 2, none⟩ = some (.int .i64 v1) := by rw [hown.cellAt _ (by omega), (fcs_at p k1 (by omega)).1, (List.getElem?_eq_some_iff.1 ek1).2]
      have ck1b : wr.cell? ⟨g, k1 * 2 + 1, none⟩ = some (.int .i64 s1) := by rw [hown.cellAt _ (by omega), (fcs_at p k1 (by omega)).2, (List.getElem?_eq_some_iff.1 ek1).2]
      have Hk1 : Hid (p[k1]? = some (v1, s1)) := ek1
      clear ek1
      by_cases hlt : v2 < v1
      · skip
        by_cases hge : v2 ≥ c
        · have hge1 : c ≤ v2 := hge
          go_wp2
          repeat (go_quiet (fail); go_wp2)
          go_end0
          exact ⟨rfl, p.set k (c, s), HP.out, (put2 hown k c s _).1, (World.grownBy_alloc w _ _).trans (hgr.trans (put2 hown k c s _).2)⟩
        · have hge2 : v2 < c := Int.not_le.1 hge
          go_wp2
          repeat (go_quiet (fail); go_wp2)
          exact ⟨moved hown hgr HP.out hpl hk h2 (by have := HE.out; omega) Hk2.out _, by have := HE.out; simp [intOf]; omega⟩
      · skip
        by_cases hge : v1 ≥ c
        · have hge1 : c ≤ v1 := hge
          go_wp2
          repeat (go_quiet (fail); go_wp2)
          go_end0
          exact ⟨rfl, p.set k (c, s), HP.out, (put2 hown k c s _).1, (World.grownBy_alloc w _ _).trans (hgr.trans (put2 hown k c s _).2)⟩
        · have hge2 : v1 < c := Int.not_le.1 hge
          go_wp2
          repeat (go_quiet (fail); go_wp2)
          exact ⟨moved hown hgr HP.out hpl hk h1 (by have := HE.out; omega) Hk1.out _, by have := HE.out; simp [intOf]; omega⟩
    · by_cases h1 : k1 < q.length
      · skip
        obtain ⟨⟨v1, s1⟩, ek1⟩ : ∃ v, p[k1]? = some v := ⟨_, List.getElem?_eq_getElem (by omega)⟩
        have ck1a : wr.cell? ⟨g, k1 * 2, none⟩ = some (.int .i64 v1) := by rw [hown.cellAt _ (by omega), (fcs_at p k1 (by omega)).1, (List.getElem?_eq_some_iff.1 ek1).2]
        have ck1b : wr.cell? ⟨g, k1 * 2 + 1, none⟩ = some (.int .i64 s1) := by rw [hown.cellAt _ (by omega), (fcs_at p k1 (by omega)).2, (List.getElem?_eq_some_iff.1 ek1).2]
        have Hk1 : Hid (p[k1]? = some (v1, s1)) := ek1
        clear ek1
        by_cases hge : v1 ≥ c
        · have hge1 : c ≤ v1 := hge
          go_wp2
          repeat (go_quiet (fail); go_wp2)
          go_end0
          exact ⟨rfl, p.set k (c, s), HP.out, (put2 hown k c s _).1, (World.grownBy_alloc w _ _).trans (hgr.trans (put2 hown k c s _).2)⟩
        · have hge2 : v1 < c := Int.not_le.1 hge
          go_wp2
          repeat (go_quiet (fail); go_wp2)
          exact ⟨moved hown hgr HP.out hpl hk h1 (by have := HE.out; omega) Hk1.out _, by have := HE.out; simp [intOf]; omega⟩
      · skip
        go_wp2
        repeat (go_quiet (fail); go_wp2)
        go_end0
        exact ⟨rfl, p.set k (c, s), HP.out, (put2 hown k c s _).1, (World.grownBy_alloc w _ _).trans (hgr.trans (put2 hown k c s _).2)⟩
end Go.Proofs.YtfjocafepigijaaDoor.Sk
/- The program's pop: the first entry is handed back; the others stay. Condition: there is one. -/
namespace Go.Proofs.YtfjocafepigijaaDoor.Po
open Go.RowKit Mv Qp Sk

/-- the field's block -/
def IsF (w : World) (F : Nat) (a0 a1 a2 v : Value) : Prop := w.heap[F]? = some (.cells #[a0, a1, a2, v] 167 (0, 0))
theorem IsF.lt {w : World} {F : Nat} {a0 a1 a2 v : Value} (h : IsF w F a0 a1 a2 v) : F < w.heap.size := (Array.getElem?_eq_some_iff.1 h).1
theorem IsF.cell {w : World} {F : Nat} {a0 a1 a2 v : Value} (h : IsF w F a0 a1 a2 v) (j : Nat) : w.cell? ⟨F, j, none⟩ = (#[a0, a1, a2, v])[j]? := cell_of_row w F j _ 167 (0, 0) h
theorem IsF.frozen {w : World} {F : Nat} {a0 a1 a2 v : Value} (h : IsF w F a0 a1 a2 v) (j : Nat) : w.frozen? ⟨F, j, none⟩ = false := frozen_of_row w F j _ 167 h
theorem IsF.store {w : World} {F : Nat} {a0 a1 a2 v : Value} (h : IsF w F a0 a1 a2 v) (v' : Value) : IsF (w.setCell ⟨F, 3, none⟩ v') F a0 a1 a2 v' := heap_setCell_same w F 3 _ 167 v' h

/-- nothing but these blocks has changed, of those that were there -/
structure Kp (X : Nat → Prop) (w w' : World) : Prop where
  os : w'.os = w.os
  tape : w'.tape = w.tape
  output : w'.output = w.output
  size : w.heap.size ≤ w'.heap.size
  block : ∀ k, k < w.heap.size → ¬ X k → w'.heap[k]? = w.heap[k]?

theorem Kp.refl (X : Nat → Prop) (w : World) : Kp X w w := ⟨rfl, rfl, rfl, Nat.le_refl _, fun _ _ _ => rfl⟩
theorem Kp.trans {X : Nat → Prop} {a b c : World} (h : Kp X a b) (k : Kp X b c) : Kp X a c :=
  ⟨k.os.trans h.os, k.tape.trans h.tape, k.output.trans h.output, Nat.le_trans h.size k.size, fun i hi hx => (k.block i (Nat.lt_of_lt_of_le hi h.size) hx).trans (h.block i hi hx)⟩
theorem Kp.mono {X Y : Nat → Prop} {a b : World} (h : Kp X a b) (hXY : ∀ k, k < a.heap.size → X k → Y k) : Kp Y a b :=
  ⟨h.os, h.tape, h.output, h.size, fun k hk hy => h.block k hk (fun hx => hy (hXY k hk hx))⟩
theorem Kp.alloc {X : Nat → Prop} {a w : World} (h : Kp X a w) (o : Obj) : Kp X a (w.alloc o) :=
  h.trans ⟨rfl, rfl, rfl, by simp, fun k hk _ => heap_alloc_old w o hk⟩
theorem Kp.drewN {X : Nat → Prop} {a w : World} (h : Kp X a w) (d : Nat) : Kp X a (w.drewN d) := ⟨h.os, h.tape, h.output, h.size, h.block⟩
theorem Kp.grown {X : Nat → Prop} {a w w' : World} {row : Option Nat} (h : Kp X a w) (hg : w.grownBy w' row) (hX : ∀ k, row = some k → k < a.heap.size → X k) : Kp X a w' :=
  ⟨hg.os.trans h.os, hg.tape.trans h.tape, hg.output.trans h.output, Nat.le_trans h.size hg.size, fun k hk hx => (hg.block k (Nat.lt_of_lt_of_le hk h.size) (fun e => hx (hX k e.symm hk))).trans (h.block k hk hx)⟩
theorem Kp.setCell {X : Nat → Prop} {a w : World} (h : Kp X a w) (b j : Nat) (u : Value) (hX : b < a.heap.size → X b) : Kp X a (w.setCell ⟨b, j, none⟩ u) := by
  refine ⟨h.os, h.tape, h.output, ?_, fun k hk hx => ?_⟩
  · have := h.size
    simp
    omega
  · rw [Below.heap_setCell _ _ _ _ (fun e => by subst e; exact hx (hX hk))]
    exact h.block k hk hx
theorem Kp.cell {X : Nat → Prop} {w w' : World} (h : Kp X w w') {b j : Nat} (hb : b < w.heap.size) (hx : ¬ X b) : w'.cell? ⟨b, j, none⟩ = w.cell? ⟨b, j, none⟩ := World.cell?_of_block (w := w) (h.block b hb hx)
theorem IsF.kept {w w' : World} {F : Nat} {a0 a1 a2 v : Value} (h : IsF w F a0 a1 a2 v) {X : Nat → Prop} (hk : Kp X w w') (hx : ¬ X F) : IsF w' F a0 a1 a2 v := (hk.block F h.lt hx).trans h
/-- a row with one element less -/
theorem shrunk {w : World} {base e g n cap : Nat} {p : List (Int × Int)} (h : w.ownsRow base e 2 (.slice (some ⟨g, 0, none⟩) (n + 1) cap) (n + 1) (fcs p)) : w.ownsRow base e 2 (.slice (some ⟨g, 0, none⟩) n cap) n (fcs (p.take n)) := by
  have hl : p.length = n + 1 := by have := h.1; rw [fcs_length] at this; omega
  rcases h.2 with ⟨h', _⟩ | ⟨g', cap', cur, hv, hb, hg, hnc, hcm, hcs, htake⟩
  · simp at h'
  · simp only [Value.slice.injEq, Option.some.injEq, Addr.mk.injEq, and_true, true_and] at hv
    obtain ⟨rfl, rfl⟩ := hv
    refine ⟨by rw [fcs_length, List.length_take, hl]; simp, .inr ⟨g, cap, cur, rfl, hb, hg, by omega, hcm, hcs, ?_⟩⟩
    have e1 : fcs (p.take n) = (fcs p).take (n * 2) := by
      clear hl h htake hg hcs hcm hnc hb
      induction p generalizing n with
      | nil => simp [fcs]
      | cons x p ih =>
        cases n with
        | zero => simp [fcs]
        | succ n =>
          have e2 : ∀ m : List (Int × Int), fcs (x :: m) = .int .i64 x.1 :: .int .i64 x.2 :: fcs m := fun m => rfl
          have e3 : (n + 1) * 2 = n * 2 + 1 + 1 := by omega
          rw [List.take_succ_cons, e2, e2, e3, List.take_succ_cons, List.take_succ_cons, ih]
    rw [e1, ← htake, List.take_take]
    congr 1
    omega
theorem popped {es : List (Int × Int)} {n : Nat} (hn : es.length = n + 1) (h0 : 0 < n) {q : List (Int × Int)} (hq : q.Perm ((es.take n).set 0 (es[n]'(by omega)))) : es.Perm (es[0]'(by omega) :: q) := by
  obtain ⟨x, r, rfl⟩ : ∃ x r, es = x :: r := by cases es with | nil => simp at hn | cons x r => exact ⟨x, r, rfl⟩
  obtain ⟨m, rfl⟩ : ∃ m, n = m + 1 := ⟨n - 1, by omega⟩
  simp only [List.length_cons, Nat.add_right_cancel_iff] at hn
  simp only [List.take_succ_cons, List.set_cons_zero, List.getElem_cons_succ, List.getElem_cons_zero] at hq ⊢
  refine List.Perm.cons x ?_
  refine List.Perm.trans ?_ hq.symm
  have e : r = r.take m ++ [r[m]'(by omega)] := by
    rw [List.take_append_getElem]
    rw [List.take_of_length_le (by omega)]
  conv => lhs; rw [e]
  exact List.perm_append_singleton _ _
theorem own_set {w : World} {base e size g n cap : Nat} {xs : List Value} {F : Nat} (h : w.ownsRow base e size (.slice (some ⟨g, 0, none⟩) n cap) n xs) (hne : F ≠ g) (j : Nat) (u : Value) : (w.setCell ⟨F, j, none⟩ u).ownsRow base e size (.slice (some ⟨g, 0, none⟩) n cap) n xs :=
  h.kept (row := some F) ⟨rfl, rfl, rfl, by simp, fun k _ hk => Below.heap_setCell _ _ _ _ (fun e => hk (by rw [e]))⟩ (.inr (by simpa [Value.ownBlock] using fun e => hne e.symm))
theorem size69 : (Tryd.prog.info? 192).map (·.size) = some 2 := by kernel_rfl
theorem load_entry {w : World} {g : Nat} {a b : Int} (h0 : w.cell? ⟨g, 0, none⟩ = some (.int .i64 a)) (h1 : w.cell? ⟨g, 1, none⟩ = some (.int .i64 b)) : (loadVar 192 ⟨g, 0, none⟩).run Tryd.prog w = .ok (.agg #[.int .i64 a, .int .i64 b]) w := by
  have := run_loadVar_mid (P := Tryd.prog) w g 0 192 [.int .i64 a, .int .i64 b] _ (by
    intro j v hj
    match j, hj with
    | 0, hj => simp at hj; subst hj; exact h0
    | 1, hj => simp at hj; subst hj; exact h1
    | j + 2, hj => simp at hj) Tryd.underlying192 rfl size69
  exact this
theorem results_entry {fn : Func} {p : Tmp} (h : fn.results = #[.cell p 192]) {tmps : Array Value} {g : Nat} (hp : tmps.getD p undef = .pointer (some ⟨g, 0, none⟩)) {w : World} {a b : Int} (h0 : w.cell? ⟨g, 0, none⟩ = some (.int .i64 a)) (h1 : w.cell? ⟨g, 1, none⟩ = some (.int .i64 b)) : (results fn tmps).run Tryd.prog w = .ok (.agg #[.int .i64 a, .int .i64 b]) w := by
  have e : (results fn tmps).run Tryd.prog w = ((asAddr (tmps.getD p undef)).run Tryd.prog w).andThen fun a w₁ => (loadVar 192 a).run Tryd.prog w₁ := by
    simp only [results, h]
    simp [Sem.run_bind, Result.andThen]
  rw [e, hp]
  simp only [asAddr, Sem.run_pure, Result.andThen_ok]
  exact load_entry h0 h1
theorem three {w : World} {a b c : Obj} {F j : Nat} {v : Value} (hF : F < w.heap.size) : ((((w.alloc a).alloc b).alloc c).setCell ⟨F, j, none⟩ v).drew.heap[w.heap.size]? = some a ∧ ((((w.alloc a).alloc b).alloc c).setCell ⟨F, j, none⟩ v).drew.heap[w.heap.size + 1]? = some b ∧ ((((w.alloc a).alloc b).alloc c).setCell ⟨F, j, none⟩ v).drew.heap[w.heap.size + 1 + 1]? = some c := by
  have e : ∀ k, k ≠ F → ((((w.alloc a).alloc b).alloc c).setCell ⟨F, j, none⟩ v).drew.heap[k]? = (((w.alloc a).alloc b).alloc c).heap[k]? := fun k hk => Below.heap_setCell _ _ _ _ hk
  refine ⟨(e _ (by omega)).trans ?_, (e _ (by omega)).trans ?_, (e _ (by omega)).trans ?_⟩
  · rw [heap_alloc_old _ _ (by simp; omega), heap_alloc_old _ _ (by simp)]; exact heap_alloc_new _ _
  · rw [heap_alloc_old _ _ (by simp)]; simpa using heap_alloc_new (w.alloc a) b
  · simpa using heap_alloc_new ((w.alloc a).alloc b) c
theorem fieldF {w : World} {a b c : Obj} {F : Nat} {a0 a1 a2 v v' : Value} (h : IsF w F a0 a1 a2 v) : IsF ((((w.alloc a).alloc b).alloc c).setCell ⟨F, 3, none⟩ v').drew F a0 a1 a2 v' := by
  have h1 : IsF (((w.alloc a).alloc b).alloc c) F a0 a1 a2 v := h.kept ((((Kp.refl (fun _ => False) w).alloc a).alloc b).alloc c) (fun h => h)
  exact h1.store v'
theorem keptF {w : World} {a b c : Obj} {F g : Nat} {v : Value} : Kp (fun k => k = F ∨ k = g) w ((((w.alloc a).alloc b).alloc c).setCell ⟨F, 3, none⟩ v).drew := by
  have h1 := ((((Kp.refl (fun k => k = F ∨ k = g) w).alloc a).alloc b).alloc c).setCell F 3 v (fun _ => .inl rfl)
  exact ⟨h1.os, h1.tape, h1.output, h1.size, h1.block⟩
theorem popF {w W : World} {F g base n cap : Nat} {q : List (Int × Int)} {a0 a1 a2 v : Value} {x y : Int} (hA : W.heap[w.heap.size]? = some (.cells #[.int .i64 0, .int .i64 0] 192 (0, 0))) (hF : IsF W F a0 a1 a2 v) (hown : W.ownsRow base 192 2 (.slice (some ⟨g, 0, none⟩) n cap) n (fcs q)) (hK : Kp (fun k => k = F ∨ k = g) w W) (h1 : w.heap.size ≠ g) (h2 : F ≠ w.heap.size) :
    ((W.setCell ⟨w.heap.size, 0, none⟩ (.int .i64 x)).setCell ⟨w.heap.size, 1, none⟩ (.int .i64 y)).cell? ⟨w.heap.size, 0, none⟩ = some (.int .i64 x) ∧ ((W.setCell ⟨w.heap.size, 0, none⟩ (.int .i64 x)).setCell ⟨w.heap.size, 1, none⟩ (.int .i64 y)).cell? ⟨w.heap.size, 1, none⟩ = some (.int .i64 y) ∧
    IsF ((W.setCell ⟨w.heap.size, 0, none⟩ (.int .i64 x)).setCell ⟨w.heap.size, 1, none⟩ (.int .i64 y)) F a0 a1 a2 v ∧ ((W.setCell ⟨w.heap.size, 0, none⟩ (.int .i64 x)).setCell ⟨w.heap.size, 1, none⟩ (.int .i64 y)).ownsRow base 192 2 (.slice (some ⟨g, 0, none⟩) n cap) n (fcs q) ∧ Kp (fun k => k = F ∨ k = g) w ((W.setCell ⟨w.heap.size, 0, none⟩ (.int .i64 x)).setCell ⟨w.heap.size, 1, none⟩ (.int .i64 y)) := by
  have e1 := heap_setCell_same W w.heap.size 0 _ 192 (.int .i64 x) hA
  have e2 := heap_setCell_same _ w.heap.size 1 _ 192 (.int .i64 y) e1
  refine ⟨cell_of_row _ _ 0 _ 192 (0, 0) e2, cell_of_row _ _ 1 _ 192 (0, 0) e2, ?_, own_set (own_set hown h1 _ _) h1 _ _, (hK.setCell _ _ _ (fun h => absurd h (Nat.lt_irrefl _))).setCell _ _ _ (fun h => absurd h (Nat.lt_irrefl _))⟩
  show ((W.setCell ⟨w.heap.size, 0, none⟩ (.int .i64 x)).setCell ⟨w.heap.size, 1, none⟩ (.int .i64 y)).heap[F]? = _
  rw [Below.heap_setCell _ _ _ _ h2, Below.heap_setCell _ _ _ _ h2]
  exact hF
theorem popG {w : World} {b c : Obj} {F g base cap : Nat} {es : List (Int × Int)} {a0 a1 a2 v : Value} {x y : Int} (hF : IsF w F a0 a1 a2 v) (hown : w.ownsRow base 192 2 (.slice (some ⟨g, 0, none⟩) (0 + 1) cap) (0 + 1) (fcs es)) (hgF : F ≠ g) (h1 : w.heap.size ≠ g) (hfl : F < w.heap.size) :
    ((((((w.alloc (.cells #[.int .i64 0, .int .i64 0] 192)).alloc b).alloc c).setCell ⟨F, 3, none⟩ (.slice (some ⟨g, 0, none⟩) 0 cap)).setCell ⟨w.heap.size, 0, none⟩ (.int .i64 x)).setCell ⟨w.heap.size, 1, none⟩ (.int .i64 y)).drew.cell? ⟨w.heap.size, 0, none⟩ = some (.int .i64 x) ∧ ((((((w.alloc (.cells #[.int .i64 0, .int .i64 0] 192)).alloc b).alloc c).setCell ⟨F, 3, none⟩ (.slice (some ⟨g, 0, none⟩) 0 cap)).setCell ⟨w.heap.size, 0, none⟩ (.int .i64 x)).setCell ⟨w.heap.size, 1, none⟩ (.int .i64 y)).drew.cell? ⟨w.heap.size, 1, none⟩ = some (.int .i64 y) ∧ IsF ((((((w.alloc (.cells #[.int .i64 0, .int .i64 0] 192)).alloc b).alloc c).setCell ⟨F, 3, none⟩ (.slice (some ⟨g, 0, none⟩) 0 cap)).setCell ⟨w.heap.size, 0, none⟩ (.int .i64 x)).setCell ⟨w.heap.size, 1, none⟩ (.int .i64 y)).drew F a0 a1 a2 (.slice (some ⟨g, 0, none⟩) 0 cap) ∧ ((((((w.alloc (.cells #[.int .i64 0, .int .i64 0] 192)).alloc b).alloc c).setCell ⟨F, 3, none⟩ (.slice (some ⟨g, 0, none⟩) 0 cap)).setCell ⟨w.heap.size, 0, none⟩ (.int .i64 x)).setCell ⟨w.heap.size, 1, none⟩ (.int .i64 y)).drew.ownsRow base 192 2 (.slice (some ⟨g, 0, none⟩) 0 cap) 0 (fcs []) ∧ Kp (fun k => k = F ∨ k = g) w ((((((w.alloc (.cells #[.int .i64 0, .int .i64 0] 192)).alloc b).alloc c).setCell ⟨F, 3, none⟩ (.slice (some ⟨g, 0, none⟩) 0 cap)).setCell ⟨w.heap.size, 0, none⟩ (.int .i64 x)).setCell ⟨w.heap.size, 1, none⟩ (.int .i64 y)).drew :=
  popF (x := x) (y := y) (q := []) (W := ((((w.alloc (.cells #[.int .i64 0, .int .i64 0] 192)).alloc b).alloc c).setCell ⟨F, 3, none⟩ (.slice (some ⟨g, 0, none⟩) 0 cap)).drew) (three hfl).1 (fieldF hF) (own_set ((((shrunk hown).alloc _).alloc _).alloc _) hgF _ _).drew keptF h1 (Nat.ne_of_lt hfl)
theorem sink_n (base g cap n : Nat) (q : List (Int × Int)) (hn : q.length = n) (c s : Int) (w : World) (hown : w.ownsRow base 192 2 (.slice (some ⟨g, 0, none⟩) n cap) n (fcs q)) (hq : 0 < n) (hb : n ≤ 1000000000000) :
    Calls Tryd.prog 102 #[.slice (some ⟨g, 0, none⟩) n cap, .agg #[.int .i64 c, .int .i64 s]] w fun e w' => e = .returned (.tuple #[]) ∧ ∃ q', q'.Perm (q.set 0 (c, s)) ∧ w'.ownsRow base 192 2 (.slice (some ⟨g, 0, none⟩) n cap) n (fcs q') ∧ w.grownBy w' (some g) := by
  subst hn
  exact sink_any base g cap q c s w hown hq hb

set_option maxHeartbeats 2000000 in
set_option maxRecDepth 100000 in
theorem pop_one (F g cap base : Nat) (a0 a1 a2 : Value) (es : List (Int × Int)) (w : World) (hF : IsF w F a0 a1 a2 (.slice (some ⟨g, 0, none⟩) es.length cap)) (hown : w.ownsRow base 192 2 (.slice (some ⟨g, 0, none⟩) es.length cap) es.length (fcs es)) (hb : F < base) (hne : 0 < es.length) (hl : es.length ≤ 1000000000000) :
    Calls Tryd.prog 100 #[.pointer (some ⟨F, 3, none⟩)] w fun e w' => ∃ c s es', e = .returned (.agg #[.int .i64 c, .int .i64 s]) ∧ es.Perm ((c, s) :: es') ∧ IsF w' F a0 a1 a2 (.slice (some ⟨g, 0, none⟩) es'.length cap) ∧ w'.ownsRow base 192 2 (.slice (some ⟨g, 0, none⟩) es'.length cap) es'.length (fcs es') ∧ Kp (fun k => k = F ∨ k = g) w w' := by
  have k3 : w.cell? ⟨F, 3, none⟩ = some (.slice (some ⟨g, 0, none⟩) es.length cap) := hF.cell 3
  have fr := hF.frozen 3
  have hcap : es.length ≤ cap ∧ cap ≤ 9223372036854775807 := by
    rcases hown.2 with ⟨h', _⟩ | ⟨g', cap', cur, hv, _, _, hnc, hcm, _⟩
    · simp at h'
    · simp only [Value.slice.injEq, Option.some.injEq, Addr.mk.injEq, and_true, true_and] at hv
      obtain ⟨rfl, rfl⟩ := hv
      exact ⟨hnc, by unfold maxLen at hcm; omega⟩
  obtain ⟨n, en⟩ : ∃ n, es.length = n + 1 := ⟨es.length - 1, by omega⟩
  have u0 := fcs_at es 0 hne
  have u1 := fcs_at es n (by omega)
  have c0 : w.cell? ⟨g, 0, none⟩ = some (.int .i64 (es[0]).1) := by rw [hown.cellAt _ (by omega)]; exact u0.1
  have c1 : w.cell? ⟨g, 1, none⟩ = some (.int .i64 (es[0]).2) := by rw [hown.cellAt _ (by omega)]; exact u0.2
  have d0 : w.cell? ⟨g, n * 2, none⟩ = some (.int .i64 (es[n]'(by omega)).1) := by rw [hown.cellAt _ (by omega)]; exact u1.1
  have d1 : w.cell? ⟨g, n * 2 + 1, none⟩ = some (.int .i64 (es[n]'(by omega)).2) := by rw [hown.cellAt _ (by omega)]; exact u1.2
  obtain ⟨⟨x0, x1⟩, ex⟩ : ∃ v, es[0] = v := ⟨_, rfl⟩
  obtain ⟨⟨l0, l1⟩, el⟩ : ∃ v, es[n]'(by omega) = v := ⟨_, rfl⟩
  rw [ex] at c0 c1
  rw [el] at d0 d1
  have HX : Hid (es[0] = (x0, x1) ∧ es[n]'(by omega) = (l0, l1)) := ⟨ex, el⟩
  clear u0 u1 ex el
  rw [en] at k3
  have hgl := (hown.lt g rfl).2
  have hfl := hF.lt
  have wr1 : wrap64 ((n : Int) + 1 - 1) = (n : Int) := by unfold wrap64; omega
  have wr2 : IntKind.i64.wrap ((n : Int) + 1 - 1) = (n : Int) := by rw [IntKind.wrap_i64]; omega
  have past : ∀ {a : Nat} {j : Nat} {x : Value}, a < w.heap.size → w.cell? ⟨a, j, none⟩ = some x → (∀ o1, (w.alloc o1).cell? ⟨a, j, none⟩ = some x) ∧ (∀ o1 o2, ((w.alloc o1).alloc o2).cell? ⟨a, j, none⟩ = some x) ∧ ∀ o1 o2 o3, (((w.alloc o1).alloc o2).alloc o3).cell? ⟨a, j, none⟩ = some x := by
    intro a j x ha hx
    have p1 : ∀ o1, (w.alloc o1).cell? ⟨a, j, none⟩ = some x := fun o1 => by rw [World.cell?_alloc_past _ _ _ ha]; exact hx
    have p2 : ∀ o1 o2, ((w.alloc o1).alloc o2).cell? ⟨a, j, none⟩ = some x := fun o1 o2 => by rw [World.cell?_alloc_past _ _ _ (show a < (w.alloc o1).heap.size by simp; omega)]; exact p1 o1
    exact ⟨p1, p2, fun o1 o2 o3 => by rw [World.cell?_alloc_past _ _ _ (show a < ((w.alloc o1).alloc o2).heap.size by simp; omega)]; exact p2 o1 o2⟩
  have d01 := (past hgl d0).1
  have d02 := (past hgl d0).2.1
  have d03 := (past hgl d0).2.2
  have d11 := (past hgl d1).1
  have d12 := (past hgl d1).2.1
  have d13 := (past hgl d1).2.2
  have c01 := (past hgl c0).1
  have c02 := (past hgl c0).2.1
  have c03 := (past hgl c0).2.2
  have c11 := (past hgl c1).1
  have c12 := (past hgl c1).2.1
  have c13 := (past hgl c1).2.2
  clear past
  have k33 : ∀ o1 o2 o3, (((w.alloc o1).alloc o2).alloc o3).cell? ⟨F, 3, none⟩ = some (.slice (some ⟨g, 0, none⟩) (n + 1) cap) := fun o1 o2 o3 => by
    rw [World.cell?_alloc_past _ _ _ (by simp; omega), World.cell?_alloc_past _ _ _ (by simp; omega), World.cell?_alloc_past _ _ _ hfl]; exact k3
  have fr3 : ∀ o1 o2 o3, (((w.alloc o1).alloc o2).alloc o3).frozen? ⟨F, 3, none⟩ = false := fun o1 o2 o3 => by
    rw [((((Below.refl _ w).alloc (Nat.le_refl _) o1).alloc (by simp) o2).alloc (by simp; omega) o3).frozen hfl]; exact fr
  have HO : Hid _ := hown
  have HFF : Hid _ := hF
  have HL : Hid (es.length ≤ 1000000000000) := hl
  have hgF : F ≠ g := by have := (hown.lt g rfl).1; omega
  clear hown hF hl
  have HO2 : Hid (w.ownsRow base 192 2 (.slice (some ⟨g, 0, none⟩) (n + 1) cap) (n + 1) (fcs es)) := by have h := HO.out; rw [en] at h; exact h
  go_enter Tryd.func100, Tryd.ntmps100
  go_wp2
  go_region
  all_goals go_wp2_with (go_at_call 102; refine (sink_n base g cap n (es.take n) (by rw [List.length_take, en]; omega) l0 l1 _ (own_set ((((shrunk HO2.out).alloc _).alloc _).alloc _) hgF _ _).drew (by omega) (by have := HL.out; omega)).mono ?_; rintro e w2 ⟨rfl, q', hq', hown2, hgr2⟩; have zA := (hgr2.block w.heap.size (by simp <;> omega) (by simp <;> omega)).trans (three hfl).1; have zB := (hgr2.block (w.heap.size + 1) (by simp <;> omega) (by simp <;> omega)).trans (three hfl).2.1; have zC := (hgr2.block (w.heap.size + 1 + 1) (by simp <;> omega) (by simp <;> omega)).trans (three hfl).2.2; have zA0 := cell_of_row w2 _ 0 _ 192 (0, 0) zA; have zA1 := cell_of_row w2 _ 1 _ 192 (0, 0) zA; have zB0 := cell_of_row w2 _ 0 _ 192 (0, 0) zB; have zB1 := cell_of_row w2 _ 1 _ 192 (0, 0) zB; have zC0 := cell_of_row w2 _ 0 _ 192 (0, 0) zC; have zC1 := cell_of_row w2 _ 1 _ 192 (0, 0) zC; simp at zA0 zA1 zB0 zB1 zC0 zC1; have fA0 := frozen_of_row w2 _ 0 _ 192 zA; have fA1 := frozen_of_row w2 _ 1 _ 192 zA; have HR : Hid (w2.heap[w.heap.size]? = some (.cells #[.int .i64 0, .int .i64 0] 192 (0, 0)) ∧ IsF w2 F a0 a1 a2 (.slice (some ⟨g, 0, none⟩) n cap) ∧ w2.ownsRow base 192 2 (.slice (some ⟨g, 0, none⟩) n cap) n (fcs q') ∧ Kp (fun k => k = F ∨ k = g) w w2) := ⟨zA, (hgr2.block F (by simp <;> omega) (by simp <;> omega)).trans (fieldF HFF.out), hown2, keptF.grown hgr2 (fun k hk _ => .inr (by simpa using hk.symm))⟩; clear zA zB zC hown2 hgr2)
  all_goals first
    | (have hl2 : q'.length = n := by rw [hq'.length_eq, List.length_set, List.length_take, en]; omega
       have hp := popF (x := x0) (y := x1) HR.out.1 HR.out.2.1 HR.out.2.2.1 HR.out.2.2.2 (by omega) (by omega)
       refine bodyPost_ret (results_entry rfl rfl hp.1 hp.2.1) rfl ⟨x0, x1, q', rfl, ?_, ?_, ?_, hp.2.2.2.2⟩
       · rw [← HX.out.1]
         exact popped en (by omega) (by rw [HX.out.2]; exact hq')
       · rw [hl2]; exact hp.2.2.1
       · rw [hl2]; exact hp.2.2.2.1)
    | skip
  all_goals
      (have hn0 : n = 0 := by omega
       subst hn0
       refine bodyPost_ret (results_entry rfl rfl (popG HFF.out HO2.out hgF (by omega) hfl).1 (popG HFF.out HO2.out hgF (by omega) hfl).2.1) rfl ⟨x0, x1, [], rfl, ?_, (popG HFF.out HO2.out hgF (by omega) hfl).2.2.1, (popG HFF.out HO2.out hgF (by omega) hfl).2.2.2.1, (popG HFF.out HO2.out hgF (by omega) hfl).2.2.2.2⟩
       rw [← HX.out.1]
       obtain ⟨z, rfl⟩ : ∃ z, es = [z] := by
         match es, en with
         | [z], _ => exact ⟨z, rfl⟩
       exact List.Perm.refl _)
end Go.Proofs.YtfjocafepigijaaDoor.Po
