/- The program's sink: the entries stay, but for the first one, which makes room for another one. Condition: there is one. -/
import Derived.Test.YtfjocafepigijaaDoorCaM
import Derived.Deep.LoopGhost
import Derived.Deep.QuietTactic
import Derived.BigQuiet
namespace Go.Proofs.YtfjocafepigijaaDoor.Sk
open Go.RowKit Mv Qp

/-- an entry laid at a place of a row -/
theorem put2 {w : World} {base g cap n : Nat} {p : List (Int × Int)} (h : w.ownsRow base 192 2 (.slice (some ⟨g, 0, none⟩) n cap) n (fcs p)) (k : Nat) (a b : Int) (d : Nat) :
    (((w.drewN d).setCell ⟨g, k * 2, none⟩ (.int .i64 a)).setCell ⟨g, k * 2 + 1, none⟩ (.int .i64 b)).ownsRow base 192 2 (.slice (some ⟨g, 0, none⟩) n cap) n (fcs (p.set k (a, b))) ∧ w.grownBy (((w.drewN d).setCell ⟨g, k * 2, none⟩ (.int .i64 a)).setCell ⟨g, k * 2 + 1, none⟩ (.int .i64 b)) (some g) := by
  have h0 : (w.drewN d).ownsRow base 192 2 (.slice (some ⟨g, 0, none⟩) n cap) n (fcs p) := h
  have h1 := h0.stored (k * 2) (.int .i64 a)
  have h2 := h1.1.stored (k * 2 + 1) (.int .i64 b)
  rw [fcs_set] at h2
  have g0 : w.grownBy (w.drewN d) (some g) := ⟨rfl, rfl, rfl, Nat.le_refl _, fun _ _ _ => rfl⟩
  exact ⟨h2.1, (g0.trans h1.2).trans h2.2⟩
theorem moved {w0 w : World} {base g cap n k kk : Nat} {p z : List (Int × Int)} {c s a b : Int} (hown : w.ownsRow base 192 2 (.slice (some ⟨g, 0, none⟩) n cap) n (fcs p)) (hgr : w0.grownBy w (some g)) (hperm : (p.set k (c, s)).Perm z) (hpl : p.length = n) (hk : k < n) (hkk : kk < n) (hne : k ≠ kk) (hv : p[kk]? = some (a, b)) (d : Nat) :
    ∃ (k' : Nat) (p' : List (Int × Int)), Value.int .i64 (kk : Int) = .int .i64 (k' : Int) ∧ k' < n ∧ p'.length = n ∧ (p'.set k' (c, s)).Perm z ∧ (((w.drewN d).setCell ⟨g, k * 2, none⟩ (.int .i64 a)).setCell ⟨g, k * 2 + 1, none⟩ (.int .i64 b)).ownsRow base 192 2 (.slice (some ⟨g, 0, none⟩) n cap) n (fcs p') ∧ w0.grownBy (((w.drewN d).setCell ⟨g, k * 2, none⟩ (.int .i64 a)).setCell ⟨g, k * 2 + 1, none⟩ (.int .i64 b)) (some g) := by
  have h := put2 hown k a b d
  have e : p[kk]'(by omega) = (a, b) := (List.getElem?_eq_some_iff.1 hv).2
  refine ⟨kk, p.set k (a, b), rfl, hkk, by simpa using hpl, ?_, h.1, hgr.trans h.2⟩
  rw [← e]
  exact (set_swap p k kk (c, s) (by omega) (by omega) hne).trans hperm
theorem box_cell {w0 w : World} {g t : Nat} {x y : Value} (hg : g < w0.heap.size) (h : (w0.alloc (.cells #[x, y] t)).grownBy w (some g)) : w.cell? ⟨w0.heap.size, 0, none⟩ = some x ∧ w.cell? ⟨w0.heap.size, 1, none⟩ = some y := by
  have hb := h.block w0.heap.size (by simp) (by simp; omega)
  constructor
  · rw [World.cell?_of_block (w := w0.alloc (.cells #[x, y] t)) hb]; simp
  · rw [World.cell?_of_block (w := w0.alloc (.cells #[x, y] t)) hb]; simp

set_option maxHeartbeats 2000000 in
set_option maxRecDepth 100000 in
theorem sink_any (base g cap : Nat) (q : List (Int × Int)) (c s : Int) (w : World) (hown : w.ownsRow base 192 2 (.slice (some ⟨g, 0, none⟩) q.length cap) q.length (fcs q)) (hq : 0 < q.length) (hb : q.length ≤ 1000000000000) :
    Calls Tryd.prog 102 #[.slice (some ⟨g, 0, none⟩) q.length cap, .agg #[.int .i64 c, .int .i64 s]] w fun e w' => e = .returned (.tuple #[]) ∧ ∃ q', q'.Perm (q.set 0 (c, s)) ∧ w'.ownsRow base 192 2 (.slice (some ⟨g, 0, none⟩) q.length cap) q.length (fcs q') ∧ w.grownBy w' (some g) := by
  have hg := (hown.lt g rfl).2
  go_enter Tryd.func102, Tryd.ntmps102
  go_wp2
  go_loopw [4] (fun a wr => ∃ (k : Nat) (p : List (Int × Int)), a = .int .i64 k ∧ k < q.length ∧ p.length = q.length ∧ (p.set k (c, s)).Perm (q.set 0 (c, s)) ∧ wr.ownsRow base 192 2 (.slice (some ⟨g, 0, none⟩) q.length cap) q.length (fcs p) ∧ (w.alloc (.cells #[.int .i64 c, .int .i64 s] 192)).grownBy wr (some g)) (fun a _ => q.length - (intOf a).toNat)
  case atStart => exact ⟨0, q, rfl, hq, rfl, List.Perm.refl _, hown.alloc _, ⟨rfl, rfl, rfl, Nat.le_refl _, fun _ _ _ => rfl⟩⟩
  case round =>
    clear hown
    obtain ⟨k, p, rfl, hk, hpl, hperm, hown, hgr⟩ := hrel
    have y := box_cell hg hgr
    have y0 := y.1
    have y1 := y.2
    clear y
    obtain ⟨m2, k1, k2, e1, e2, a1, a2, a3, a4⟩ := wrap_idx hk hb
    have HE : Hid (k1 = 2 * k + 1 ∧ k2 = 2 * k + 2) := ⟨e1, e2⟩
    clear e1 e2
    have HP : Hid _ := hperm
    have HB : Hid (q.length ≤ 1000000000000) := hb
    clear hperm hb
    have f0 := hown.frozenAt (k * 2)
    have f1 := hown.frozenAt (k * 2 + 1)
    obtain ⟨z0, c0⟩ : ∃ z, wr.cell? ⟨g, k * 2, none⟩ = some z := ⟨_, by rw [hown.cellAt _ (by omega)]; exact (fcs_at p k (by omega)).1⟩
    obtain ⟨z1, c1⟩ : ∃ z, wr.cell? ⟨g, k * 2 + 1, none⟩ = some z := ⟨_, by rw [hown.cellAt _ (by omega)]; exact (fcs_at p k (by omega)).2⟩
    by_cases h2 : k2 < q.length
    · have h1 : k1 < q.length := by have := HE.out; omega
      obtain ⟨⟨v2, s2⟩, ek2⟩ : ∃ v, p[k2]? = some v := ⟨_, List.getElem?_eq_getElem (by omega)⟩
      have ck2a : wr.cell? ⟨g, k2 * 2, none⟩ = some (.int .i64 v2) := by rw [hown.cellAt _ (by omega), (fcs_at p k2 (by omega)).1, (List.getElem?_eq_some_iff.1 ek2).2]
      have ck2b : wr.cell? ⟨g, k2 * 2 + 1, none⟩ = some (.int .i64 s2) := by rw [hown.cellAt _ (by omega), (fcs_at p k2 (by omega)).2, (List.getElem?_eq_some_iff.1 ek2).2]
      have Hk2 : Hid (p[k2]? = some (v2, s2)) := ek2
      clear ek2
      obtain ⟨⟨v1, s1⟩, ek1⟩ : ∃ v, p[k1]? = some v := ⟨_, List.getElem?_eq_getElem (by omega)⟩
      have ck1a : wr.cell? ⟨g, k1 * 2, none⟩ = some (.int .i64 v1) := by rw [hown.cellAt _ (by omega), (fcs_at p k1 (by omega)).1, (List.getElem?_eq_some_iff.1 ek1).2]
      have ck1b : wr.cell? ⟨g, k1 * 2 + 1, none⟩ = some (.int .i64 s1) := by rw [hown.cellAt _ (by omega), (fcs_at p k1 (by omega)).2, (List.getElem?_eq_some_iff.1 ek1).2]
      have Hk1 : Hid (p[k1]? = some (v1, s1)) := ek1
      clear ek1
      by_cases hlt : v2 < v1
      · skip
        by_cases hge : v2 ≥ c
        · have hge1 : c ≤ v2 := hge
          go_wp2
          repeat (go_quiet (fail); go_wp2)
          go_end0
          exact ⟨rfl, p.set k (c, s), HP.out, (put2 hown k c s _).1, (World.grownBy_alloc w _ _).trans (hgr.trans (put2 hown k c s _).2)⟩
        · have hge2 : v2 < c := Int.not_le.1 hge
          go_wp2
          repeat (go_quiet (fail); go_wp2)
          exact ⟨moved hown hgr HP.out hpl hk h2 (by have := HE.out; omega) Hk2.out _, by have := HE.out; simp [intOf]; omega⟩
      · skip
        by_cases hge : v1 ≥ c
        · have hge1 : c ≤ v1 := hge
          go_wp2
          repeat (go_quiet (fail); go_wp2)
          go_end0
          exact ⟨rfl, p.set k (c, s), HP.out, (put2 hown k c s _).1, (World.grownBy_alloc w _ _).trans (hgr.trans (put2 hown k c s _).2)⟩
        · have hge2 : v1 < c := Int.not_le.1 hge
          go_wp2
          repeat (go_quiet (fail); go_wp2)
          exact ⟨moved hown hgr HP.out hpl hk h1 (by have := HE.out; omega) Hk1.out _, by have := HE.out; simp [intOf]; omega⟩
    · by_cases h1 : k1 < q.length
      · skip
        obtain ⟨⟨v1, s1⟩, ek1⟩ : ∃ v, p[k1]? = some v := ⟨_, List.getElem?_eq_getElem (by omega)⟩
        have ck1a : wr.cell? ⟨g, k1 * 2, none⟩ = some (.int .i64 v1) := by rw [hown.cellAt _ (by omega), (fcs_at p k1 (by omega)).1, (List.getElem?_eq_some_iff.1 ek1).2]
        have ck1b : wr.cell? ⟨g, k1 * 2 + 1, none⟩ = some (.int .i64 s1) := by rw [hown.cellAt _ (by omega), (fcs_at p k1 (by omega)).2, (List.getElem?_eq_some_iff.1 ek1).2]
        have Hk1 : Hid (p[k1]? = some (v1, s1)) := ek1
        clear ek1
        by_cases hge : v1 ≥ c
        · have hge1 : c ≤ v1 := hge
          go_wp2
          repeat (go_quiet (fail); go_wp2)
          go_end0
          exact ⟨rfl, p.set k (c, s), HP.out, (put2 hown k c s _).1, (World.grownBy_alloc w _ _).trans (hgr.trans (put2 hown k c s _).2)⟩
        · have hge2 : v1 < c := Int.not_le.1 hge
          go_wp2
          repeat (go_quiet (fail); go_wp2)
          exact ⟨moved hown hgr HP.out hpl hk h1 (by have := HE.out; omega) Hk1.out _, by have := HE.out; simp [intOf]; omega⟩
      · skip
        go_wp2
        repeat (go_quiet (fail); go_wp2)
        go_end0
        exact ⟨rfl, p.set k (c, s), HP.out, (put2 hown k c s _).1, (World.grownBy_alloc w _ _).trans (hgr.trans (put2 hown k c s _).2)⟩
end Go.Proofs.YtfjocafepigijaaDoor.Sk
/- The document's Cost: the innermost of its rounds. Conditions: the machine is right, and texts have at most 61 symbols. -/
namespace Go.Proofs.YtfjocafepigijaaDoor.CR
open Go.RowKit Mv Wk

theorem info3 : (Tryd.prog.info? 3).map (fun i => (i.zero, i.size, i.bytes)) = some (some (.int .i64 0), 1, 8) := by kernel_rfl

/-- numbers as cells -/
def nc (B : List Nat) : List Value := B.map fun (x : Nat) => Value.int .i64 (x : Int)
end Go.Proofs.YtfjocafepigijaaDoor.CR
/- The document's Cost: the least cost of a walk. Condition: the machine is right, and texts have at most 61 symbols. -/
namespace Go.Proofs.YtfjocafepigijaaDoor.CR
open Go.RowKit Mv Wk

theorem nat_le {x : Nat} (h : (x : Int) ≤ 1000000) : x ≤ 1000000 := by omega
end Go.Proofs.YtfjocafepigijaaDoor.CR
/- The document's ThroughCost: how all lies while it runs, and what one look at an arc of pairs does to the table. No conditions. -/
namespace Go.Proofs.YtfjocafepigijaaDoor.Tc
open Go.RowKit Mv Wk Bw Th CR

theorem lt_get {w : World} {g : Nat} {o : Obj} (h : w.heap[g]? = some o) : g < w.heap.size := (Array.getElem?_eq_some_iff.1 h).1
end Go.Proofs.YtfjocafepigijaaDoor.Tc
