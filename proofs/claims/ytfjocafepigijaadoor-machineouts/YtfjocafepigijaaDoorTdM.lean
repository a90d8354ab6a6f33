/- The program's sink: the entries stay, but for the first one, which makes room for another one. Condition: there is one. -/
import Derived.Test.YtfjocafepigijaaDoorTbM
import Derived.Deep.LoopGhost
import Derived.Deep.QuietTactic
import Derived.BigQuiet
import Derived.Test.YtfjocafepigijaaDoorCJ
namespace Go.Proofs.YtfjocafepigijaaDoor.Sk
open Go.RowKit Mv Qp

/-- an entry laid at a place of a row -/
theorem put2 {w : World} {base g cap n : Nat} {p : List (Int × Int)} (h : w.ownsRow base 192 2 (.slice (some ⟨g, 0, none⟩) n cap) n (fcs p)) (k : Nat) (a b : Int) (d : Nat) :
    (((w.drewN d).setCell ⟨g, k * 2, none⟩ (.int .i64 a)).setCell ⟨g, k * 2 + 1, none⟩ (.int .i64 b)).ownsRow base 192 2 (.slice (some ⟨g, 0, none⟩) n cap) n (fcs (p.set k (a, b))) ∧ w.grownBy (((w.drewN d).setCell ⟨g, k * 2, none⟩ (.int .i64 a)).setCell ⟨g, k * 2 + 1, none⟩ (.int .i64 b)) (some g) := by
  have h0 : (w.drewN d).ownsRow base 192 2 (.slice (some ⟨g, 0, none⟩) n cap) n (fcs p) := h
  have h1 := h0.stored (k * 2) (.int .i64 a)
  have h2 := h1.1.stored (k * 2 + 1) (.int .i64 b)
  rw [fcs_set] at h2
  have g0 : w.grownBy (w.drewN d) (some g) := ⟨rfl, rfl, rfl, Nat.le_refl _, fun _ _ _ => rfl⟩
  exact ⟨h2.1, (g0.trans h1.2).trans h2.2⟩
theorem moved {w0 w : World} {base g cap n k kk : Nat} {p z : List (Int × Int)} {c s a b : Int} (hown : w.ownsRow base 192 2 (.slice (some ⟨g, 0, none⟩) n cap) n (fcs p)) (hgr : w0.grownBy w (some g)) (hperm : (p.set k (c, s)).Perm z) (hpl : p.length = n) (hk : k < n) (hkk : kk < n) (hne : k ≠ kk) (hv : p[kk]? = some (a, b)) (d : Nat) :
    ∃ (k' : Nat) (p' : List (Int × Int)), Value.int .i64 (kk : Int) = .int .i64 (k' : Int) ∧ k' < n ∧ p'.length = n ∧ (p'.set k' (c, s)).Perm z ∧ (((w.drewN d).setCell ⟨g, k * 2, none⟩ (.int .i64 a)).setCell ⟨g, k * 2 + 1, none⟩ (.int .i64 b)).ownsRow base 192 2 (.slice (some ⟨g, 0, none⟩) n cap) n (fcs p') ∧ w0.grownBy (((w.drewN d).setCell ⟨g, k * 2, none⟩ (.int .i64 a)).setCell ⟨g, k * 2 + 1, none⟩ (.int .i64 b)) (some g) := by
  have h := put2 hown k a b d
  have e : p[kk]'(by omega) = (a, b) := (List.getElem?_eq_some_iff.1 hv).2
  refine ⟨kk, p.set k (a, b), rfl, hkk, by simpa using hpl, ?_, h.1, hgr.trans h.2⟩
  rw [← e]
  exact (set_swap p k kk (c, s) (by omega) (by omega) hne).trans hperm
theorem box_cell {w0 w : World} {g t : Nat} {x y : Value} (hg : g < w0.heap.size) (h : (w0.alloc (.cells #[x, y] t)).grownBy w (some g)) : w.cell? ⟨w0.heap.size, 0, none⟩ = some x ∧ w.cell? ⟨w0.heap.size, 1, none⟩ = some y := by
  have hb := h.block w0.heap.size (by simp) (by simp; omega)
  constructor
  · rw [World.cell?_of_block (w := w0.alloc (.cells #[x, y] t)) hb]; simp
  · rw [World.cell?_of_block (w := w0.alloc (.cells #[x, y] t)) hb]; simp

set_option maxHeartbeats 2000000 in
set_option maxRecDepth 100000 in
theorem sink_any (base g cap : Nat) (q : List (Int × Int)) (c s : Int) (w : World) (hown : w.ownsRow base 192 2 (.slice (some ⟨g, 0, none⟩) q.length cap) q.length (fcs q)) (hq : 0 < q.length) (hb : q.length ≤ 1000000000000) :
    Calls Tryd.prog 102 #[.slice (some ⟨g, 0, none⟩) q.length cap, .agg #[.int .i64 c, .int .i64 s]] w fun e w' => e = .returned (.tuple #[]) ∧ ∃ q', q'.Perm (q.set 0 (c, s)) ∧ w'.ownsRow base 192 2 (.slice (some ⟨g, 0, none⟩) q.length cap) q.length (fcs q') ∧ w.grownBy w' (some g) := by
  have hg := (hown.lt g rfl).2
  go_enter Tryd.func102, Tryd.ntmps102
  go_wp2
  go_loopw [4] (fun a wr => ∃ (k : Nat) (p : List (Int × Int)), a = .int .i64 k ∧ k < q.length ∧ p.length = q.length ∧ (p.set k (c, s)).Perm (q.set 0 (c, s)) ∧ wr.ownsRow base 192 2 (.slice (some ⟨g, 0, none⟩) q.length cap) q.length (fcs p) ∧ (w.alloc (.cells #[.int .i64 c, .int .i64 s] 192)).grownBy wr (some g)) (fun a _ => q.length - (intOf a).toNat)
  case atStart => exact ⟨0, q, rfl, hq, rfl, List.Perm.refl _, hown.alloc _, ⟨rfl, rfl, rfl, Nat.le_refl _, fun _ _ _ => rfl⟩⟩
  case round =>
    clear hown
    obtain ⟨k, p, rfl, hk, hpl, hperm, hown, hgr⟩ := hrel
    have y := box_cell hg hgr
    have y0 := y.1
    have y1 := y.2
    clear y
    obtain ⟨m2, k1, k2, e1, e2, a1, a2, a3, a4⟩ := wrap_idx hk hb
    have HE : Hid (k1 = 2 * k + 1 ∧ k2 = 2 * k + 2) := ⟨e1, e2⟩
    clear e1 e2
    have HP : Hid _ := hperm
    have HB : Hid (q.length ≤ 1000000000000) := hb
    clear hperm hb
    have f0 := hown.frozenAt (k * 2)
    have f1 := hown.frozenAt (k * 2 + 1)
    obtain ⟨z0, c0⟩ : ∃ z, wr.cell? ⟨g, k * 2, none⟩ = some z := ⟨_, by rw [hown.cellAt _ (by omega)]; exact (fcs_at p k (by omega)).1⟩
    obtain ⟨z1, c1⟩ : ∃ z, wr.cell? ⟨g, k * 2 + 1, none⟩ = some z := ⟨_, by rw [hown.cellAt _ (by omega)]; exact (fcs_at p k (by omega)).2⟩
    by_cases h2 : k2 < q.length
    · have h1 : k1 < q.length := by have := HE.out; omega
      obtain ⟨⟨v2, s2⟩, ek2⟩ : ∃ v, p[k2]? = some v := ⟨_, List.getElem?_eq_getElem (by omega)⟩
      have ck2a : wr.cell? ⟨g, k2 * 2, none⟩ = some (.int .i64 v2) := by rw [hown.cellAt _ (by omega), (fcs_at p k2 (by omega)).1, (List.getElem?_eq_some_iff.1 ek2).2]
      have ck2b : wr.cell? ⟨g, k2 * 2 + 1, none⟩ = some (.int .i64 s2) := by rw [hown.cellAt _ (by omega), (fcs_at p k2 (by omega)).2, (List.getElem?_eq_some_iff.1 ek2).2]
      have Hk2 : Hid (p[k2]? = some (v2, s2)) := ek2
      clear ek2
      obtain ⟨⟨v1, s1⟩, ek1⟩ : ∃ v, p[k1]? = some v := ⟨_, List.getElem?_eq_getElem (by omega)⟩
      have ck1a : wr.cell? ⟨g, k1 * 2, none⟩ = some (.int .i64 v1) := by rw [hown.cellAt _ (by omega), (fcs_at p k1 (by omega)).1, (List.getElem?_eq_some_iff.1 ek1).2]
      have ck1b : wr.cell? ⟨g, k1 * 2 + 1, none⟩ = some (.int .i64 s1) := by rw [hown.cellAt _ (by omega), (fcs_at p k1 (by omega)).2, (List.getElem?_eq_some_iff.1 ek1).2]
      have Hk1 : Hid (p[k1]? = some (v1, s1)) := ek1
      clear ek1
      by_cases hlt : v2 < v1
      · skip
        by_cases hge : v2 ≥ c
        · have hge1 : c ≤ v2 := hge
          go_wp2
          repeat (go_quiet (fail); go_wp2)
          go_end0
          exact ⟨rfl, p.set k (c, s), HP.out, (put2 hown k c s _).1, (World.grownBy_alloc w _ _).trans (hgr.trans (put2 hown k c s _).2)⟩
        · have hge2 : v2 < c := Int.not_le.1 hge
          go_wp2
          repeat (go_quiet (fail); go_wp2)
          exact ⟨moved hown hgr HP.out hpl hk h2 (by have := HE.out; omega) Hk2.out _, by have := HE.out; simp [intOf]; omega⟩
      · skip
        by_cases hge : v1 ≥ c
        · have hge1 : c ≤ v1 := hge
          go_wp2
          repeat (go_quiet (fail); go_wp2)
          go_end0
          exact ⟨rfl, p.set k (c, s), HP.out, (put2 hown k c s _).1, (World.grownBy_alloc w _ _).trans (hgr.trans (put2 hown k c s _).2)⟩
        · have hge2 : v1 < c := Int.not_le.1 hge
          go_wp2
          repeat (go_quiet (fail); go_wp2)
          exact ⟨moved hown hgr HP.out hpl hk h1 (by have := HE.out; omega) Hk1.out _, by have := HE.out; simp [intOf]; omega⟩
    · by_cases h1 : k1 < q.length
      · skip
        obtain ⟨⟨v1, s1⟩, ek1⟩ : ∃ v, p[k1]? = some v := ⟨_, List.getElem?_eq_getElem (by omega)⟩
        have ck1a : wr.cell? ⟨g, k1 * 2, none⟩ = some (.int .i64 v1) := by rw [hown.cellAt _ (by omega), (fcs_at p k1 (by omega)).1, (List.getElem?_eq_some_iff.1 ek1).2]
        have ck1b : wr.cell? ⟨g, k1 * 2 + 1, none⟩ = some (.int .i64 s1) := by rw [hown.cellAt _ (by omega), (fcs_at p k1 (by omega)).2, (List.getElem?_eq_some_iff.1 ek1).2]
        have Hk1 : Hid (p[k1]? = some (v1, s1)) := ek1
        clear ek1
        by_cases hge : v1 ≥ c
        · have hge1 : c ≤ v1 := hge
          go_wp2
          repeat (go_quiet (fail); go_wp2)
          go_end0
          exact ⟨rfl, p.set k (c, s), HP.out, (put2 hown k c s _).1, (World.grownBy_alloc w _ _).trans (hgr.trans (put2 hown k c s _).2)⟩
        · have hge2 : v1 < c := Int.not_le.1 hge
          go_wp2
          repeat (go_quiet (fail); go_wp2)
          exact ⟨moved hown hgr HP.out hpl hk h1 (by have := HE.out; omega) Hk1.out _, by have := HE.out; simp [intOf]; omega⟩
      · skip
        go_wp2
        repeat (go_quiet (fail); go_wp2)
        go_end0
        exact ⟨rfl, p.set k (c, s), HP.out, (put2 hown k c s _).1, (World.grownBy_alloc w _ _).trans (hgr.trans (put2 hown k c s _).2)⟩
end Go.Proofs.YtfjocafepigijaaDoor.Sk
/- The document's Cost: the least cost of a walk. Condition: the machine is right, and texts have at most 61 symbols. -/
namespace Go.Proofs.YtfjocafepigijaaDoor.CR
open Go.RowKit Mv Wk

theorem placedF {S : Nat} {inn out : List Int} {f : Nat} (hS : S ≤ 3000) (hn : inn.length ≤ 61) (hk : out.length ≤ 61) (hf : f < S) :
    ∃ P1 P3 P2 P4 PJ : Nat, wrap64 ((f : Int) * ((inn.length : Int) + 1)) = (P1 : Int) ∧ wrap64 ((P1 : Int) + (inn.length : Int)) = (P3 : Int) ∧ wrap64 ((P3 : Int) * ((out.length : Int) + 1)) = (P2 : Int) ∧ wrap64 ((P2 : Int) + ((out.length : Int) + 1)) = (P4 : Int) ∧ wrap64 ((P4 : Int) - 1) = (PJ : Int) ∧ PJ = idx (inn.length + 1) (cols out true) f inn.length (cols out true - 1) := by
  have h1 : f * (inn.length + 1) ≤ 186000 := Nat.le_trans (Nat.mul_le_mul (Nat.le_of_lt (Nat.lt_of_lt_of_le hf hS)) (show inn.length + 1 ≤ 62 by omega)) (by decide)
  have h2 : (f * (inn.length + 1) + inn.length) * (out.length + 1) ≤ 11536000 := Nat.le_trans (Nat.mul_le_mul (show f * (inn.length + 1) + inn.length ≤ 186064 by omega) (show out.length + 1 ≤ 62 by omega)) (by decide)
  refine ⟨f * (inn.length + 1), f * (inn.length + 1) + inn.length, (f * (inn.length + 1) + inn.length) * (out.length + 1), (f * (inn.length + 1) + inn.length) * (out.length + 1) + (out.length + 1), (f * (inn.length + 1) + inn.length) * (out.length + 1) + out.length, ?_, ?_, ?_, ?_, ?_, rfl⟩
  · exact wrap_nat (by simp) (by omega)
  · exact wrap_nat (by simp) (by omega)
  · exact wrap_nat (by simp) (by omega)
  · exact wrap_nat (by simp) (by omega)
  · exact wrap_nat (by simp; omega) (by omega)
theorem nat_le {x : Nat} (h : (x : Int) ≤ 1000000) : x ≤ 1000000 := by omega
theorem meas2 {X n : Nat} (h : X < n) : n - (intOf (.int .i64 ((X : Int) + 1))).toNat < n - (intOf (.int .i64 (X : Int))).toNat := by
  simp [intOf]
  omega
theorem lt_dear {p : Nat} (h : p < dear) : decide ((p : Int) < 1152921504606846976) = true := by
  unfold dear at h
  exact decide_eq_true (by omega)

set_option maxHeartbeats 8000000 in
set_option maxRecDepth 100000 in
theorem cost_true2 (S : Nat) (arcs : List (Int × Int × Int × Int × Int)) (fins : List (Int × Int)) (inn out : List Int) (aa af ai ao : Option Addr) (ca cf ci co : Nat) (w : World) (hS : S ≤ 3000) (hS0 : 0 < S) (hi : inn.length ≤ 61) (ho : out.length ≤ 61) (hlA : arcs.length ≤ 20000) (hlF : fins.length ≤ 3000)
    (hR : ∀ x (h : x < arcs.length), arcB (S : Int) arcs[x] = true) (hFi : ∀ x (h : x < fins.length), finB (S : Int) fins[x] = true)
    (hA : arcs.length = 0 ∨ ∃ b off, aa = some ⟨b, off, none⟩ ∧ b < w.heap.size ∧ ∀ j u, (acs arcs)[j]? = some u → w.cell? ⟨b, off + j, none⟩ = some u)
    (hF : fins.length = 0 ∨ ∃ b off, af = some ⟨b, off, none⟩ ∧ b < w.heap.size ∧ ∀ j u, (fcs fins)[j]? = some u → w.cell? ⟨b, off + j, none⟩ = some u)
    (hI : inn.length = 0 ∨ ∃ b off, ai = some ⟨b, off, none⟩ ∧ b < w.heap.size ∧ ∀ j u, (inn.map (Value.int .i64))[j]? = some u → w.cell? ⟨b, off + j, none⟩ = some u)
    (hO : out.length = 0 ∨ ∃ b off, ao = some ⟨b, off, none⟩ ∧ b < w.heap.size ∧ ∀ j u, (out.map (Value.int .i64))[j]? = some u → w.cell? ⟨b, off + j, none⟩ = some u) :
    Calls Tryd.prog 12 #[.agg #[.int .i64 (S : Int), .slice aa arcs.length ca, .slice af fins.length cf], .slice ai inn.length ci, .slice ao out.length co, .bool true] w fun e w' => ∃ v : Nat, e = .returned (.int .i64 (v : Int)) ∧ (IsCost ⟨(S : Int), arcs, fins⟩ inn out true v ∧ (v = dear ∨ v ≤ 11532001000000)) ∧ Below w.heap.size w w' := by
  have HRt : Hid (∀ x (h : x < arcs.length), arcB (S : Int) arcs[x] = true) := hR
  have HFt : Hid (∀ x (h : x < fins.length), finB (S : Int) fins[x] = true) := hFi
  have HLA : Hid (arcs.length ≤ 20000) := hlA
  have HLF : Hid (fins.length ≤ 3000) := hlF
  clear hlA hlF
  have HAx : Hid _ := hA
  have HFx : Hid _ := hF
  have HIx : Hid _ := hI
  have HOx : Hid _ := hO
  clear hR hFi hA hF hI hO
  obtain ⟨i3, hi3, hz30, hz31, hz32⟩ := info_parts info3
  obtain ⟨R, eR⟩ : ∃ R : Nat, R = S * (inn.length + 1) := ⟨_, rfl⟩
  obtain ⟨N, eN⟩ : ∃ N : Nat, N = R * (out.length + 1) := ⟨_, rfl⟩
  have hRb : R ≤ 186000 := by rw [eR]; exact Nat.le_trans (Nat.mul_le_mul hS (show inn.length + 1 ≤ 62 by omega)) (by decide)
  have hNb : N ≤ 11532000 := by rw [eN]; exact Nat.le_trans (Nat.mul_le_mul hRb (show out.length + 1 ≤ 62 by omega)) (by decide)
  have hN0 : 0 < N := by rw [eN, eR]; exact Nat.mul_pos (Nat.mul_pos hS0 (by omega)) (by omega)
  have m1 : wrap64 ((S : Int) * ((inn.length : Int) + 1)) = (R : Int) := wrap_nat (by rw [eR]; simp) (by omega)
  have m2 : wrap64 ((R : Int) * ((out.length : Int) + 1)) = (N : Int) := wrap_nat (by rw [eN]; simp) (by omega)
  have HR : Hid (R = S * (inn.length + 1)) := eR
  have HN : Hid (N = R * (out.length + 1)) := eN
  clear eR eN
  go_enter Tryd.func12, Tryd.ntmps12
  go_wp2_with (at_make; refine wpList_make_full _ rfl _ _ 26 rfl (w.heap.size + 1) 3 i3 (.int .i64 0) 1 Tryd.underlying26 hi3 hz30 hz31 .i64 .i64 _ _ N rfl rfl m2 m2 (by rw [hz32]; omega) (by unfold maxLen; omega) (by simp) ?_; intro w1 hown0 hgrow0)
  have hs0 : St (w.alloc (.cells #[.int .i64 (S : Int), .slice aa arcs.length ca, .slice af fins.length cf] 25)) w1 (w.heap.size + 1) N (List.replicate N 0) := by
    refine ⟨?_, (Below.refl _ _).grown hgrow0 (by simp) (by simp), by simp⟩
    have e : (madeCells (Value.cells (.int .i64 0)) (N * 1)).toList = nc (List.replicate N 0) := by
      rw [Nat.mul_one]
      show (madeCells #[.int .i64 0] N).toList = _
      rw [toList_madeCells_one]
      simp [nc]
    rw [e] at hown0
    simpa using hown0
  have hw1 : w.heap.size + 1 < w1.heap.size := by
    have := (hs0.1.lt (w.heap.size + 1) rfl).2
    exact this
  clear hown0 hgrow0
  go_loopw [12] (fun i wr => ∃ (q : Nat) (B : List Nat), i = .int .i64 q ∧ q ≤ N ∧ St (w.alloc (.cells #[.int .i64 (S : Int), .slice aa arcs.length ca, .slice af fins.length cf] 25)) wr (w.heap.size + 1) N B ∧ w.heap.size + 1 < wr.heap.size ∧ ∀ r, r < q → val B r = dear) (fun i _ => N - (intOf i).toNat)
  case atStart => exact ⟨0, _, rfl, by omega, by simpa using hs0, by simpa using hw1, fun r h => by omega⟩
  case round =>
    clear hs0 hw1
    obtain ⟨q, B, rfl, hq, hst, hwr, hfill⟩ := hrel
    by_cases hlt : q < N
    · have c1 := hst.cell q hlt
      have f1 := hst.frozen q
      have HF : Hid _ := hfill
      clear hfill
      go_wp2
      go_roundw
      case rel =>
        have hss := hst.storeI q dear 1152921504606846976 dear_int (by omega)
        refine ⟨q + 1, B.set q dear, by go_num, by omega, hss.1, Nat.lt_of_lt_of_le hwr hss.2.size, fun r hr => ?_⟩
        rw [val_set B q _ r (by rw [hst.2.2]; exact hlt)]
        split
        · rfl
        · exact HF.out r (by omega)
      case measure => simp [intOf]; omega
    · have hB : B = List.replicate N dear := all_dear hst.2.2 (fun r hr => hfill r (by omega))
      subst hB
      have c1 := hst.cell 0 hN0
      have f1 := hst.frozen 0
      have hss := hst.storeI 0 0 0 rfl (by omega)
      have hs2 : St (w.alloc (.cells #[.int .i64 (S : Int), .slice aa arcs.length ca, .slice af fins.length cf] 25)) (wr.setCell ⟨w.heap.size + 1, 0, none⟩ (.int .i64 0)) (w.heap.size + 1) N (first N) := hss.1
      have hz2 : w.heap.size + 1 < (wr.setCell ⟨w.heap.size + 1, 0, none⟩ (.int .i64 0)).heap.size := Nat.lt_of_lt_of_le hwr hss.2.size
      have hinv : Inv ⟨(S : Int), arcs, fins⟩ inn out true S (first N) := by
        have e : N = S * (inn.length + 1) * cols out true := by rw [HN.out, HR.out]; rfl
        rw [e]
        exact first_inv _ _ _ _ _ hS0
      clear hfill hss
      go_wp2
      go_loopg [13] ((first N).sum + 1) (fun gk a wr => ∃ (ag : Bool) (B : List Nat), a = .bool ag ∧ St (w.alloc (.cells #[.int .i64 (S : Int), .slice aa arcs.length ca, .slice af fins.length cf] 25)) wr (w.heap.size + 1) N B ∧ w.heap.size + 1 < wr.heap.size ∧ Inv ⟨(S : Int), arcs, fins⟩ inn out true S B ∧ (ag = true → gk = B.sum + 1) ∧ (ag = false → gk = 0 ∧ Fix arcs inn out B))
      case atStart => exact ⟨true, first N, rfl, hs2, hz2, hinv, (fun _ => rfl), (fun h => by cases h)⟩
      case round =>
        clear hs2 hz2 hinv c1 f1 hst hwr
        obtain ⟨ag, B0, rfl, hst, hwr, hinv, hk1, hk2⟩ := hrel
        cases ag with
        | true =>
          have hgk := hk1 rfl
          have HGK : Hid (gk = B0.sum + 1) := hgk
          have HI0 : Hid _ := hinv
          obtain ⟨wo, rfl⟩ : ∃ wo : World, wo = wr := ⟨_, rfl⟩
          clear hk1 hk2 hgk hinv
          go_wp2
          go_loopw [13, 14] (fun a x wr => ∃ (ag : Bool) (B : List Nat) (X : Nat), a = .bool ag ∧ x = .int .i64 X ∧ X ≤ arcs.length ∧ St (w.alloc (.cells #[.int .i64 (S : Int), .slice aa arcs.length ca, .slice af fins.length cf] 25)) wr (w.heap.size + 1) N B ∧ w.heap.size + 1 < wr.heap.size ∧ Inv ⟨(S : Int), arcs, fins⟩ inn out true S B ∧ Pass arcs inn out B0 ag B X 0 0) (fun _ x _ => arcs.length - (intOf x).toNat)
          case atStart => exact ⟨false, B0, 0, rfl, rfl, by omega, hst, hwr, HI0.out, Pass.start _ _ _ _⟩
          case round =>
            clear hst hwr
            obtain ⟨ag, B, X, rfl, rfl, hX, hst, hwr, hinv, hpass⟩ := hrel
            have k1 : wr.cell? ⟨w.heap.size, 1, none⟩ = some (.slice aa arcs.length ca) := by rw [hst.old (by omega)]; simp
            have hLA := HLA.out
            by_cases hlt : X < arcs.length
            · have hbx : ∃ b off, aa = some ⟨b, off, none⟩ ∧ b < w.heap.size ∧ ∀ j u, (acs arcs)[j]? = some u → wr.cell? ⟨b, off + j, none⟩ = some u := by
                rcases HAx.out with h | ⟨b, off, e, hb, hc⟩
                · omega
                · refine ⟨b, off, e, hb, fun j u hu => ?_⟩
                  rw [hst.old (by omega), World.cell?_alloc_past _ _ _ hb]
                  exact hc j u hu
              obtain ⟨b, off, rfl, hbl, hcs⟩ := hbx
              have u := acs_at arcs X hlt
              obtain ⟨f, t, I, O, x, ea⟩ : ∃ f t I O x, arcs[X] = (f, t, I, O, x) := ⟨_, _, _, _, _, rfl⟩
              have hab := HRt.out X hlt
              rw [ea] at u hab
              unfold arcB at hab
              simp only [decide_eq_true_eq] at hab
              obtain ⟨g0, g1, g2, g3, g4, g5, g6, g7, g8, g9⟩ := hab
              obtain ⟨f, rfl⟩ : ∃ n : Nat, f = (n : Int) := ⟨f.toNat, by omega⟩
              obtain ⟨t, rfl⟩ : ∃ n : Nat, t = (n : Int) := ⟨t.toNat, by omega⟩
              obtain ⟨x, rfl⟩ : ∃ n : Nat, x = (n : Int) := ⟨x.toNat, by omega⟩
              have p0 := hcs _ _ u.1
              have p1 := hcs _ _ u.2.1
              have p2 := hcs _ _ u.2.2.1
              have p3 := hcs _ _ u.2.2.2.1
              have p4 := hcs _ _ u.2.2.2.2
              rw [← Nat.add_assoc] at p1 p2 p3 p4
              have HE0 : Hid (arcs[X] = ((f : Int), (t : Int), I, O, (x : Int))) := ea
              have HP : Hid _ := hpass
              have HV : Hid _ := hinv
              clear u hcs ea hpass hinv hLA
              obtain ⟨wx, rfl⟩ : ∃ wx : World, wx = wr := ⟨_, rfl⟩
              go_wp2
              go_loopw [13, 16] (fun a i wr => ∃ (ag : Bool) (B : List Nat) (i1 : Nat), a = .bool ag ∧ i = .int .i64 i1 ∧ i1 ≤ inn.length + 1 ∧ St (w.alloc (.cells #[.int .i64 (S : Int), .slice (some ⟨b, off, none⟩) arcs.length ca, .slice af fins.length cf] 25)) wr (w.heap.size + 1) N B ∧ wr.heap[wx.heap.size]? = some (.cells #[.int .i64 (f : Int), .int .i64 (t : Int), .int .i64 I, .int .i64 O, .int .i64 (x : Int)] 64 (0, 0)) ∧ Inv ⟨(S : Int), arcs, fins⟩ inn out true S B ∧ Pass arcs inn out B0 ag B X i1 0) (fun _ i _ => inn.length + 1 - (intOf i).toNat)
              case atStart => exact ⟨ag, B, 0, rfl, rfl, by omega, hst.alloc (by omega) _, heap_alloc_new wx _, HV.out, HP.out⟩
              case round =>
                clear hst p0 p1 p2 p3 p4 k1 HP HV
                obtain ⟨ag, B, i1, rfl, rfl, hi1, hst, hbox, hinv, hpass⟩ := hrel
                have hbs : wx.heap.size < wr.heap.size := (Array.getElem?_eq_some_iff.1 hbox).1
                by_cases hil : i1 < inn.length + 1
                · have HP : Hid _ := hpass
                  have HV : Hid _ := hinv
                  clear hpass hinv
                  obtain ⟨wi, rfl⟩ : ∃ wi : World, wi = wr := ⟨_, rfl⟩
                  go_wp2
                  have HE : Hid (Env S N (w.heap.size + 1) wx.heap.size X i1 f t x I O arcs fins inn out ai ao (w.alloc (.cells #[.int .i64 (S : Int), .slice (some ⟨b, off, none⟩) arcs.length ca, .slice af fins.length cf] 25))) := by
                    refine ⟨hS, hi, ho, hlt, HE0.out, by omega, by omega, by omega, g4, g6, by rw [HN.out, HR.out], hNb, hil, by omega, ?_, ?_⟩
                    · rcases HIx.out with h | ⟨b2, off2, e, hb, hc⟩
                      · exact .inl h
                      · exact .inr ⟨b2, off2, e, by omega, fun j u hu => by rw [World.cell?_alloc_past _ _ _ hb]; exact hc j u hu⟩
                    · rcases HOx.out with h | ⟨b2, off2, e, hb, hc⟩
                      · exact .inl h
                      · exact .inr ⟨b2, off2, e, by omega, fun j u hu => by rw [World.cell?_alloc_past _ _ _ hb]; exact hc j u hu⟩
                  refine loopJ S N (w.heap.size + 1) wx.heap.size X i1 f t x ci co I O arcs fins inn out ai ao B0 (w.alloc (.cells #[.int .i64 (S : Int), .slice (some ⟨b, off, none⟩) arcs.length ca, .slice af fins.length cf] 25)) wi ag B _ _ _ _ _ _ _ _ _ _ _ _ _ _ _ _ _ _ _ _ _ _ _ _ _ _ _ _ _ _ _ _ _ _ _ _ _ _ _ _ _ _ _ _ _ _ _ _ _ _ _ _ _ _ _ _ _ _ _ _ _ _ _ _ _ _ _ _ _ _ _ _ _ _ _ _ _ _ _ _ _ _ _ _ _ _ _ _ _ _ _ _ _ _ _ _ _ _ _ _ _ _ _ _ _ _ _ _ _ _ _ _ _ _ _ _ _ _ _ _ _ _ _ _ _ _ _ _ _ _ _ _ _ _ _ _ _ _ _ _ _ _ _ _ _ _ _ _ _ _ _ _ _ _ _ _ _ _ _ _ _ _ _ _ _ _ _ _ _ _ _ _ _ _ _ _ _ _ _ _ _ _ _ _ _ _ _ _ _ HE hst hbox HV HP _ ?_
                  dsimp only
                  intro ag B wr v0 v1 v2 v3 v4 v5 v6 v7 v8 v9 v10 v11 v12 v13 v14 v15 v16 v17 v18 v19 v20 v21 v22 v23 v24 v25 v26 v27 v28 v29 v30 v31 v32 v33 v34 v35 v36 v37 v38 v39 v40 v41 v42 v43 v44 v45 v46 v47 v48 v49 v50 v51 v52 v53 v54 v55 v56 v57 v58 v59 v60 v61 v62 v63 v64 v65 v66 v67 v68 v69 v70 v71 v72 v73 v74 v75 v76 v77 v78 v79 v80 v81 v82 v83 v84 v85 v86 v87 v88 v89 v90 hst hbox hinv hpass
                  have HP : Hid (Pass arcs inn out B0 ag B X (i1 + 1) 0) := Pass.nextI hpass
                  have HV : Hid _ := hinv
                  clear hpass hinv
                  go_wp2
                  go_roundw
                  case rel => exact ⟨ag, B, i1 + 1, rfl, by go_num, by omega, hst, hbox, HV.out, HP.out⟩
                  case measure => simp [intOf]; omega
                · have e : i1 = inn.length + 1 := by omega
                  have HP : Hid (Pass arcs inn out B0 ag B X (inn.length + 1) 0) := by rw [← e]; exact hpass
                  have HV : Hid _ := hinv
                  have hLA := HLA.out
                  clear hpass hinv e
                  go_wp2
                  go_roundw
                  case rel => exact ⟨ag, B, X + 1, rfl, by go_num, by omega, hst, by omega, HV.out, HP.out.nextX⟩
                  case measure => simp [intOf]; omega
            · rcases Pass.fin (by obtain rfl : X = arcs.length := by omega
                                  exact hpass) with ⟨rfl, hfx⟩ | ⟨rfl, hsm⟩
              · have HX : Hid (Fix arcs inn out B) := hfx
                have HV : Hid _ := hinv
                clear hfx hinv hpass
                go_wp2
                go_roundg 0
                case measure => rw [HGK.out]; omega
                case rel => exact ⟨false, B, rfl, hst, hwr, HV.out, (fun h => by cases h), (fun _ => ⟨rfl, HX.out⟩)⟩
              · have HX : Hid (B.sum < B0.sum) := hsm
                have HV : Hid _ := hinv
                clear hsm hinv hpass
                go_wp2
                go_roundg (B.sum + 1)
                case measure => rw [HGK.out]; have := HX.out; omega
                case rel => exact ⟨true, B, rfl, hst, hwr, HV.out, (fun _ => rfl), (fun h => by cases h)⟩
        | false =>
          have HX : Hid (Fix arcs inn out B0) := (hk2 rfl).2
          have HV : Hid _ := hinv
          clear hk1 hk2 hinv
          go_wp2
          go_loopw [22, 23] (fun a x wr => ∃ l X : Nat, a = .int .i64 (l : Int) ∧ x = .int .i64 X ∧ X ≤ fins.length ∧ St (w.alloc (.cells #[.int .i64 (S : Int), .slice aa arcs.length ca, .slice af fins.length cf] 25)) wr (w.heap.size + 1) N B0 ∧ w.heap.size + 1 < wr.heap.size ∧ Lst fins inn out B0 X l) (fun _ x _ => fins.length - (intOf x).toNat)
          case atStart => exact ⟨dear, 0, by rw [← dear_int], rfl, Nat.zero_le _, hst, hwr, Lst.start _ _ _ _⟩
          case round =>
            clear hst hwr
            obtain ⟨l, X, rfl, rfl, hX, hst, hwr, hl⟩ := hrel
            have k2 : wr.cell? ⟨w.heap.size, 2, none⟩ = some (.slice af fins.length cf) := by rw [hst.old (by omega)]; simp
            have hLF := HLF.out
            by_cases hlt : X < fins.length
            · have hbx : ∃ b off, af = some ⟨b, off, none⟩ ∧ b < w.heap.size ∧ ∀ j u, (fcs fins)[j]? = some u → wr.cell? ⟨b, off + j, none⟩ = some u := by
                rcases HFx.out with h | ⟨b, off, e, hb, hc⟩
                · omega
                · refine ⟨b, off, e, hb, fun j u hu => ?_⟩
                  rw [hst.old (by omega), World.cell?_alloc_past _ _ _ hb]
                  exact hc j u hu
              obtain ⟨b, off, rfl, hbl, hcs⟩ := hbx
              have u := fcs_at fins X hlt
              obtain ⟨f, x, ea⟩ : ∃ f x, fins[X] = (f, x) := ⟨_, _, rfl⟩
              have hab := HFt.out X hlt
              rw [ea] at u hab
              unfold finB at hab
              simp only [decide_eq_true_eq] at hab
              obtain ⟨g0, g1, g2, g3⟩ := hab
              obtain ⟨f, rfl⟩ : ∃ n : Nat, f = (n : Int) := ⟨f.toNat, by omega⟩
              obtain ⟨x, rfl⟩ : ∃ n : Nat, x = (n : Int) := ⟨x.toNat, by omega⟩
              have p0 := hcs _ _ u.1
              have p1 := hcs _ _ u.2
              rw [← Nat.add_assoc] at p1
              have HE0 : Hid (fins[X] = ((f : Int), (x : Int))) := ea
              obtain ⟨P1, P3, P2, P4, PJ, n1, n2, n3, n4, n5, eP⟩ := placedF (inn := inn) (out := out) hS hi ho (Int.ofNat_lt.1 g1)
              have hPN : PJ < N := by
                rw [eP, HN.out, HR.out]
                exact idx_lt (Int.ofNat_lt.1 g1) (Nat.lt_succ_self _) (Nat.lt_succ_self _)
              have cP := hst.cell PJ hPN
              obtain ⟨pv, hpv⟩ : ∃ v, val B0 PJ = v := ⟨_, rfl⟩
              rw [hpv] at cP
              rw [eP] at hpv
              obtain ⟨X2, eX2, aX⟩ := wrap_up (n := X) (by omega)
              have HX2 : Hid (X2 = X + 1) := eX2
              have HXb : Hid (X2 ≤ fins.length) := by rw [eX2]; exact hlt
              have HXl : Hid (X < fins.length) := hlt
              have HL : Hid _ := hl
              have HG : Hid (w.heap.size + 1 < wr.heap.size) := hwr
              have HPv : Hid _ := hpv
              have Hx : Hid (x ≤ 1000000) := nat_le g3
              have dX : decide ((X : Int) < (fins.length : Int)) = true := decide_eq_true (Int.ofNat_lt.2 hlt)
              clear u hcs ea hl eP hpv eX2 hX g0 g1 g2 g3
              obtain ⟨wx, rfl⟩ : ∃ wx : World, wx = wr := ⟨_, rfl⟩
              by_cases hd : pv = dear
              · have cP2 : wx.cell? ⟨w.heap.size + 1, PJ, none⟩ = some (.int .i64 1152921504606846976) := by rw [cP, hd, ← dear_int]
                have HLk : Hid (Lst fins inn out B0 X2 l) := by rw [HX2.out]; exact HL.out.keep HXl.out (by rw [HE0.out]) (fun h => by rw [HPv.out, hd] at h; exact absurd h (Nat.lt_irrefl _))
                clear cP hd
                go_wp2
                repeat (go_quiet (fail); go_wp2)
                go_roundw
                case rel => exact ⟨l, X2, rfl, by rw [HX2.out]; simp, HXb.out, by first | exact hst.alloc (Nat.le_of_lt HG.out) _ | exact (hst.alloc (Nat.le_of_lt HG.out) _).drewN _, by first | exact Nat.lt_of_lt_of_le HG.out (by simp) | simp, HLk.out⟩
                case measure => exact meas2 HXl.out
              · have hpd : pv < dear := HPv.out ▸ Nat.lt_of_le_of_ne (HV.out.top _) (fun h => hd (HPv.out ▸ h))
                have dP := lt_dear hpd
                obtain ⟨pw, epw, m7⟩ := wrap_plus hpd Hx.out
                have m8 : IntKind.i64.wrap ((pv : Int) + (x : Int)) = (pw : Int) := (wrap_same _).trans m7
                have HPW : Hid (pw = pv + x) := epw
                have HPD : Hid (pv < dear) := hpd
                clear epw hd hpd
                by_cases hbet : pw < l
                · have nb : (pw : Int) < (l : Int) := Int.ofNat_lt.2 hbet
                  have HLk : Hid (Lst fins inn out B0 X2 pw) := by rw [HX2.out, HPW.out]; exact HL.out.took HXl.out (by rw [HE0.out]) (by rw [HE0.out]) HPv.out HPD.out (by rw [← HPW.out]; exact hbet)
                  clear hbet
                  go_wp2
                  repeat (go_quiet (fail); go_wp2)
                  go_roundw
                  case rel => exact ⟨pw, X2, by first | rfl | go_num, by rw [HX2.out]; simp, HXb.out, by first | exact hst.alloc (Nat.le_of_lt HG.out) _ | exact (hst.alloc (Nat.le_of_lt HG.out) _).drewN _, by first | exact Nat.lt_of_lt_of_le HG.out (by simp) | simp, HLk.out⟩
                  case measure => exact meas2 HXl.out
                · have nb : ¬ ((pw : Int) < (l : Int)) := fun h => hbet (Int.ofNat_lt.1 h)
                  have nb2 : (l : Int) ≤ (pw : Int) := Int.not_lt.1 nb
                  have HLk : Hid (Lst fins inn out B0 X2 l) := by rw [HX2.out]; exact HL.out.keep HXl.out (by rw [HE0.out]) (fun h => by rw [HPv.out, HE0.out]; rw [HPW.out] at nb2; exact nb2)
                  clear hbet
                  go_wp2
                  repeat (go_quiet (fail); go_wp2)
                  go_roundw
                  case rel => exact ⟨l, X2, by first | rfl | go_num, by rw [HX2.out]; simp, HXb.out, by first | exact hst.alloc (Nat.le_of_lt HG.out) _ | exact (hst.alloc (Nat.le_of_lt HG.out) _).drewN _, by first | exact Nat.lt_of_lt_of_le HG.out (by simp) | simp, HLk.out⟩
                  case measure => exact meas2 HXl.out
            · have eX : X = fins.length := Nat.le_antisymm hX (Nat.not_lt.1 hlt)
              have HL : Hid (Lst fins inn out B0 fins.length l) := eX ▸ hl
              have dX : decide ((X : Int) < (fins.length : Int)) = false := decide_eq_false (fun h => hlt (Int.ofNat_lt.1 h))
              clear eX hl
              go_wp2
              go_ret
              exact ⟨l, rfl, ⟨HL.out.fin ⟨rfl, hS0, HRt.out⟩ (by rw [hst.2.2]; exact Nat.le_trans hNb (by decide)) HFt.out HV.out HX.out, HL.out.bound (by rw [hst.2.2]; exact hNb) HFt.out HV.out⟩, ((Below.refl _ w).alloc (Nat.le_refl _) _).trans (hst.2.1.mono (Nat.le_succ _))⟩
end Go.Proofs.YtfjocafepigijaaDoor.CR
/- The document's ThroughCost: its two inner functions, and how all lies. Conditions: numbers are small. -/
namespace Go.Proofs.YtfjocafepigijaaDoor.Tc
open Go.RowKit Mv Wk Bw Th CR

end Go.Proofs.YtfjocafepigijaaDoor.Tc
/- The document's ThroughCost: how all lies while it runs, and what one look at an arc of pairs does to the table. No conditions. -/
namespace Go.Proofs.YtfjocafepigijaaDoor.Tc
open Go.RowKit Mv Wk Bw Th CR

/-- how all lies -/
structure Tt (w wr : World) (ra rb : Array Value) (n k N : Nat) (B : List Nat) (ag : Bool) : Prop where
  bel : Below w.heap.size w wr
  x4 : wr.heap[w.heap.size]? = some (.cells ra 25 (0, 0))
  x5 : wr.heap[w.heap.size + 1]? = some (.cells rb 25 (0, 0))
  x9 : wr.heap[w.heap.size + 2]? = some (.cells #[.int .i64 (n : Int)] 3 (0, 0))
  x10 : wr.heap[w.heap.size + 3]? = some (.cells #[.int .i64 (k : Int)] 3 (0, 0))
  tab : wr.ownsRow (w.heap.size + 4) 3 1 (.slice (some ⟨w.heap.size + 4, 0, none⟩) N N) N (nc B)
  x11 : wr.heap[w.heap.size + 5]? = some (.cells #[.slice (some ⟨w.heap.size + 4, 0, none⟩) N N] 26 (0, 0))
  x14 : wr.heap[w.heap.size + 6]? = some (.cells #[.bool ag] 4 (0, 0))
  len : B.length = N
theorem lt_get {w : World} {g : Nat} {o : Obj} (h : w.heap[g]? = some o) : g < w.heap.size := (Array.getElem?_eq_some_iff.1 h).1
end Go.Proofs.YtfjocafepigijaaDoor.Tc
