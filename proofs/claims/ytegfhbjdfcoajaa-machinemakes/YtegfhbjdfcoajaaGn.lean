/- again: the least cost of any number of walks of a machine. Conditions: it is right; both texts have at most 8 symbols together, each no longer than its capacity. -/
import Derived.Test.YtegfhbjdfcoajaaPr
import Derived.Test.YtegfhbjdfcoajaaEb
import Derived.BigRegion
namespace Go.Proofs.Ytegfhbjdfcoajaa.Gn
open Go.RowKit Mv Wk Sy Rz Bw Mc CR Pd Pr

theorem placeA {i j n : Nat} (hi : i ≤ 8) (hj : j ≤ 8) (hn : n ≤ 8) : ∃ P1 PJ : Nat, wrap64 ((i : Int) * ((n : Int) + 1)) = (P1 : Int) ∧ wrap64 ((P1 : Int) + (j : Int)) = (PJ : Int) ∧ IntKind.i64.wrap ((i : Int) * ((n : Int) + 1)) = (P1 : Int) ∧ IntKind.i64.wrap ((P1 : Int) + (j : Int)) = (PJ : Int) ∧ PJ = i * (n + 1) + j := by
  have h1 : i * (n + 1) ≤ 72 := Nat.le_trans (Nat.mul_le_mul hi (show n + 1 ≤ 9 by omega)) (by decide)
  have a : wrap64 ((i : Int) * ((n : Int) + 1)) = ((i * (n + 1) : Nat) : Int) := wrap_nat (by simp) (by omega)
  have b : wrap64 (((i * (n + 1) : Nat) : Int) + (j : Int)) = ((i * (n + 1) + j : Nat) : Int) := wrap_nat (by simp) (by omega)
  exact ⟨i * (n + 1), i * (n + 1) + j, a, b, (wrap_same _).trans a, (wrap_same _).trans b, rfl⟩
theorem place_lt {i j n m : Nat} (hi : i ≤ n) (hj : j ≤ m) : i * (m + 1) + j < (n + 1) * (m + 1) := by
  have : i * (m + 1) ≤ n * (m + 1) := Nat.mul_le_mul_right _ hi
  rw [Nat.add_mul]
  omega
theorem St.later {w0 wr W : World} {G N : Nat} {B : List Nat} (h : St w0 wr G N B) (hG : G < wr.heap.size) (hb : Below wr.heap.size wr W) : St w0 W G N B := ⟨Eb.own_below h.1 hb, h.2.1.trans (hb.mono (by omega)), h.2.2⟩
theorem small8 {N : Nat} (h : N ≤ 81) : 8 * N ≤ 281474976710656 := by omega
theorem table_wrap {n m N : Nat} (e : N = (n + 1) * (m + 1)) (h : N ≤ 81) : wrap64 (((n : Int) + 1) * ((m : Int) + 1)) = (N : Int) := wrap_nat (by rw [e]; simp) (Nat.le_trans h (by decide))
theorem sub_wrap {N L : Nat} (e : N = L + 1) (h : N ≤ 81) : wrap64 ((N : Int) - 1) = (L : Int) := wrap_nat (by omega) (by omega)
structure Rn (a : M) (inn out : List Int) (w0 : World) (G N i j PJ r q : Nat) (B : List Nat) (wr : World) : Prop where
  st : St w0 wr G N B
  gl : G < wr.heap.size
  tab : Tab a inn out B i j
  lst : Least (SeenR a inn out i j r q) (val B PJ)
  bnd : val B PJ = dear ∨ val B PJ ≤ (i + j) * big
theorem val_here {B : List Nat} {q v : Nat} (h : q < B.length) : val (B.set q v) q = v := by
  unfold val
  simp [List.getD_eq_getElem?_getD, h]
theorem Rn.later {a : M} {inn out : List Int} {w0 : World} {G N i j PJ r q : Nat} {B : List Nat} {wr W : World} (h : Rn a inn out w0 G N i j PJ r q B wr) (hb : Below wr.heap.size wr W) : Rn a inn out w0 G N i j PJ r q B W :=
  ⟨St.later h.st h.gl hb, Nat.lt_of_lt_of_le h.gl hb.size, h.tab, h.lst, h.bnd⟩

theorem sum2 {p c K : Nat} (hp : p = dear ∨ p ≤ K * big) (p1 : p < dear) (hc : c = dear ∨ c ≤ 11532001000000) (c1 : c < dear) (hK : K ≤ 16) : ∃ S : Nat, S = p + c ∧ S < dear ∧ S ≤ (K + 1) * big ∧ wrap64 ((p : Int) + (c : Int)) = (S : Int) ∧ IntKind.i64.wrap ((p : Int) + (c : Int)) = (S : Int) := by
  have h1 : p ≤ K * big := by rcases hp with h | h <;> omega
  have h2 : c ≤ big := by unfold big; rcases hc with h | h <;> omega
  have h3 : p + c ≤ (K + 1) * big := by rw [Nat.add_mul]; omega
  have h4 : (K + 1) * big ≤ 17 * 11532001000000 := by unfold big; exact Nat.mul_le_mul_right _ (by omega)
  have h5 : p + c ≤ 200000000000000 := by omega
  have h6 : p + c < dear := by unfold dear; omega
  have h7 : wrap64 ((p : Int) + (c : Int)) = ((p + c : Nat) : Int) := by
    have : ((p : Int) + (c : Int)) = ((p + c : Nat) : Int) := by simp
    rw [this]
    unfold wrap64
    omega
  exact ⟨p + c, rfl, h6, h3, h7, (wrap_same _).trans h7⟩
theorem min_if2 (x s : Nat) : (if s < x then (s : Int) else (x : Int)) = ((min x s : Nat) : Int) := by
  split <;> omega
theorem Rn.step {a : M} {inn out : List Int} {w0 : World} {G N i j PJ r q : Nat} {B : List Nat} {W : World} (h : Rn a inn out w0 G N i j PJ r q B W) (eP : PJ = i * (out.length + 1) + j) (hPN : PJ < N) (hj : j ≤ out.length) (hr : r ≤ i) (hq : q ≤ j) (hne : ¬ (r = i ∧ q = j)) {p c S xv : Nat} (hx : val B PJ = xv) (hp : Least (Rounds a inn out r q) p) (hc : Least (Seg a inn out r q i j) c) (p1 : p < dear) (c1 : c < dear) (hS : S = p + c) (hSd : S < dear) (hSb : S ≤ (r + q + 1) * big) (x : Int) (ex : x = ((min xv S : Nat) : Int)) :
    Rn a inn out w0 G N i j PJ r (q + 1) (B.set PJ (min xv S)) (W.setCell ⟨G, PJ, none⟩ (.int .i64 x)) := by
  have hs := h.st.storeI PJ (min xv S) x ex (Nat.le_of_lt h.gl)
  have hv : val (B.set PJ (min xv S)) PJ = min xv S := val_here (by rw [h.st.2.2]; exact hPN)
  refine ⟨hs.1, Nat.lt_of_lt_of_le h.gl hs.2.size, by rw [eP]; exact tab_set h.tab hj, ?_, ?_⟩
  · rw [hv, hS]
    exact seenR_step (hx ▸ h.lst) hr hq hne hp hc p1 c1 (hS ▸ hSd)
  · rw [hv]
    have : (r + q + 1) * big ≤ (i + j) * big := Nat.mul_le_mul_right _ (by omega)
    exact .inr (Nat.le_trans (Nat.min_le_right _ _) (Nat.le_trans hSb this))

set_option maxHeartbeats 8000000 in
set_option maxRecDepth 100000 in
theorem again_any (a : M) (va : Value) (inn out : List Int) (ai ao : Option Addr) (ci co : Nat) (w : World) (ha : IsM w va a) (hx : checkP a 0) (hl : inn.length + out.length ≤ 8) (hI : IsJ w ai ci inn) (hO : IsJ w ao co out) :
    Calls Try.prog 14 #[va, .slice ai inn.length ci, .slice ao out.length co] w fun e w' => ∃ c : Nat, e = .returned (.int .i64 (c : Int)) ∧ Least (Rounds a inn out inn.length out.length) c ∧ Below w.heap.size w w' := by
  have HI : Hid (IsI w (.slice ai inn.length ci) inn) := hI.1
  have HO : Hid (IsI w (.slice ao out.length co) out) := hO.1
  have hci := hI.2
  have hco := hO.2
  have KA : Hid (∀ l1 l2 v1 v2, l1.length ≤ 61 → l2.length ≤ 61 → IsI w v1 l1 → IsI w v2 l2 → ∃ c : Nat, Least (Acc a l1 l2 true) c ∧ (c = dear ∨ c ≤ 11532001000000) ∧ ∀ W u1 u2, Below w.heap.size w W → IsI W u1 l1 → IsI W u2 l2 → Calls Try.prog 9 #[va, u1, u2, .bool true] W fun e w' => e = .returned (.int .i64 (c : Int)) ∧ Below W.heap.size W w') := fun l1 l2 v1 v2 h1 h2 i1 i2 => cost_fix a va v1 v2 w l1 l2 ha hx h1 h2 i1 i2
  clear hI hO hx
  obtain ⟨a1, a2, rfl, ⟨_, aa, ca, rfl, _, _⟩, ⟨_, af, cf, rfl, _, _⟩⟩ := ha
  obtain ⟨st, arcs, fins⟩ := a
  dsimp only at *
  obtain ⟨i3, hi3, hz30, hz31, hz32⟩ := info_parts info3
  obtain ⟨N, eN⟩ : ∃ N : Nat, N = (inn.length + 1) * (out.length + 1) := ⟨_, rfl⟩
  have hNb : N ≤ 81 := by rw [eN]; exact Nat.le_trans (Nat.mul_le_mul (show inn.length + 1 ≤ 9 by omega) (show out.length + 1 ≤ 9 by omega)) (by decide)
  have hN0 : 0 < N := by rw [eN]; exact Nat.mul_pos (by omega) (by omega)
  have hz8 : i3.bytes * N ≤ 281474976710656 := by rw [hz32]; exact small8 hNb
  have hm8 : N ≤ maxLen := Nat.le_trans hNb (by unfold maxLen; omega)
  have m2 := table_wrap eN hNb
  have HN : Hid (N = (inn.length + 1) * (out.length + 1)) := eN
  have HM2 : Hid (wrap64 (((inn.length : Int) + 1) * ((out.length : Int) + 1)) = (N : Int)) := m2
  clear eN m2
  obtain ⟨w0, hw0⟩ : ∃ w0, w.alloc (.cells #[.int .i64 st, .slice aa arcs.length ca, .slice af fins.length cf] 25) = w0 := ⟨_, rfl⟩
  have HB0 : Hid (Below w.heap.size w w0) := hw0 ▸ (Below.refl _ w).alloc (Nat.le_refl _) _
  have HBX : Hid (w0.heap[w.heap.size]? = some (.cells #[.int .i64 st, .slice aa arcs.length ca, .slice af fins.length cf] 25 (0, 0))) := hw0 ▸ heap_alloc_new _ _
  have HSZ : Hid (w0.heap.size = w.heap.size + 1) := by (show w0.heap.size = w.heap.size + 1; rw [← hw0]; simp)
  have HW0 : Hid (w.alloc (.cells #[.int .i64 st, .slice aa arcs.length ca, .slice af fins.length cf] 25) = w0) := hw0
  clear hw0
  go_enter Try.func14, Try.ntmps14
  go_wp2_with (at_make; go_loud (refine wpList_make_full _ rfl _ _ 26 rfl (w.heap.size + 1) 3 i3 (.int .i64 0) 1 Try.underlying26 hi3 hz30 hz31 .i64 .i64 _ _ N rfl rfl (by first | exact HM2.out | (trace_state; fail)) (by first | exact HM2.out | fail) hz8 hm8 (by simp) ?_; intro w1 hown0 hgrow0))
  have hs0 : St w0 w1 (w.heap.size + 1) N (List.replicate N 0) := by
    rw [← HW0.out]
    refine ⟨?_, (Below.refl _ _).grown hgrow0 (by simp) (by simp), by simp⟩
    have e : (madeCells (Value.cells (.int .i64 0)) (N * 1)).toList = nc (List.replicate N 0) := by
      rw [Nat.mul_one]
      show (madeCells #[.int .i64 0] N).toList = _
      rw [toList_madeCells_one]
      simp [nc]
    rw [e] at hown0
    simpa using hown0
  have hw1 : w.heap.size + 1 < w1.heap.size := (hs0.1.lt (w.heap.size + 1) rfl).2
  clear hown0 hgrow0
  go_loopw [10] (fun iv wr => ∃ (B : List Nat) (i : Nat), iv = .int .i64 (i : Int) ∧ i ≤ inn.length + 1 ∧ St w0 wr (w.heap.size + 1) N B ∧ w.heap.size + 1 < wr.heap.size ∧ Tab ⟨st, arcs, fins⟩ inn out B i 0) (fun iv _ => inn.length + 1 - (intOf iv).toNat)
  case atStart => exact ⟨_, 0, rfl, by omega, hs0, hw1, tab_start _ _ _ _⟩
  case round =>
    clear hs0 hw1
    obtain ⟨B, i, rfl, hi1, hst, hgl, htab⟩ := hrel
    have HT : Hid _ := htab
    clear htab
    by_cases hil : i < inn.length + 1
    · have di : decide ((i : Int) < (inn.length : Int) + 1) = true := decide_eq_true (by omega)
      have di2 : (i : Int) < (inn.length : Int) + 1 := by omega
      have HS : Hid (St w0 wr (w.heap.size + 1) N B ∧ w.heap.size + 1 < wr.heap.size) := ⟨hst, hgl⟩
      clear hst hgl
      go_wp2
      go_loopw [11] (fun jv wr => ∃ (B : List Nat) (j : Nat), jv = .int .i64 (j : Int) ∧ j ≤ out.length + 1 ∧ St w0 wr (w.heap.size + 1) N B ∧ w.heap.size + 1 < wr.heap.size ∧ Tab ⟨st, arcs, fins⟩ inn out B i j) (fun jv _ => out.length + 1 - (intOf jv).toNat)
      case atStart => exact ⟨B, 0, rfl, by omega, HS.out.1, HS.out.2, HT.out⟩
      case round =>
        clear HS HT
        obtain ⟨B, j, rfl, hj1, hst, hgl, htab⟩ := hrel
        have HT : Hid _ := htab
        clear htab
        by_cases hjl : j < out.length + 1
        · have dj : decide ((j : Int) < (out.length : Int) + 1) = true := decide_eq_true (by omega)
          have dj2 : (j : Int) < (out.length : Int) + 1 := by omega
          obtain ⟨P1, PJ, m3, a3, m3b, a3b, eP⟩ := placeA (i := i) (j := j) (n := out.length) (by omega) (by omega) (by omega)
          have hPN : PJ < N := by rw [eP, HN.out]; exact place_lt (by omega) (by omega)
          have hPNi : (PJ : Int) < (N : Int) := by omega
          have c1 := hst.cell PJ hPN
          have f1 := hst.frozen PJ
          have hss := hst.storeI PJ dear 1152921504606846976 dear_int (by omega)
          have HEP : Hid (PJ = i * (out.length + 1) + j) := eP
          have HTD : Hid (Tab ⟨st, arcs, fins⟩ inn out (B.set PJ dear) i j) := by (show Tab ⟨st, arcs, fins⟩ inn out (B.set PJ dear) i j; rw [eP]; exact tab_set HT.out (by omega))
          have HLB : Hid (B.length = N) := hst.2.2
          clear eP
          by_cases hz : i + j = 0
          · have b1 : (((i : Int) + (j : Int)) == 0) = true := by simp; omega
            have b2 : (i : Int) + (j : Int) = 0 := by omega
            have c2 := hss.1.cell 0 hN0
            have f2 := hss.1.frozen 0
            have hs2 := hss.1.storeI 0 0 0 rfl (by have := hss.2.size; omega)
            have h0 : PJ = 0 := by rw [HEP.out, show i = 0 by omega, show j = 0 by omega]; simp
            have HR0 : Hid (Rn ⟨st, arcs, fins⟩ inn out w0 (w.heap.size + 1) N i j PJ 0 0 ((B.set PJ dear).set 0 0) ((wr.setCell ⟨w.heap.size + 1, PJ, none⟩ (.int .i64 1152921504606846976)).setCell ⟨w.heap.size + 1, 0, none⟩ (.int .i64 0))) := by
              have hv : val ((B.set PJ dear).set 0 0) PJ = 0 := by rw [h0]; exact val_here (by rw [List.length_set, HLB.out]; exact hN0)
              refine ⟨hs2.1, Nat.lt_of_lt_of_le hgl (Nat.le_trans hss.2.size hs2.2.size), ?_, ?_, ?_⟩
              · have := tab_set (v := 0) HTD.out (show j ≤ out.length by omega)
                rw [← HEP.out] at this
                rwa [h0] at this ⊢
              · rw [hv]
                have := seenR_start ⟨st, arcs, fins⟩ inn out i j
                rwa [if_pos hz] at this
              · rw [hv]; exact .inr (Nat.zero_le _)
            have HZ : Hid (i + j = 0) := hz
            clear hss hs2 hst HT HTD hz h0
            go_wp2
            obtain ⟨W1, hW1⟩ : ∃ W1, (wr.setCell ⟨w.heap.size + 1, PJ, none⟩ (.int .i64 1152921504606846976)).setCell ⟨w.heap.size + 1, 0, none⟩ (.int .i64 0) = W1 := ⟨_, rfl⟩
            rw [hW1] at HR0 ⊢
            clear hW1 c1 f1 c2 f2 b1 b2
            go_loopw [12] (fun rv wr => ∃ (B : List Nat) (r : Nat), rv = .int .i64 (r : Int) ∧ r ≤ i + 1 ∧ Rn ⟨st, arcs, fins⟩ inn out w0 (w.heap.size + 1) N i j PJ r 0 B wr) (fun rv _ => i + 1 - (intOf rv).toNat)
            case atStart => exact ⟨_, 0, rfl, by omega, HR0.out⟩
            case round =>
              clear HR0
              obtain ⟨B2, r, rfl, hr1, hR⟩ := hrel
              have HR : Hid (Rn ⟨st, arcs, fins⟩ inn out w0 (w.heap.size + 1) N i j PJ r 0 B2 wr) := hR
              clear hR
              by_cases hrl : r ≤ i
              · have dr : decide ((r : Int) ≤ (i : Int)) = true := decide_eq_true (by omega)
                have dr2 : (r : Int) ≤ (i : Int) := by omega
                go_wp2
                go_loopw [13] (fun qv wr => ∃ (B : List Nat) (q : Nat), qv = .int .i64 (q : Int) ∧ q ≤ j + 1 ∧ Rn ⟨st, arcs, fins⟩ inn out w0 (w.heap.size + 1) N i j PJ r q B wr) (fun qv _ => j + 1 - (intOf qv).toNat)
                case atStart => exact ⟨_, 0, rfl, by omega, HR.out⟩
                case round =>
                  clear HR
                  obtain ⟨B3, q, rfl, hq1, hR⟩ := hrel
                  have HR : Hid (Rn ⟨st, arcs, fins⟩ inn out w0 (w.heap.size + 1) N i j PJ r q B3 wr) := hR
                  clear hR
                  by_cases hql : q ≤ j
                  · have dq : decide ((q : Int) ≤ (j : Int)) = true := decide_eq_true (by omega)
                    have dq2 : (q : Int) ≤ (j : Int) := by omega
                    obtain ⟨Q1, QJ, n3, o3, n3b, o3b, eQ⟩ := placeA (i := r) (j := q) (n := out.length) (by omega) (by omega) (by omega)
                    have hQN : QJ < N := by rw [eQ, HN.out]; exact place_lt (by omega) (by omega)
                    have hQNi : (QJ : Int) < (N : Int) := by omega
                    have cQ := HR.out.st.cell QJ hQN
                    have HEQ : Hid (QJ = r * (out.length + 1) + q) := eQ
                    have hGl := HR.out.gl
                    clear eQ
                    by_cases hself : r = i ∧ q = j
                    · have br : ((r : Int) == (i : Int)) = true := by rw [hself.1]; simp
                      have bq : ((q : Int) == (j : Int)) = true := by rw [hself.2]; simp
                      have HX : Hid (Rn ⟨st, arcs, fins⟩ inn out w0 (w.heap.size + 1) N i j PJ r (q + 1) B3 wr) := ⟨HR.out.st, HR.out.gl, HR.out.tab, seenR_self HR.out.lst hself, HR.out.bnd⟩
                      clear hself cQ
                      go_wp2
                      go_roundw
                      case rel => exact ⟨_, q + 1, by go_num, by omega, HX.out⟩
                      case measure => simp [intOf]; omega
                    · have := HZ.out; exact (hself ⟨by omega, by omega⟩).elim
                  · have dq : decide ((q : Int) ≤ (j : Int)) = false := decide_eq_false (by omega)
                    have dq2 : ¬ (q : Int) ≤ (j : Int) := by omega
                    have eq : q = j + 1 := by omega
                    have HX : Hid (Rn ⟨st, arcs, fins⟩ inn out w0 (w.heap.size + 1) N i j PJ (r + 1) 0 B3 wr) := by
                      have h := HR.out
                      rw [eq] at h
                      exact ⟨h.st, h.gl, h.tab, seenR_row h.lst, h.bnd⟩
                    clear eq HR
                    go_wp2
                    go_roundw
                    case rel => exact ⟨_, r + 1, by go_num, by omega, HX.out⟩
                    case measure => simp [intOf]; omega
              · have dr : decide ((r : Int) ≤ (i : Int)) = false := decide_eq_false (by omega)
                have dr2 : ¬ (r : Int) ≤ (i : Int) := by omega
                have er : r = i + 1 := by omega
                have HX : Hid (Tab ⟨st, arcs, fins⟩ inn out B2 i (j + 1)) := by
                  have h := HR.out
                  rw [er] at h
                  have h1 := seenR_end (by omega) (by omega) h.lst
                  have h2 := h.bnd
                  rw [HEP.out] at h1 h2
                  exact tab_next h.tab h1 h2
                have HY : Hid (St w0 wr (w.heap.size + 1) N B2 ∧ w.heap.size + 1 < wr.heap.size) := ⟨HR.out.st, HR.out.gl⟩
                clear er HR
                go_wp2
                go_roundw
                case rel => exact ⟨_, j + 1, by go_num, by omega, HY.out.1, HY.out.2, HX.out⟩
                case measure => simp [intOf]; omega
          · have b1 : (((i : Int) + (j : Int)) == 0) = false := by simp; omega
            have b2 : ¬ (i : Int) + (j : Int) = 0 := by omega
            have HR0 : Hid (Rn ⟨st, arcs, fins⟩ inn out w0 (w.heap.size + 1) N i j PJ 0 0 (B.set PJ dear) (wr.setCell ⟨w.heap.size + 1, PJ, none⟩ (.int .i64 1152921504606846976))) := by
              have hv : val (B.set PJ dear) PJ = dear := val_here (by rw [HLB.out]; exact hPN)
              refine ⟨hss.1, Nat.lt_of_lt_of_le hgl hss.2.size, HTD.out, ?_, ?_⟩
              · rw [hv]
                have := seenR_start ⟨st, arcs, fins⟩ inn out i j
                rwa [if_neg hz] at this
              · rw [hv]; exact .inl rfl
            clear hss hst HT HTD hz
            go_wp2
            obtain ⟨W1, hW1⟩ : ∃ W1, wr.setCell ⟨w.heap.size + 1, PJ, none⟩ (.int .i64 1152921504606846976) = W1 := ⟨_, rfl⟩
            rw [hW1] at HR0 ⊢
            clear hW1 c1 f1 b1 b2
            go_loopw [12] (fun rv wr => ∃ (B : List Nat) (r : Nat), rv = .int .i64 (r : Int) ∧ r ≤ i + 1 ∧ Rn ⟨st, arcs, fins⟩ inn out w0 (w.heap.size + 1) N i j PJ r 0 B wr) (fun rv _ => i + 1 - (intOf rv).toNat)
            case atStart => exact ⟨_, 0, rfl, by omega, HR0.out⟩
            case round =>
              clear HR0
              obtain ⟨B2, r, rfl, hr1, hR⟩ := hrel
              have HR : Hid (Rn ⟨st, arcs, fins⟩ inn out w0 (w.heap.size + 1) N i j PJ r 0 B2 wr) := hR
              clear hR
              by_cases hrl : r ≤ i
              · have dr : decide ((r : Int) ≤ (i : Int)) = true := decide_eq_true (by omega)
                have dr2 : (r : Int) ≤ (i : Int) := by omega
                go_wp2
                go_loopw [13] (fun qv wr => ∃ (B : List Nat) (q : Nat), qv = .int .i64 (q : Int) ∧ q ≤ j + 1 ∧ Rn ⟨st, arcs, fins⟩ inn out w0 (w.heap.size + 1) N i j PJ r q B wr) (fun qv _ => j + 1 - (intOf qv).toNat)
                case atStart => exact ⟨_, 0, rfl, by omega, HR.out⟩
                case round =>
                  clear HR
                  obtain ⟨B3, q, rfl, hq1, hR⟩ := hrel
                  have HR : Hid (Rn ⟨st, arcs, fins⟩ inn out w0 (w.heap.size + 1) N i j PJ r q B3 wr) := hR
                  clear hR
                  by_cases hql : q ≤ j
                  · have dq : decide ((q : Int) ≤ (j : Int)) = true := decide_eq_true (by omega)
                    have dq2 : (q : Int) ≤ (j : Int) := by omega
                    obtain ⟨Q1, QJ, n3, o3, n3b, o3b, eQ⟩ := placeA (i := r) (j := q) (n := out.length) (by omega) (by omega) (by omega)
                    have hQN : QJ < N := by rw [eQ, HN.out]; exact place_lt (by omega) (by omega)
                    have hQNi : (QJ : Int) < (N : Int) := by omega
                    have cQ := HR.out.st.cell QJ hQN
                    have HEQ : Hid (QJ = r * (out.length + 1) + q) := eQ
                    have hGl := HR.out.gl
                    clear eQ
                    by_cases hself : r = i ∧ q = j
                    · have br : ((r : Int) == (i : Int)) = true := by rw [hself.1]; simp
                      have bq : ((q : Int) == (j : Int)) = true := by rw [hself.2]; simp
                      have HX : Hid (Rn ⟨st, arcs, fins⟩ inn out w0 (w.heap.size + 1) N i j PJ r (q + 1) B3 wr) := ⟨HR.out.st, HR.out.gl, HR.out.tab, seenR_self HR.out.lst hself, HR.out.bnd⟩
                      clear hself cQ
                      go_wp2
                      go_roundw
                      case rel => exact ⟨_, q + 1, by go_num, by omega, HX.out⟩
                      case measure => simp [intOf]; omega
                    · obtain ⟨hRl, hRb⟩ := HR.out.tab r q (by omega) (by omega) (by omega)
                      rw [← HEQ.out] at hRl hRb
                      obtain ⟨p, hp⟩ : ∃ p, val B3 QJ = p := ⟨_, rfl⟩
                      rw [hp] at cQ hRl hRb
                      have HRL : Hid _ := hRl
                      have HRB : Hid _ := hRb
                      have HSF : Hid (¬ (r = i ∧ q = j)) := hself
                      have hs2 : (((r : Int) == (i : Int)) = false) ∨ (((r : Int) == (i : Int)) = true ∧ ((q : Int) == (j : Int)) = false) := by
                        by_cases h : r = i
                        · exact .inr ⟨by rw [h]; simp, by simp; omega⟩
                        · exact .inl (by simp; omega)
                      have HPV : Hid (val B3 QJ = p) := hp
                      clear hRl hRb hp hself
                      by_cases hpd : p = dear
                      · have cQ' : wr.cell? ⟨w.heap.size + 1, QJ, none⟩ = some (.int .i64 1152921504606846976) := by rw [cQ, hpd, ← dear_int]
                        have HX : Hid (Rn ⟨st, arcs, fins⟩ inn out w0 (w.heap.size + 1) N i j PJ r (q + 1) B3 wr) := ⟨HR.out.st, HR.out.gl, HR.out.tab, seenR_none HR.out.lst (hpd ▸ HRL.out), HR.out.bnd⟩
                        clear cQ hpd
                        rcases hs2 with br | ⟨br, bq⟩
                        all_goals
                          go_wp2
                          go_roundw
                          case rel => exact ⟨_, q + 1, by go_num, by omega, HX.out⟩
                          case measure => simp [intOf]; omega
                      · have hpl : p < dear := Nat.lt_of_le_of_ne (least_le HRL.out) hpd
                        have bp := not_dear hpl
                        obtain ⟨y1, hy1⟩ := any_look HI.out r (i - r) (by omega)
                        obtain ⟨y2, hy2⟩ := any_look HO.out q (j - q) (by omega)
                        obtain ⟨c, lc, bc, kc⟩ := KA.out ((inn.drop r).take (i - r)) ((out.drop q).take (j - q)) _ _ (by rw [List.length_take]; omega) (by rw [List.length_take]; omega) (isI_look (c' := 0) HI.out (by omega) hy1) (isI_look (c' := 0) HO.out (by omega) hy2)
                        have HLC : Hid (Least (Seg ⟨st, arcs, fins⟩ inn out r q i j) c) := by
                          show Least (Seg ⟨st, arcs, fins⟩ inn out r q i j) c
                          unfold Seg
                          rw [List.drop_take, List.drop_take]
                          exact lc
                        have HWW : Hid (Below w.heap.size w wr) := HB0.out.trans (HR.out.st.2.1.mono (Nat.le_succ _))
                        have RA : ∀ p : After wr, p.W.cell? ⟨w.heap.size, 0, none⟩ = some (.int .i64 st) ∧ p.W.cell? ⟨w.heap.size, 1, none⟩ = some (.slice aa arcs.length ca) ∧ p.W.cell? ⟨w.heap.size, 2, none⟩ = some (.slice af fins.length cf) := fun p => by
                          have g := (p.h.block w.heap.size (by omega)).trans ((HR.out.st.2.1.block w.heap.size (by omega)).trans HBX.out)
                          exact ⟨cell_of_row _ _ 0 _ 25 (0, 0) g, cell_of_row _ _ 1 _ 25 (0, 0) g, cell_of_row _ _ 2 _ 25 (0, 0) g⟩
                        have KC : Hid (∀ (p : After wr) x1 n1 c1 x2 n2 c2, n1 = i - r → n2 = j - q → Look ai (i - r) r x1 → Look ao (j - q) q x2 → Calls Try.prog 9 #[.agg #[.int .i64 st, .slice aa arcs.length ca, .slice af fins.length cf], .slice x1 n1 c1, .slice x2 n2 c2, .bool true] p.W fun e w' => e = .returned (.int .i64 (c : Int)) ∧ Below p.W.heap.size p.W w') := fun p x1 n1 c1 x2 n2 c2 e1 e2 h1 h2 => by
                          subst e1 e2
                          have hp : Below w.heap.size w p.W := HWW.out.trans (p.h.mono HWW.out.size)
                          exact kc p.W _ _ hp (isI_look (HI.out.below hp) (by omega) h1) (isI_look (HO.out.below hp) (by omega) h2)
                        have sI : inn.length ≤ 0 ∨ ((∃ b off, ai = some ⟨b, off, none⟩) ∧ ci = r) ∨ ((∃ b off, ai = some ⟨b, off, none⟩) ∧ ¬ ci = r) := by
                          by_cases h0 : inn.length = 0
                          · exact .inl (by omega)
                          · by_cases h1 : ci = r
                            · exact .inr (.inl ⟨isI_some HI.out (by omega), h1⟩)
                            · exact .inr (.inr ⟨isI_some HI.out (by omega), h1⟩)
                        have sO : out.length ≤ 0 ∨ ((∃ b off, ao = some ⟨b, off, none⟩) ∧ co = q) ∨ ((∃ b off, ao = some ⟨b, off, none⟩) ∧ ¬ co = q) := by
                          by_cases h0 : out.length = 0
                          · exact .inl (by omega)
                          · by_cases h1 : co = q
                            · exact .inr (.inl ⟨isI_some HO.out (by omega), h1⟩)
                            · exact .inr (.inr ⟨isI_some HO.out (by omega), h1⟩)
                        have g1 : (i : Int) ≤ (ci : Int) := by omega
                        have g2 : (j : Int) ≤ (co : Int) := by omega
                        have g3 : i ≤ ci := by omega
                        have g4 : j ≤ co := by omega
                        haveI : Inhabited (After wr) := ⟨⟨_, Below.refl _ _⟩⟩
                        have HBC : Hid (c = dear ∨ c ≤ 11532001000000) := bc
                        have HPL : Hid (p < dear) := hpl
                        clear lc kc bc hy1 hy2 y1 y2 hpd hpl
                        rcases hs2 with br | ⟨br, bq⟩ <;> rcases sI with hn0 | ⟨⟨b, off, rfl⟩, hci0⟩ | ⟨⟨b, off, rfl⟩, hci0⟩ <;> rcases sO with hm0 | ⟨⟨b', off', rfl⟩, hco0⟩ | ⟨⟨b', off', rfl⟩, hco0⟩
                        all_goals
                          go_upto_region 19 with fail
                          refine wp_region_after (by kernel_rfl) (by kernel_rfl) ?_
                          repeat (go_big_quiet_step (first | (go_at_call 9; (with_reducible refine after_of (KC.out _ _ _ _ _ _ _ (by omega) (by omega) (by first | exact look_pre | exact look_suf | exact look0 (by omega)) (by first | exact look_pre | exact look_suf | exact look0 (by omega)))))))
                          refine wpQuiet_nil ?_
                          intro W hw'
                          obtain ⟨⟨W, hW⟩, rfl⟩ := hw'
                          have R9 := HR.out.later hW
                          have hcP := R9.st.cell PJ hPN
                          have hcQ := R9.st.cell QJ hQN
                          have hfP := R9.st.frozen PJ
                          obtain ⟨xv, hxv⟩ : ∃ xv, val B3 PJ = xv := ⟨_, rfl⟩
                          rw [hxv] at hcP
                          rw [HPV.out] at hcQ
                          have HXV : Hid (val B3 PJ = xv) := hxv
                          have HR9 : Hid (Rn ⟨st, arcs, fins⟩ inn out w0 (w.heap.size + 1) N i j PJ r q B3 W) := R9
                          clear R9 KC RA cQ hxv HR
                          by_cases hcd : c < dear
                          · have dC := lt_dear hcd
                            obtain ⟨S, eS, hSd, hSb, sw, sw2⟩ := sum2 (K := r + q) HRB.out HPL.out HBC.out hcd (by omega)
                            have HS : Hid (S = p + c ∧ S < dear ∧ S ≤ (r + q + 1) * big) := ⟨eS, hSd, hSb⟩
                            have HCD : Hid (c < dear) := hcd
                            clear eS hSd hSb hcd
                            go_upto_region 21 with fail
                            go_region
                            go_wp2
                            go_roundw
                            case rel => exact ⟨_, q + 1, by go_num, by omega, (HR9.out.step HEP.out hPN (by omega) (by omega) (by omega) HSF.out HXV.out HRL.out HLC.out HPL.out HCD.out HS.out.1 HS.out.2.1 HS.out.2.2 _ (min_if2 xv S)).later (Below.refl _ _).drew⟩
                            case measure => simp [intOf]; omega
                          · have dC := not_lt_dear hcd
                            have HX : Hid (Rn ⟨st, arcs, fins⟩ inn out w0 (w.heap.size + 1) N i j PJ r (q + 1) B3 W) := by
                              have e : c = dear := by rcases HBC.out with h | h; exact h; exact absurd (Nat.lt_of_le_of_lt h (by unfold dear; omega)) hcd
                              exact ⟨HR9.out.st, HR9.out.gl, HR9.out.tab, seenR_no HR9.out.lst (e ▸ HLC.out), HR9.out.bnd⟩
                            clear hcd
                            go_wp2
                            go_roundw
                            case rel => exact ⟨_, q + 1, by go_num, by omega, HX.out⟩
                            case measure => simp [intOf]; omega
                  · have dq : decide ((q : Int) ≤ (j : Int)) = false := decide_eq_false (by omega)
                    have dq2 : ¬ (q : Int) ≤ (j : Int) := by omega
                    have eq : q = j + 1 := by omega
                    have HX : Hid (Rn ⟨st, arcs, fins⟩ inn out w0 (w.heap.size + 1) N i j PJ (r + 1) 0 B3 wr) := by
                      have h := HR.out
                      rw [eq] at h
                      exact ⟨h.st, h.gl, h.tab, seenR_row h.lst, h.bnd⟩
                    clear eq HR
                    go_wp2
                    go_roundw
                    case rel => exact ⟨_, r + 1, by go_num, by omega, HX.out⟩
                    case measure => simp [intOf]; omega
              · have dr : decide ((r : Int) ≤ (i : Int)) = false := decide_eq_false (by omega)
                have dr2 : ¬ (r : Int) ≤ (i : Int) := by omega
                have er : r = i + 1 := by omega
                have HX : Hid (Tab ⟨st, arcs, fins⟩ inn out B2 i (j + 1)) := by
                  have h := HR.out
                  rw [er] at h
                  have h1 := seenR_end (by omega) (by omega) h.lst
                  have h2 := h.bnd
                  rw [HEP.out] at h1 h2
                  exact tab_next h.tab h1 h2
                have HY : Hid (St w0 wr (w.heap.size + 1) N B2 ∧ w.heap.size + 1 < wr.heap.size) := ⟨HR.out.st, HR.out.gl⟩
                clear er HR
                go_wp2
                go_roundw
                case rel => exact ⟨_, j + 1, by go_num, by omega, HY.out.1, HY.out.2, HX.out⟩
                case measure => simp [intOf]; omega
        · have dj : decide ((j : Int) < (out.length : Int) + 1) = false := decide_eq_false (by omega)
          have dj2 : ¬ (j : Int) < (out.length : Int) + 1 := by omega
          have ej : j = out.length + 1 := by omega
          have HX : Hid (Tab ⟨st, arcs, fins⟩ inn out B (i + 1) 0) := tab_row (ej ▸ HT.out)
          have HY : Hid (St w0 wr (w.heap.size + 1) N B ∧ w.heap.size + 1 < wr.heap.size) := ⟨hst, hgl⟩
          clear ej HT hst hgl
          go_wp2
          go_roundw
          case rel => exact ⟨_, i + 1, by go_num, by omega, HY.out.1, HY.out.2, HX.out⟩
          case measure => simp [intOf]; omega
    · have di : decide ((i : Int) < (inn.length : Int) + 1) = false := decide_eq_false (by omega)
      have di2 : ¬ (i : Int) < (inn.length : Int) + 1 := by omega
      have ei : i = inn.length + 1 := by omega
      obtain ⟨L, hL⟩ : ∃ L, N = L + 1 := ⟨N - 1, by omega⟩
      have eL : L = inn.length * (out.length + 1) + out.length := by
        have := HN.out
        rw [hL, Nat.add_mul] at this
        omega
      have cL := hst.cell L (by omega)
      have HX : Hid (Least (Rounds ⟨st, arcs, fins⟩ inn out inn.length out.length) (val B L)) := by
        have h := HT.out
        rw [ei] at h
        have := (h inn.length out.length (by omega) (Nat.le_refl _) (Nat.le_refl _)).1
        rwa [← eL] at this
      have hLN : (L : Int) < (N : Int) := by omega
      have n9 := sub_wrap hL hNb
      have m2 := HM2.out
      have HY : Hid (Below w.heap.size w wr) := HB0.out.trans (hst.2.1.mono (Nat.le_succ _))
      clear ei eL hL HT hst
      go_wp2
      go_ret
      exact ⟨_, rfl, HX.out, HY.out⟩
end Go.Proofs.Ytegfhbjdfcoajaa.Gn
