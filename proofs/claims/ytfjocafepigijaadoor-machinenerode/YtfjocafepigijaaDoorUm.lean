/- key (75): a set's key is its words' bytes. Condition: a set of few words. -/
import Derived.Test.YtfjocafepigijaaDoorUdM
import Derived.Test.YtfjocafepigijaaDoorOd
import Derived.Test.YtfjocafepigijaaDoorCkP2M
import Derived.Laws.BytesArg
import Derived.Laws.MakeOwn
namespace Go.Proofs.YtfjocafepigijaaDoor.Ot
open Go.RowKit Mv Sy Po Ps Cm Pa Am Wd St Ra Set

theorem inf5 : (Tryd.prog.info? 5).map (fun i => (i.zero, i.size, i.bytes)) = some (some (.int .u8 0), 1, 1) := by kernel_rfl
def bc (l : List Nat) : List Value := l.map fun (x : Nat) => Value.int .u8 (x : Int)
theorem run_mk188 (N : Nat) (hN : N ≤ 100000) (W : World) : (Instr.makeSlice 188 (.int .i64 0) (.int .i64 (N : Int))).run Tryd.prog W = .ok (.slice (some ⟨W.heap.size, 0, none⟩) 0 N) (W.alloc (.cells (madeCells #[.int .u8 0] N) 5)) := by
  obtain ⟨i0, hi, hz0, hz1, hz2⟩ := info_parts inf5
  have hr := run_make (P := Tryd.prog) W 188 5 i0 (.int .u8 0) Tryd.underlying188 hi hz0 .i64 .i64 0 (N : Int) (by omega) (by omega) (by rw [hz2]; omega) (by omega)
  simp only [Int.toNat_natCast, hz1, Nat.mul_one] at hr
  exact hr
theorem own_mk188 (W : World) (base N : Nat) (hb : base ≤ W.heap.size) (hN : N ≤ 100000) : (W.alloc (.cells (madeCells #[.int .u8 0] N) 5)).ownsRow base 5 1 (.slice (some ⟨W.heap.size, 0, none⟩) 0 N) 0 (bc []) := by
  refine ⟨rfl, .inr ⟨W.heap.size, N, madeCells #[.int .u8 0] N, rfl, hb, heap_alloc_new _ _, Nat.zero_le _, by unfold maxLen; omega, ?_, by simp [bc]⟩⟩
  rw [← Array.length_toList, toList_madeCells_one]; simp
theorem bc_one (k : Nat) : ∀ x ∈ bc [k], x.oneCell' = true := by
  intro x hx
  simp [bc] at hx
  subst hx
  rfl
theorem cell_byte (w : World) (g k : Nat) (hg : g = w.heap.size) : ∀ j u, (bc [k])[j]? = some u → (w.alloc (.cells #[.int .u8 (k : Int)] 5)).cell? ((⟨g, 0, none⟩ : Addr).add j) = some u := by
  subst hg
  exact cell_one_new w (.int .u8 (k : Int)) 5
theorem byte_at (x j : Nat) (h : j < 8) : ∃ b : Nat, (x : Int) / 2 ^ (8 * j) % 256 = (b : Int) ∧ (bs x).take (j + 1) = (bs x).take j ++ [b] := by
  have e : (bs x)[j]? = some (x / 2 ^ (8 * j) % 256) := by
    match j, h with
    | 0, _ => simp [bs]
    | 1, _ => simp [bs]
    | 2, _ => simp [bs]
    | 3, _ => simp [bs]
    | 4, _ => simp [bs]
    | 5, _ => simp [bs]
    | 6, _ => simp [bs]
    | 7, _ => simp [bs]
  refine ⟨x / 2 ^ (8 * j) % 256, by simp, ?_⟩
  obtain ⟨h1, h2⟩ := List.getElem?_eq_some_iff.1 e
  rw [List.take_succ_eq_append_getElem h1, h2]
theorem bc_app (l m : List Nat) : bc (l ++ m) = bc l ++ bc m := by simp [bc]
set_option maxHeartbeats 8000000 in
set_option maxRecDepth 100000 in
theorem key_any (base n : Nat) (v : Value) (ws : List Nat) (w : World) (h : IsSet w base v n ws) (hl : ws.length ≤ 1000) (hpos : 0 < ws.length) :
    Calls Tryd.prog 75 #[v] w fun e w' => e = .returned (.string (strOfNums ((kb ws).map fun (x : Nat) => (x : Int)))) ∧ Below w.heap.size w w' := by
  obtain ⟨i0, hi, hz0, hz1, hz2⟩ := info_parts inf5
  obtain ⟨av, cv, rfl⟩ := oslice h.1
  have HS : Hid (IsSet w base (.slice av ws.length cv) n ws) := h
  obtain ⟨N8, hN8, hmul⟩ : ∃ N8 : Nat, N8 = 8 * ws.length ∧ (8 : Int) * (ws.length : Int) = (N8 : Int) := ⟨8 * ws.length, rfl, by simp⟩
  have hN9 : N8 ≤ 8000 := by omega
  have hmk := run_mk188 N8 (by omega)
  obtain ⟨lw, hlw⟩ : ∃ lw, ws.length = lw := ⟨_, rfl⟩
  rw [hlw] at hmul HS hl hpos ⊢
  have HLW : Hid (ws.length = lw) := hlw
  have HB0 : Hid (Below w.heap.size w (w.alloc (.cells (madeCells #[.int .u8 0] N8) 5))) := (Below.refl _ w).alloc (Nat.le_refl _) _
  have HO0 : Hid ((w.alloc (.cells (madeCells #[.int .u8 0] N8) 5)).ownsRow w.heap.size 5 1 (.slice (some ⟨w.heap.size, 0, none⟩) 0 N8) 0 (bc [])) := own_mk188 w w.heap.size N8 (Nat.le_refl _) (by omega)
  clear h hN8 hlw
  go_enter Tryd.func75, Tryd.ntmps75
  go_upto_region 2 with fail
  clear hmk
  generalize w.alloc (.cells (madeCells #[.int .u8 0] N8) 5) = V0 at *
  have HWS : Hid (w.heap.size ≤ w.heap.size) := Nat.le_refl _
  go_wp2
  go_loopw [3, 13] (fun a i wr => ∃ (y : Nat) (vK : Value), a = vK ∧ i = .int .i64 y ∧ y ≤ lw ∧ wr.ownsRow w.heap.size 5 1 vK (8 * y) (bc (kb (ws.take y))) ∧ Below w.heap.size w wr) (fun _ i _ => lw - (intOf i).toNat)
  case atStart => exact ⟨0, _, rfl, rfl, Nat.zero_le _, HO0.out, HB0.out⟩
  case round =>
    clear HO0 HB0
    obtain ⟨y, vK, rfl, rfl, hy, hrow, hbl⟩ := hrel
    obtain ⟨ak, ck, rfl⟩ := oslice hrow
    have HRW : Hid (wr.ownsRow w.heap.size 5 1 (.slice ak (8 * y) ck) (8 * y) (bc (kb (ws.take y)))) := hrow
    have HBL : Hid (Below w.heap.size w wr) := hbl
    by_cases hlt : y < lw
    · obtain ⟨sg, scap, hve, _, hsg⟩ := own_some HS.out.1 (by rw [HLW.out]; omega)
      rw [HLW.out, Value.slice.injEq] at hve
      obtain ⟨hav, _, hcv⟩ := hve
      subst hav hcv
      have hyl : y < ws.length := by rw [HLW.out]; exact hlt
      have hS1 := HS.out.1
      rw [HLW.out] at hS1
      have hc := (hbl.cell (p := ⟨sg, y, none⟩) hsg).trans (hS1.cellAt y (by omega))
      clear hS1
      obtain ⟨x, hx⟩ : ∃ x, ws[y] = x := ⟨_, rfl⟩
      rw [show (cellsW ws)[y]? = some (.int .u64 (x : Int)) by rw [← hx]; simp [cellsW, hyl]] at hc
      have hx64 : x < 18446744073709551616 := by rw [← hx]; exact HS.out.2.1 _ (List.getElem_mem hyl)
      have HX : Hid (ws.take (y + 1) = ws.take y ++ [x] ∧ x < 18446744073709551616) := ⟨by rw [List.take_succ_eq_append_getElem hyl, hx], hx64⟩
      obtain ⟨y8, hy8⟩ : ∃ y8, 8 * y = y8 := ⟨_, rfl⟩
      rw [hy8] at HRW ⊢
      have HY8 : Hid (8 * y = y8) := hy8
      have hy88 : y8 ≤ 8000 := by omega
      clear hrow hbl hx hy8 hyl hx64
      go_upto_region 6 with fail
      go_loopw [3, 6] (fun a i wr => ∃ (j : Nat) (vK : Value), a = vK ∧ i = .int .i64 ((8 * j : Nat) : Int) ∧ j ≤ 8 ∧ wr.ownsRow w.heap.size 5 1 vK (y8 + j) (bc (kb (ws.take y) ++ (bs x).take j)) ∧ Below w.heap.size w wr) (fun _ i _ => 64 - (intOf i).toNat)
      case atStart => exact ⟨0, _, rfl, rfl, Nat.zero_le _, by simpa using HRW.out, HBL.out⟩
      case round =>
        clear HRW HBL
        obtain ⟨j, vK, rfl, rfl, hj, hrow, hbl⟩ := hrel
        obtain ⟨ak1, ck1, rfl⟩ := oslice hrow
        have HRW : Hid (wr.ownsRow w.heap.size 5 1 (.slice ak1 (y8 + j) ck1) (y8 + j) (bc (kb (ws.take y) ++ (bs x).take j))) := hrow
        have HBL : Hid (Below w.heap.size w wr) := hbl
        clear hrow hbl
        by_cases hj8 : j < 8
        · obtain ⟨bj, hbj, htk⟩ := byte_at x j hj8
          have HTK : Hid ((bs x).take (j + 1) = (bs x).take j ++ [bj]) := htk
          have hsz : w.heap.size ≤ wr.heap.size := HBL.out.size
          clear htk
          go_wp2_with (refine wpList_append_own_at _ rfl _ _ 188 rfl w.heap.size 5 i0 (.int .u8 0) 1 1 Tryd.underlying188 hi hz0 hz1 hz2 rfl (by decide) _ _ _ rfl (HRW.out.alloc _) ⟨_, 0, none⟩ 1 1 (bc [bj]) rfl rfl (cell_byte _ _ _ rfl) (bc_one _) (by unfold maxLen; omega) (by omega) (by simp; omega) ?_; intro v1 w4 ho1 hg1 _ hl1; have HN : Hid (w4.ownsRow w.heap.size 5 1 v1 (y8 + (j + 1)) (bc (kb (ws.take y) ++ (bs x).take (j + 1))) ∧ Below w.heap.size w w4) := ⟨by rw [HTK.out, ← List.append_assoc, bc_app]; exact ho1, ((HBL.out.alloc HBL.out.size _).grown hg1 (Nat.le_trans HBL.out.size (by simp)) (fun b hb => (HRW.out.lt _ hb).1))⟩; obtain ⟨gg, cc, rfl, _, _⟩ := own_some ho1 (Nat.succ_pos _); clear ho1 hg1 hl1)
          go_roundw
          case rel => exact ⟨j + 1, _, rfl, congrArg (Value.int .i64) (by omega), hj8, HN.out.1, HN.out.2⟩
          case measure => simp [intOf]; omega
        · obtain rfl : j = 8 := by omega
          have HN : Hid (wr.ownsRow w.heap.size 5 1 (.slice ak1 (y8 + 8) ck1) (8 * (y + 1)) (bc (kb (ws.take (y + 1))))) := by
            have h1 := HRW.out
            rw [show (bs x).take 8 = bs x from rfl] at h1
            rw [HX.out.1, kb_up, show 8 * (y + 1) = y8 + 8 by have := HY8.out; omega]
            exact h1
          clear HRW
          go_wp2
          go_roundw
          case rel => exact ⟨y + 1, _, rfl, by go_num, hlt, HN.out, HBL.out⟩
          case measure => simp [intOf]; omega
    · obtain rfl : y = lw := by omega
      obtain ⟨kg, kcap, hke, _, _⟩ := own_some hrow (by omega)
      rw [Value.slice.injEq] at hke
      obtain ⟨hka, _, hkc⟩ := hke
      subst hka hkc
      rw [← HLW.out, List.take_length, HLW.out] at hrow
      have hcv := run_convert_bytes_arg (P := Tryd.prog) wr 188 5 Tryd.underlying188 Tryd.underlying5 kg 0 (8 * y) ck ((kb ws).map fun (x : Nat) => (x : Int)) (by rw [List.length_map, kb_len, HLW.out]; omega) (fun i hi => by
        rw [Nat.zero_add, hrow.cellAt i (by omega)]
        have hik : i < (kb ws).length := by rw [kb_len, HLW.out]; omega
        simp [bc, List.getD_eq_getElem?_getD, hik]) 9 Tryd.underlying9
      clear hrow HRW
      go_wp2
      go_ret
      exact ⟨rfl, HBL.out⟩
end Go.Proofs.YtfjocafepigijaaDoor.Ot
