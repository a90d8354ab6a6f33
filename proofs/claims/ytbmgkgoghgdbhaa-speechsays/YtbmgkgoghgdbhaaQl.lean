/- Says: the first choice in order that is said. No conditions beyond how the words lie. -/
import Derived.Test.YtbmgkgoghgdbhaaQj
import Derived.Test.YtbmgkgoghgdbhaaQk
import Derived.Test.YtbmgkgoghgdbhaaQe
import Derived.Test.YtbmgkgoghgdbhaaRn
import Derived.Laws.OwnMore
namespace Go.Proofs.Ytbmgkgoghgdbhaa.Te
open Go.RowKit

theorem info3 : (Try.prog.info? 3).map (fun i => (i.zero, i.size, i.bytes)) = some (some (.int .i64 0), 1, 8) := by kernel_rfl
theorem made_nums (ws : List (List Ty)) : madeCells #[.int .i64 0] ws.length = nums (zeros ws) := by
  apply Array.ext'
  rw [toList_madeCells_one]
  simp only [nums, zeros, List.map_map]
  rw [← List.map_const']
  rfl
theorem run_mkn (ws : List (List Ty)) (hn : ws.length ≤ 6) (W : World) : (Instr.makeSlice 50 (.int .i64 (ws.length : Int)) (.int .i64 (ws.length : Int))).run Try.prog W = .ok (.slice (some ⟨W.heap.size, 0, none⟩) ws.length ws.length) (W.alloc (.cells (nums (zeros ws)) 3)) := by
  obtain ⟨i0, hi, hz0, hz1, hz2⟩ := info_parts info3
  have hr := run_make (P := Try.prog) W 50 3 i0 _ Try.underlying50 hi hz0 .i64 .i64 (ws.length : Int) (ws.length : Int) (by omega) (Int.le_refl _) (by rw [hz2]; omega) (by omega)
  simp only [Int.toNat_natCast, hz1, Nat.mul_one] at hr
  rw [← made_nums]
  exact hr
/-- what Says answers -/
def SaQ (ans : Option (List Nat)) (e0 : Int) (w : World) (e : Ending) (w' : World) : Prop := Below w.heap.size w w' ∧ ((ans = none ∧ e = .returned (.tuple #[.slice none 0 0, .bool false, .int .i64 e0])) ∨ ∃ r g, ans = some r ∧ e = .returned (.tuple #[.slice (some ⟨g, 0, none⟩) r.length r.length, .bool true, .int .i64 e0]) ∧ NsAt w' r (some ⟨g, 0, none⟩))
theorem nsat_nums {w : World} {cs : List Nat} {g : Nat} (h : w.heap[g]? = some (.cells (nums cs) 3 (0, 0))) : NsAt w cs (some ⟨g, 0, none⟩) := by
  refine .inr ⟨g, 0, rfl, lt_of_get h, fun j hj => ?_⟩
  rw [cell_of_row _ _ _ _ _ _ h, Nat.zero_add]
  exact nums_at cs j hj
set_option maxRecDepth 100000 in
set_option maxHeartbeats 4000000 in
theorem says_prog {d dg : Nat} (D : List Ty → Bool) (ws : List (List Ty)) (ka : Option Addr) (kc : Nat) (g : Ty) (ag : Option Addr) (cg : Nat) (w : World) (hk : ws.length ≤ 140737488355328) (h : WsAt w d ws ka) (hg : TyQ w dg g ag cg) (hD : ∀ l, D l = true ↔ E l g) (ans : Option (List Nat)) (hans : ans = if cwords ws g = 0 then fs D ws [] else none) :
    Calls Try.prog 26 #[.slice ka ws.length kc, vty g ag cg] w fun e w' => SaQ ans (cwords ws g) w e w' := by
  have K58 := fun W (hW : Below w.heap.size w W) => cwords_any ws ka kc g ag cg W hk (h.below hW) (hg.at.below hW)
  have HK : Hid (WsAt w d ws ka) := h
  have HG : Hid (TyQ w dg g ag cg) := hg
  have HD : Hid (∀ l, D l = true ↔ E l g) := hD
  have HA : Hid (ans = if cwords ws g = 0 then fs D ws [] else none) := hans
  obtain ⟨e0, he0⟩ : ∃ e0, cwords ws g = e0 := ⟨_, rfl⟩
  rw [he0] at K58 ⊢
  have HE : Hid (cwords ws g = e0) := he0
  clear h hg hD hans he0
  unfold vty at K58 ⊢
  go_enter Try.func26, Try.ntmps26
  go_upto_region 1 with fail
  have hVb : Below w.heap.size w (w.alloc (.cells #[.int .i64 g.kind, .int .i64 g.n, .slice ag g.kids.length cg] 24)) := (Below.refl _ w).alloc (Nat.le_refl _) _
  have x1 := heap_alloc_new w (.cells #[.int .i64 g.kind, .int .i64 g.n, .slice ag g.kids.length cg] 24)
  have K58 := K58 _ hVb
  generalize hV : w.alloc (.cells #[.int .i64 g.kind, .int .i64 g.n, .slice ag g.kids.length cg] 24) = V at *
  clear hV
  have i0 := cell_of_row _ _ 0 _ _ _ x1
  have i1 := cell_of_row _ _ 1 _ _ _ x1
  have i2 := cell_of_row _ _ 2 _ _ _ x1
  by_cases h0 : e0 = 0
  rotate_left
  · have h0b : (e0 != 0) = true := bne_iff_ne.2 h0
    go_wp2_with (go_at_call 58; (with_reducible refine K58.mono ?_); rintro e1 w1 ⟨rfl, hb1⟩; clear K58)
    go_ret3
    exact ⟨hVb.trans (hb1.mono hVb.size), .inl ⟨by rw [HA.out, HE.out, if_neg h0], rfl⟩⟩
  subst h0
  obtain ⟨h1, h6, h3, _⟩ := cwords_zero HE.out
  have H3 : Hid (∀ l ∈ ws, 0 < l.length ∧ l.length ≤ 3) := h3
  have HANS : Hid (fs D ws [] = ans) := by rw [HA.out, HE.out, if_pos rfl]; trivial
  have hmk := run_mkn ws h6
  clear h3
  go_upto_region 4 with (go_at_call 58; (with_reducible refine K58.mono ?_); rintro e1 w1 ⟨rfl, hb1⟩; clear K58)
  have hB1 := hVb.trans (hb1.mono hVb.size)
  have x1 := (hb1.block _ (lt_of_get x1)).trans x1
  clear i0 i1 i2 hb1
  have X1 : Hid (w1.heap[w.heap.size]? = some (.cells #[.int .i64 g.kind, .int .i64 g.n, .slice ag g.kids.length cg] 24 (0, 0))) := x1
  clear x1
  go_wp2
  have hn := heap_alloc_new w1 (.cells (nums (zeros ws)) 3)
  have hb2 : Below w1.heap.size w1 (w1.alloc (.cells (nums (zeros ws)) 3)) := (Below.refl _ w1).alloc (Nat.le_refl _) _
  generalize hV : w1.alloc (.cells (nums (zeros ws)) 3) = U at *
  clear hV hmk
  go_loopg [] (rest ws (zeros ws)) (fun gk wr => ∃ cs, gk = rest ws cs ∧ Fits ws cs ∧ fr D ws cs [] = ans ∧ wr.heap[w1.heap.size]? = some (.cells (nums cs) 3 (0, 0)) ∧ Below w1.heap.size w1 wr)
  case atStart => exact ⟨zeros ws, rfl, fits_zeros ws (fun l hl => (H3.out l hl).1), by rw [← HANS.out]; exact fr_zero D ws [] (fun l hl => (H3.out l hl).1), hn, hb2⟩
  case round =>
    obtain ⟨cs, rfl, hf, hfr, hc, hB⟩ := hrel
    have hBw := hB1.trans (hB.mono hB1.size)
    obtain ⟨r, hr⟩ := fix_bool (E (pk ws cs) g)
    have hl := fits_len hf
    have HFR : Hid (fr D ws cs [] = ans) := hfr
    have HF : Hid (Fits ws cs) := hf
    have HR : Hid (r = true ↔ E (pk ws cs) g) := hr
    have HC : Hid (wr.heap[w1.heap.size]? = some (.cells (nums cs) 3 (0, 0))) := hc
    have HLN : Hid (cs.length = ws.length) := hl
    clear hn hb2 hf hfr hr hc hl
    go_upto_region 5 with fail
    refine o26r5 HE.out (HK.out.below hBw) (HG.out.below hBw) HF.out HC.out ((hB.block _ (lt_of_get X1.out)).trans X1.out) HR.out (fun v9 v20 v21 v22 v23 v24 v25 v26 v27 v28 wx hbx => ?_)
    have hC := (hbx.block _ (lt_of_get HC.out)).trans HC.out
    have hBx := hB.trans (hbx.mono hB.size)
    cases r with
    | true =>
      go_wp2
      go_ret3
      refine ⟨hB1.trans (hBx.mono hB1.size), .inr ⟨cs, w1.heap.size, ?_, by rw [HLN.out]; rfl, nsat_nums hC⟩⟩
      rw [← HFR.out]
      exact fr_hit D ws cs [] HF.out ((HD.out _).2 (HR.out.1 (by trivial)))
    | false =>
      have hDf : D (pk ws cs) = false := bool_false (HD.out _) (fun h => by have := HR.out.2 h; cases this)
      have hnx := fr_next D ws cs [] (fun l hl => (H3.out l hl).1) HF.out hDf
      have K60 := next_any ws ka kc cs w1.heap.size w1 wx h1 h6 H3.out (HK.out.below hB1) hBx (Nat.le_refl _) HF.out hC
      have HNX : Hid (fr D ws cs [] = (match nx ws cs with | some r => fr D ws r [] | none => none)) := hnx
      clear hC hDf hnx
      cases hn : nx ws cs with
      | none =>
        have HN : Hid (nx ws cs = none) := hn
        rw [hn] at K60
        clear hn
        go_wp2_with (go_at_call 60; (with_reducible refine K60.mono ?_); rintro e2 w2 ⟨rfl, hc2, hb2⟩; clear K60 hc2)
        go_ret3
        refine ⟨hB1.trans ((hBx.trans hb2).mono hB1.size), .inl ⟨?_, rfl⟩⟩
        rw [← HFR.out, HNX.out, HN.out]
      | some q =>
        have HN : Hid (nx ws cs = some q) := hn
        rw [hn] at K60
        clear hn
        go_wp2_with (go_at_call 60; (with_reducible refine K60.mono ?_); rintro e2 w2 ⟨rfl, hc2, hb2⟩; clear K60; (have HC2 : Hid (w2.heap[w1.heap.size]? = some (.cells (nums q) 3 (0, 0))) := hc2 q rfl); clear hc2)
        obtain ⟨n1, n2⟩ := nx_fits ws cs (fun l hl => (H3.out l hl).1) HF.out q HN.out
        go_roundg (rest ws q)
        case measure => exact n2
        case rel => exact ⟨q, rfl, n1, by rw [← HFR.out, HNX.out, HN.out], HC2.out, hBx.trans hb2⟩
end Go.Proofs.Ytbmgkgoghgdbhaa.Te
