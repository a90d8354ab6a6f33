/- bestFlat (23): the best flat tree, Eisner. Conditions: at most 12 words, scores of no great size. -/
import Derived.Test.YtpolnkdbebjpnaaNe
namespace Go.Proofs.Ytpolnkdbebjpnaa.Hd
open Go.RowKit

def wz (C : Nat → Int) (f e a b : Nat) : Int := if a = b then 0 else C (ix f e a b)
theorem wz_eq {s : Nat → Nat → Int} {n L F : Nat} {C : Nat → Int} (h : Tf s n L F C) {e a b : Nat} (he : e < 2) (ha : a ≤ n) : wz C 1 e a b = C (ix 1 e a b) := by
  unfold wz
  by_cases hab : a = b
  · subst hab; rw [if_pos rfl, h.d e a he ha]
  · rw [if_neg hab]
theorem tb_of {s : Nat → Nat → Int} {n : Nat} {C : Nat → Int} (h : Tf s n n 1 C) : Tb4 n s (wz C 1 0) (wz C 1 1) (fun a b => C (ix 0 0 a b)) (fun a b => C (ix 0 1 a b)) := by
  have hz : ∀ a b, a < b → b ≤ n → Ok0 s C a b ∧ (1 ≤ a → Ok1 s C a b) := fun a b h1 h2 => h.z a b h1 h2 (by omega)
  refine ⟨fun a => if_pos rfl, fun a => if_pos rfl, fun a b p h1 h2 h3 => ?_, fun a b c h1 h2 h3 => ?_, fun a b p h0 h1 h2 h3 => ?_, fun a b c h0 h1 h2 h3 => ?_⟩
  · rw [wz_eq h (by decide) (by omega), wz_eq h (by decide) (by omega)]
    exact (hz a b (by omega) h3).1.bm p h1 h2
  · rw [wz_eq h (by decide) (by omega), wz_eq h (by decide) (by omega)]
    exact (hz a b (by omega) h3).1.wm c h1 h2
  · rw [wz_eq h (by decide) (by omega), wz_eq h (by decide) (by omega)]
    exact ((hz a b (by omega) h3).2 h0).bm p h1 h2
  · rw [wz_eq h (by decide) (by omega), wz_eq h (by decide) (by omega)]
    exact ((hz a b (by omega) h3).2 h0).wm c h1 h2
/-- what bestFlat promises -/
def FlatP (n : Nat) (s : Nat → Nat → Int) (u : Nat → Nat) : Prop := (Tr n u ∧ Fl n u) ∧ ∀ t, Tr n t → Fl n t → wo s n t ≤ wo s n u
theorem flat_of {s : Nat → Nat → Int} {n : Nat} {C : Nat → Int} (h : Tf s n n 1 C) {u : Nat → Nat} (h0 : u 0 = 0) (hw : Wh s u false (C (ix 1 0 0 n)) 0 n) : FlatP n s u := by
  rw [← wz_eq h (by decide) (Nat.zero_le _)] at hw
  have hf := flat_opt (tb_of h) h0 hw
  exact ⟨hf.1, hf.2.2⟩
theorem tf_start (s : Nat → Nat → Int) (n : Nat) : Tf s n 1 0 (fun _ => 0) := ⟨fun a b h1 h2 h3 => by omega, fun _ _ _ _ => rfl, fun f e a b _ => ⟨⟨by omega, by omega⟩, by omega, by omega⟩⟩
theorem inf58 : (Try.prog.info? 58).map (fun i => i.zero) = some (some (.agg (Array.replicate 1352 (Value.int .i64 0)))) := by kernel_rfl
theorem run_zero58 : ∃ Z : Array Value, Z.size = 1352 ∧ (∀ i, i < 1352 → Z[i]? = some (.int .i64 0)) ∧ ∀ W, (zeroValue 58).run Try.prog W = .ok (.agg Z) W := by
  obtain ⟨i, hi, hz⟩ := Option.map_eq_some_iff.1 inf58
  refine ⟨Array.replicate 1352 (Value.int .i64 0), Array.size_replicate, fun j hj => ?_, fun W => ?_⟩
  · rw [Array.getElem?_replicate, if_pos hj]
  · simp [zeroValue, typeInfo, hi, hz, Sem.run_bind, Sem.run_pure]
set_option maxHeartbeats 4000000 in
set_option maxRecDepth 100000 in
theorem bestFlat_any (n q so cap : Nat) (ra : Nat → Option Addr) (rc : Nat → Nat) (s : Nat → Nat → Int) (w : World) (hS : Sc w q so n ra rc s) (hn : n ≤ 12) (hs : ∀ h x, h ≤ n → 1 ≤ x → x ≤ n → -1000000 ≤ s h x ∧ s h x ≤ 1000000) :
    Calls Try.prog 23 #[.slice (some ⟨q, so, none⟩) (n + 1) cap] w (UpQ n (fun ul => FlatP n s (uv ul)) w) := by
  have hmk := run_mk26n n (by omega)
  have HS : Hid (∀ W, Below w.heap.size w W → Sc W q so n ra rc s) := fun W hW => hS.below hW
  have HN : Hid (n ≤ 12 ∧ ∀ h x, h ≤ n → 1 ≤ x → x ≤ n → -1000000 ≤ s h x ∧ s h x ≤ 1000000) := ⟨hn, hs⟩
  obtain ⟨m1, hm1⟩ : ∃ m, n + 1 = m := ⟨_, rfl⟩
  have HM : Hid (n + 1 = m1) := hm1
  have wn : wrap64 ((m1 : Int) - 1) = (n : Int) := by unfold wrap64; omega
  rw [hm1]
  obtain ⟨Z, hZ1, hZ2, hz58⟩ := run_zero58
  have HZ : Hid (Pz (w.alloc (.cells Z 58)) w.heap.size (fun _ => 0)) := ⟨Z, heap_alloc_new _ _, hZ1, hZ2⟩
  clear hS hs hm1 hZ1 hZ2
  go_enter Try.func23, Try.ntmps23
  go_upto_region 3 with fail
  rw [wn]
  clear hz58 wn
  obtain ⟨W0, hW0⟩ : ∃ W, w.alloc (.cells Z 58) = W := ⟨_, rfl⟩
  obtain ⟨p, hp⟩ : ∃ p, w.heap.size = p := ⟨_, rfl⟩
  have HZ0 : Hid (Pz W0 p (fun _ => 0) ∧ Below w.heap.size w W0 ∧ w.heap.size ≤ p) := ⟨by rw [← hW0, ← hp]; exact HZ.out, by rw [← hW0]; exact below_al _ _, by omega⟩
  try rw [hW0]
  try rw [hp]
  clear HZ hW0 hp
  go_upto_region 4 with fail
  go_loopw [5] (fun a wr => ∃ (L : Nat) (C : Nat → Int), a = .int .i64 (L : Int) ∧ 1 ≤ L ∧ L ≤ n + 1 ∧ Pz wr p C ∧ Below w.heap.size w wr ∧ Tf s n L 0 C) (fun a _ => n + 1 - (intOf a).toNat)
  case atStart => exact ⟨1, fun _ => 0, rfl, Nat.le_refl _, by omega, HZ0.out.1, HZ0.out.2.1, tf_start s n⟩
  case round =>
    obtain ⟨L, C, rfl, h1, h2, h3, h4, h5⟩ := hrel
    have HL : Hid (1 ≤ L ∧ Pz wr p C ∧ Below w.heap.size w wr ∧ Tf s n L 0 C) := ⟨h1, h3, h4, h5⟩
    clear h1 h3 h4 h5
    by_cases hlt : L ≤ n
    · have hii : (L : Int) ≤ (n : Int) := by omega
      have HLN : Hid (L ≤ n) := hlt
      go_upto_region 7 with fail
      go_loopw [6] (fun a wr => ∃ (F : Nat) (C : Nat → Int), a = .int .i64 (F : Int) ∧ F + L ≤ n + 1 ∧ Pz wr p C ∧ Below w.heap.size w wr ∧ Tf s n L F C) (fun a _ => n + 1 - (intOf a).toNat)
      case atStart => exact ⟨0, C, rfl, by have := HLN.out; omega, HL.out.2.1, HL.out.2.2.1, HL.out.2.2.2⟩
      case round =>
        obtain ⟨F, C, rfl, g2, g3, g4, g5⟩ := hrel
        have HF : Hid (Pz wr p C ∧ Below w.heap.size w wr ∧ Tf s n L F C) := ⟨g3, g4, g5⟩
        have HF2 : Hid (F + L ≤ n + 1) := g2
        have wf1 : wrap64 ((F : Int) + 1) = ((F + 1 : Nat) : Int) := by unfold wrap64; omega
        clear g2 g3 g4 g5
        obtain ⟨b, hb⟩ : ∃ b, F + L = b := ⟨_, rfl⟩
        have HB : Hid (F + L = b) := hb
        have wfl : wrap64 ((F : Int) + (L : Int)) = (b : Int) := by have := HF2.out; unfold wrap64; omega
        by_cases hlt2 : b ≤ n
        · have hbi : (b : Int) ≤ (n : Int) := by omega
          have K40 := fill_any n q so cap p F b ra rc s C wr (fun W hW => HS.out W (below_kp HF.out.2.1 hW (fun k hk e => by have e2 : k = p := e; have := HZ0.out.2.2; omega))) HF.out.1 HF.out.2.2.bd HN.out.1 (by have := HL.out.1; omega) hlt2 HN.out.2
          rw [HM.out] at K40
          clear hb
          go_wp2_with (go_at_call 40; (with_reducible refine K40.mono ?_); clear K40; rintro e w1 ⟨rfl, C1, c1, c2, c3⟩; have HC : Hid (Pz w1 p C1 ∧ Kp (fun k => k = p) wr w1 ∧ Ft s F b C C1) := ⟨c1, c2, c3⟩; clear c1 c2 c3)
          go_roundw
          case rel => exact ⟨F + 1, C1, by rw [wf1], by have := HB.out; omega, HC.out.1, below_kp HF.out.2.1 HC.out.2.1 (fun k hk e => by have e2 : k = p := e; have := HZ0.out.2.2; omega), HF.out.2.2.step (by omega) HL.out.1 (by have := HB.out; omega) (by rw [HB.out]; exact HC.out.2.2)⟩
          case measure => have := HF2.out; have := HL.out.1; rw [wf1]; simp [intOf]; omega
        · have hbi : ¬ (b : Int) ≤ (n : Int) := by omega
          clear hb
          go_wp2
          go_roundw
          case rel => exact ⟨L + 1, C, by go_num, by omega, by omega, HF.out.1, HF.out.2.1, HF.out.2.2.next (by have := HB.out; omega)⟩
          case measure => simp [intOf]; omega
    · have hii : ¬ (L : Int) ≤ (n : Int) := by omega
      have HT : Hid (Tf s n n 1 C) := ⟨fun a b h1 h2 h3 => HL.out.2.2.2.z a b h1 h2 (by omega), HL.out.2.2.2.d, HL.out.2.2.2.bd⟩
      have HX : Hid (Pz wr p C ∧ Below w.heap.size w wr) := ⟨HL.out.2.1, HL.out.2.2.1⟩
      clear HL
      go_upto_region 11 with fail
      clear hmk
      have HG : Hid (Hg (wr.alloc (.cells (madeCells #[.int .i64 0] n) 3)) p w.heap.size wr.heap.size n C (List.replicate n 0) ∧ Below w.heap.size w (wr.alloc (.cells (madeCells #[.int .i64 0] n) 3)) ∧ p ≠ wr.heap.size ∧ w.heap.size ≤ wr.heap.size) := ⟨⟨HX.out.1.below (below_al _ _), own_mk26n _ _ _ HX.out.2.size (by omega), List.length_replicate⟩, HX.out.2.alloc HX.out.2.size _, by have := HX.out.1.lt; omega, HX.out.2.size⟩
      obtain ⟨g, hg⟩ : ∃ g, wr.heap.size = g := ⟨_, rfl⟩
      rw [hg] at HG ⊢
      clear hg
      generalize wr.alloc (.cells (madeCells #[.int .i64 0] n) 3) = W1 at *
      have K41 := (hang_all (base := w.heap.size) (g := g) (p := p) HT.out hn HG.out.2.2.1 n 0 n false (by omega)).1 (Nat.zero_le _) (Nat.le_refl _) (fun h => by cases h) W1 (List.replicate n 0) HG.out.1
      rw [en0, show ((0 : Nat) : Int) = 0 from rfl] at K41
      go_wp2_with (go_at_call 41; (with_reducible refine K41.mono ?_); clear K41; rintro e w1 ⟨rfl, ul, u1, u2, u3, u4⟩; have HU : Hid (Hg w1 p w.heap.size g n C ul ∧ Kp (fun k => k = g) W1 w1 ∧ Wh s (uv ul) false (C (ix 1 0 0 n)) 0 n) := ⟨u1, u2, u4⟩; clear u1 u2 u3 u4)
      go_ret
      exact ⟨g, ul, rfl, ⟨HU.out.1.up.row, HU.out.1.up.len, below_kp HG.out.2.1 HU.out.2.1 (fun k hk e => by have e2 : k = g := e; have := HG.out.2.2.2; omega)⟩, flat_of HT.out rfl HU.out.2.2⟩
end Go.Proofs.Ytpolnkdbebjpnaa.Hd
