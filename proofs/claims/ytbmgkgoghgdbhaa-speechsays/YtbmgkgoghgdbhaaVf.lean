/- The document's Proves: it finds whatever can be proved. Condition: the sequent is small. -/
import Derived.Test.YtbmgkgoghgdbhaaVf5M
import Derived.Test.YtbmgkgoghgdbhaaVf16M
import Derived.Deep.CutRange
namespace Go.Proofs.Ytbmgkgoghgdbhaa.Te
open Go.RowKit

set_option maxRecDepth 100000 in
set_option maxHeartbeats 16000000 in
theorem pv_of {M : Nat} (hM : M ≤ 900) (ih : ∀ M', M' < M → PvOk M') : PvOk M := by
  intro d dg l a c g ag cg w r hsz hl hg gl gg hne hr
  have HSZ : Hid (szs l + sz g ≤ M) := hsz
  have hlen : l.length ≤ 900 := by have := szs_len l; omega
  have hl0 : 0 < l.length := List.length_pos_iff.2 hne
  have hroom : l.length ≤ c := hl.1
  obtain ⟨lg, lo, rfl, hlg⟩ := hl.addr hl0
  have HL : Hid (LsQ w d l (some ⟨lg, lo, none⟩) c) := hl
  have HG : Hid (TyQ w dg g ag cg) := hg
  have HGL : Hid (∀ t ∈ l, Gp t) := gl
  have HGG : Hid (Gp g) := gg
  have HR : Hid (r = true ↔ E l g) := hr
  have IH : Hid (∀ M', M' < M → PvOk M') := ih
  have HM : Hid (M ≤ 900) := hM
  obtain ⟨r1, h1⟩ := fix_bool (∀ b : Nat, b < 10 → sm b l = gv b g)
  have K30 := fun W hW => level_doc l (some ⟨lg, lo, none⟩) c g ag cg W r1 (hl.at.below hW) (hg.at.below hW) gl gg (by omega) h1
  have H1 : Hid (r1 = true ↔ ∀ b : Nat, b < 10 → sm b l = gv b g) := h1
  have hl0' : ¬ (l.length : Int) = 0 := by omega
  have hl0b : ((l.length : Int) == 0) = false := by simpa using hl0'
  clear hsz hl hg gl gg hr ih h1 hne hM
  unfold vty at K30 ⊢
  go_enter Try.func22, Try.ntmps22
  go_upto_region 1 with fail
  have hVb : Below w.heap.size w (w.alloc (.cells #[.int .i64 g.kind, .int .i64 g.n, .slice ag g.kids.length cg] 24)) := (Below.refl _ w).alloc (Nat.le_refl _) _
  have x1 := heap_alloc_new w (.cells #[.int .i64 g.kind, .int .i64 g.n, .slice ag g.kids.length cg] 24)
  have K30 := K30 _ hVb
  generalize hV : w.alloc (.cells #[.int .i64 g.kind, .int .i64 g.n, .slice ag g.kids.length cg] 24) = V0 at *
  clear hV
  have i0 := cell_of_row _ _ 0 _ _ _ x1
  have i1 := cell_of_row _ _ 1 _ _ _ x1
  have i2 := cell_of_row _ _ 2 _ _ _ x1
  obtain rfl | rfl : r1 = false ∨ r1 = true := by cases r1 <;> simp
  · have hrf : r = false := bool_false HR.out (fun h => by
      have := H1.out.2 (fun b _ => E_level h b)
      cases this)
    subst hrf
    go_wp2_with (go_at_call 30; (with_reducible refine K30.mono ?_); rintro e3 w3 ⟨rfl, hb3⟩; clear K30)
    go_ret
    exact ⟨rfl, hVb.trans (hb3.mono hVb.size)⟩
  go_upto_region 3 with (go_at_call 30; (with_reducible refine K30.mono ?_); rintro e3 V ⟨rfl, hb3⟩; clear K30)
  have hVb2 := hVb.trans (hb3.mono hVb.size)
  have x2 := (hb3.block _ (lt_of_get x1)).trans x1
  clear i0 i1 i2 x1 hVb hb3 H1
  obtain ⟨r3, h3⟩ := fix_bool (l = [g])
  have H3L : Hid (r3 = true ↔ l = [g]) := h3
  clear h3
  go_cut [26] from 8 to 26 (fun s wx => s = .bool r3 ∧ Below w.heap.size w wx ∧ wx.heap[w.heap.size]? = some (.cells #[.int .i64 g.kind, .int .i64 g.n, .slice ag g.kids.length cg] 24 (0, 0)))
  case first =>
    exact o22r3 HSZ HM hlen hl0 hroom hlg HL HG HGL HGG IH hVb2 x2 H3L (by intros; go_wp2_with fail; go_meet; case rel => exact ⟨rfl, by assumption⟩)
  case rest =>
  clear x2 hVb2
  obtain ⟨rfl, hVb2, x2⟩ := hcut
  obtain rfl | rfl : r3 = true ∨ r3 = false := by cases r3 <;> simp
  · have hrt : r = true := HR.out.2 (by rw [H3L.out.1 rfl]; exact E_id HGG.out)
    subst hrt
    go_wp2_with fail
    go_ret
    exact ⟨rfl, hVb2⟩
  have HN3 : Hid (l ≠ [g]) := fun e => by have := H3L.out.2 e; cases this
  clear H3L
  go_upto_region 5 with fail
  obtain ⟨V, hV⟩ : ∃ V, wc = V := ⟨_, rfl⟩
  rw [hV] at hVb2 x2 ⊢
  clear hV
  obtain ⟨r5, h5⟩ := fix_bool (Qg l g)
  have H5 : Hid (r5 = true ↔ Qg l g) := h5
  have H5K : Hid (r5 = true ↔ Qg l g) := h5
  clear h5
  go_cut [64] from 8 to 64 (fun s wx => s = .bool r5 ∧ Below w.heap.size w wx ∧ wx.heap[w.heap.size]? = some (.cells #[.int .i64 g.kind, .int .i64 g.n, .slice ag g.kids.length cg] 24 (0, 0)))
  case first =>
    exact o22r5 HSZ HM hlen hl0 hroom hlg HL HG HGL HGG IH hVb2 x2 H5 (by intros; go_wp2_with fail; go_meet; case rel => exact ⟨rfl, by assumption⟩)
  case rest =>
  clear x2 hVb2
  obtain ⟨rfl, hVb2, x2⟩ := hcut
  obtain rfl | rfl : r5 = true ∨ r5 = false := by cases r5 <;> simp
  · have hrt : r = true := HR.out.2 (E_Qg (H5K.out.1 rfl))
    subst hrt
    go_wp2_with fail
    go_ret
    exact ⟨rfl, hVb2⟩
  have HN5 : Hid (¬ Qg l g) := fun e => by have := H5K.out.2 e; cases this
  clear H5K H5
  go_wp2_with fail
  go_loopw [5, 6, 7] (fun iv _ _ wr => ∃ i : Nat, iv = .int .i64 (i : Int) ∧ i ≤ l.length ∧ Below w.heap.size w wr ∧ wr.heap[w.heap.size]? = some (.cells #[.int .i64 g.kind, .int .i64 g.n, .slice ag g.kids.length cg] 24 (0, 0)) ∧ ∀ i' k, i' < i → k ≤ l.length → ¬ Qo l g i' k ∧ ¬ Qu l g i' k) (fun iv _ _ _ => l.length - (intOf iv).toNat)
  case atStart => exact ⟨0, rfl, by omega, hVb2, x2, fun _ _ h => by omega⟩
  case round =>
    clear x2 hVb2
    obtain ⟨i, rfl, hi, hB, z1, hz⟩ := hrel
    have HZ : Hid (∀ i' k, i' < i → k ≤ l.length → ¬ Qo l g i' k ∧ ¬ Qu l g i' k) := hz
    clear hz
    by_cases hil : i < l.length
    rotate_left
    · have hil' : ¬ (i : Int) < (l.length : Int) := by omega
      have hrf : r = false := bool_false HR.out (E_none HGG.out HN3.out HN5.out (fun i' k hk q => by
        obtain ⟨h, _⟩ := id q
        exact (HZ.out i' k (by omega) hk).1 q) (fun i' k hk q => by
        obtain ⟨h, _⟩ := id q
        exact (HZ.out i' k (by omega) hk).2 q))
      subst hrf
      go_wp2_with fail
      go_ret
      exact ⟨rfl, hB⟩
    have hil' : (i : Int) < (l.length : Int) := by omega
    obtain ⟨lg', lo', af, fc, ef, _, y0, y1, y2, hT⟩ := HL.out.kid (j := i) hil
    simp only [Option.some.injEq, Addr.mk.injEq, and_true] at ef
    obtain ⟨rfl, rfl⟩ := ef
    dsimp only at y0 y1 y2 hT
    have y0 := (hB.cell (p := ⟨lg, _, none⟩) hlg).trans y0
    have y1 := (hB.cell (p := ⟨lg, _, none⟩) hlg).trans y1
    have y2 := (hB.cell (p := ⟨lg, _, none⟩) hlg).trans y2
    have hgf := HGL.out l[i] (List.getElem_mem hil)
    obtain ⟨f, hf⟩ : ∃ f, l[i] = f := ⟨_, rfl⟩
    rw [hf] at y0 y1 y2 hT hgf
    have HF : Hid (l[i] = f) := hf
    have HT : Hid (TyQ w d f af fc) := hT
    have HGFF : Hid (Gp f) := hgf
    clear hT hf hgf
    go_upto_region 11 with fail
    have hbF : Below wr.heap.size wr (wr.alloc (.cells #[.int .i64 f.kind, .int .i64 f.n, .slice af f.kids.length fc] 24)) := (Below.refl _ wr).alloc (Nat.le_refl _) _
    have hn := heap_alloc_new wr (.cells #[.int .i64 f.kind, .int .i64 f.n, .slice af f.kids.length fc] 24)
    have hS0 : S2 w (.cells #[.int .i64 g.kind, .int .i64 g.n, .slice ag g.kids.length cg] 24 (0, 0)) wr.heap.size f af fc (wr.alloc (.cells #[.int .i64 f.kind, .int .i64 f.n, .slice af f.kids.length fc] 24)) := ⟨hB.trans (hbF.mono hB.size), (hbF.block _ (lt_of_get z1)).trans z1, lt_of_get z1, hn⟩
    clear y0 y1 y2 hn hbF z1 hB
    generalize hV : wr.alloc (.cells #[.int .i64 f.kind, .int .i64 f.n, .slice af f.kids.length fc] 24) = Wf at *
    clear hV
    generalize wr.heap.size = A at *
    obtain ⟨i1, hi1⟩ : ∃ i1 : Nat, i1 = i + 1 := ⟨_, rfl⟩
    have HI1 : Hid (i1 = i + 1) := hi1
    have hI1 : IntKind.i64.wrap ((i : Int) + 1) = (i1 : Int) := by rw [wrap_id (by omega) (by omega)]; omega
    clear hi1
    go_wp2_with fail
    go_loopw [7] (fun kv wi => ∃ k : Nat, kv = .int .i64 (k : Int) ∧ k ≤ l.length + 1 ∧ S2 w (.cells #[.int .i64 g.kind, .int .i64 g.n, .slice ag g.kids.length cg] 24 (0, 0)) A f af fc wi ∧ ∀ q, q < k → ¬ Qo l g i q ∧ ¬ Qu l g i q) (fun kv _ => l.length + 1 - (intOf kv).toNat)
    case atStart => exact ⟨0, rfl, by omega, hS0, fun _ h => by omega⟩
    case round =>
      clear hS0
      obtain ⟨k, rfl, hk, hS, hzk⟩ := hrel
      have HZK : Hid (∀ q, q < k → ¬ Qo l g i q ∧ ¬ Qu l g i q) := hzk
      clear hzk
      by_cases hkl : k ≤ l.length
      rotate_left
      · have hkl' : ¬ (k : Int) ≤ (l.length : Int) := by omega
        clear hI1 HI1
        go_wp2_with fail
        go_roundw
        case rel =>
          refine ⟨i + 1, by go_num, by omega, hS.bel, hS.box, fun j q h1 h2 => ?_⟩
          by_cases e : j = i
          · rw [e]; exact HZK.out q (by omega)
          · exact HZ.out j q (by omega) h2
        case measure => simp [intOf]; omega
      have hkl' : (k : Int) ≤ (l.length : Int) := by omega
      have hkc : (k : Int) ≤ (c : Int) := by omega
      have hk0 : (0 : Int) ≤ (k : Int) := by omega
      have hic : (i : Int) ≤ (c : Int) := by omega
      have hi0 : (0 : Int) ≤ (i : Int) := by omega
      have hi1c : (i1 : Int) ≤ (l.length : Int) := by have := HI1.out; omega
      have hi10 : (0 : Int) ≤ (i1 : Int) := by omega
      have hi1n : i1 ≤ l.length := by omega
      go_upto_region 14 with fail
      obtain ⟨rq, hrq⟩ := fix_bool (Qo l g i k)
      have HRQ : Hid (rq = true ↔ Qo l g i k) := hrq
      clear hrq
      go_cut [116] from 81 to 116 (fun s wx => s = .bool rq ∧ S2 w (.cells #[.int .i64 g.kind, .int .i64 g.n, .slice ag g.kids.length cg] 24 (0, 0)) A f af fc wx)
      case first =>
        exact o22r14 HSZ HM hlen hl0 hroom hlg HL HG HGL HGG IH hil HF HT HGFF HI1 hI1 hkl hkl' hkc hk0 hic hi0 hi1c hi10 hi1n hil' hS HRQ (by intros; go_wp2_with fail; go_meet; case rel => exact ⟨rfl, by assumption⟩)
      case rest =>
      obtain ⟨rfl, hS⟩ := hcut
      obtain rfl | rfl : rq = true ∨ rq = false := by cases rq <;> simp
      · have hrt : r = true := HR.out.2 (E_Qo (HRQ.out.1 rfl))
        subst hrt
        go_wp2_with fail
        go_ret
        exact ⟨rfl, hS.bel⟩
      have HNOQo : Hid (¬ Qo l g i k) := fun e => by have := HRQ.out.2 e; cases this
      clear HRQ
      go_upto_region 16 with fail
      obtain ⟨rq, hrq⟩ := fix_bool (Qu l g i k)
      have HRQ : Hid (rq = true ↔ Qu l g i k) := hrq
      clear hrq
      go_cut [151] from 117 to 151 (fun s wx => s = .bool rq ∧ S2 w (.cells #[.int .i64 g.kind, .int .i64 g.n, .slice ag g.kids.length cg] 24 (0, 0)) A f af fc wx)
      case first =>
        exact o22r16 HSZ HM hlen hl0 hroom hlg HL HG HGL HGG IH hil HF HT HGFF HI1 hI1 hkl hkl' hkc hk0 hic hi0 hi1c hi10 hi1n hil' hS HRQ (by intros; go_wp2_with fail; go_meet; case rel => exact ⟨rfl, by assumption⟩)
      case rest =>
      obtain ⟨rfl, hS⟩ := hcut
      obtain rfl | rfl : rq = true ∨ rq = false := by cases rq <;> simp
      · have hrt : r = true := HR.out.2 (E_Qu (HRQ.out.1 rfl))
        subst hrt
        go_wp2_with fail
        go_ret
        exact ⟨rfl, hS.bel⟩
      have HNOQu : Hid (¬ Qu l g i k) := fun e => by have := HRQ.out.2 e; cases this
      clear HRQ
      go_wp2_with fail
      go_roundw
      case rel =>
        refine ⟨k + 1, by go_num, by omega, hS, fun q h1 => ?_⟩
        by_cases e : q = k
        · subst e; exact ⟨HNOQo.out, HNOQu.out⟩
        · exact HZK.out q (by omega)
      case measure => simp [intOf]; omega
theorem pv_any : ∀ M, M ≤ 900 → PvOk M := by
  intro M
  induction M using Nat.strongRecOn with
  | ind M ih =>
    intro hM
    exact pv_of hM (fun M' h => ih M' h (by omega))
end Go.Proofs.Ytbmgkgoghgdbhaa.Te
