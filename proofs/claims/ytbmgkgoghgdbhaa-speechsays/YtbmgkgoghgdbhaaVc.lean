/- The document's Slashes and AsksProof. No conditions. -/
import Derived.Test.YtbmgkgoghgdbhaaVa
import Derived.Test.YtbmgkgoghgdbhaaRn
namespace Go.Proofs.Ytbmgkgoghgdbhaa.Te
open Go.RowKit

theorem slN_node {t : Ty} (h : ck t = 0) (h1 : t.kind ≠ 1) : slN t = 1 + slS t.kids ∧ (∀ u ∈ t.kids, ck u = 0) ∧ t.kids.length = 2 := by
  rcases gp_cases (ck_gp h) with ⟨k, e, _⟩ | ⟨x, y, e, _⟩ | ⟨y, x, e, _⟩
  · rw [e] at h1; exact absurd rfl h1
  · subst e
    refine ⟨?_, ?_, rfl⟩
    · rw [slN_ov h]; simp [ov, slS]; omega
    · intro u hu
      simp only [ov, List.mem_cons, List.not_mem_nil, or_false] at hu
      rcases hu with rfl | rfl
      · exact (ck_ov h).1
      · exact (ck_ov h).2
  · subst e
    refine ⟨?_, ?_, rfl⟩
    · rw [slN_un h]; simp [un, slS]; omega
    · intro u hu
      simp only [un, List.mem_cons, List.not_mem_nil, or_false] at hu
      rcases hu with rfl | rfl
      · exact (ck_un h).2
      · exact (ck_un h).1
theorem slN_one {t : Ty} (h : ck t = 0) (h1 : t.kind = 1) : slN t = 0 := by
  rcases gp_cases (ck_gp h) with ⟨k, e, _⟩ | ⟨x, y, e, _⟩ | ⟨y, x, e, _⟩
  · rw [e, slN_bs]
  · rw [e] at h1; simp [ov] at h1
  · rw [e] at h1; simp [un] at h1
set_option maxHeartbeats 1000000 in
theorem slash_doc : ∀ (d : Nat) (l : List Ty) (a : Option Addr) (c : Nat) (w : World), TyAt w (d + 1) ⟨0, 0, l⟩ a c → (∀ t ∈ l, ck t = 0) → l.length ≤ 100 → Calls Try.prog 56 #[.slice a l.length c] w fun e w' => e = .returned (.int .i64 (slS l : Nat)) ∧ Below w.heap.size w w' := by
  intro d
  induction d using Nat.strongRecOn with
  | ind d ih =>
    intro l a c w h hck hle
    have HL : Hid (TyAt w (d + 1) ⟨0, 0, l⟩ a c) := h
    have HCK : Hid (∀ t ∈ l, ck t = 0) := hck
    have IH : Hid (∀ m, m < d → ∀ (l : List Ty) (a : Option Addr) (c : Nat) (w : World), TyAt w (m + 1) ⟨0, 0, l⟩ a c → (∀ t ∈ l, ck t = 0) → l.length ≤ 100 → Calls Try.prog 56 #[.slice a l.length c] w fun e w' => e = .returned (.int .i64 (slS l : Nat)) ∧ Below w.heap.size w w') := ih
    clear h hck ih
    go_enter Try.func56, Try.ntmps56
    go_wp2
    go_loopw [3, 4] (fun sv iv wr => ∃ k : Nat, iv = .int .i64 (k : Int) ∧ k ≤ l.length ∧ Below w.heap.size w wr ∧ sv = .int .i64 ((slS (l.take k) : Nat) : Int)) (fun _ iv _ => l.length - (intOf iv).toNat)
    case atStart => exact ⟨0, rfl, by omega, Below.refl _ _, by simp [slS]⟩
    case round =>
      obtain ⟨k, rfl, hkl', hB, rfl⟩ := hrel
      have hs1 := slS_le l k (by omega)
      obtain ⟨sm_, hsm⟩ : ∃ s, slS (l.take k) = s := ⟨_, rfl⟩
      rw [hsm] at hs1 ⊢
      have HSM : Hid (slS (l.take k) = sm_) := hsm
      have hsm3 : (0 : Int) ≤ sm_ ∧ (sm_ : Int) ≤ 8000 := by omega
      clear hsm
      by_cases hkl : k < l.length
      · have hkl2 : (k : Int) < (l.length : Int) := by omega
        obtain ⟨ga, off, a', c', rfl, hga, y0, y1, y2, hT⟩ := HL.out.kid (j := k) hkl
        dsimp only at y0 y1 y2 hT
        have hckk := HCK.out l[k] (List.getElem_mem hkl)
        have hnext := slS_take l hkl
        have y0 := (hB.cell (p := ⟨ga, _, none⟩) hga).trans y0
        have y2 := (hB.cell (p := ⟨ga, _, none⟩) hga).trans y2
        clear y1
        by_cases hk1 : l[k].kind = 1
        · have HN : Hid (slS (l.take (k + 1)) = sm_) := by show slS (l.take (k + 1)) = sm_; rw [hnext, slN_one hckk hk1, HSM.out]; rfl
          rw [hk1] at y0
          clear hT hckk hnext hk1
          go_wp2
          go_roundw
          case rel => exact ⟨k + 1, by go_num, by omega, hB, by rw [HN.out]⟩
          case measure => simp [intOf]; omega
        · obtain ⟨n1, n2, n3⟩ := slN_node hckk hk1
          have hsl := slN_le l[k]
          obtain ⟨d', rfl⟩ := hT.pos
          have K56 := IH.out d' (by omega) l[k].kids a' c' wr ((TyAt.as (k := 0) (n := 0) hT (by constructor <;> decide) (by constructor <;> decide)).below hB) n2 (by omega)
          obtain ⟨sn, hsn⟩ : ∃ s, slS l[k].kids = s := ⟨_, rfl⟩
          rw [hsn] at K56 n1
          have hsn2 : (0 : Int) ≤ sn ∧ (sn : Int) ≤ 8 := by omega
          have HN : Hid (slS (l.take (k + 1)) = sm_ + (1 + sn)) := by show slS (l.take (k + 1)) = sm_ + (1 + sn); rw [hnext, n1, HSM.out]
          clear hT hckk hnext n1 n2 n3 hsn hsl
          go_wp2_with (go_at_call 56; (with_reducible refine K56.mono ?_); rintro e5 w5 ⟨rfl, hb5⟩; clear K56)
          go_roundw
          case rel => exact ⟨k + 1, by go_num, by omega, hB.trans (hb5.mono hB.size), by rw [HN.out]; go_num⟩
          case measure => simp [intOf]; omega
      · have hkl2 : ¬ (k : Int) < (l.length : Int) := by omega
        have HN : Hid (slS l = sm_) := by have := HSM.out; rw [List.take_of_length_le (by omega)] at this; exact this
        go_wp2
        go_ret
        exact ⟨by rw [HN.out]; rfl, hB⟩
theorem fz_cons (x : Int) (l : List Int) : fz (x :: l) = if x = 0 then fz l else x := by
  unfold fz
  rw [List.find?_cons]
  by_cases h : x = 0
  · simp [h]
  · simp [h]
theorem crow_fz : ∀ (l : List Ty) (g : Ty), crow l g = fz ((l ++ [g]).map ck)
  | [], g => by
    rw [crow, List.nil_append, List.map_cons, List.map_nil, fz_cons]
    split
    · rename_i h; rw [h]; rfl
    · rfl
  | t :: l, g => by
    rw [crow, List.cons_append, List.map_cons, fz_cons, crow_fz l g]
theorem fz_dropT {l : List Ty} {k : Nat} (h : k < l.length) : fz ((l.drop k).map ck) = if ck l[k] = 0 then fz ((l.drop (k + 1)).map ck) else ck l[k] := by
  rw [List.drop_eq_getElem_cons h, List.map_cons, fz_cons]
theorem crow_of_zero {l : List Ty} {g : Ty} (h : crow l g = 0) : ∀ t ∈ l ++ [g], ck t = 0 := by
  obtain ⟨h1, h2⟩ := crow_zero h
  intro t ht
  simp only [List.mem_append, List.mem_cons, List.not_mem_nil, or_false] at ht
  rcases ht with ht | rfl
  · exact h1 t ht
  · exact h2
set_option maxRecDepth 100000 in
set_option maxHeartbeats 1000000 in
theorem asksp_any {d dg : Nat} (l : List Ty) (a : Option Addr) (c : Nat) (g : Ty) (ag : Option Addr) (cg : Nat) (w : World) (hl : TyAt w (d + 1) ⟨0, 0, l⟩ a c) (hg : TyAt w dg g ag cg) :
    Calls Try.prog 21 #[.slice a l.length c, vty g ag cg] w fun e w' => e = .returned (.int .i64 (cseq l g)) ∧ Below w.heap.size w w' := by
  have hf := hl.few.1
  dsimp only at hf
  have hVb : Below w.heap.size w (w.alloc (.cells #[.int .i64 g.kind, .int .i64 g.n, .slice ag g.kids.length cg] 24)) := (Below.refl _ w).alloc (Nat.le_refl _) _
  have x1 := heap_alloc_new w (.cells #[.int .i64 g.kind, .int .i64 g.n, .slice ag g.kids.length cg] 24)
  by_cases h1 : l.length = 0
  · have h1' : (l.length : Int) = 0 := by omega
    rw [show cseq l g = 7 from if_pos (.inl (by omega))]
    clear hl hg h1
    unfold vty
    go_enter Try.func21, Try.ntmps21
    go_wp2
    go_ret
    exact ⟨rfl, hVb⟩
  by_cases h2 : 6 < l.length
  · have h1' : ¬ (l.length : Int) = 0 := by omega
    have h1b : ((l.length : Int) == 0) = false := by simpa using h1'
    have h2' : (6 : Int) < (l.length : Int) := by omega
    rw [show cseq l g = 7 from if_pos (.inr h2)]
    clear hl hg h1 h2
    unfold vty
    go_enter Try.func21, Try.ntmps21
    go_wp2
    go_ret
    exact ⟨rfl, hVb⟩
  have h1' : ¬ (l.length : Int) = 0 := by omega
  have h1b : ((l.length : Int) == 0) = false := by simpa using h1'
  have h2' : ¬ (6 : Int) < (l.length : Int) := by omega
  rw [show cseq l g = cslash l g from if_neg (by omega)]
  have HL : Hid (TyAt w (d + 1) ⟨0, 0, l⟩ a c) := hl
  have HG : Hid (TyAt w dg g ag cg) := hg
  obtain ⟨r, hr⟩ : ∃ r, cslash l g = r := ⟨_, rfl⟩
  rw [hr]
  have HR : Hid (cslash l g = r) := hr
  obtain ⟨fl, hfl⟩ : ∃ fl, l ++ [g] = fl := ⟨_, rfl⟩
  have HFL : Hid (l ++ [g] = fl) := hfl
  have hflen : fl.length = l.length + 1 := by rw [← hfl]; simp
  have hfl7 : fl.length ≤ 7 := by omega
  clear hl hg hr hfl hflen
  unfold vty
  go_enter Try.func21, Try.ntmps21
  go_upto_region 3 with fail
  generalize hV : w.alloc (.cells #[.int .i64 g.kind, .int .i64 g.n, .slice ag g.kids.length cg] 24) = V at *
  clear hV
  obtain ⟨y1, y2, hVs, hVb2⟩ := two_boxes V (.cells #[.int .i64 g.kind, .int .i64 g.n, .slice ag g.kids.length cg] 24) (.cells #[.slice a l.length c, .slice (some ⟨V.heap.size, 0, none⟩) 1 1] 22)
  have hB2 := hVb.trans (hVb2.mono hVb.size)
  have K52 := join2 (V.heap.size + 1) l [g] fl HFL.out _ y2 (HL.out.below hB2) (ty_one (HG.out.below hB2) y1 1) (by simp; omega)
  clear y1 y2 hVs
  have i0 := cell_of_row _ _ 0 _ _ _ x1
  have i1 := cell_of_row _ _ 1 _ _ _ x1
  have i2 := cell_of_row _ _ 2 _ _ _ x1
  go_upto_region 4 with (go_at_call 52; (with_reducible refine K52.mono ?_); rintro e4 w4 ⟨a4, c4, rfl, hT4, _, hb4⟩; clear K52)
  have hB4 := hB2.trans (hb4.mono hB2.size)
  have HT4 : Hid (TyAt w4 (max d dg + 1) ⟨0, 0, fl⟩ a4 c4) := hT4
  clear i0 i1 i2 hT4 x1 hVb hVb2 hb4 hB2
  have HC0 : Hid (fz (fl.map ck) = crow l g) := by show fz (fl.map ck) = crow l g; rw [← HFL.out]; exact (crow_fz l g).symm
  have HRR : Hid ((if crow l g = 0 then (if 10 < slS fl then (2 : Int) else 0) else crow l g) = r) := by
    show _ = r
    rw [← HR.out]
    unfold cslash
    rw [show slN g + slS l = slS fl by rw [← HFL.out, slS_app, slS_cons, slS_nil]; omega]
  have HZ : Hid (crow l g = 0 → ∀ t ∈ fl, ck t = 0) := fun h => by rw [← HFL.out]; exact crow_of_zero h
  obtain ⟨q, hq⟩ : ∃ q, crow l g = q := ⟨_, rfl⟩
  rw [hq] at HC0 HRR HZ
  clear hq HR
  go_wp2
  go_loopw [6, 7] (fun iv _ wr => ∃ k : Nat, iv = .int .i64 (k : Int) ∧ k ≤ fl.length ∧ Below w4.heap.size w4 wr ∧ fz ((fl.drop k).map ck) = q) (fun iv _ _ => fl.length - (intOf iv).toNat)
  case atStart => exact ⟨0, rfl, by omega, Below.refl _ _, HC0.out⟩
  case round =>
    obtain ⟨k, rfl, hkl', hB, hc⟩ := hrel
    have HC : Hid (fz ((fl.drop k).map ck) = q) := hc
    have hBw := hB4.trans (hB.mono hB4.size)
    clear hc
    by_cases hkl : k < fl.length
    · have hkl2 : (k : Int) < (fl.length : Int) := by omega
      obtain ⟨g4, o4, a', c', rfl, hg4, y0, y1, y2, hT⟩ := HT4.out.kid (j := k) hkl
      dsimp only at y0 y1 y2 hT
      have y0 := (hB.cell (p := ⟨g4, _, none⟩) hg4).trans y0
      have y1 := (hB.cell (p := ⟨g4, _, none⟩) hg4).trans y1
      have y2 := (hB.cell (p := ⟨g4, _, none⟩) hg4).trans y2
      have K9 := check_doc _ fl[k] a' c' wr (hT.below hB)
      unfold vty at K9
      obtain ⟨e1, he1⟩ : ∃ e1, ck fl[k] = e1 := ⟨_, rfl⟩
      rw [he1] at K9
      have HN : Hid ((if e1 = 0 then fz ((fl.drop (k + 1)).map ck) else e1) = q) := by
        have := HC.out
        rw [fz_dropT hkl, he1] at this
        exact this
      clear he1 HC hT
      by_cases he : e1 = 0
      · subst he
        go_wp2_with (go_at_call 9; (with_reducible refine K9.mono ?_); rintro e5 w5 ⟨rfl, hb5⟩; clear K9)
        go_roundw
        case rel => exact ⟨k + 1, by go_num, by omega, hB.trans (hb5.mono hB.size), by have := HN.out; simpa using this⟩
        case measure => simp [intOf]; omega
      · go_wp2_with (go_at_call 9; (with_reducible refine K9.mono ?_); rintro e5 w5 ⟨rfl, hb5⟩; clear K9)
        go_ret
        have h1 := HN.out
        rw [if_neg he] at h1
        have h2 := HRR.out
        rw [← h1, if_neg he] at h2
        exact ⟨by rw [h2]; rfl, hBw.trans (hb5.mono hBw.size)⟩
    · have hkl2 : ¬ (k : Int) < (fl.length : Int) := by omega
      have hq0 : q = 0 := by
        have := HC.out
        rw [List.drop_of_length_le (by omega)] at this
        exact this.symm
      have K56 := slash_doc _ fl a4 c4 wr (HT4.out.below hB) (HZ.out hq0) (by omega)
      have HR2 : Hid ((if 10 < slS fl then (2 : Int) else 0) = r) := by have := HRR.out; rw [if_pos hq0] at this; exact this
      obtain ⟨sn, hsn⟩ : ∃ s, slS fl = s := ⟨_, rfl⟩
      rw [hsn] at K56 HR2
      clear hq0 hsn HC HZ HRR
      by_cases h10 : 10 < sn
      · have h10' : (10 : Int) < (sn : Int) := by omega
        have hrr : r = 2 := by have := HR2.out; rw [if_pos h10] at this; exact this.symm
        subst hrr
        go_wp2_with (go_at_call 56; (with_reducible refine K56.mono ?_); rintro e5 w5 ⟨rfl, hb5⟩; clear K56)
        go_ret
        exact ⟨rfl, hBw.trans (hb5.mono hBw.size)⟩
      · have h10' : ¬ (10 : Int) < (sn : Int) := by omega
        have hrr : r = 0 := by have := HR2.out; rw [if_neg h10] at this; exact this.symm
        subst hrr
        go_wp2_with (go_at_call 56; (with_reducible refine K56.mono ?_); rintro e5 w5 ⟨rfl, hb5⟩; clear K56)
        go_ret
        exact ⟨rfl, hBw.trans (hb5.mono hBw.size)⟩
end Go.Proofs.Ytbmgkgoghgdbhaa.Te
