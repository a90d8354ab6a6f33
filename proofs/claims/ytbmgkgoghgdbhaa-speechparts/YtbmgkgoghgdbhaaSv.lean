/- What is wrong with a sequent: checkRow, slashesIn, checkSlashes, checkSequent. No conditions. -/
import Derived.Test.YtbmgkgoghgdbhaaSuM
namespace Go.Proofs.Ytbmgkgoghgdbhaa.Te
open Go.RowKit

def crow : List Ty → Ty → Int
  | [], g => ck g
  | t :: l, g => if ck t = 0 then crow l g else ck t
def slN (t : Ty) : Nat := cap (sz t) 15 / 2
theorem slN_le (t : Ty) : slN t ≤ 8 := by
  unfold slN cap
  split <;> omega
set_option maxHeartbeats 1000000 in
theorem row_any {d dg : Nat} (l : List Ty) (a : Option Addr) (c : Nat) (g : Ty) (ag : Option Addr) (cg : Nat) (w : World) (hl : TyAt w (d + 1) ⟨0, 0, l⟩ a c) (hg : TyAt w dg g ag cg) :
    Calls Try.prog 65 #[.slice a l.length c, vty g ag cg] w fun e w' => e = .returned (.int .i64 (crow l g)) ∧ Below w.heap.size w w' := by
  have hf := hl.few.1
  dsimp only at hf
  have HL : Hid (TyAt w (d + 1) ⟨0, 0, l⟩ a c) := hl
  have HG : Hid (TyAt w dg g ag cg) := hg
  obtain ⟨r, hr⟩ : ∃ r, crow l g = r := ⟨_, rfl⟩
  rw [hr]
  have HR : Hid (crow l g = r) := hr
  clear hl hg hr
  unfold vty
  go_enter Try.func65, Try.ntmps65
  go_upto_region 1 with fail
  have hVb : Below w.heap.size w (w.alloc (.cells #[.int .i64 g.kind, .int .i64 g.n, .slice ag g.kids.length cg] 24)) := (Below.refl _ w).alloc (Nat.le_refl _) _
  have x1 := heap_alloc_new w (.cells #[.int .i64 g.kind, .int .i64 g.n, .slice ag g.kids.length cg] 24)
  generalize hV : w.alloc (.cells #[.int .i64 g.kind, .int .i64 g.n, .slice ag g.kids.length cg] 24) = V at *
  clear hV
  go_wp2
  go_loopw [10] (fun iv wr => ∃ k : Nat, iv = .int .i64 (k : Int) ∧ k ≤ l.length ∧ Below w.heap.size w wr ∧ wr.heap[w.heap.size]? = some (.cells #[.int .i64 g.kind, .int .i64 g.n, .slice ag g.kids.length cg] 24 (0, 0)) ∧ crow (l.drop k) g = r) (fun iv _ => l.length - (intOf iv).toNat)
  case atStart => exact ⟨0, rfl, by omega, hVb, x1, HR.out⟩
  case round =>
    obtain ⟨k, rfl, hkl', hB, z1, hc⟩ := hrel
    have HC : Hid (crow (l.drop k) g = r) := hc
    clear hc
    by_cases hkl : k < l.length
    · have hkl2 : (k : Int) < (l.length : Int) := by omega
      obtain ⟨ga, off, a', c', rfl, hga, y0, y1, y2, hT⟩ := HL.out.kid (j := k) hkl
      dsimp only at y0 y1 y2 hT
      have HT : Hid (TyAt w d l[k] a' c') := hT
      have y0 := (hB.cell (p := ⟨ga, _, none⟩) hga).trans y0
      have y1 := (hB.cell (p := ⟨ga, _, none⟩) hga).trans y1
      have y2 := (hB.cell (p := ⟨ga, _, none⟩) hga).trans y2
      clear hT
      go_upto_region 4 with fail
      have hb5 : Below wr.heap.size wr (wr.alloc (.cells #[.int .i64 l[k].kind, .int .i64 l[k].n, .slice a' l[k].kids.length c'] 24)) := (Below.refl _ wr).alloc (Nat.le_refl _) _
      have x5 := heap_alloc_new wr (.cells #[.int .i64 l[k].kind, .int .i64 l[k].n, .slice a' l[k].kids.length c'] 24)
      have hB2 := hB.trans (hb5.mono hB.size)
      have z1 := (hb5.block _ (lt_of_get z1)).trans z1
      clear hb5
      generalize hV : wr.alloc (.cells #[.int .i64 l[k].kind, .int .i64 l[k].n, .slice a' l[k].kids.length c'] 24) = W1 at *
      clear hV
      have K12 := check_any d l[k] a' c' W1 (HT.out.below hB2)
      unfold vty at K12
      obtain ⟨e1, he1⟩ : ∃ e1, ck l[k] = e1 := ⟨_, rfl⟩
      rw [he1] at K12
      have HE : Hid (ck l[k] = e1) := he1
      have hd : crow (l.drop k) g = if e1 = 0 then crow (l.drop (k + 1)) g else e1 := by
        rw [List.drop_eq_getElem_cons hkl, crow, he1]
      clear he1
      have i0 := cell_of_row _ _ 0 _ _ _ x5
      have i1 := cell_of_row _ _ 1 _ _ _ x5
      have i2 := cell_of_row _ _ 2 _ _ _ x5
      have HD : Hid (crow (l.drop k) g = if e1 = 0 then crow (l.drop (k + 1)) g else e1) := hd
      clear hd
      by_cases h0 : e1 = 0
      · subst h0
        go_wp2_with (go_at_call 12; (with_reducible refine K12.mono ?_); rintro e3 w3 ⟨rfl, hb3⟩; clear K12)
        go_roundw
        case rel =>
          refine ⟨k + 1, by go_num, by omega, hB2.trans (hb3.mono hB2.size), (hb3.block _ (lt_of_get z1)).trans z1, ?_⟩
          have h2 : crow (l.drop k) g = crow (l.drop (k + 1)) g := by simpa using HD.out
          rw [← h2]
          exact HC.out
        case measure => simp [intOf]; omega
      · go_wp2_with (go_at_call 12; (with_reducible refine K12.mono ?_); rintro e3 w3 ⟨rfl, hb3⟩; clear K12)
        go_ret
        have hre : e1 = r := by
          have := HD.out
          rw [if_neg h0] at this
          exact this.symm.trans HC.out
        subst hre
        exact ⟨rfl, hB2.trans (hb3.mono hB2.size)⟩
    · have hkl2 : ¬ (k : Int) < (l.length : Int) := by omega
      have hck : ck g = r := by
        have := HC.out
        rw [List.drop_of_length_le (by omega), crow] at this
        exact this
      have K12 := check_any dg g ag cg wr (HG.out.below hB)
      rw [hck] at K12
      unfold vty at K12
      have i0 := cell_of_row _ _ 0 _ _ _ z1
      have i1 := cell_of_row _ _ 1 _ _ _ z1
      have i2 := cell_of_row _ _ 2 _ _ _ z1
      clear hck
      go_wp2_with (go_at_call 12; (with_reducible refine K12.mono ?_); rintro e3 w3 ⟨rfl, hb3⟩; clear K12)
      go_ret
      exact ⟨rfl, hB.trans (hb3.mono hB.size)⟩
set_option maxHeartbeats 1000000 in
theorem slashes_any {d : Nat} (t : Ty) (a : Option Addr) (c : Nat) (w : World) (h : TyAt w d t a c) : Calls Try.prog 85 #[vty t a c] w fun e w' => e = .returned (.int .i64 (slN t : Nat)) ∧ Below w.heap.size w w' := by
  have HT : Hid (TyAt w d t a c) := h
  obtain ⟨m, hm⟩ : ∃ m, cap (sz t) 15 = m := ⟨_, rfl⟩
  have hm2 : m ≤ 16 := by rw [← hm]; unfold cap; split <;> omega
  have K62 : ∀ W, Below w.heap.size w W → Calls Try.prog 62 #[vty t a c, .func (.func 38) #[] #[], .int .i64 15] W fun e w' => e = .returned (.int .i64 (m : Nat)) ∧ Below W.heap.size W w' := fun W hW => by
    have := count_any d t a c W 15 (HT.out.below hW) (by omega)
    rw [hm] at this
    exact this
  unfold slN
  rw [hm]
  clear h hm
  unfold vty at K62 ⊢
  have hVb : Below w.heap.size w (w.alloc (.cells #[.int .i64 t.kind, .int .i64 t.n, .slice a t.kids.length c] 24)) := (Below.refl _ w).alloc (Nat.le_refl _) _
  have hb : (0 : Int) ≤ m ∧ (m : Int) ≤ 16 := by omega
  go_enter Try.func85, Try.ntmps85
  go_wp2_with (go_at_call 62; (with_reducible refine (K62 _ hVb).mono ?_); rintro e3 w3 ⟨rfl, hb3⟩; clear K62)
  go_ret
  exact ⟨by go_num, hVb.trans (hb3.mono hVb.size)⟩
def slS (l : List Ty) : Nat := (l.map slN).sum
def cslash (l : List Ty) (g : Ty) : Int := if crow l g = 0 then (if 10 < slN g + slS l then 2 else 0) else crow l g
def cseq (l : List Ty) (g : Ty) : Int := if l.length < 1 ∨ 6 < l.length then 7 else cslash l g
theorem slS_take (l : List Ty) {k : Nat} (h : k < l.length) : slS (l.take (k + 1)) = slS (l.take k) + slN l[k] := by
  unfold slS
  rw [← List.take_append_getElem h, List.map_append, List.sum_append]
  simp
theorem slS_le (l : List Ty) (k : Nat) (hl : l.length ≤ 1000) : slS (l.take k) ≤ 8000 := by
  have : ∀ m : List Ty, slS m ≤ 8 * m.length := by
    intro m
    induction m with
    | nil => simp [slS]
    | cons x m ih =>
      have := slN_le x
      simp only [slS, List.map_cons, List.sum_cons, List.length_cons] at ih ⊢
      omega
  have h := this (l.take k)
  rw [List.length_take] at h
  omega
set_option maxHeartbeats 1000000 in
theorem cslash_any {d dg : Nat} (l : List Ty) (a : Option Addr) (c : Nat) (g : Ty) (ag : Option Addr) (cg : Nat) (w : World) (hl : TyAt w (d + 1) ⟨0, 0, l⟩ a c) (hg : TyAt w dg g ag cg) (hle : l.length ≤ 1000) :
    Calls Try.prog 69 #[.slice a l.length c, vty g ag cg] w fun e w' => e = .returned (.int .i64 (cslash l g)) ∧ Below w.heap.size w w' := by
  have HL : Hid (TyAt w (d + 1) ⟨0, 0, l⟩ a c) := hl
  have HG : Hid (TyAt w dg g ag cg) := hg
  have hVb : Below w.heap.size w (w.alloc (.cells #[.int .i64 g.kind, .int .i64 g.n, .slice ag g.kids.length cg] 24)) := (Below.refl _ w).alloc (Nat.le_refl _) _
  have x1 := heap_alloc_new w (.cells #[.int .i64 g.kind, .int .i64 g.n, .slice ag g.kids.length cg] 24)
  obtain ⟨r, hr⟩ : ∃ r, cslash l g = r := ⟨_, rfl⟩
  rw [hr]
  have HR : Hid (cslash l g = r) := hr
  clear hl hg hr
  unfold vty
  go_enter Try.func69, Try.ntmps69
  go_upto_region 1 with fail
  generalize hV : w.alloc (.cells #[.int .i64 g.kind, .int .i64 g.n, .slice ag g.kids.length cg] 24) = V at *
  clear hV
  have K65 := row_any l a c g ag cg V (HL.out.below hVb) (HG.out.below hVb)
  unfold vty at K65
  obtain ⟨e0, he0⟩ : ∃ e0, crow l g = e0 := ⟨_, rfl⟩
  rw [he0] at K65
  have HE : Hid (crow l g = e0) := he0
  clear he0
  have i0 := cell_of_row _ _ 0 _ _ _ x1
  have i1 := cell_of_row _ _ 1 _ _ _ x1
  have i2 := cell_of_row _ _ 2 _ _ _ x1
  by_cases h0 : e0 = 0
  · subst h0
    go_upto_region 4 with (go_at_call 65; (with_reducible refine K65.mono ?_); rintro e3 w3 ⟨rfl, hb3⟩; clear K65)
    have hB3 := hVb.trans (hb3.mono hVb.size)
    have x1 := (hb3.block _ (lt_of_get x1)).trans x1
    clear i0 i1 i2
    have i0 := cell_of_row _ _ 0 _ _ _ x1
    have i1 := cell_of_row _ _ 1 _ _ _ x1
    have i2 := cell_of_row _ _ 2 _ _ _ x1
    have K85 := slashes_any g ag cg w3 (HG.out.below hB3)
    unfold vty at K85
    go_wp2_with (go_at_call 85; (with_reducible refine K85.mono ?_); rintro e4 w4 ⟨rfl, hb4⟩; clear K85)
    clear i0 i1 i2 hb3
    have hB4 := hB3.trans (hb4.mono hB3.size)
    go_loopw [6, 19] (fun sv iv wr => ∃ k : Nat, iv = .int .i64 (k : Int) ∧ k ≤ l.length ∧ Below w.heap.size w wr ∧ sv = .int .i64 ((slN g + slS (l.take k) : Nat) : Int)) (fun _ iv _ => l.length - (intOf iv).toNat)
    case atStart => exact ⟨0, rfl, by omega, hB4, by simp [slS]⟩
    case round =>
      obtain ⟨k, rfl, hkl', hB, rfl⟩ := hrel
      have hs1 := slS_le l k hle
      have hs2 := slN_le g
      obtain ⟨sm, hsm⟩ : ∃ sm, slN g + slS (l.take k) = sm := ⟨_, rfl⟩
      rw [hsm]
      have HSM : Hid (slN g + slS (l.take k) = sm) := hsm
      have hsm2 : sm ≤ 8008 := by omega
      have hsm3 : (0 : Int) ≤ sm ∧ (sm : Int) ≤ 8008 := by omega
      clear hsm hs1 hs2
      by_cases hkl : k < l.length
      · have hkl2 : (k : Int) < (l.length : Int) := by omega
        obtain ⟨ga, off, a', c', rfl, hga, y0, y1, y2, hT⟩ := HL.out.kid (j := k) hkl
        dsimp only at y0 y1 y2 hT
        have HT : Hid (TyAt w d l[k] a' c') := hT
        have y0 := (hB.cell (p := ⟨ga, _, none⟩) hga).trans y0
        have y1 := (hB.cell (p := ⟨ga, _, none⟩) hga).trans y1
        have y2 := (hB.cell (p := ⟨ga, _, none⟩) hga).trans y2
        clear hT
        go_upto_region 8 with fail
        have hb5 : Below wr.heap.size wr (wr.alloc (.cells #[.int .i64 l[k].kind, .int .i64 l[k].n, .slice a' l[k].kids.length c'] 24)) := (Below.refl _ wr).alloc (Nat.le_refl _) _
        have x5 := heap_alloc_new wr (.cells #[.int .i64 l[k].kind, .int .i64 l[k].n, .slice a' l[k].kids.length c'] 24)
        have hB2 := hB.trans (hb5.mono hB.size)
        clear hb5
        generalize hV : wr.alloc (.cells #[.int .i64 l[k].kind, .int .i64 l[k].n, .slice a' l[k].kids.length c'] 24) = W1 at *
        clear hV
        have K85 := slashes_any l[k] a' c' W1 (HT.out.below hB2)
        unfold vty at K85
        obtain ⟨sn, hsn⟩ : ∃ sn, slN l[k] = sn := ⟨_, rfl⟩
        have hsn2 := slN_le l[k]
        rw [hsn] at K85 hsn2
        have HSN : Hid (slN l[k] = sn) := hsn
        have hsn3 : (0 : Int) ≤ sn ∧ (sn : Int) ≤ 8 := by omega
        clear hsn
        have i0 := cell_of_row _ _ 0 _ _ _ x5
        have i1 := cell_of_row _ _ 1 _ _ _ x5
        have i2 := cell_of_row _ _ 2 _ _ _ x5
        go_wp2_with (go_at_call 85; (with_reducible refine K85.mono ?_); rintro e5 w5 ⟨rfl, hb6⟩; clear K85)
        go_roundw
        case rel =>
          refine ⟨k + 1, by go_num, by omega, hB2.trans (hb6.mono hB2.size), ?_⟩
          rw [slS_take l hkl, HSN.out, ← Nat.add_assoc, HSM.out]
          go_num
        case measure => simp [intOf]; omega
      · have hkl2 : ¬ (k : Int) < (l.length : Int) := by omega
        have HRR : Hid ((if 10 < sm then (2 : Int) else 0) = r) := by
          have := HR.out
          unfold cslash at this
          rw [if_pos HE.out] at this
          have h2 := HSM.out
          rw [List.take_of_length_le (by omega)] at h2
          rw [h2] at this
          exact this
        by_cases h10 : 10 < sm
        · have h10' : (10 : Int) < sm := by omega
          go_wp2
          go_ret
          have := HRR.out
          rw [if_pos h10] at this
          rw [← this]
          exact ⟨rfl, hB⟩
        · have h10' : ¬ (10 : Int) < sm := by omega
          go_wp2
          go_ret
          have := HRR.out
          rw [if_neg h10] at this
          rw [← this]
          exact ⟨rfl, hB⟩
  · go_wp2_with (go_at_call 65; (with_reducible refine K65.mono ?_); rintro e3 w3 ⟨rfl, hb3⟩; clear K65)
    go_ret
    have hre : e0 = r := by
      have := HR.out
      unfold cslash at this
      rw [HE.out, if_neg h0] at this
      exact this
    subst hre
    exact ⟨rfl, hVb.trans (hb3.mono hVb.size)⟩
set_option maxHeartbeats 1000000 in
theorem cseq_any {d dg : Nat} (l : List Ty) (a : Option Addr) (c : Nat) (g : Ty) (ag : Option Addr) (cg : Nat) (w : World) (hl : TyAt w (d + 1) ⟨0, 0, l⟩ a c) (hg : TyAt w dg g ag cg) :
    Calls Try.prog 53 #[.slice a l.length c, vty g ag cg] w fun e w' => e = .returned (.int .i64 (cseq l g)) ∧ Below w.heap.size w w' := by
  have hf := hl.few.1
  dsimp only at hf
  have hVb : Below w.heap.size w (w.alloc (.cells #[.int .i64 g.kind, .int .i64 g.n, .slice ag g.kids.length cg] 24)) := (Below.refl _ w).alloc (Nat.le_refl _) _
  by_cases h1 : l.length < 1
  · have h1' : (l.length : Int) < 1 := by omega
    rw [show cseq l g = 7 from if_pos (.inl h1)]
    clear hl hg h1
    unfold vty
    go_enter Try.func53, Try.ntmps53
    go_wp2
    go_ret
    exact ⟨rfl, hVb⟩
  by_cases h2 : 6 < l.length
  · have h1' : ¬ (l.length : Int) < 1 := by omega
    have h2' : (6 : Int) < (l.length : Int) := by omega
    rw [show cseq l g = 7 from if_pos (.inr h2)]
    clear hl hg h1 h2
    unfold vty
    go_enter Try.func53, Try.ntmps53
    go_wp2
    go_ret
    exact ⟨rfl, hVb⟩
  · have h1' : ¬ (l.length : Int) < 1 := by omega
    have h2' : ¬ (6 : Int) < (l.length : Int) := by omega
    rw [show cseq l g = cslash l g from if_neg (by omega)]
    have K69 := cslash_any l a c g ag cg _ (hl.below hVb) (hg.below hVb) (by omega)
    obtain ⟨r, hr⟩ : ∃ r, cslash l g = r := ⟨_, rfl⟩
    rw [hr] at K69 ⊢
    clear hl hg h1 h2 hr
    unfold vty at K69 ⊢
    go_enter Try.func53, Try.ntmps53
    go_wp2_with (go_at_call 69; (with_reducible refine K69.mono ?_); rintro e3 w3 ⟨rfl, hb3⟩; clear K69)
    go_ret
    exact ⟨rfl, hVb.trans (hb3.mono hVb.size)⟩
end Go.Proofs.Ytbmgkgoghgdbhaa.Te
