/- The document's AsksWords. No conditions. -/
import Derived.Test.YtbmgkgoghgdbhaaQc
import Derived.Test.YtbmgkgoghgdbhaaVc
namespace Go.Proofs.Ytbmgkgoghgdbhaa.Te
open Go.RowKit

theorem flat_small (ws : List (List Ty)) (q : Nat) (hq : q ≤ ws.length) (h : ∀ j (hj : j < ws.length), j < q → wOff ws[j] = false) : (flat ws q).length ≤ 3 * q := by
  induction q with
  | zero => simp [flat]
  | succ q ih =>
    have hql : q < ws.length := by omega
    have ih := ih (by omega) fun j hj hjq => h j hj (by omega)
    have e := congrArg List.length (flat_succ hql)
    rw [List.length_append] at e
    have h1 := h q hql (by omega)
    unfold wOff at h1
    rw [Bool.or_eq_false_iff] at h1
    have h3 := of_decide_eq_false h1.2
    omega
theorem any_off {ws : List (List Ty)} {q : Nat} (hq : q < ws.length) (h : wOff ws[q] = true) : (ws.map wOff).any id = true := by
  rw [List.any_eq_true]
  exact ⟨true, List.mem_map.2 ⟨ws[q], List.getElem_mem hq, h⟩, rfl⟩
theorem none_off {ws : List (List Ty)} (h : ∀ j (hj : j < ws.length), j < ws.length → wOff ws[j] = false) : (ws.map wOff).any id = false := by
  rw [List.any_eq_false]
  intro b hb
  obtain ⟨q, hq, rfl⟩ := List.mem_map.1 hb
  obtain ⟨j, hj, rfl⟩ := List.getElem_of_mem hq
  rw [h j hj hj]
  decide
set_option maxRecDepth 100000 in
set_option maxHeartbeats 2000000 in
theorem askw_any {d : Nat} (ws : List (List Ty)) (ka : Option Addr) (kc : Nat) (g : Ty) (ag : Option Addr) (cg : Nat) (w : World) (hk : ws.length ≤ 140737488355328) (h : WsAt w d ws ka) (hg : TyAt w d g ag cg) :
    Calls Try.prog 27 #[.slice ka ws.length kc, vty g ag cg] w fun e w' => e = .returned (.int .i64 (cwords ws g)) ∧ Below w.heap.size w w' := by
  have hVb : Below w.heap.size w (w.alloc (.cells #[.int .i64 g.kind, .int .i64 g.n, .slice ag g.kids.length cg] 24)) := (Below.refl _ w).alloc (Nat.le_refl _) _
  have x1 := heap_alloc_new w (.cells #[.int .i64 g.kind, .int .i64 g.n, .slice ag g.kids.length cg] 24)
  by_cases h1 : ws.length = 0
  · have h1' : (ws.length : Int) = 0 := by omega
    rw [show cwords ws g = 7 from if_pos (.inl (.inl (by omega)))]
    clear h hg h1
    unfold vty
    go_enter Try.func27, Try.ntmps27
    go_wp2
    go_ret
    exact ⟨rfl, hVb⟩
  have h1' : ¬ (ws.length : Int) = 0 := by omega
  have h1b : ((ws.length : Int) == 0) = false := by simpa using h1'
  by_cases h2 : 6 < ws.length
  · have h2' : (6 : Int) < (ws.length : Int) := by omega
    rw [show cwords ws g = 7 from if_pos (.inl (.inr h2))]
    clear h hg h1 h2
    unfold vty
    go_enter Try.func27, Try.ntmps27
    go_wp2
    go_ret
    exact ⟨rfl, hVb⟩
  have h2' : ¬ (6 : Int) < (ws.length : Int) := by omega
  have HG : Hid (TyAt w d g ag cg) := hg
  obtain ⟨kg, ko, rfl, hkg, hkk⟩ : ∃ B off, ka = some ⟨B, off, none⟩ ∧ B < w.heap.size ∧ ∀ i (h : i < ws.length), ∃ a' c', w.cell? ⟨B, off + i, none⟩ = some (.slice a' ws[i].length c') ∧ LsQ w d ws[i] a' c' := by
    rcases h with h | h
    · omega
    · exact h
  have HKK : Hid (∀ i (h : i < ws.length), ∃ a' c', w.cell? ⟨kg, ko + i, none⟩ = some (.slice a' ws[i].length c') ∧ LsQ w d ws[i] a' c') := hkk
  obtain ⟨r, hr⟩ : ∃ r, cwords ws g = r := ⟨_, rfl⟩
  rw [hr]
  have HR : Hid ((if (ws.length < 1 ∨ 6 < ws.length) ∨ (ws.map wOff).any id = true then 7 else cslash ws.flatten g) = r) := hr
  clear h hg hr hkk
  unfold vty
  go_enter Try.func27, Try.ntmps27
  go_wp2
  generalize hV : w.alloc (.cells #[.int .i64 g.kind, .int .i64 g.n, .slice ag g.kids.length cg] 24) = V at *
  clear hV
  go_loopw [5, 6] (fun v i wr => ∃ (q : Nat) (xs : List Value), i = .int .i64 (q : Int) ∧ q ≤ ws.length ∧ wr.ownsRow V.heap.size 24 3 v (flat ws q).length xs ∧ RowOf (fun _ => True) V d (flat ws q) (flat ws q).length xs ∧ Below V.heap.size V wr ∧ (∀ j (hj : j < ws.length), j < q → wOff ws[j] = false)) (fun _ i _ => ws.length - (intOf i).toNat)
  case atStart => exact ⟨0, [], rfl, by omega, ⟨rfl, .inl ⟨rfl, rfl⟩⟩, fun i hi => by simp [flat] at hi, Below.refl _ _, fun _ _ h => by omega⟩
  case round =>
    obtain ⟨q, xs, rfl, hq, hown, hrow, hbw, hz⟩ := hrel
    have hsz := hbw.size
    have hBw := hVb.trans (hbw.mono hVb.size)
    have hfs := flat_small ws q hq hz
    have HZ : Hid (∀ j (hj : j < ws.length), j < q → wOff ws[j] = false) := hz
    clear hz
    by_cases hql : q < ws.length
    · have hql' : (q : Int) < (ws.length : Int) := by omega
      obtain ⟨a, c, hcell, hT⟩ := HKK.out q hql
      have hle := hT.at.2.2.1
      dsimp only at hle
      have hcell' : wr.cell? ⟨kg, ko + q, none⟩ = some (.slice a (ws[q]).length c) := (hBw.cell (p := ⟨kg, ko + q, none⟩) hkg).trans hcell
      obtain ⟨ys, hsrc⟩ := src_of (hT.below hVb).at.free
      have HSRC : Hid _ := hsrc
      have HOWN : Hid _ := hown
      have HROW : Hid _ := hrow
      have e1 := flat_succ hql
      have e4 := congrArg List.length e1
      rw [List.length_append] at e4
      clear hT hcell hsrc hown hrow
      by_cases hw0 : (ws[q]).length = 0
      · have hw0' : ((ws[q]).length : Int) = 0 := by omega
        have hr7 : r = 7 := by rw [← HR.out, if_pos (.inr (any_off hql (by simp [wOff, hw0])))]
        subst hr7
        clear e1 e4 HSRC HOWN HROW
        go_wp2
        go_ret
        exact ⟨rfl, hBw⟩
      have hw0' : ¬ ((ws[q]).length : Int) = 0 := by omega
      have hw0b : (((ws[q]).length : Int) == 0) = false := by simpa using hw0'
      by_cases hw3 : 3 < (ws[q]).length
      · have hw3' : (3 : Int) < ((ws[q]).length : Int) := by omega
        have hr7 : r = 7 := by rw [← HR.out, if_pos (.inr (any_off hql (by simp [wOff, hw3])))]
        subst hr7
        clear e1 e4 HSRC HOWN HROW
        go_wp2
        go_ret
        exact ⟨rfl, hBw⟩
      have hw3' : ¬ (3 : Int) < ((ws[q]).length : Int) := by omega
      have hwz : wOff ws[q] = false := by unfold wOff; rw [decide_eq_false (by omega), decide_eq_false hw3]; rfl
      have HWZ : Hid (wOff ws[q] = false) := hwz
      clear hwz
      go_wp2_with (at_builtin; refine wpList_src V rfl (.tmp 37) (.tmp 41) rfl V.heap.size _ _ _ rfl HOWN.out c rfl HSRC.out hbw (by omega) hsz ?_; intro v' W2 hown2 hgrow2)
      go_roundw
      case rel =>
        refine ⟨q + 1, xs ++ ys, by go_num, by omega, ?_, ?_, hbw.grown hgrow2 hsz (fun j hj => (World.ownsRow.lt HOWN.out j hj).1), fun j hj hjq => ?_⟩
        · rw [e1, List.length_append]; exact hown2
        · rw [e1]; exact RowOf.join HROW.out HOWN.out.1 HSRC.out.2.2.1
        · by_cases e : j < q
          · exact HZ.out j hj e
          · obtain rfl : j = q := by omega
            exact HWZ.out
      case measure => simp [intOf]; omega
    · have hql' : ¬ (q : Int) < (ws.length : Int) := by omega
      obtain rfl : q = ws.length := by omega
      have HC0 : Hid (cslash ws.flatten g = r) := by
        have := HR.out
        rw [if_neg (by rw [none_off HZ.out]; simp only [Bool.false_eq_true, or_false]; omega)] at this
        exact this
      rw [flat_all ws (k := ws.length) (Nat.le_refl _)] at hown hrow hfs
      obtain ⟨l, hl⟩ : ∃ l, ws.flatten = l := ⟨_, rfl⟩
      rw [hl] at hown hrow hfs HC0
      clear hl HR HZ HKK
      have y1 := heap_alloc_new wr (.cells #[.int .i64 g.kind, .int .i64 g.n, .slice ag g.kids.length cg] 24)
      have hW1 : Below wr.heap.size wr (wr.alloc (.cells #[.int .i64 g.kind, .int .i64 g.n, .slice ag g.kids.length cg] 24)) := (Below.refl _ wr).alloc (Nat.le_refl _) _
      have rg : ∀ W : World, Below w.heap.size w W → RowOf (fun _ => True) W d [g] [g].length (tyc g ag cg) := fun W hW i hi _ => by
        obtain rfl : i = 0 := by simp at hi; omega
        exact ⟨ag, cg, rfl, rfl, rfl, (HG.out.below hW).free⟩
      have hsrc : Src (fun _ => True) (wr.alloc (.cells #[.int .i64 g.kind, .int .i64 g.n, .slice ag g.kids.length cg] 24)) d [g] (some ⟨wr.heap.size, 0, none⟩) (tyc g ag cg) := by
        refine ⟨rfl, tyc_one g ag cg, rg _ (hBw.trans (hW1.mono hBw.size)), .inr ⟨wr.heap.size, 0, rfl, lt_of_get y1, fun q u hu => ?_⟩⟩
        rw [cell_of_row _ _ _ _ _ _ y1, Nat.zero_add]
        simpa [tyc] using hu
      have HSRC : Hid (Src (fun _ => True) (wr.alloc (.cells #[.int .i64 g.kind, .int .i64 g.n, .slice ag g.kids.length cg] 24)) d [g] (some ⟨wr.heap.size, 0, none⟩) (tyc g ag cg)) := hsrc
      have HOWN : Hid _ := hown
      have HROW : Hid _ := hrow.join hown.1 (rg V hVb)
      have hbw1 := hbw.trans (hW1.mono hsz)
      have x1 := (hbw.block _ (lt_of_get x1)).trans x1
      have i0 := cell_of_row _ _ 0 _ _ _ x1
      have i1 := cell_of_row _ _ 1 _ _ _ x1
      have i2 := cell_of_row _ _ 2 _ _ _ x1
      clear hsrc hown hrow y1 rg
      go_upto_region 11 with (at_builtin; refine wpList_src (wr.alloc (.cells #[.int .i64 g.kind, .int .i64 g.n, .slice ag g.kids.length cg] 24)) rfl (.tmp 43) (.tmp 45) rfl V.heap.size _ _ _ rfl (World.ownsRow.alloc HOWN.out _) 1 rfl HSRC.out (Below.refl _ _) (by simp; omega) (by have := hW1.size; omega) ?_; intro v' W2 hown2 hgrow2)
      obtain ⟨fl, hfl⟩ : ∃ fl, l ++ [g] = fl := ⟨_, rfl⟩
      have HFL : Hid (l ++ [g] = fl) := hfl
      have hflen : fl.length = l.length + 1 := by rw [← hfl]; simp
      have hfl7 : fl.length ≤ 100 := by omega
      have hown3 : W2.ownsRow V.heap.size 24 3 v' fl.length (xs ++ tyc g ag cg) := by rw [← hfl, List.length_append]; exact hown2
      have hrow3 : RowOf (fun _ => True) V d fl fl.length (xs ++ tyc g ag cg) := by rw [← hfl]; exact HROW.out
      have hbw2 : Below V.heap.size V W2 := hbw1.grown hgrow2 hbw1.size (fun j hj => (World.ownsRow.lt HOWN.out j hj).1)
      have hB4 : Below w.heap.size w W2 := hVb.trans (hbw2.mono hVb.size)
      have hv : ∀ U : Value, W2.ownsRow V.heap.size 24 3 U fl.length (xs ++ tyc g ag cg) → ∃ x m, U = .slice x fl.length m ∧ fl.length ≤ m := by
        intro U hU
        rcases hU.2 with ⟨rfl, h0⟩ | ⟨g, cap, cur, rfl, _, _, hcap, _⟩
        · exact ⟨none, 0, by rw [h0], by omega⟩
        · exact ⟨_, _, rfl, hcap⟩
      obtain ⟨a4, c4, rfl, hroom⟩ := hv _ hown3
      have HT4 : Hid (TyAt W2 (d + 1) ⟨0, 0, fl⟩ a4 c4) := ((hrow3.keep (Q := fun _ => True) (w' := W2) hbw2.size (fun g hg _ => ⟨trivial, hbw2.block g hg⟩)).all hown3 (by constructor <;> decide) (by constructor <;> decide) (by omega) (fun _ _ _ => trivial)).at
      clear hown2 hown3 hrow3 hgrow2 hv hroom hbw2 hbw1 hbw hBw HROW HOWN HSRC hW1 x1 i0 i1 i2 hVb hflen hfl hsz hfs
      have HRR : Hid ((if crow l g = 0 then (if 10 < slS fl then (2 : Int) else 0) else crow l g) = r) := by
        show _ = r
        rw [← HC0.out]
        unfold cslash
        rw [show slN g + slS l = slS fl by rw [← HFL.out, slS_app, slS_cons, slS_nil]; omega]
      clear HC0
      have HC0 : Hid (fz (fl.map ck) = crow l g) := by show fz (fl.map ck) = crow l g; rw [← HFL.out]; exact (crow_fz l g).symm
      have HZ : Hid (crow l g = 0 → ∀ t ∈ fl, ck t = 0) := fun h => by rw [← HFL.out]; exact crow_of_zero h
      obtain ⟨q, hq⟩ : ∃ q, crow l g = q := ⟨_, rfl⟩
      rw [hq] at HC0 HRR HZ
      clear hq
      go_wp2
      go_loopw [7, 8] (fun iv _ wr => ∃ k : Nat, iv = .int .i64 (k : Int) ∧ k ≤ fl.length ∧ Below W2.heap.size W2 wr ∧ fz ((fl.drop k).map ck) = q) (fun iv _ _ => fl.length - (intOf iv).toNat)
      case atStart => exact ⟨0, rfl, by omega, Below.refl _ _, HC0.out⟩
      case round =>
        obtain ⟨k, rfl, hkl', hB, hc⟩ := hrel
        have HC : Hid (fz ((fl.drop k).map ck) = q) := hc
        have hBw := hB4.trans (hB.mono hB4.size)
        clear hc
        by_cases hkl : k < fl.length
        · have hkl2 : (k : Int) < (fl.length : Int) := by omega
          obtain ⟨g4, o4, a', c', rfl, hg4, y0, y1, y2, hT⟩ := HT4.out.kid (j := k) hkl
          dsimp only at y0 y1 y2 hT
          have y0 := (hB.cell (p := ⟨g4, _, none⟩) hg4).trans y0
          have y1 := (hB.cell (p := ⟨g4, _, none⟩) hg4).trans y1
          have y2 := (hB.cell (p := ⟨g4, _, none⟩) hg4).trans y2
          have K9 := check_doc _ fl[k] a' c' wr (hT.below hB)
          unfold vty at K9
          obtain ⟨e1, he1⟩ : ∃ e1, ck fl[k] = e1 := ⟨_, rfl⟩
          rw [he1] at K9
          have HN : Hid ((if e1 = 0 then fz ((fl.drop (k + 1)).map ck) else e1) = q) := by
            have := HC.out
            rw [fz_dropT hkl, he1] at this
            exact this
          clear he1 HC hT
          by_cases he : e1 = 0
          · subst he
            go_wp2_with (go_at_call 9; (with_reducible refine K9.mono ?_); rintro e5 w5 ⟨rfl, hb5⟩; clear K9)
            go_roundw
            case rel => exact ⟨k + 1, by go_num, by omega, hB.trans (hb5.mono hB.size), by have := HN.out; simpa using this⟩
            case measure => simp [intOf]; omega
          · go_wp2_with (go_at_call 9; (with_reducible refine K9.mono ?_); rintro e5 w5 ⟨rfl, hb5⟩; clear K9)
            go_ret
            have h1 := HN.out
            rw [if_neg he] at h1
            have h2 := HRR.out
            rw [← h1, if_neg he] at h2
            exact ⟨by rw [h2]; rfl, hBw.trans (hb5.mono hBw.size)⟩
        · have hkl2 : ¬ (k : Int) < (fl.length : Int) := by omega
          have hq0 : q = 0 := by
            have := HC.out
            rw [List.drop_of_length_le (by omega)] at this
            exact this.symm
          have K56 := slash_doc _ fl a4 c4 wr (HT4.out.below hB) (HZ.out hq0) (by omega)
          have HR2 : Hid ((if 10 < slS fl then (2 : Int) else 0) = r) := by have := HRR.out; rw [if_pos hq0] at this; exact this
          obtain ⟨sn, hsn⟩ : ∃ s, slS fl = s := ⟨_, rfl⟩
          rw [hsn] at K56 HR2
          clear hq0 hsn HC HZ HRR
          by_cases h10 : 10 < sn
          · have h10' : (10 : Int) < (sn : Int) := by omega
            have hrr : r = 2 := by have := HR2.out; rw [if_pos h10] at this; exact this.symm
            subst hrr
            go_wp2_with (go_at_call 56; (with_reducible refine K56.mono ?_); rintro e5 w5 ⟨rfl, hb5⟩; clear K56)
            go_ret
            exact ⟨rfl, hBw.trans (hb5.mono hBw.size)⟩
          · have h10' : ¬ (10 : Int) < (sn : Int) := by omega
            have hrr : r = 0 := by have := HR2.out; rw [if_neg h10] at this; exact this.symm
            subst hrr
            go_wp2_with (go_at_call 56; (with_reducible refine K56.mono ?_); rintro e5 w5 ⟨rfl, hb5⟩; clear K56)
            go_ret
            exact ⟨rfl, hBw.trans (hb5.mono hBw.size)⟩
end Go.Proofs.Ytbmgkgoghgdbhaa.Te
