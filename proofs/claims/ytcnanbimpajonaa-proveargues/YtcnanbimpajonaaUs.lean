/- useSome: what comes of a some claim, alone and with others. Conditions: few lines; the claims are of literals. -/
import Derived.Test.YtcnanbimpajonaaUa
namespace Go.Proofs.Ytcnanbimpajonaa.Us
open Go.RowKit Cl Co Cp Mq Nu Ag Cs Ce Ua

/-- what comes of a some claim, with one more literal -/
def uS (p : C) (L : List Ln) (x : Int) : List Ln := comeL L 9 (true, p.2.1, x) [p, (false, p.2.2, x)]
def useSomeL (g : C) (L : List Ln) (p : C) : List Ln := lits.foldl (uS p) (comeL (comeL (comeL L 7 (true, p.2.2, p.2.1) [p]) 8 (true, p.2.1, p.2.1) [p]) 10 g [(false, p.2.1, -p.2.2), p])
theorem uS_len (p : C) (L : List Ln) (x : Int) : (uS p L x).length ≤ L.length + 1 := come_len _ _ _ _

set_option maxHeartbeats 8000000 in
set_option maxRecDepth 100000 in
theorem useSome_any (base A mb : Nat) (g : C) (L : List Ln) (p0 : Bool) (p1 p2 : Int) (w : World) (hA : Arg base w A mb g L) (hp : Sm (p0, p1, p2)) (hg : Sm g) (hl : L.length < 90000) :
    Calls Try.prog 31 #[.pointer (some ⟨A, 0, none⟩), vc (p0, p1, p2)] w fun e w' => e = .returned (.tuple #[]) ∧ Arg base w' A mb g (useSomeL g L (p0, p1, p2)) ∧ Kt base w w' := by
  have hb0 : Below w.heap.size w (w.alloc (box (p0, p1, p2))) := (Below.refl _ w).alloc (Nat.le_refl _) _
  have hst : St base w (w.alloc (box (p0, p1, p2))) A mb g L w.heap.size (p0, p1, p2) (.slice none 0 0) [] := ⟨hA.below hb0, Kt.of_below hb0 hA.le, heap_alloc_new w _, none, 0, rfl, .inl ⟨rfl, rfl, rfl⟩⟩
  have n2 := wrap_neg hp.2.1 hp.2.2
  have hp1 : -6 ≤ p1 ∧ p1 ≤ 6 := hp.1
  have hp2 : -6 ≤ p2 ∧ p2 ≤ 6 := hp.2
  clear hb0 hA
  unfold vc
  unfold box at hst
  dsimp only at n2 hst ⊢
  go_enter Try.func31, Try.ntmps31
  go_upto_region 1 with fail
  obtain ⟨W0, hW0⟩ : ∃ W, w.alloc (.cells #[.bool p0, .int .i64 p1, .int .i64 p2] 24) = W := ⟨_, rfl⟩
  rw [hW0] at hst ⊢
  clear hW0
  obtain ⟨b, hb⟩ : ∃ b, w.heap.size = b := ⟨_, rfl⟩
  rw [hb] at hst ⊢
  clear hb
  have hS1 : Sm (true, p2, p1) := ⟨⟨hp2.1, hp2.2⟩, hp1.1, hp1.2⟩
  have hS2 : Sm (true, p1, p1) := ⟨⟨hp1.1, hp1.2⟩, hp1.1, hp1.2⟩
  have hS3 : Sm (false, p1, -p2) := ⟨⟨hp1.1, hp1.2⟩, by show -6 ≤ -p2; omega, by show -p2 ≤ 6; omega⟩
  have c0 := hst.cell
  have k3 := hst.cell3
  dsimp only at c0 k3
  have HST : Hid _ := hst
  clear hst
  go_cut [] from 6 to 14 (fun wx => St base w wx A mb g (comeL L 7 (true, p2, p1) [(p0, p1, p2)]) b (p0, p1, p2) (.slice none 0 0) [])
  case first =>
    go_region_held3 (fun W => W.cell? ⟨b, 0, none⟩ = some (.bool p0) ∧ W.cell? ⟨b, 1, none⟩ = some (.int .i64 p1) ∧ W.cell? ⟨b, 2, none⟩ = some (.int .i64 p2)) (go_keep) (first | (go_at_call 30; refine (all_any _ _ _).mono ?_; rintro e w' ⟨rfl, rfl⟩) | (go_at_call 47; refine (some_any _ _ _).mono ?_; rintro e w' ⟨rfl, rfl⟩) | (go_at_call 46; refine (come_st 7 (true, p2, p1) _ [(p0, p1, p2)] HST.out (by first | exact bl1 _ _ | exact bl2 _ _ _ | exact bl3 _ _ _ _) hS1 (by first | exact isC_lit1 (nw1 _ _) | exact isC_lit1 (nw21 _ _ _) | exact isC_lit1 (nw22 _ _ _) | exact isC_lit1 (nw32 _ _ _ _) | exact isC_lit1 (nw33 _ _ _ _)) (by simp) (one_of (P := Sm) hp) (by omega)).mono ?_; rintro e wz ⟨rfl, hz⟩; have HZ : Hid _ := hz; have cz := hz.cell; have cy := hz.goal; clear hz; dsimp only at cz))
    all_goals
      clear c0 cz cy k3
      go_wp2_with fail
      go_meet
      case rel => exact HZ.out
  case rest =>
  clear c0 k3 HST
  have hleL1 := come_len L 7 (true, p2, p1) [(p0, p1, p2)]
  obtain ⟨L1, hEL1⟩ : ∃ l, comeL L 7 (true, p2, p1) [(p0, p1, p2)] = l := ⟨_, rfl⟩
  rw [hEL1] at hcut hleL1
  have HEL1 : Hid (comeL L 7 (true, p2, p1) [(p0, p1, p2)] = L1) := hEL1
  clear hEL1
  have hst := hcut
  clear hcut
  go_upto_region 2 with fail
  have c0 := hst.cell
  have k3 := hst.cell3
  dsimp only at c0 k3
  have HST : Hid _ := hst
  clear hst
  go_cut [] from 15 to 23 (fun wx => St base w wx A mb g (comeL L1 8 (true, p1, p1) [(p0, p1, p2)]) b (p0, p1, p2) (.slice none 0 0) [])
  case first =>
    go_region_held3 (fun W => W.cell? ⟨b, 0, none⟩ = some (.bool p0) ∧ W.cell? ⟨b, 1, none⟩ = some (.int .i64 p1) ∧ W.cell? ⟨b, 2, none⟩ = some (.int .i64 p2)) (go_keep) (first | (go_at_call 30; refine (all_any _ _ _).mono ?_; rintro e w' ⟨rfl, rfl⟩) | (go_at_call 47; refine (some_any _ _ _).mono ?_; rintro e w' ⟨rfl, rfl⟩) | (go_at_call 46; refine (come_st 8 (true, p1, p1) _ [(p0, p1, p2)] HST.out (by first | exact bl1 _ _ | exact bl2 _ _ _ | exact bl3 _ _ _ _) hS2 (by first | exact isC_lit1 (nw1 _ _) | exact isC_lit1 (nw21 _ _ _) | exact isC_lit1 (nw22 _ _ _) | exact isC_lit1 (nw32 _ _ _ _) | exact isC_lit1 (nw33 _ _ _ _)) (by simp) (one_of (P := Sm) hp) (by omega)).mono ?_; rintro e wz ⟨rfl, hz⟩; have HZ : Hid _ := hz; have cz := hz.cell; have cy := hz.goal; clear hz; dsimp only at cz))
    all_goals
      clear c0 cz cy k3
      go_wp2_with fail
      go_meet
      case rel => exact HZ.out
  case rest =>
  clear c0 k3 HST
  have hleL2 := come_len L1 8 (true, p1, p1) [(p0, p1, p2)]
  obtain ⟨L2, hEL2⟩ : ∃ l, comeL L1 8 (true, p1, p1) [(p0, p1, p2)] = l := ⟨_, rfl⟩
  rw [hEL2] at hcut hleL2
  have HEL2 : Hid (comeL L1 8 (true, p1, p1) [(p0, p1, p2)] = L2) := hEL2
  clear hEL2
  have hst := hcut
  clear hcut
  go_upto_region 3 with fail
  have c0 := hst.cell
  have k3 := hst.cell3
  have cg := hst.goal
  dsimp only at c0 k3
  have HST : Hid _ := hst
  clear hst
  go_cut [] from 24 to 37 (fun wx => St base w wx A mb g (comeL L2 10 g [(false, p1, -p2), (p0, p1, p2)]) b (p0, p1, p2) (.slice none 0 0) [])
  case first =>
    go_region_held3 (fun W => W.cell? ⟨b, 0, none⟩ = some (.bool p0) ∧ W.cell? ⟨b, 1, none⟩ = some (.int .i64 p1) ∧ W.cell? ⟨b, 2, none⟩ = some (.int .i64 p2) ∧ W.cell? ⟨A, 0, none⟩ = some (.bool g.1) ∧ W.cell? ⟨A, 1, none⟩ = some (.int .i64 g.2.1) ∧ W.cell? ⟨A, 2, none⟩ = some (.int .i64 g.2.2)) (go_keep) (first | (go_at_call 30; refine (all_any _ _ _).mono ?_; rintro e w' ⟨rfl, rfl⟩) | (go_at_call 47; refine (some_any _ _ _).mono ?_; rintro e w' ⟨rfl, rfl⟩) | (go_at_call 46; refine (come_st 10 g _ [(false, p1, -p2), (p0, p1, p2)] HST.out (by first | exact bl1 _ _ | exact bl2 _ _ _ | exact bl3 _ _ _ _) hg (by first | exact isC_lit2 (nw1 _ _) | exact isC_lit2 (nw21 _ _ _) | exact isC_lit2 (nw22 _ _ _) | exact isC_lit2 (nw32 _ _ _ _) | exact isC_lit2 (nw33 _ _ _ _)) (by simp) (two_of (P := Sm) hS3 hp) (by omega)).mono ?_; rintro e wz ⟨rfl, hz⟩; have HZ : Hid _ := hz; have cz := hz.cell; have cy := hz.goal; clear hz; dsimp only at cz))
    all_goals
      clear c0 cz cy k3 cg
      go_wp2_with fail
      go_meet
      case rel => exact HZ.out
  case rest =>
  clear c0 k3 cg HST
  have hleL3 := come_len L2 10 g [(false, p1, -p2), (p0, p1, p2)]
  obtain ⟨L3, hEL3⟩ : ∃ l, comeL L2 10 g [(false, p1, -p2), (p0, p1, p2)] = l := ⟨_, rfl⟩
  rw [hEL3] at hcut hleL3
  have HEL3 : Hid (comeL L2 10 g [(false, p1, -p2), (p0, p1, p2)] = L3) := hEL3
  clear hEL3
  have hst := hcut
  clear hcut
  have HST : Hid _ := hst
  clear hst
  go_wp2_with (go_at_call 29; refine (literals_any _).mono ?_; rintro e w3 ⟨v3, rfl, hN3, hb3⟩; have HN3 : Hid _ := hN3; have HB3 : Hid _ := hb3; clear hN3 hb3; obtain ⟨av, kv, hv3, _⟩ := HN3.out; have e12 : lits.length = 12 := rfl; rw [e12] at hv3; subst hv3; clear e12)
  go_loopw [40] (fun iv wr => ∃ (k : Nat), iv = .int .i64 (k : Int) ∧ k ≤ 12 ∧ St base w wr A mb g ((lits.take k).foldl (uS (p0, p1, p2)) L3) b (p0, p1, p2) (.slice av 12 kv) lits) (fun iv _ => 12 - (intOf iv).toNat)
  case atStart => exact ⟨0, rfl, Nat.zero_le _, ⟨HST.out.arg.below HB3.out, HST.out.kt.trans (Kt.of_below HB3.out HST.out.arg.le), (HB3.out.block b HST.out.lt).trans HST.out.bx, HN3.out⟩⟩
  case round =>
    obtain ⟨k, rfl, hk, hst⟩ := hrel
    have hN := hst.ns
    clear HST HN3 HB3
    by_cases hlt : k < 12
    · obtain ⟨a', c', hv', hcs⟩ := hN.cells
      have e12 : lits.length = 12 := rfl
      rw [e12] at hv'
      simp only [Value.slice.injEq, true_and] at hv'
      obtain ⟨rfl, rfl⟩ := hv'
      have q2 : decide ((k : Int) < 12) = true := by simp; omega
      obtain ⟨bl, ol, rfl, hbl, hcl⟩ := hcs.resolve_left (by decide)
      have d0 := hcl k hlt
      obtain ⟨x, hx⟩ : ∃ x, lits[k]'hlt = x := ⟨_, rfl⟩
      have hxs := lits_sm (hx ▸ List.getElem_mem hlt)
      rw [hx] at d0
      have HX : Hid (lits[k]'hlt = x) := hx
      have hLk := fold_len (uS_len (p0, p1, p2)) (lits.take k) L3
      have htk : (lits.take k).length ≤ 12 := by rw [List.length_take]; exact Nat.min_le_right _ _
      obtain ⟨Lk, hE⟩ : ∃ l, (lits.take k).foldl (uS (p0, p1, p2)) L3 = l := ⟨_, rfl⟩
      rw [hE] at hst hLk
      have HE : Hid ((lits.take k).foldl (uS (p0, p1, p2)) L3 = Lk) := hE
      have HN : Hid _ := hN
      have hLk2 : Lk.length < 95000 := by omega
      clear hE hcs hcl hx hN hLk htk e12
      have hS4 : Sm (true, p1, x) := ⟨⟨hp1.1, hp1.2⟩, hxs.1, hxs.2⟩
      have hS5 : Sm (false, p2, x) := ⟨⟨hp2.1, hp2.2⟩, hxs.1, hxs.2⟩
      go_upto_region 7 with fail
      clear d0
      have c0 := hst.cell
      have k3 := hst.cell3
      dsimp only at c0 k3
      have HST : Hid _ := hst
      clear hst
      go_region_held3 (fun W => W.cell? ⟨b, 0, none⟩ = some (.bool p0) ∧ W.cell? ⟨b, 1, none⟩ = some (.int .i64 p1) ∧ W.cell? ⟨b, 2, none⟩ = some (.int .i64 p2)) (go_keep) (first | (go_at_call 30; refine (all_any _ _ _).mono ?_; rintro e w' ⟨rfl, rfl⟩) | (go_at_call 47; refine (some_any _ _ _).mono ?_; rintro e w' ⟨rfl, rfl⟩) | (go_at_call 46; refine (come_st 9 (true, p1, x) _ [(p0, p1, p2), (false, p2, x)] HST.out (by first | exact bl1 _ _ | exact bl2 _ _ _ | exact bl3 _ _ _ _) hS4 (by first | exact isC_lit2 (nw1 _ _) | exact isC_lit2 (nw21 _ _ _) | exact isC_lit2 (nw22 _ _ _) | exact isC_lit2 (nw32 _ _ _ _) | exact isC_lit2 (nw33 _ _ _ _)) (by simp) (two_of (P := Sm) hp hS5) (by omega)).mono ?_; rintro e wz ⟨rfl, hz⟩; have HZ : Hid _ := hz; have cz := hz.cell; have cy := hz.goal; clear hz; dsimp only at cz))
      all_goals
        clear c0 cz cy k3
        go_wp2_with fail
        go_roundw
        case rel =>
          refine ⟨k + 1, by go_num, hlt, ?_⟩
          have e := HZ.out
          rw [← HE.out] at e
          rw [fold_snoc L3 hlt, HX.out]
          exact e
        case measure => simp [intOf]; omega
    · have ek : k = 12 := by omega
      subst ek
      have HST : Hid _ := hst
      clear hst hN
      go_wp2
      go_end0
      have e := HST.out
      rw [← HEL3.out, ← HEL2.out, ← HEL1.out] at e
      exact ⟨rfl, e.arg, e.kt⟩
end Go.Proofs.Ytcnanbimpajonaa.Us
