/- come: a line more, if it comes by a rule of claims that have lines. Conditions: few lines; the claims are of literals. -/
import Derived.Test.YtcnanbimpajonaaPt
import Derived.Test.YtcnanbimpajonaaCs
namespace Go.Proofs.Ytcnanbimpajonaa.Ce
open Go.RowKit Cl Co Cp Mq Nu Ag Cs

theorem IsC.below {w w' : World} {v : Value} {l : List C} (h : IsC w v l) (hb : Below w.heap.size w w') : IsC w' v l := Row.below h hb
theorem mapM_none {L : List Ln} {of : List C} {k : Nat} (hk : k < of.length) (h : idx L of[k] = none) : of.mapM (idx L) = none := by
  induction of generalizing k with
  | nil => simp at hk
  | cons p of ih =>
    cases k with
    | zero =>
      simp only [List.getElem_cons_zero] at h
      simp [List.mapM_cons, h]
    | succ k =>
      have := ih (k := k) (by simpa using hk) (by simpa using h)
      rw [List.mapM_cons, this]
      cases idx L p <;> rfl
theorem mapM_snoc {L : List Ln} {l : List C} {p : C} {fr : List Nat} {i : Nat} (h : l.mapM (idx L) = some fr) (hi : idx L p = some i) : (l ++ [p]).mapM (idx L) = some (fr ++ [i]) := by
  rw [List.mapM_append, h]
  simp [List.mapM_cons, hi]
theorem mapM_len {L : List Ln} {l : List C} {fr : List Nat} (h : l.mapM (idx L) = some fr) : fr.length = l.length := by
  induction l generalizing fr with
  | nil => simp at h; subst h; rfl
  | cons p l ih =>
    rw [List.mapM_cons] at h
    cases hp : idx L p with
    | none => rw [hp] at h; cases h
    | some i =>
      rw [hp] at h
      cases hl : l.mapM (idx L) with
      | none => rw [hl] at h; cases h
      | some fr' =>
        rw [hl] at h
        cases h
        simp [ih hl]

theorem cell_one_at (w : World) (g : Nat) (a : Value) (t : TypeId) (hg : g = w.heap.size) : ∀ j u, [a][j]? = some u → (w.alloc (.cells #[a] t)).cell? ((⟨g, 0, none⟩ : Addr).add j) = some u := by
  subst hg
  exact one_at w a t

set_option maxHeartbeats 4000000 in
set_option maxRecDepth 100000 in
theorem come_any (base A mb : Nat) (g : C) (L : List Ln) (r : Int) (c : C) (vo : Value) (of : List C) (w : World) (hA : Arg base w A mb g L) (hc : Wc c) (ho : IsC w vo of) (hol : of.length ≤ 2) (hs : ∀ p ∈ of, Sm p ∧ Wc p) (hl : L.length < 100000) :
    Calls Try.prog 46 #[.pointer (some ⟨A, 0, none⟩), .int .i64 r, vc c, vo] w fun e w' => e = .returned (.tuple #[]) ∧ Arg base w' A mb g (comeL L r c of) ∧ Kt base w w' := by
  obtain ⟨i0, hi, hz0, hz1, hz2⟩ := info_parts info3
  have hob : ∀ W, Below w.heap.size w W → Calls Try.prog 40 #[.int .i64 r, vc c, vo] W fun e w' => e = .returned (.bool (comesP r c of)) ∧ Below W.heap.size W w' := fun W hW => comes_any r c vo of W (IsC.below ho hW) hol (fun p hp => (hs p hp).1)
  have HOB : Hid _ := hob
  obtain ⟨hxl, ao, co, rfl, hno, hC⟩ := ho
  obtain ⟨c0, c1, c2⟩ := c
  have hb0 : Below w.heap.size w (w.alloc (.cells #[.bool c0, .int .i64 c1, .int .i64 c2] 24)) := (Below.refl _ w).alloc (Nat.le_refl _) _
  have HB0 : Hid _ := hb0
  have HA : Hid (∀ W, Below w.heap.size w W → Arg base W A mb g L) := fun W hW => hA.below hW
  have HBA : Hid (base ≤ w.heap.size) := hA.le
  have HS : Hid _ := hs
  have HC : Hid (of.length = 0 ∨ ∃ b off, ao = some ⟨b, off, none⟩ ∧ b < w.heap.size ∧ ∀ j u, (ccs of)[j]? = some u → w.cell? ⟨b, off + j, none⟩ = some u) := hC
  clear hob hb0 hA hs hC hxl hno
  unfold vc at HOB ⊢
  dsimp only at HOB ⊢
  go_enter Try.func46, Try.ntmps46
  go_wp2
  go_loopw [8, 15] (fun v iv wr => ∃ (k : Nat) (fr : List Nat), iv = .int .i64 (k : Int) ∧ k ≤ of.length ∧ (of.take k).mapM (idx L) = some fr ∧ wr.ownsRow (w.heap.size + 1) 3 1 v k (nc (fr.map fun (n : Nat) => (n : Int))) ∧ Below (w.heap.size + 1) (w.alloc (.cells #[.bool c0, .int .i64 c1, .int .i64 c2] 24)) wr) (fun _ iv _ => of.length - (intOf iv).toNat)
  case atStart => exact ⟨0, [], rfl, Nat.zero_le _, rfl, World.ownsRow_nil _ _ _ _, Below.refl _ _⟩
  case round =>
    obtain ⟨k, fr, rfl, hk, hfr, hown, hb⟩ := hrel
    have hbw : Below w.heap.size w wr := HB0.out.trans (hb.mono (Nat.le_succ _))
    by_cases hlt : k < of.length
    · obtain ⟨b, off, rfl, hbl, hcs⟩ := HC.out.resolve_left (by omega)
      obtain ⟨⟨p0, p1, p2⟩, hp⟩ : ∃ p, of[k] = p := ⟨_, rfl⟩
      have hat := ccs_at of k hlt
      rw [hp] at hat
      have d0 : wr.cell? ⟨b, off + k * 3, none⟩ = some (.bool p0) := (hbw.cell hbl).trans (hcs _ _ hat.1)
      have d1 : wr.cell? ⟨b, off + k * 3 + 1, none⟩ = some (.int .i64 p1) := (hbw.cell hbl).trans (hcs _ _ hat.2.1)
      have d2 : wr.cell? ⟨b, off + k * 3 + 2, none⟩ = some (.int .i64 p2) := (hbw.cell hbl).trans (hcs _ _ hat.2.2)
      have hpm := HS.out of[k] (List.getElem_mem hlt)
      rw [hp] at hpm
      have hb1 : Below wr.heap.size wr (wr.alloc (.cells #[.bool p0, .int .i64 p1, .int .i64 p2] 24)) := (Below.refl _ wr).alloc (Nat.le_refl _) _
      have hbq : ∀ nq, Below w.heap.size w ((wr.alloc (.cells #[.bool p0, .int .i64 p1, .int .i64 p2] 24)).drewN nq) := fun nq => hbw.trans (below_drewN (hb1.mono hbw.size) nq)
      have hlk : ∀ nq, (Instr.lookup 51 (.map (some mb)) (.agg #[.bool p0, .int .i64 p1, .int .i64 p2]) true).run Try.prog ((wr.alloc (.cells #[.bool p0, .int .i64 p1, .int .i64 p2] 24)).drewN nq) = .ok (told (idx L (p0, p1, p2))) ((wr.alloc (.cells #[.bool p0, .int .i64 p1, .int .i64 p2] 24)).drewN nq) := fun nq => by
        obtain ⟨v, n, Z, h⟩ := HA.out _ (hbq nq)
        exact h.mp.look (c := (p0, p1, p2)) hpm.2
      have hp4 : ∀ nq, ((wr.alloc (.cells #[.bool p0, .int .i64 p1, .int .i64 p2] 24)).drewN nq).cell? ⟨A, 4, none⟩ = some (.map (some mb)) := fun nq => by
        obtain ⟨v, n, Z, h⟩ := HA.out _ (hbq nq)
        exact h.cell.2.2.2.2
      have hx0 : ∀ nq, ((wr.alloc (.cells #[.bool p0, .int .i64 p1, .int .i64 p2] 24)).drewN nq).cell? ⟨wr.heap.size, 0, none⟩ = some (.bool p0) := fun nq => cell_of_row _ _ 0 _ 24 (0, 0) (heap_alloc_new wr _)
      have hx1 : ∀ nq, ((wr.alloc (.cells #[.bool p0, .int .i64 p1, .int .i64 p2] 24)).drewN nq).cell? ⟨wr.heap.size, 1, none⟩ = some (.int .i64 p1) := fun nq => cell_of_row _ _ 1 _ 24 (0, 0) (heap_alloc_new wr _)
      have hx2 : ∀ nq, ((wr.alloc (.cells #[.bool p0, .int .i64 p1, .int .i64 p2] 24)).drewN nq).cell? ⟨wr.heap.size, 2, none⟩ = some (.int .i64 p2) := fun nq => cell_of_row _ _ 2 _ 24 (0, 0) (heap_alloc_new wr _)
      have HP : Hid (of[k] = (p0, p1, p2)) := hp
      have HO : Hid (wr.ownsRow (w.heap.size + 1) 3 1 u8 k (nc (fr.map fun (n : Nat) => (n : Int)))) := hown
      have HB : Hid (Below (w.heap.size + 1) (w.alloc (.cells #[.bool c0, .int .i64 c1, .int .i64 c2] 24)) wr) := hb
      have HBQ : Hid _ := hbq
      have HB1 : Hid (Below wr.heap.size wr (wr.alloc (.cells #[.bool p0, .int .i64 p1, .int .i64 p2] 24))) := hb1
      have HF : Hid _ := hfr
      have hws : w.heap.size + 1 ≤ wr.heap.size := by have := hb.size; simp at this; exact this
      clear hat hp hown hb hbq hb1 hcs hbw hfr hpm
      cases hix : idx L (p0, p1, p2) with
      | none =>
        rw [hix] at hlk
        unfold told at hlk
        dsimp only at hlk
        have HI : Hid _ := hix
        clear hix
        go_wp2
        go_quiet (fail)
        go_wp2
        refine bodyPost_ret (results_none rfl _ _ _) rfl ?_
        have e : comeL L r (c0, c1, c2) of = L := by unfold comeL; rw [mapM_none hlt (by rw [HP.out]; exact HI.out)]
        rw [e]
        exact ⟨rfl, HA.out _ (HBQ.out _), Kt.of_below (HBQ.out _) HBA.out⟩
      | some i =>
        rw [hix] at hlk
        unfold told at hlk
        dsimp only at hlk
        have HI : Hid _ := hix
        clear hix
        go_wp2
        go_quiet (fail)
        clear hlk hp4 hx0 hx1 hx2 d0 d1 d2
        have hbb : Below wr.heap.size wr ((wr.alloc (.cells #[.bool p0, .int .i64 p1, .int .i64 p2] 24)).drewN nq) := below_drewN HB1.out nq
        have HBB : Hid _ := hbb
        have hsz : ((wr.alloc (.cells #[.bool p0, .int .i64 p1, .int .i64 p2] 24)).drewN nq).heap.size = wr.heap.size + 1 := by show (wr.alloc _).heap.size = _; simp
        have HSZ : Hid _ := hsz
        clear hbb hsz
        go_wp2_with (refine wpList_append_own_at _ rfl _ _ 29 rfl (w.heap.size + 1) 3 i0 (.int .i64 0) 1 8 Try.underlying29 hi hz0 hz1 hz2 rfl (by decide) _ _ _ rfl ((own_below HO.out HBB.out).alloc _) ⟨_, 0, none⟩ 1 1 (nc [(i : Int)]) rfl rfl (cell_one_at _ _ _ _ HSZ.out.symm) (nc_one _) (by unfold maxLen; omega) (by omega) (by have := HSZ.out; simp; omega) ?_; intro v1 w1 ho1 hg1 _ _; have HO1 : Hid (w1.ownsRow (w.heap.size + 1) 3 1 v1 (k + 1) (nc (fr.map fun (n : Nat) => (n : Int)) ++ nc [(i : Int)])) := ho1; have HG1 : Hid (Below (w.heap.size + 1) wr w1) := (HBB.out.mono hws).trans ((((Below.refl _ _).alloc (by rw [HSZ.out]; omega) _).trans (below_of_grown hg1 ((own_below HO.out HBB.out).alloc _) (by have := HSZ.out; simp; omega)))); clear ho1 hg1)
        go_roundw
        case rel =>
          refine ⟨k + 1, fr ++ [i], by go_num, hlt, ?_, ?_, HB.out.trans HG1.out⟩
          · rw [List.take_succ_eq_append_getElem hlt]
            exact mapM_snoc HF.out (by rw [HP.out]; exact HI.out)
          · have e := HO1.out
            rw [nc_app] at e
            rw [List.map_append]
            exact e
        case measure => simp [intOf]; omega
    · have ek : k = of.length := by omega
      subst ek
      rw [List.take_length] at hfr
      have hN : IsN wr u8 (fr.map fun (n : Nat) => (n : Int)) := own_isN hown
      have hbx : wr.heap[w.heap.size]? = some (.cells #[.bool c0, .int .i64 c1, .int .i64 c2] 24 (0, 0)) := (hb.block _ (Nat.lt_succ_self _)).trans (heap_alloc_new w _)
      have b0 : wr.cell? ⟨w.heap.size, 0, none⟩ = some (.bool c0) := cell_of_row _ _ 0 _ 24 (0, 0) hbx
      have b1 : wr.cell? ⟨w.heap.size, 1, none⟩ = some (.int .i64 c1) := cell_of_row _ _ 1 _ 24 (0, 0) hbx
      have b2 : wr.cell? ⟨w.heap.size, 2, none⟩ = some (.int .i64 c2) := cell_of_row _ _ 2 _ 24 (0, 0) hbx
      have hxl : w.heap.size < wr.heap.size := (Array.getElem?_eq_some_iff.1 hbx).1
      have HN : Hid (IsN wr u8 (fr.map fun (n : Nat) => (n : Int))) := hN
      have HF : Hid (of.mapM (idx L) = some fr) := hfr
      have HBW : Hid (Below w.heap.size w wr) := hbw
      have hlen : (fr.map fun (n : Nat) => (n : Int)).length < 1000 := by rw [List.length_map, mapM_len hfr]; omega
      have HLN : Hid _ := hlen
      have e0 : comeL L r (c0, c1, c2) of = if comesP r (c0, c1, c2) of then putL L r (c0, c1, c2) (fr.map fun (n : Nat) => (n : Int)) else L := by unfold comeL; rw [hfr]
      have HE : Hid _ := e0
      clear hown hb hN hbx hfr hbw e0 hlen hk hlt
      have con := HOB.out
      cases hcp : comesP r (c0, c1, c2) of with
      | false =>
        rw [hcp] at con
        have HCP : Hid _ := hcp
        clear hcp
        go_wp2_with (go_at_call 40; refine (con _ HBW.out).mono ?_; rintro e w1 ⟨rfl, hb1⟩; have HB1 : Hid (Below w.heap.size w w1) := HBW.out.trans (hb1.mono HBW.out.size); clear hb1)
        go_end0
        rw [HE.out, HCP.out]
        exact ⟨rfl, HA.out _ HB1.out, Kt.of_below HB1.out HBA.out⟩
      | true =>
        rw [hcp] at con
        have HCP : Hid _ := hcp
        clear hcp
        go_wp2_with (first | (go_at_call 40; refine (con _ HBW.out).mono ?_; rintro e w1 ⟨rfl, hb1⟩; have f0 := (hb1.cell hxl).trans b0; have f1 := (hb1.cell hxl).trans b1; have f2 := (hb1.cell hxl).trans b2; have HB1 : Hid (Below w.heap.size w w1) := HBW.out.trans (hb1.mono HBW.out.size); have HN1 : Hid (IsN w1 u8 (fr.map fun (n : Nat) => (n : Int))) := HN.out.below hb1; clear hb1) | (go_at_call 28; refine (Pt.put_any base A mb g L r (c0, c1, c2) u8 (fr.map fun (n : Nat) => (n : Int)) w1 (HA.out _ HB1.out) hc HN1.out hl HLN.out).mono ?_; rintro e w2 ⟨rfl, hA2, hK2⟩; have HA2 : Hid _ := hA2; have HK2 : Hid _ := hK2; clear hA2 hK2))
        go_end0
        rw [HE.out, HCP.out]
        exact ⟨rfl, HA2.out, (Kt.of_below HB1.out HBA.out).trans HK2.out⟩
end Go.Proofs.Ytcnanbimpajonaa.Ce
