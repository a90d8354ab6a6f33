/- find: the goal's line, in all that comes. Conditions: what holds of the lines, step by step, bounds them. -/
import Derived.Test.YtcnanbimpajonaaUs
namespace Go.Proofs.Ytcnanbimpajonaa.Fd
open Go.RowKit Cl Co Cp Mq Nu Ag Cs Ce Ua Us

/-- what comes of a claim -/
def useL (g : C) (L : List Ln) (p : C) : List Ln := if p.1 then useSomeL g L p else useAllL g L p

set_option maxHeartbeats 4000000 in
set_option maxRecDepth 100000 in
theorem find_any (base A mb : Nat) (g : C) (I : Nat → List Ln → Prop) (N : Nat) (L0 : List Ln) (w : World) (hA : Arg base w A mb g L0) (h0 : I 0 L0) (hg : Sm g)
    (hb : ∀ i L, I i L → L.length ≤ N ∧ L.length < 80000 ∧ ∀ l ∈ L, Sm l.2.1)
    (hs : ∀ i L (h : i < L.length), I i L → idx L g = none → I (i + 1) (useL g L (L[i]).2.1)) :
    Calls Try.prog 18 #[.pointer (some ⟨A, 0, none⟩)] w fun e w' => ∃ i L, I i L ∧ Arg base w' A mb g L ∧ Kt base w w' ∧ ((L.length ≤ i ∧ e = .returned (.tuple #[.int .i64 0, .bool false])) ∨ ∃ n : Nat, idx L g = some n ∧ e = .returned (.tuple #[.int .i64 (n : Int), .bool true])) := by
  have HA : Hid (Arg base w A mb g L0) := hA
  have H0 : Hid _ := h0
  have HB : Hid _ := hb
  have HS : Hid _ := hs
  clear hA h0 hb hs
  go_enter Try.func18, Try.ntmps18
  go_wp2
  go_loopw [4] (fun iv wr => ∃ (i : Nat) (L : List Ln), iv = .int .i64 (i : Int) ∧ I i L ∧ Arg base wr A mb g L ∧ Kt base w wr) (fun iv _ => N + 1 - (intOf iv).toNat)
  case atStart => exact ⟨0, L0, rfl, H0.out, HA.out, Kt.refl _ _⟩
  case round =>
    obtain ⟨i, L, rfl, hI, hA, hK⟩ := hrel
    have hbd := HB.out i L hI
    have HI : Hid (I i L) := hI
    have HA' : Hid (Arg base wr A mb g L) := hA
    have HK : Hid (Kt base w wr) := hK
    obtain ⟨v, n, Z, hAt⟩ := hA
    clear hI hK HA H0
    have hLN : L.length ≤ N := hbd.1
    have hL8 : L.length < 80000 := hbd.2.1
    have HSm : Hid (∀ l ∈ L, Sm l.2.1) := hbd.2.2
    clear hbd
    by_cases hlt : i < L.length
    · obtain ⟨gb, cap, rfl, _, hgl⟩ := own_some hAt.row (by omega)
      have hq := hAt.cell
      have q3 := hq.2.2.2.1
      have e4 : ∀ nq, (wr.drewN nq).cell? ⟨A, 4, none⟩ = some (.map (some mb)) := fun nq => hq.2.2.2.2
      have e0 : ∀ nq, (wr.drewN nq).cell? ⟨A, 0, none⟩ = some (.bool g.1) := fun nq => hq.1
      have e1 : ∀ nq, (wr.drewN nq).cell? ⟨A, 1, none⟩ = some (.int .i64 g.2.1) := fun nq => hq.2.1
      have e2 : ∀ nq, (wr.drewN nq).cell? ⟨A, 2, none⟩ = some (.int .i64 g.2.2) := fun nq => hq.2.2.1
      have hlk : ∀ nq, (Instr.lookup 51 (.map (some mb)) (.agg #[.bool g.1, .int .i64 g.2.1, .int .i64 g.2.2]) true).run Try.prog (wr.drewN nq) = .ok (told (idx L g)) (wr.drewN nq) := fun nq => (hAt.below (below_drewN (Below.refl _ _) nq)).mp.look (c := g) (wc_sm hg)
      have hZl := hAt.len
      have hz := zcs_at Z i (by omega)
      have hfst : (Z[i]'(by omega)).1 = L[i] := by
        have h1 : (Z.map Prod.fst)[i]? = some L[i] := by rw [hAt.fst]; exact List.getElem?_eq_getElem hlt
        rw [List.getElem?_map, List.getElem?_eq_getElem (by omega)] at h1
        simpa using h1
      rw [hfst] at hz
      obtain ⟨⟨r, ⟨s0, s1, s2⟩, fr⟩, hLi⟩ : ∃ l, L[i] = l := ⟨_, rfl⟩
      rw [hLi] at hz
      have z1 : ∀ nq, (wr.drewN nq).cell? ⟨gb, i * 5 + 1, none⟩ = some (.bool s0) := fun nq => (hAt.row.cellAt (i * 5 + 1) (by omega)).trans hz.2.1
      have z2 : ∀ nq, (wr.drewN nq).cell? ⟨gb, i * 5 + 1 + 1, none⟩ = some (.int .i64 s1) := fun nq => (hAt.row.cellAt (i * 5 + 2) (by omega)).trans hz.2.2.1
      have z3 : ∀ nq, (wr.drewN nq).cell? ⟨gb, i * 5 + 1 + 2, none⟩ = some (.int .i64 s2) := fun nq => (hAt.row.cellAt (i * 5 + 3) (by omega)).trans hz.2.2.2.1
      have HLi : Hid (L[i] = (r, (s0, s1, s2), fr)) := hLi
      have hsm := HSm.out _ (List.getElem_mem hlt)
      rw [hLi] at hsm
      have HSi : Hid (Sm (s0, s1, s2)) := hsm
      have e3 : ∀ nq, (wr.drewN nq).cell? ⟨A, 3, none⟩ = some (.slice (some ⟨gb, 0, none⟩) L.length cap) := fun nq => q3
      clear hq hAt hZl hz hfst hLi hsm
      cases hix : idx L g with
      | some m =>
        rw [hix] at hlk
        unfold told at hlk
        dsimp only at hlk
        have HX : Hid (idx L g = some m) := hix
        clear hix z1 z2 z3 hgl
        go_wp2
        go_quiet (fail)
        go_wp2
        go_ret2
        exact ⟨i, L, HI.out, HA'.out.below (below_drewN (Below.refl _ _) _), HK.out.trans (Kt.of_below (below_drewN (Below.refl _ _) _) HA'.out.le), .inr ⟨m, HX.out, rfl⟩⟩
      | none =>
        rw [hix] at hlk
        unfold told at hlk
        dsimp only at hlk
        have HX : Hid (idx L g = none) := hix
        have hnext := HS.out i L hlt HI.out hix
        rw [HLi.out] at hnext
        have HNX : Hid _ := hnext
        clear hix hnext
        cases s0 with
        | true =>
          go_wp2
          go_quiet (fail)
          clear hlk e4 e0 e1 e2
          have f3 := e3 nq
          have y1 := z1 nq
          have y2 := z2 nq
          have y3 := z3 nq
          have hbd : Below wr.heap.size wr (wr.drewN nq) := below_drewN (Below.refl _ _) nq
          clear e3 z1 z2 z3 q3
          obtain ⟨wd, hwd⟩ : ∃ W, wr.drewN nq = W := ⟨_, rfl⟩
          rw [hwd] at f3 y1 y2 y3 hbd ⊢
          have HAd : Hid (Arg base wd A mb g L) := HA'.out.below hbd
          have HKd : Hid (Kt base w wd) := HK.out.trans (Kt.of_below hbd HA'.out.le)
          clear hwd hbd
          go_wp2_with (go_at_call 31; refine (useSome_any base A mb g L true s1 s2 _ (Arg.below HAd.out ((Below.refl _ _).alloc (Nat.le_refl _) _)) HSi.out hg (by omega)).mono ?_; rintro e w2 ⟨rfl, hA2, hK2⟩; have HA2 : Hid _ := hA2; have HK2 : Hid (Kt base _ w2) := hK2; clear hA2 hK2)
          go_roundw
          case rel => exact ⟨i + 1, _, by go_num, HNX.out, HA2.out, (HKd.out.trans (Kt.of_below ((Below.refl _ _).alloc (Nat.le_refl _) _) (Arg.le HAd.out))).trans HK2.out⟩
          case measure => simp [intOf]; omega
        | false =>
          go_wp2
          go_quiet (fail)
          clear hlk e4 e0 e1 e2
          have f3 := e3 nq
          have y1 := z1 nq
          have y2 := z2 nq
          have y3 := z3 nq
          have hbd : Below wr.heap.size wr (wr.drewN nq) := below_drewN (Below.refl _ _) nq
          clear e3 z1 z2 z3 q3
          obtain ⟨wd, hwd⟩ : ∃ W, wr.drewN nq = W := ⟨_, rfl⟩
          rw [hwd] at f3 y1 y2 y3 hbd ⊢
          have HAd : Hid (Arg base wd A mb g L) := HA'.out.below hbd
          have HKd : Hid (Kt base w wd) := HK.out.trans (Kt.of_below hbd HA'.out.le)
          clear hwd hbd
          go_wp2_with (go_at_call 32; refine (useAll_any base A mb g L false s1 s2 _ (Arg.below HAd.out ((Below.refl _ _).alloc (Nat.le_refl _) _)) HSi.out hg (by omega)).mono ?_; rintro e w2 ⟨rfl, hA2, hK2⟩; have HA2 : Hid _ := hA2; have HK2 : Hid (Kt base _ w2) := hK2; clear hA2 hK2)
          go_roundw
          case rel => exact ⟨i + 1, _, by go_num, HNX.out, HA2.out, (HKd.out.trans (Kt.of_below ((Below.refl _ _).alloc (Nat.le_refl _) _) (Arg.le HAd.out))).trans HK2.out⟩
          case measure => simp [intOf]; omega
    · obtain ⟨av, cv, hv⟩ : ∃ a c, v = .slice a L.length c := by
        rcases hAt.row.2 with ⟨h1, h2⟩ | ⟨gg, cap, _, h1, _⟩
        · exact ⟨none, 0, by rw [h1, h2]⟩
        · exact ⟨_, _, h1⟩
      subst hv
      have q3 := hAt.cell.2.2.2.1
      clear hAt
      go_wp2
      go_ret2
      exact ⟨i, L, HI.out, HA'.out, HK.out, .inl ⟨Nat.not_lt.1 hlt, rfl⟩⟩
end Go.Proofs.Ytcnanbimpajonaa.Fd
