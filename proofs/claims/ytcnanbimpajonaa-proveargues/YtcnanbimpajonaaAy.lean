/- against, walked. Conditions: the claims are of literals; at most 20 premises. -/
import Derived.Test.YtcnanbimpajonaaAx
namespace Go.Proofs.Ytcnanbimpajonaa.Ay
open Go.RowKit Cl Cf Cs Ce Hd He Pq My Mz Ax

/-- what against hands back -/
def Told (ps : List C) (c : C) (e : Ending) (w' : World) : Prop :=
  (againstB ps c = false ∧ e = .returned (.tuple #[.slice none 0 0, .bool false])) ∨ (againstB ps c = true ∧ ∃ v, e = .returned (.tuple #[v, .bool true]) ∧ IsI w' v (worldL ps c))

set_option maxHeartbeats 4000000 in
set_option maxRecDepth 100000 in
theorem against_any (ps : List C) (c : C) (vp : Value) (w : World) (hp : IsC w vp ps) (hps : ∀ p ∈ ps, okC p = true) (hc : okC c = true) (hl : ps.length ≤ 20) :
    Calls Try.prog 20 #[vp, vc c] w fun e w' => Told ps c e w' ∧ Below w.heap.size w w' := by
  have k35 := fun (k : Nat) (hk : k < 64) W (hW : Below w.heap.size w W) => may_any (k : Int) ⟨by omega, by omega⟩ ps c vp W (IsC.below hp hW) hps hc hl
  have k37 := fun (B : Nat) (a : Option Addr) (n k : Nat) W (hW : Below w.heap.size w W) (hb : W.heap[B]? = some (.cells #[.slice a n k] 29 (0, 0))) (hI : IsI W (.slice a n k) (worldL ps c)) => Cg.contains_any 36 #[.pointer (some ⟨B, 0, none⟩)] (failP (worldL ps c)) vp ps W (IsC.below hp hW) (by omega) ⟨enters_of Try.func36 (by kernel_rfl) rfl, fun W' p hW' hm => fails_any (worldL ps c) (world_low ps c) (by rw [← upto_end]; exact upto_le _ _ _) p (hps p hm) B a n k W' ((hW'.block _ (Array.getElem?_eq_some_iff.1 hb).1).trans hb) (He.IsI.below hI hW')⟩
  have k27 := fun (v : Value) W (hI : IsI W v (worldL ps c)) => holds_any (worldL ps c) c v W hI (by rw [← upto_end]; exact upto_le _ _ _) (world_low ps c) hc
  obtain ⟨_, ap, kp, hv, _, _⟩ := hp
  subst hv
  have K35 : Hid (∀ (k : Nat) (hk : k < 64) W (hW : Below w.heap.size w W), Calls Try.prog 35 #[.int .i64 (k : Int), .slice ap ps.length kp, vc c] W fun e w' => e = .returned (.bool (mayB ps c (k : Int))) ∧ Below W.heap.size W w') := k35
  have K37 : Hid _ := k37
  have K27 : Hid (∀ (v : Value) W (hI : IsI W v (worldL ps c)), Calls Try.prog 27 #[v, vc c] W fun e w' => e = .returned (.bool (holdsP (worldL ps c) c)) ∧ Below W.heap.size W w') := k27
  obtain ⟨i0, hi, hz0, hz1, hz2⟩ := info_parts Nu.info3
  have HA : Hid (againstB ps c = (!(ps.any (failP (worldL ps c))) && !holdsP (worldL ps c) c)) := rfl
  have HC : Hid (vc c = .agg #[.bool c.1, .int .i64 c.2.1, .int .i64 c.2.2]) := rfl
  clear k35 k37 k27 hps hc
  have t2 := Co.two w (.cells #[.bool c.1, .int .i64 c.2.1, .int .i64 c.2.2] 24) (.cells #[.slice none 0 0] 29)
  have HK0 : Hid (Kept w c (upto ps c 0) none 0 0 ((w.alloc (.cells #[.bool c.1, .int .i64 c.2.1, .int .i64 c.2.2] 24)).alloc (.cells #[.slice none 0 0] 29))) := ⟨t2.1, t2.2.1, World.ownsRow_nil _ _ _ _, t2.2.2⟩
  clear t2
  rw [HC.out]
  go_enter Try.func20, Try.ntmps20
  go_wp2
  go_loopw [9] (fun iv wr => ∃ (k : Nat) (a : Option Addr) (n m : Nat), iv = .int .i64 (k : Int) ∧ k ≤ 64 ∧ Kept w c (upto ps c k) a n m wr) (fun iv _ => 64 - (intOf iv).toNat)
  case atStart => exact ⟨0, none, 0, 0, rfl, by omega, HK0.out⟩
  case round =>
    obtain ⟨k, a, n, m, rfl, hk, hK⟩ := hrel
    have c0 := cell_of_row _ _ 0 _ 24 (0, 0) hK.cbox
    have c1 := cell_of_row _ _ 1 _ 24 (0, 0) hK.cbox
    have c2 := cell_of_row _ _ 2 _ 24 (0, 0) hK.cbox
    have q0 := cell_of_row _ _ 0 _ 29 (0, 0) hK.box
    dsimp at c0 c1 c2 q0
    have HK : Hid (Kept w c (upto ps c k) a n m wr) := hK
    clear hK HK0
    by_cases hlt : k < 64
    · have con := K35.out k hlt wr HK.out.bel
      rw [HC.out] at con
      have hun := upto_next ps c k hlt
      have hle := upto_le ps c k
      cases hm : mayB ps c (k : Int) with
      | false =>
        rw [hm] at con hun
        have HU : Hid _ := hun
        clear hm hun
        go_wp2_with (go_at_call 35; refine con.mono ?_; rintro e w2 ⟨rfl, hb2⟩; have HK2 : Hid (Kept w c (upto ps c k) a n m w2) := HK.out.below hb2; clear hb2 con)
        go_roundw
        case rel =>
          refine ⟨k + 1, a, n, m, by go_num, hlt, ?_⟩
          have e := HU.out
          simp at e
          rw [e]
          exact HK2.out
        case measure => simp [intOf]; omega
      | true =>
        rw [hm] at con hun
        have HU : Hid _ := hun
        clear hm hun
        go_wp2_with (first | (go_at_call 35; refine con.mono ?_; rintro e w2 ⟨rfl, hb2⟩; have hk2 := HK.out.below hb2; have p0 := cell_of_row _ _ 0 _ 29 (0, 0) hk2.box; dsimp at p0; have hsz2 : w.heap.size + 1 < w2.heap.size := (Array.getElem?_eq_some_iff.1 hk2.box).1; have HK2 : Hid (Kept w c (upto ps c k) a n m w2) := hk2; clear hb2 con hk2) | (refine wpList_append_own_at _ rfl _ _ 29 rfl (w.heap.size + 2) 3 i0 (.int .i64 0) 1 8 Try.underlying29 hi hz0 hz1 hz2 rfl (by decide) _ _ _ rfl (HK2.out.row.alloc _) ⟨_, 0, none⟩ 1 1 (nv [(k : Int)]) rfl rfl (nv_at _ _) (nv_one _) (by unfold maxLen; omega) (by omega) (by simp; omega) ?_; intro v1 w1 ho1 hg1 _ _; obtain ⟨g1, m1, hv1⟩ : ∃ g m, v1 = .slice (some ⟨g, 0, none⟩) ((upto ps c k).length + 1) m := (ho1.2.resolve_left (fun h => by have := h.2; omega)).elim fun g h => h.elim fun m h => h.elim fun _ h => ⟨g, m, h.1⟩; subst hv1; have hap := HK2.out.app ho1 hg1; have p1 := cell_of_row _ _ 0 _ 29 (0, 0) hap.1; have p2 := frozen_of_row _ _ 0 _ 29 hap.1; dsimp at p1; have HAP : Hid _ := hap.2; clear hap ho1 hg1))
        go_roundw
        case rel =>
          refine ⟨k + 1, some ⟨g1, 0, none⟩, (upto ps c k).length + 1, m1, by go_num, hlt, ?_⟩
          have e := HU.out
          simp at e
          rw [e]
          exact HAP.out
        case measure => simp [intOf]; omega
    · have ek : k = 64 := by omega
      subst ek
      have hK := HK.out
      rw [upto_end] at hK
      obtain ⟨hI, _⟩ := own_isI hK.row (by rw [← upto_end]; have := upto_le ps c 64; omega)
      have con37 := K37.out (w.heap.size + 1) a n m wr hK.bel hK.box hI
      have HI : Hid (IsI wr (.slice a n m) (worldL ps c)) := hI
      have HB : Hid (Below w.heap.size w wr) := hK.bel
      have HX : Hid (wr.heap[w.heap.size]? = some (.cells #[.bool c.1, .int .i64 c.2.1, .int .i64 c.2.2] 24 (0, 0)) ∧ wr.heap[w.heap.size + 1]? = some (.cells #[.slice a n m] 29 (0, 0))) := ⟨hK.cbox, hK.box⟩
      clear hI hK HK K35 K37
      cases hf : ps.any (failP (worldL ps c)) with
      | true =>
        rw [hf] at con37
        have ha : againstB ps c = false := by rw [HA.out, hf]; rfl
        have HF : Hid _ := ha
        clear hf ha
        go_wp2_with (go_at_call 37; refine con37.mono ?_; rintro e w2 ⟨rfl, hb2⟩; have HB2 : Hid (Below w.heap.size w w2) := HB.out.trans (hb2.mono HB.out.size); clear hb2 con37)
        go_ret2
        exact ⟨.inl ⟨HF.out, rfl⟩, HB2.out⟩
      | false =>
        rw [hf] at con37
        have k27 := fun W hI => K27.out (.slice a n m) W hI
        rw [HC.out] at k27
        cases hh : holdsP (worldL ps c) c with
        | true =>
          rw [hh] at k27
          have ha : againstB ps c = false := by rw [HA.out, hf, hh]; rfl
          have HF : Hid _ := ha
          clear hf ha hh K27
          go_wp2_with (first | (go_at_call 37; refine con37.mono ?_; rintro e w2 ⟨rfl, hb2⟩; have HB2 : Hid (Below w.heap.size w w2) := HB.out.trans (hb2.mono HB.out.size); have g1 := (hb2.block _ (Array.getElem?_eq_some_iff.1 HX.out.1).1).trans HX.out.1; have g2 := (hb2.block _ (Array.getElem?_eq_some_iff.1 HX.out.2).1).trans HX.out.2; have r0 := cell_of_row _ _ 0 _ 24 (0, 0) g1; have r1 := cell_of_row _ _ 1 _ 24 (0, 0) g1; have r2 := cell_of_row _ _ 2 _ 24 (0, 0) g1; have r3 := cell_of_row _ _ 0 _ 29 (0, 0) g2; dsimp at r0 r1 r2 r3; have HI2 : Hid (IsI w2 (.slice a n m) (worldL ps c)) := He.IsI.below HI.out hb2; clear hb2 con37 g1 g2) | (go_at_call 27; refine (k27 _ HI2.out).mono ?_; rintro e w3 ⟨rfl, hb3⟩; have HB3 : Hid (Below w.heap.size w w3) := HB2.out.trans (hb3.mono HB2.out.size); clear hb3 k27))
          go_ret2
          exact ⟨.inl ⟨HF.out, rfl⟩, HB3.out⟩
        | false =>
          rw [hh] at k27
          have ha : againstB ps c = true := by rw [HA.out, hf, hh]; rfl
          have HF : Hid _ := ha
          clear hf ha hh K27
          go_wp2_with (first | (go_at_call 37; refine con37.mono ?_; rintro e w2 ⟨rfl, hb2⟩; have HB2 : Hid (Below w.heap.size w w2) := HB.out.trans (hb2.mono HB.out.size); have g1 := (hb2.block _ (Array.getElem?_eq_some_iff.1 HX.out.1).1).trans HX.out.1; have g2 := (hb2.block _ (Array.getElem?_eq_some_iff.1 HX.out.2).1).trans HX.out.2; have HG2 : Hid _ := g2; have r0 := cell_of_row _ _ 0 _ 24 (0, 0) g1; have r1 := cell_of_row _ _ 1 _ 24 (0, 0) g1; have r2 := cell_of_row _ _ 2 _ 24 (0, 0) g1; have r3 := cell_of_row _ _ 0 _ 29 (0, 0) g2; dsimp at r0 r1 r2 r3; have HI2 : Hid (IsI w2 (.slice a n m) (worldL ps c)) := He.IsI.below HI.out hb2; clear hb2 con37 g1 g2) | (go_at_call 27; refine (k27 _ HI2.out).mono ?_; rintro e w3 ⟨rfl, hb3⟩; have HB3 : Hid (Below w.heap.size w w3) := HB2.out.trans (hb3.mono HB2.out.size); have r4 := cell_of_row _ _ 0 _ 29 (0, 0) ((hb3.block _ (Array.getElem?_eq_some_iff.1 HG2.out).1).trans HG2.out); dsimp at r4; have HI3 : Hid (IsI w3 (.slice a n m) (worldL ps c)) := He.IsI.below HI2.out hb3; clear hb3 k27))
          go_ret2
          exact ⟨.inr ⟨HF.out, _, rfl, HI3.out⟩, HB3.out⟩
end Go.Proofs.Ytcnanbimpajonaa.Ay
