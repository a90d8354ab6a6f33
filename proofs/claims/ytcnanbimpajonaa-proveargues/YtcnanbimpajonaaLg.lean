/- ProveArgues: at all premises and claims as they lie in memory the law returns true. No conditions. -/
import Derived.Test.YtcnanbimpajonaaLe
import Derived.Test.YtcnanbimpajonaaFw
import Derived.Test.YtcnanbimpajonaaSl
namespace Go.Proofs.Ytcnanbimpajonaa.Lg
open Go.RowKit Cl Co Cp Cf Cs Ce Nu Hd He Ag Kp Nd Au Ri Sn Pm Pn Po Pq Pk Az Ba Lc Lb Le Fl

/-- the claim lies in its box -/
structure Bc (w : World) (c : C) (W : World) : Prop where
  bel : Below w.heap.size w W
  b1 : W.heap[w.heap.size]? = some (.cells #[.bool c.1, .int .i64 c.2.1, .int .i64 c.2.2] 24 (0, 0))
theorem Bc.next {w : World} {c : C} {W W' : World} (h : Bc w c W) (hb : Below W.heap.size W W') : Bc w c W' :=
  ⟨h.bel.trans (hb.mono h.bel.size), (hb.block _ (Array.getElem?_eq_some_iff.1 h.b1).1).trans h.b1⟩
section
variable {w : World} {c0 : Bool} {c1 c2 : Int} {W : World}
theorem Bc.a (h : Bc w (c0, c1, c2) W) : W.cell? ⟨w.heap.size, 0, none⟩ = some (.bool c0) := cell_of_row _ _ 0 _ 24 (0, 0) h.b1
theorem Bc.b (h : Bc w (c0, c1, c2) W) : W.cell? ⟨w.heap.size, 1, none⟩ = some (.int .i64 c1) := cell_of_row _ _ 1 _ 24 (0, 0) h.b1
theorem Bc.c (h : Bc w (c0, c1, c2) W) : W.cell? ⟨w.heap.size, 2, none⟩ = some (.int .i64 c2) := cell_of_row _ _ 2 _ 24 (0, 0) h.b1
end
theorem claims_eq (ps : List C) (c : C) : Cc.claimsP ps [c] = checkAllP ps c := by
  unfold Cc.claimsP checkAllP
  split
  · rfl
  · unfold ckAll ckC
    rw [List.all_append]
    cases ps.all okC <;> cases h : okC c <;> simp [h]
theorem claims7 (ps : List C) (c : C) (vp : Value) (w W : World) (hp : IsC w vp ps) (hW : Below w.heap.size w W) : Calls Try.prog 7 #[vp, .slice (some ⟨W.heap.size, 0, none⟩) 1 1] (W.alloc (.cells #[.bool c.1, .int .i64 c.2.1, .int .i64 c.2.2] 24)) fun e w' => e = .returned (.int .i64 (checkAllP ps c)) ∧ Below W.heap.size W w' := by
  have hb := (Below.refl _ W).alloc (Nat.le_refl _) (.cells #[.bool c.1, .int .i64 c.2.1, .int .i64 c.2.2] 24)
  have := Cc.claims_any vp (.slice (some ⟨W.heap.size, 0, none⟩) 1 1) ps [c] _ (IsC.below hp (hW.trans (hb.mono hW.size))) (isC_at (heapA W _)) (by simp)
  rw [claims_eq] at this
  exact this.mono fun e w' ⟨h1, h2⟩ => ⟨h1, hb.trans (h2.mono hb.size)⟩

set_option maxHeartbeats 8000000 in
set_option maxRecDepth 100000 in
theorem walk_bad (ps : List C) (c : C) (vp : Value) (w : World) (hp : IsC w vp ps) (h : checkAllP ps c ≠ 0) :
    Calls Try.prog 3 #[vp, vc c] w fun e w' => e = .returned (.bool true) ∧ Below w.heap.size w w' := by
  have k5 := fun W (hW : Below w.heap.size w W) => argue_bad ps c vp W (IsC.below hp hW) h
  have k6 := fun W (hW : Below w.heap.size w W) => against_bad ps c vp W (IsC.below hp hW) h
  have k7 := fun W (hW : Below w.heap.size w W) => claims7 ps c vp w W hp hW
  obtain ⟨x, hx⟩ : ∃ x, checkAllP ps c = x := ⟨_, rfl⟩
  rw [hx] at h k5 k6 k7
  have d : (x != 0) = true := by simpa using h
  have d2 : (x == x) = true := by simp
  have d3 : (x != x) = false := by simp
  obtain ⟨_, ap, kp, hv, _, _⟩ := id hp
  subst hv
  obtain ⟨c0, c1, c2⟩ := c
  have H0 : Hid (Bc w (c0, c1, c2) (w.alloc (.cells #[.bool c0, .int .i64 c1, .int .i64 c2] 24))) := ⟨(Below.refl _ w).alloc (Nat.le_refl _) _, heapA _ _⟩
  unfold vc at k5 k6 ⊢
  dsimp only at k5 k6 k7 ⊢
  clear hx h hp
  go_enter Try.func3, Try.ntmps3
  go_wp2_with (first | (go_at_call 5; refine (k5 _ H0.out.bel).mono ?_; rintro e W2 ⟨rfl, hb2⟩; have h2 := H0.out.next hb2; have H2 : Hid (Bc w (c0, c1, c2) W2) := h2; have r2a := h2.a; have r2b := h2.b; have r2c := h2.c; clear h2 hb2 k5) | (go_at_call 6; refine (k6 _ H2.out.bel).mono ?_; rintro e W3 ⟨rfl, hb3⟩; have h3 := H2.out.next hb3; have H3 : Hid (Bc w (c0, c1, c2) W3) := h3; have r3a := h3.a; have r3b := h3.b; have r3c := h3.c; clear h3 hb3 k6) | (go_at_call 7; refine (k7 _ H3.out.bel).mono ?_; rintro e W4 ⟨rfl, hb4⟩; have h4 := H3.out.next hb4; have H4 : Hid (Bc w (c0, c1, c2) W4) := h4; have r4a := h4.a; have r4b := h4.b; have r4c := h4.c; clear h4 hb4 k7) | (go_at_call 8; refine (Pb.begun_true _).mono ?_; rintro e W5 ⟨rfl, hb5⟩; have h5 := H4.out.next hb5; have H5 : Hid (Bc w (c0, c1, c2) W5) := h5; have r5a := h5.a; have r5b := h5.b; have r5c := h5.c; clear h5 hb5))
  go_ret
  exact ⟨rfl, H5.out.bel⟩

set_option maxHeartbeats 8000000 in
set_option maxRecDepth 100000 in
theorem walk_no (ps : List C) (c : C) (vp : Value) (w : World) (hp : IsC w vp ps) (h : checkAllP ps c = 0) (ha : againstB ps c = true) :
    Calls Try.prog 3 #[vp, vc c] w fun e w' => e = .returned (.bool true) ∧ Below w.heap.size w w' := by
  obtain ⟨hl, hps, hc⟩ := check_ok h
  obtain ⟨ha1, ha2⟩ := against_all ha
  have hf : followsP ps c = false := by rw [against_follows] at ha; simpa using ha
  have hw64 : (worldL ps c).length ≤ 64 := by rw [← Ax.upto_end]; exact Ax.upto_le _ _ _
  have k5 : ∀ W (_ : Below w.heap.size w W), Calls Try.prog 5 #[vp, vc c] W fun e w' => e = .returned (.tuple #[.slice none 0 0, .bool false, .int .i64 0]) ∧ Below W.heap.size W w' := fun W hW => (argue_ok ps c vp W (IsC.below hp hW) h).mono fun e w' ⟨ht, hb⟩ => by
    rcases ht with ⟨_, e1⟩ | ⟨h1, _⟩
    · exact ⟨e1, hb⟩
    · rw [ha] at h1; cases h1
  have k6 : ∀ W (_ : Below w.heap.size w W), Calls Try.prog 6 #[vp, vc c] W fun e w' => ∃ a n k, e = .returned (.tuple #[.slice a n k, .bool true, .int .i64 0]) ∧ IsI w' (.slice a n k) (worldL ps c) ∧ Below W.heap.size W w' := fun W hW => (against_ok ps c vp W (IsC.below hp hW) h).mono fun e w' ⟨ht, hb⟩ => by
    rcases ht with ⟨h1, _⟩ | ⟨_, a, n, k, e1, hI⟩
    · rw [ha] at h1; cases h1
    · exact ⟨a, n, k, e1, hI, hb⟩
  have k7 : ∀ W (_ : Below w.heap.size w W), _ := fun W (hW : Below w.heap.size w W) => claims7 ps c vp w W hp hW
  have k9 : ∀ W (_ : Below w.heap.size w W), _ := fun W (hW : Below w.heap.size w W) => Fw.follows_any ps c vp W (IsC.below hp hW) hps hc hl
  have k10 : ∀ W v, IsI W v (worldL ps c) → Calls Try.prog 10 #[v] W fun e w' => e = .returned (.int .i64 0) ∧ w' = W := fun W v hI => by
    have := world_any (worldL ps c) v W hI
    rw [worldE_low] at this
    exact this
  have kp11 : ∀ W v, IsI W v (worldL ps c) → ∀ p ∈ ps, Calls Try.prog 11 #[v, vc p] W fun e w' => e = .returned (.bool true) ∧ Below W.heap.size W w' := fun W v hI p hm => by
    have := ref_holds (worldL ps c) p v W hI (by omega) (Ax.world_low ps c) (hps p hm)
    rw [ha1 p hm] at this
    exact this
  have kc11 : ∀ W v, IsI W v (worldL ps c) → Calls Try.prog 11 #[v, vc c] W fun e w' => e = .returned (.bool false) ∧ Below W.heap.size W w' := fun W v hI => by
    have := ref_holds (worldL ps c) c v W hI (by omega) (Ax.world_low ps c) hc
    rw [ha2] at this
    exact this
  rw [h] at k7
  rw [hf] at k9
  obtain ⟨_, ap, kp, hv, _, hpc⟩ := hp
  subst hv
  have HPC : Hid (ps.length = 0 ∨ ∃ b off, ap = some ⟨b, off, none⟩ ∧ b < w.heap.size ∧ ∀ j u, (ccs ps)[j]? = some u → w.cell? ⟨b, off + j, none⟩ = some u) := hpc
  have KP : Hid _ := kp11
  obtain ⟨c0, c1, c2⟩ := c
  have H0 : Hid (Bc w (c0, c1, c2) (w.alloc (.cells #[.bool c0, .int .i64 c1, .int .i64 c2] 24))) := ⟨(Below.refl _ w).alloc (Nat.le_refl _) _, heapA _ _⟩
  unfold vc at k5 k6 k9 kc11 ⊢
  dsimp only at k5 k6 k7 k9 kc11 ⊢
  clear h ha ha1 ha2 hpc hps hc hf hw64 kp11
  go_enter Try.func3, Try.ntmps3
  go_wp2_with (first | (go_at_call 5; refine (k5 _ H0.out.bel).mono ?_; rintro e W2 ⟨rfl, hb2⟩; have h2 := H0.out.next hb2; have H2 : Hid (Bc w (c0, c1, c2) W2) := h2; have r2a := h2.a; have r2b := h2.b; have r2c := h2.c; clear h2 hb2 k5) | (go_at_call 6; refine (k6 _ H2.out.bel).mono ?_; rintro e W3 ⟨a, n, m, rfl, hI, hb3⟩; have h3 := H2.out.next hb3; have H3 : Hid (Bc w (c0, c1, c2) W3) := h3; have r3a := h3.a; have r3b := h3.b; have r3c := h3.c; have HI3 : Hid (IsI W3 (.slice a n m) (worldL ps (c0, c1, c2))) := hI; clear h3 hb3 k6 hI) | (go_at_call 7; refine (k7 _ H3.out.bel).mono ?_; rintro e W4 ⟨rfl, hb4⟩; have h4 := H3.out.next hb4; have H4 : Hid (Bc w (c0, c1, c2) W4) := h4; have r4a := h4.a; have r4b := h4.b; have r4c := h4.c; have HI4 : Hid (IsI W4 (.slice a n m) (worldL ps (c0, c1, c2))) := He.IsI.below HI3.out hb4; clear h4 hb4 k7) | (go_at_call 8; refine (Pb.begun_true _).mono ?_; rintro e W5 ⟨rfl, hb5⟩; have h5 := H4.out.next hb5; have H5 : Hid (Bc w (c0, c1, c2) W5) := h5; have r5a := h5.a; have r5b := h5.b; have r5c := h5.c; have HI5 : Hid (IsI W5 (.slice a n m) (worldL ps (c0, c1, c2))) := He.IsI.below HI4.out hb5; clear h5 hb5) | (go_at_call 9; refine (k9 _ H5.out.bel).mono ?_; rintro e W6 ⟨rfl, hb6⟩; have h6 := H5.out.next hb6; have H6 : Hid (Bc w (c0, c1, c2) W6) := h6; have r6a := h6.a; have r6b := h6.b; have r6c := h6.c; have HI6 : Hid (IsI W6 (.slice a n m) (worldL ps (c0, c1, c2))) := He.IsI.below HI5.out hb6; clear h6 hb6 k9) | (go_at_call 10; refine (k10 _ _ HI6.out).mono ?_; rintro e w10 ⟨rfl, rfl⟩; clear k10) | (go_at_call 11; refine (kc11 _ _ HI6.out).mono ?_; rintro e W7 ⟨rfl, hb7⟩; have h7 := H6.out.next hb7; have H7 : Hid (Bc w (c0, c1, c2) W7) := h7; have r7a := h7.a; have r7b := h7.b; have r7c := h7.c; have HI7 : Hid (IsI W7 (.slice a n m) (worldL ps (c0, c1, c2))) := He.IsI.below HI6.out hb7; clear h7 hb7 kc11))
  go_loopw [13] (fun iv wr => ∃ k : Nat, iv = .int .i64 (k : Int) ∧ k ≤ ps.length ∧ Bc w (c0, c1, c2) wr ∧ IsI wr (.slice a n m) (worldL ps (c0, c1, c2))) (fun iv _ => ps.length - (intOf iv).toNat)
  case atStart => exact ⟨0, rfl, Nat.zero_le _, H7.out, HI7.out⟩
  case round =>
    obtain ⟨k, rfl, hk, hB, hI⟩ := hrel
    have HB : Hid (Bc w (c0, c1, c2) wr) := hB
    have HI' : Hid (IsI wr (.slice a n m) (worldL ps (c0, c1, c2))) := hI
    clear hB hI
    by_cases hlt : k < ps.length
    · obtain ⟨pb, po, rfl, hpb, hpcs⟩ := HPC.out.resolve_left (by omega)
      have hat := ccs_at ps k hlt
      have con := KP.out wr _ HI'.out ps[k] (List.getElem_mem hlt)
      obtain ⟨⟨p0, p1, p2⟩, hpk⟩ : ∃ p, ps[k] = p := ⟨_, rfl⟩
      rw [hpk] at hat con
      have d0 : wr.cell? ⟨pb, po + k * 3, none⟩ = some (.bool p0) := (HB.out.bel.cell hpb).trans (hpcs _ _ hat.1)
      have d1 : wr.cell? ⟨pb, po + k * 3 + 1, none⟩ = some (.int .i64 p1) := (HB.out.bel.cell hpb).trans (hpcs _ _ hat.2.1)
      have d2 : wr.cell? ⟨pb, po + k * 3 + 2, none⟩ = some (.int .i64 p2) := (HB.out.bel.cell hpb).trans (hpcs _ _ hat.2.2)
      unfold vc at con
      dsimp only at con
      clear hat hpk hpcs
      go_wp2_with (go_at_call 11; refine con.mono ?_; rintro e w5 ⟨rfl, hb5⟩; have HB5 : Hid (Bc w (c0, c1, c2) w5) := HB.out.next hb5; have HI5 : Hid (IsI w5 (.slice a n m) (worldL ps (c0, c1, c2))) := He.IsI.below HI'.out hb5; clear hb5 con)
      go_roundw
      case rel => exact ⟨k + 1, by go_num, hlt, HB5.out, HI5.out⟩
      case measure => simp [intOf]; omega
    · go_wp2
      go_ret
      exact ⟨rfl, HB.out.bel⟩

/-- the lines, in plain words -/
structure Lw (ps : List C) (Z : List (Ln × Value)) : Prop where
  ok : ∀ z ∈ Z, okC z.1.2.1 = true ∧ z.1.2.2.length ≤ 2
  snd : ∀ m (h : m < Z.length), soundL ps ((Z.map Prod.fst).take m) (Z[m]).1 = true
theorem lines_both {ps : List C} {g : C} {w : World} {v : Value} (hl : ps.length ≤ 20) (hps : ∀ p ∈ ps, okC p = true) (h : Lines ps g w v) : ∃ Z N k b off n, v = .slice (some ⟨b, off, none⟩) N k ∧ Ly ps Z N k n ∧ Lx g Z N k b off n w ∧ Lw ps Z := by
  obtain ⟨Z, a, k, rfl, hk, hL, h288, hz, hs, K, z, hZ, hg⟩ := h
  have hn : Z.length = K.length + 1 := by rw [hZ, List.length_append, List.length_singleton]
  obtain ⟨⟨_, a', k', hv', hzb, hlc⟩, _⟩ := id hL
  simp only [Value.slice.injEq, true_and] at hv'
  obtain ⟨rfl, rfl⟩ := hv'
  obtain ⟨b, off, rfl, hb, hc⟩ := hlc.resolve_left (by omega)
  have hat := zcs_at Z K.length (by omega)
  have hzk : Z[K.length]'(by omega) = z := by simp [hZ]
  rw [hzk, hg] at hat
  have hok : (Z.map Prod.fst).all okL = true := List.all_eq_true.2 fun l hl => by
    obtain ⟨y, hy, rfl⟩ := List.mem_map.1 hl
    exact (hz y hy).1
  have e0 : soundE ps (Z.map Prod.fst) = 0 := by
    unfold soundE
    rw [if_neg (by rw [List.length_map]; omega), if_pos (List.all_eq_true.2 hps), if_pos hok]
  refine ⟨Z, Z.length, k, b, off, K.length, rfl, ⟨rfl, hn, hk, h288, e0, ?_⟩, ⟨hL, hb, hc _ _ hat.2.1, hc _ _ hat.2.2.1, hc _ _ hat.2.2.2.1⟩, ⟨hz, hs⟩⟩
  unfold soundR
  rw [e0]
  simp only [decide_true, Bool.true_and]
  refine eachB_iff.2 fun i hi => ?_
  rw [List.length_map] at hi
  have := hs i hi
  rwa [List.getElem_map]
theorem Lx.at {c : C} {Z : List (Ln × Value)} {N k b off n : Nat} {W : World} (h : Lx c Z N k b off n W) (i : Nat) (hi : i < Z.length) : W.cell? ⟨b, off + i * 5 + 1, none⟩ = some (.bool (Z[i]).1.2.1.1) ∧ W.cell? ⟨b, off + i * 5 + 1 + 1, none⟩ = some (.int .i64 (Z[i]).1.2.1.2.1) ∧ W.cell? ⟨b, off + i * 5 + 1 + 2, none⟩ = some (.int .i64 (Z[i]).1.2.1.2.2) := by
  obtain ⟨⟨_, a', k', hv', hzb, hlc⟩, _⟩ := h.isl
  simp only [Value.slice.injEq] at hv'
  obtain ⟨rfl, e, rfl⟩ := hv'
  obtain ⟨b', off', hab, hb, hc⟩ := hlc.resolve_left (by omega)
  simp only [Option.some.injEq, Addr.mk.injEq, and_true] at hab
  obtain ⟨rfl, rfl⟩ := hab
  have hat := zcs_at Z i hi
  exact ⟨hc _ _ hat.2.1, hc _ _ hat.2.2.1, hc _ _ hat.2.2.2.1⟩

set_option maxHeartbeats 8000000 in
set_option maxRecDepth 100000 in
theorem walk_yes (ps : List C) (c : C) (vp : Value) (w : World) (hp : IsC w vp ps) (h : checkAllP ps c = 0) (ha : againstB ps c = false) :
    Calls Try.prog 3 #[vp, vc c] w fun e w' => e = .returned (.bool true) ∧ Below w.heap.size w w' := by
  obtain ⟨hl, hps, hc⟩ := check_ok h
  have hf : followsP ps c = true := by rw [against_follows] at ha; simpa using ha
  have k5 : ∀ W (_ : Below w.heap.size w W), Calls Try.prog 5 #[vp, vc c] W fun e w' => ∃ Z N k b off n, e = .returned (.tuple #[.slice (some ⟨b, off, none⟩) N k, .bool true, .int .i64 0]) ∧ Ly ps Z N k n ∧ Lx c Z N k b off n w' ∧ Lw ps Z ∧ Below W.heap.size W w' := fun W hW => (argue_ok ps c vp W (IsC.below hp hW) h).mono fun e w' ⟨ht, hb⟩ => by
    rcases ht with ⟨h1, _⟩ | ⟨_, hG, v', e1, hl'⟩
    · rw [ha] at h1; cases h1
    · obtain ⟨Z, N, k, b, off, n, rfl, hy, hx, hw⟩ := lines_both hl hps hl'
      exact ⟨Z, N, k, b, off, n, e1, hy, hx, hw, hb⟩
  have k6 : ∀ W (_ : Below w.heap.size w W), Calls Try.prog 6 #[vp, vc c] W fun e w' => e = .returned (.tuple #[.slice none 0 0, .bool false, .int .i64 0]) ∧ Below W.heap.size W w' := fun W hW => (against_ok ps c vp W (IsC.below hp hW) h).mono fun e w' ⟨ht, hb⟩ => by
    rcases ht with ⟨_, e1⟩ | ⟨h1, _⟩
    · exact ⟨e1, hb⟩
    · rw [ha] at h1; cases h1
  have k7 : ∀ W (_ : Below w.heap.size w W), _ := fun W (hW : Below w.heap.size w W) => claims7 ps c vp w W hp hW
  have k9 : ∀ W (_ : Below w.heap.size w W), _ := fun W (hW : Below w.heap.size w W) => Fw.follows_any ps c vp W (IsC.below hp hW) hps hc hl
  have k13 : ∀ W Z N k b off n (i : Nat), Below w.heap.size w W → Ly ps Z N k n → Lx c Z N k b off n W → Lw ps Z → (hi : i < Z.length) → Calls Try.prog 13 #[vp, .slice (some ⟨b, off, none⟩) N k, .int .i64 (i : Int)] W fun e w' => e = .returned (.bool true) ∧ Below W.heap.size W w' := fun W Z N k b off n i hW hy hx hw hi => by
    have := Sl.line_any ps Z i vp (.slice (some ⟨b, off, none⟩) N k) W (IsC.below hp hW) hx.isl hi (fun p hp => sm_ok (hps p hp)) (fun z hz => sm_ok (hw.ok z hz).1) (fun z hz => by have := (hw.ok z hz).2; omega)
    rw [hw.snd i hi] at this
    exact this
  rw [h] at k7
  rw [hf] at k9
  obtain ⟨_, ap, kp, hv, _, _⟩ := hp
  subst hv
  have K13 : Hid _ := k13
  obtain ⟨c0, c1, c2⟩ := c
  have H0 : Hid (Bc w (c0, c1, c2) (w.alloc (.cells #[.bool c0, .int .i64 c1, .int .i64 c2] 24))) := ⟨(Below.refl _ w).alloc (Nat.le_refl _) _, heapA _ _⟩
  unfold vc at k5 k6 k9 ⊢
  dsimp only at k5 k6 k7 k9 ⊢
  clear h ha hps hc hf k13
  go_enter Try.func3, Try.ntmps3
  go_wp2_with (first | (go_at_call 5; refine (k5 _ H0.out.bel).mono ?_; rintro e W2 ⟨Z, N, kk, lb, lo, n, rfl, hy, hx, hw, hb2⟩; have h2 := H0.out.next hb2; have H2 : Hid (Bc w (c0, c1, c2) W2) := h2; have r2a := h2.a; have r2b := h2.b; have r2c := h2.c; have HY : Hid (Ly ps Z N kk n) := hy; have HX2 : Hid (Lx (c0, c1, c2) Z N kk lb lo n W2) := hx; have HW : Hid (Lw ps Z) := hw; clear h2 hb2 k5 hy hx hw) | (go_at_call 6; refine (k6 _ H2.out.bel).mono ?_; rintro e W3 ⟨rfl, hb3⟩; have h3 := H2.out.next hb3; have H3 : Hid (Bc w (c0, c1, c2) W3) := h3; have r3a := h3.a; have r3b := h3.b; have r3c := h3.c; have HX3 : Hid (Lx (c0, c1, c2) Z N kk lb lo n W3) := HX2.out.next hb3; clear h3 hb3 k6) | (go_at_call 7; refine (k7 _ H3.out.bel).mono ?_; rintro e W4 ⟨rfl, hb4⟩; have h4 := H3.out.next hb4; have H4 : Hid (Bc w (c0, c1, c2) W4) := h4; have r4a := h4.a; have r4b := h4.b; have r4c := h4.c; have HX4 : Hid (Lx (c0, c1, c2) Z N kk lb lo n W4) := HX3.out.next hb4; clear h4 hb4 k7) | (go_at_call 8; refine (Pb.begun_true _).mono ?_; rintro e W5 ⟨rfl, hb5⟩; have h5 := H4.out.next hb5; have H5 : Hid (Bc w (c0, c1, c2) W5) := h5; have r5a := h5.a; have r5b := h5.b; have r5c := h5.c; have HX5 : Hid (Lx (c0, c1, c2) Z N kk lb lo n W5) := HX4.out.next hb5; clear h5 hb5) | (go_at_call 9; refine (k9 _ H5.out.bel).mono ?_; rintro e W6 ⟨rfl, hb6⟩; have h6 := H5.out.next hb6; have H6 : Hid (Bc w (c0, c1, c2) W6) := h6; have r6a := h6.a; have r6b := h6.b; have r6c := h6.c; have HX6 : Hid (Lx (c0, c1, c2) Z N kk lb lo n W6) := HX5.out.next hb6; clear h6 hb6 k9))
  have z0 := HX6.out.z0
  have z1 := HX6.out.z1
  have z2 := HX6.out.z2
  have hsuc := HY.out.suc
  have hfew := HY.out.few
  have hnN : (n : Int) < (N : Int) := by omega
  have hn0 : (0 : Int) ≤ (n : Int) := by omega
  have hnN' : n < N := by omega
  have hN0 : ¬ N = 0 := by omega
  have hN1 : decide (N = 0) = false := by simpa using hN0
  have hN2 : ((N : Int) == 0) = false := by simp; omega
  have hN3 : (N == 0) = false := by simpa using hN0
  have hN4 : ¬ (400 : Int) < (N : Int) := by omega
  have hN5 : decide ((400 : Int) < (N : Int)) = false := by simpa using hN4
  have hN6 : decide (400 < N) = false := by simp; omega
  have hq1 : IntKind.i64.wrap ((N : Int) - 1) = (n : Int) := by rw [IntKind.wrap_i64]; omega
  have hq2 : wrap64 ((N : Int) - 1) = (n : Int) := by unfold wrap64; omega
  have hnq := neq_self c0 c1 c2
  dsimp only at z0 z1 z2
  clear hsuc hfew
  go_quiet (fail)
  clear hnq z0 z1 z2 hq1 hq2 hnN hnN' hn0 hN0 hN1 hN2 hN3 hN4 hN5 hN6
  go_wp2
  go_loopw [14] (fun iv wr => ∃ k : Nat, iv = .int .i64 (k : Int) ∧ k ≤ N ∧ Bc w (c0, c1, c2) wr ∧ Lx (c0, c1, c2) Z N kk lb lo n wr) (fun iv _ => N - (intOf iv).toNat)
  case atStart => exact ⟨0, rfl, Nat.zero_le _, H6.out.next (below_drewN (Below.refl _ _) _), HX6.out.next (below_drewN (Below.refl _ _) _)⟩
  case round =>
    obtain ⟨k, rfl, hk, hB, hX⟩ := hrel
    have HB : Hid (Bc w (c0, c1, c2) wr) := hB
    have HX : Hid (Lx (c0, c1, c2) Z N kk lb lo n wr) := hX
    have hN288 := HY.out.few
    clear hB hX
    by_cases hlt : k < N
    · have hkz : k < Z.length := by have := HY.out.len; omega
      have hat := Lx.at HX.out k hkz
      have con13 := fun W hW hX => K13.out W Z N kk lb lo n k hW HY.out hX HW.out hkz
      have con12 := fun W => ref_any (Z[k]).1.2.1 W
      have e0 : ckC (Z[k]).1.2.1 = 0 := by unfold ckC; rw [(HW.out.ok _ (List.getElem_mem hkz)).1]; rfl
      rw [e0] at con12
      obtain ⟨⟨p0, p1, p2⟩, hpk⟩ : ∃ p, (Z[k]).1.2.1 = p := ⟨_, rfl⟩
      rw [hpk] at hat con12
      obtain ⟨d0, d1, d2⟩ := hat
      unfold vc at con12
      dsimp only at d0 d1 d2 con12
      clear hpk e0
      go_wp2_with (first | (go_at_call 12; refine (con12 _).mono ?_; rintro e w5 ⟨rfl, hb5⟩; have HB5 : Hid (Bc w (c0, c1, c2) w5) := HB.out.next hb5; have HX5 : Hid (Lx (c0, c1, c2) Z N kk lb lo n w5) := HX.out.next hb5; clear hb5 con12) | (go_at_call 13; refine (con13 _ HB5.out.bel HX5.out).mono ?_; rintro e w6 ⟨rfl, hb6⟩; have HB6 : Hid (Bc w (c0, c1, c2) w6) := HB5.out.next hb6; have HX6' : Hid (Lx (c0, c1, c2) Z N kk lb lo n w6) := HX5.out.next hb6; clear hb6 con13))
      go_roundw
      case rel => exact ⟨k + 1, by go_num, hlt, HB6.out, HX6'.out⟩
      case measure => simp [intOf]; omega
    · go_wp2
      go_ret
      exact ⟨rfl, HB.out.bel⟩
theorem walk (ps : List C) (c : C) (vp : Value) (w : World) (hp : IsC w vp ps) :
    Calls Try.prog 3 #[vp, vc c] w fun e w' => e = .returned (.bool true) ∧ Below w.heap.size w w' := by
  by_cases h : checkAllP ps c = 0
  · cases ha : againstB ps c with
    | true => exact walk_no ps c vp w hp h ha
    | false => exact walk_yes ps c vp w hp h ha
  · exact walk_bad ps c vp w hp h
end Go.Proofs.Ytcnanbimpajonaa.Lg
