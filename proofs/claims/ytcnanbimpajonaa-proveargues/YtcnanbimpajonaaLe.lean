/- ProveComplete, where no world is against the claim. -/
import Derived.Test.YtcnanbimpajonaaLd
namespace Go.Proofs.Ytcnanbimpajonaa.Le
open Go.RowKit Cl Co Cp Cf Cs Ce Nu Hd He Ag Kp Nd Au Ri Sn Pm Pn Po Pq Pk Az Ba Lc Lb Ld

theorem neq24 (a0 b0 : Bool) (a1 a2 b1 b2 : Int) (w : World) : (binOp .neq 24 (.agg #[.bool a0, .int .i64 a1, .int .i64 a2]) (.agg #[.bool b0, .int .i64 b1, .int .i64 b2])).run Try.prog w = .ok (.bool (!(a0 == b0 && a1 == b1 && a2 == b2))) w := by
  have u3 := Try.underlying3
  have u4 := Try.underlying4
  have hS : Try.prog.underlying 24 = some (.struct (Try.prog.fieldsOf 24)) := by kernel_rfl
  have hp : Try.prog.stoodInHeld 24 = false := by kernel_rfl
  rw [run_neq_struct, show (10000 : Nat) = 9999 + 1 from rfl, run_equalIn_agg w 9999 24 _ _ hS hp]
  simp only [Program.fieldsOf, Try.underlying24]
  go_simp
  by_cases h0 : a0 = b0 <;> by_cases h1 : a1 = b1 <;> by_cases h2 : a2 = b2 <;> simp [h0, h1, h2]
theorem neq_self (a0 : Bool) (a1 a2 : Int) (w : World) : (binOp .neq 24 (.agg #[.bool a0, .int .i64 a1, .int .i64 a2]) (.agg #[.bool a0, .int .i64 a1, .int .i64 a2])).run Try.prog w = .ok (.bool false) w := by
  rw [neq24]
  simp
/-- the lines as they lie; the last one's claim -/
structure Lx (c : C) (Z : List (Ln × Value)) (N k b off n : Nat) (W : World) : Prop where
  isl : IsL W (.slice (some ⟨b, off, none⟩) N k) Z
  lt : b < W.heap.size
  z0 : W.cell? ⟨b, off + n * 5 + 1, none⟩ = some (.bool c.1)
  z1 : W.cell? ⟨b, off + n * 5 + 1 + 1, none⟩ = some (.int .i64 c.2.1)
  z2 : W.cell? ⟨b, off + n * 5 + 1 + 2, none⟩ = some (.int .i64 c.2.2)
theorem Lx.next {c : C} {Z : List (Ln × Value)} {N k b off n : Nat} {W W' : World} (h : Lx c Z N k b off n W) (hb : Below W.heap.size W W') : Lx c Z N k b off n W' :=
  ⟨IsL.below h.isl hb, Nat.lt_of_lt_of_le h.lt hb.size, (hb.cell h.lt).trans h.z0, (hb.cell h.lt).trans h.z1, (hb.cell h.lt).trans h.z2⟩
structure Ly (ps : List C) (Z : List (Ln × Value)) (N k n : Nat) : Prop where
  len : Z.length = N
  suc : N = n + 1
  cap : N ≤ k
  few : N ≤ 288
  e0 : soundE ps (Z.map Prod.fst) = 0
  r1 : soundR ps (Z.map Prod.fst) = true
theorem lines_out {ps : List C} {g : C} {w : World} {v : Value} (hl : ps.length ≤ 20) (hps : ∀ p ∈ ps, okC p = true) (h : Lines ps g w v) : ∃ Z N k b off n, v = .slice (some ⟨b, off, none⟩) N k ∧ Ly ps Z N k n ∧ Lx g Z N k b off n w := by
  obtain ⟨Z, a, k, rfl, hk, hL, h288, hz, hs, K, z, hZ, hg⟩ := h
  have hn : Z.length = K.length + 1 := by rw [hZ, List.length_append, List.length_singleton]
  obtain ⟨⟨_, a', k', hv', hzb, hlc⟩, _⟩ := id hL
  simp only [Value.slice.injEq, true_and] at hv'
  obtain ⟨rfl, rfl⟩ := hv'
  obtain ⟨b, off, rfl, hb, hc⟩ := hlc.resolve_left (by omega)
  have hat := zcs_at Z K.length (by omega)
  have hzk : Z[K.length]'(by omega) = z := by simp [hZ]
  rw [hzk, hg] at hat
  have hok : (Z.map Prod.fst).all okL = true := List.all_eq_true.2 fun l hl => by
    obtain ⟨y, hy, rfl⟩ := List.mem_map.1 hl
    exact (hz y hy).1
  have e0 : soundE ps (Z.map Prod.fst) = 0 := by
    unfold soundE
    rw [if_neg (by rw [List.length_map]; omega), if_pos (List.all_eq_true.2 hps), if_pos hok]
  refine ⟨Z, Z.length, k, b, off, K.length, rfl, ⟨rfl, hn, hk, h288, e0, ?_⟩, hL, hb, hc _ _ hat.2.1, hc _ _ hat.2.2.1, hc _ _ hat.2.2.2.1⟩
  unfold soundR
  rw [e0]
  simp only [decide_true, Bool.true_and]
  refine eachB_iff.2 fun i hi => ?_
  rw [List.length_map] at hi
  have := hs i hi
  rwa [List.getElem_map]
theorem holdsR_of {xs : List Int} {p : C} (h : holdsE xs p = 0) : holdsR xs p = holdsP xs p := by
  unfold holdsR
  rw [h]
  rfl

set_option maxHeartbeats 8000000 in
set_option maxRecDepth 100000 in
theorem walk_yes (ps : List C) (c : C) (xs : List Int) (mo : C) (vp vw : Value) (w : World) (hp : IsC w vp ps) (hw : IsI w vw xs) (h : checkAllP ps c = 0) (ha : againstB ps c = false) :
    Calls Try.prog 4 #[vp, vc c, vw, vc mo] w fun e w' => e = .returned (.bool true) ∧ Below w.heap.size w w' := by
  obtain ⟨hl, hps, hc⟩ := check_ok h
  have k5 : ∀ W (_ : Below w.heap.size w W), Calls Try.prog 5 #[vp, vc c] W fun e w' => ∃ Z N k b off n, e = .returned (.tuple #[.slice (some ⟨b, off, none⟩) N k, .bool true, .int .i64 0]) ∧ Ly ps Z N k n ∧ Lx c Z N k b off n w' ∧ (∃ L, GoodL ps L ∧ In L c) ∧ Below W.heap.size W w' := fun W hW => (argue_ok ps c vp W (IsC.below hp hW) h).mono fun e w' ⟨ht, hb⟩ => by
    rcases ht with ⟨h1, _⟩ | ⟨_, hG, v', e1, hl'⟩
    · rw [ha] at h1; cases h1
    · obtain ⟨Z, N, k, b, off, n, rfl, hy, hx⟩ := lines_out hl hps hl'
      exact ⟨Z, N, k, b, off, n, e1, hy, hx, hG, hb⟩
  have k6 : ∀ W (_ : Below w.heap.size w W), Calls Try.prog 6 #[vp, vc c] W fun e w' => e = .returned (.tuple #[.slice none 0 0, .bool false, .int .i64 0]) ∧ Below W.heap.size W w' := fun W hW => (against_ok ps c vp W (IsC.below hp hW) h).mono fun e w' ⟨ht, hb⟩ => by
    rcases ht with ⟨_, e1⟩ | ⟨h1, _⟩
    · exact ⟨e1, hb⟩
    · rw [ha] at h1; cases h1
  have k14 : ∀ W Z N k b off n, Below w.heap.size w W → Ly ps Z N k n → Lx c Z N k b off n W → Calls Try.prog 14 #[vp, .slice (some ⟨b, off, none⟩) N k] W fun e w' => e = .returned (.tuple #[.bool true, .int .i64 0]) ∧ Below W.heap.size W w' := fun W Z N k b off n hW hy hx => by
    have hL := hx.isl
    have hcap := hy.cap
    rw [← hy.len] at hL hcap ⊢
    have := Sound_any ps Z vp (some ⟨b, off, none⟩) k W (IsC.below hp hW) hL hcap
    rw [hy.e0, hy.r1] at this
    exact this
  have k15 : ∀ W p (_ : Below w.heap.size w W), Calls Try.prog 15 #[vw, vc p] W fun e w' => e = .returned (.tuple #[.bool (holdsR xs p), .int .i64 (holdsE xs p)]) ∧ Below W.heap.size W w' := fun W p hW => Holds_any xs p vw W (He.IsI.below hw hW)
  have kA : (∃ L, GoodL ps L ∧ In L c) → ∃ (b : Bool) (x : Int), (x ≠ 0 ∨ (x = 0 ∧ b = true)) ∧ ∀ W v, IsC W v (ps ++ [mo]) → Calls Try.prog 5 #[v, vc c] W fun e w' => ∃ a n k, e = .returned (.tuple #[.slice a n k, .bool b, .int .i64 x]) ∧ Below W.heap.size W w' := by
    rintro ⟨L, hG, hin⟩
    by_cases hq : checkAllP (ps ++ [mo]) c = 0
    · have hg := again_none (mo := mo) hG hin hps
      exact ⟨true, 0, .inr ⟨rfl, rfl⟩, fun W v hv => (argue_ok _ c v W hv hq).mono fun e w' ⟨ht, hb⟩ => by
          rcases ht with ⟨h1, _⟩ | ⟨_, _, v', e1, hl⟩
          · rw [hg] at h1; cases h1
          · obtain ⟨Z, a, k, hv', _⟩ := hl
            subst hv'
            exact ⟨a, _, k, e1, hb⟩⟩
    · exact ⟨false, _, .inl hq, fun W v hv => (argue_bad _ c v W hv hq).mono fun e w' ⟨e1, hb⟩ => ⟨none, 0, 0, e1, hb⟩⟩
  have HP : Hid (IsC w vp ps) := hp
  obtain ⟨_, ap, kp, hv, hnp, hpc⟩ := hp
  subst hv
  obtain ⟨_, aw, kw, hv, _, _⟩ := id hw
  subst hv
  have HPC : Hid (ps.length = 0 ∨ ∃ b off, ap = some ⟨b, off, none⟩ ∧ b < w.heap.size ∧ ∀ j u, (ccs ps)[j]? = some u → w.cell? ⟨b, off + j, none⟩ = some u) := hpc
  have HPS : Hid (∀ p ∈ ps, okC p = true) := hps
  have K15 : Hid _ := k15
  have KA : Hid ((∃ L, GoodL ps L ∧ In L c) → ∃ (b : Bool) (x : Int), (x ≠ 0 ∨ (x = 0 ∧ b = true)) ∧ ∀ W v, IsC W v (ps ++ [mo]) → Calls Try.prog 5 #[v, vc c] W fun e w' => ∃ a n k, e = .returned (.tuple #[.slice a n k, .bool b, .int .i64 x]) ∧ Below W.heap.size W w') := kA
  obtain ⟨c0, c1, c2⟩ := c
  obtain ⟨m0, m1, m2⟩ := mo
  have t2 := Co.two w (.cells #[.bool c0, .int .i64 c1, .int .i64 c2] 24) (.cells #[.bool m0, .int .i64 m1, .int .i64 m2] 24)
  have H0 : Hid (Bx w (c0, c1, c2) (m0, m1, m2) ((w.alloc (.cells #[.bool c0, .int .i64 c1, .int .i64 c2] 24)).alloc (.cells #[.bool m0, .int .i64 m1, .int .i64 m2] 24))) := ⟨t2.2.2, t2.1, t2.2.1⟩
  unfold vc at k5 k6 ⊢
  dsimp only at k5 k6 ⊢
  have K14 : Hid _ := k14
  clear h ha t2 hpc hw hps hc kA k15 k14
  go_enter Try.func4, Try.ntmps4
  go_wp2_with (first | (go_at_call 8; refine (Pb.begun_true _).mono ?_; rintro e W2 ⟨rfl, hb2⟩; have h2 := H0.out.next hb2; have H2 : Hid (Bx w (c0, c1, c2) (m0, m1, m2) W2) := h2; have r2a := h2.a; have r2b := h2.b; have r2c := h2.c; have s2a := h2.d; have s2b := h2.e; have s2c := h2.f; clear h2 hb2) | (go_at_call 5; refine (k5 _ H2.out.bel).mono ?_; rintro e W3 ⟨Z, N, kk, lb, lo, n, rfl, hy, hx, hg, hb3⟩; have h3 := H2.out.next hb3; have H3 : Hid (Bx w (c0, c1, c2) (m0, m1, m2) W3) := h3; have r3a := h3.a; have r3b := h3.b; have r3c := h3.c; have s3a := h3.d; have s3b := h3.e; have s3c := h3.f; have HY : Hid (Ly ps Z N kk n) := hy; have HX : Hid (Lx (c0, c1, c2) Z N kk lb lo n W3) := hx; have HG : Hid (∃ L, GoodL ps L ∧ In L (c0, c1, c2)) := hg; clear h3 hb3 k5 hy hx hg) | (go_at_call 6; refine (k6 _ H3.out.bel).mono ?_; rintro e W4 ⟨rfl, hb4⟩; have h4 := H3.out.next hb4; have H4 : Hid (Bx w (c0, c1, c2) (m0, m1, m2) W4) := h4; have r4a := h4.a; have r4b := h4.b; have r4c := h4.c; have s4a := h4.d; have s4b := h4.e; have s4c := h4.f; have HX3 : Hid (Lx (c0, c1, c2) Z N kk lb lo n W4) := HX.out.next hb4; clear h4 hb4 k6) | (go_at_call 14; refine (K14.out _ _ _ _ _ _ _ H4.out.bel HY.out HX3.out).mono ?_; rintro e W5 ⟨rfl, hb5⟩; have h5 := H4.out.next hb5; have H5 : Hid (Bx w (c0, c1, c2) (m0, m1, m2) W5) := h5; have r5a := h5.a; have r5b := h5.b; have r5c := h5.c; have s5a := h5.d; have s5b := h5.e; have s5c := h5.f; have HX4 : Hid (Lx (c0, c1, c2) Z N kk lb lo n W5) := HX3.out.next hb5; clear h5 hb5))
  clear r2a r2b r2c s2a s2b s2c r3a r3b r3c s3a s3b s3c r4a r4b r4c s4a s4b s4c
  have z0 := HX4.out.z0
  have z1 := HX4.out.z1
  have z2 := HX4.out.z2
  have hsuc := HY.out.suc
  have hfew := HY.out.few
  have hnN : (n : Int) < (N : Int) := by omega
  have hn0 : (0 : Int) ≤ (n : Int) := by omega
  have hnN' : n < N := by omega
  have hN0 : ¬ N = 0 := by omega
  have hN1 : decide (N = 0) = false := by simpa using hN0
  have hN2 : ((N : Int) == 0) = false := by simp; omega
  have hN3 : (N == 0) = false := by simpa using hN0
  have hq1 : IntKind.i64.wrap ((N : Int) - 1) = (n : Int) := by rw [IntKind.wrap_i64]; omega
  have hq2 : wrap64 ((N : Int) - 1) = (n : Int) := by unfold wrap64; omega
  clear hsuc hfew
  have hnq := neq_self c0 c1 c2
  dsimp only at z0 z1 z2
  go_quiet (fail)
  clear hnq z0 z1 z2 hq1 hq2 hnN hnN' hn0 hN0 hN1 hN2 hN3 r5a r5b r5c s5a s5b s5c
  go_wp2
  go_loopw [18, 19] (fun bv iv wr => ∃ (k : Nat) (b' : Bool), bv = .bool b' ∧ iv = .int .i64 (k : Int) ∧ k ≤ ps.length ∧ (b' = true → ∀ p ∈ ps.take k, holdsP xs p = true) ∧ Bx w (c0, c1, c2) (m0, m1, m2) wr) (fun _ iv _ => ps.length - (intOf iv).toNat)
  case atStart => exact ⟨0, true, rfl, rfl, Nat.zero_le _, fun _ p hp => by simp at hp, by first | exact H5.out | exact Bx.drew H5.out | exact H5.out.next (below_drewN (Below.refl _ _) _)⟩
  case round =>
    obtain ⟨k, b', rfl, rfl, hk, hall, hB⟩ := hrel
    have HB : Hid (Bx w (c0, c1, c2) (m0, m1, m2) wr) := hB
    have HALL : Hid (b' = true → ∀ p ∈ ps.take k, holdsP xs p = true) := hall
    have ra := hB.a
    have rb := hB.b
    have rc := hB.c
    have sa := hB.d
    have sb := hB.e
    have sc := hB.f
    clear hB hall
    by_cases hlt : k < ps.length
    · obtain ⟨pb, po, rfl, hpb, hpcs⟩ := HPC.out.resolve_left (by omega)
      have hat := ccs_at ps k hlt
      have con := K15.out wr ps[k] HB.out.bel
      have hst : ∀ b'' : Bool, (b'' = true → b' = true ∧ holdsP xs ps[k] = true) → b'' = true → ∀ p ∈ ps.take (k + 1), holdsP xs p = true := fun b'' h1 h2 p hp => by
        rw [List.take_succ_eq_append_getElem hlt, List.mem_append, List.mem_singleton] at hp
        rcases hp with hp | rfl
        · exact HALL.out (h1 h2).1 p hp
        · exact (h1 h2).2
      obtain ⟨⟨p0, p1, p2⟩, hpk⟩ : ∃ p, ps[k] = p := ⟨_, rfl⟩
      rw [hpk] at hat con hst
      have d0 : wr.cell? ⟨pb, po + k * 3, none⟩ = some (.bool p0) := (HB.out.bel.cell hpb).trans (hpcs _ _ hat.1)
      have d1 : wr.cell? ⟨pb, po + k * 3 + 1, none⟩ = some (.int .i64 p1) := (HB.out.bel.cell hpb).trans (hpcs _ _ hat.2.1)
      have d2 : wr.cell? ⟨pb, po + k * 3 + 2, none⟩ = some (.int .i64 p2) := (HB.out.bel.cell hpb).trans (hpcs _ _ hat.2.2)
      have HST : Hid _ := hst
      unfold vc at con
      dsimp only at con
      clear hat hpk hpcs hst
      by_cases hE : holdsE xs (p0, p1, p2) = 0
      · rw [hE, holdsR_of hE] at con
        clear hE
        cases hP : holdsP xs (p0, p1, p2) <;> rw [hP] at con <;> cases b'
        all_goals
          have HPP : Hid (holdsP xs (p0, p1, p2) = _) := hP
          clear hP
          go_wp2_with (go_at_call 15; refine con.mono ?_; rintro e w5 ⟨rfl, hb5⟩; have HB5 : Hid (Bx w (c0, c1, c2) (m0, m1, m2) w5) := HB.out.next hb5; clear hb5 con)
          go_roundw
          case rel => exact ⟨k + 1, _, rfl, by go_num, hlt, HST.out _ (fun h => by first | exact ⟨rfl, HPP.out⟩ | exact ⟨trivial, HPP.out⟩ | cases h), HB5.out⟩
          case measure => simp [intOf]; omega
      · obtain ⟨y, hy⟩ : ∃ y, holdsE xs (p0, p1, p2) = y := ⟨_, rfl⟩
        obtain ⟨r, hr⟩ : ∃ r, holdsR xs (p0, p1, p2) = r := ⟨_, rfl⟩
        rw [hy, hr] at con
        rw [hy] at hE
        have dy : (y != 0) = true := by simpa using hE
        clear hy hr hE
        go_wp2_with (go_at_call 15; refine con.mono ?_; rintro e w5 ⟨rfl, hb5⟩; have HB5 : Hid (Bx w (c0, c1, c2) (m0, m1, m2) w5) := HB.out.next hb5; clear hb5 con)
        go_ret
        exact ⟨rfl, HB5.out.bel⟩
    · have ek : k = ps.length := by omega
      subst ek
      have con := K15.out wr (c0, c1, c2) HB.out.bel
      have hcc : b' = true → holdsP xs (c0, c1, c2) = true := fun h => by
        obtain ⟨L, hG, hin⟩ := HG.out
        have hall := HALL.out h
        rw [List.take_length] at hall
        exact good_holds hG HPS.out hall hin
      unfold vc at con
      dsimp only at con
      obtain ⟨b, x, hbx, kA⟩ := KA.out HG.out
      unfold vc at kA
      dsimp only at kA
      have HL1 : Hid (ps.length * 24 ≤ 140737488355328) := by (show ps.length * 24 ≤ 140737488355328; omega)
      have HL2 : Hid ((ps.length + 1) * 24 ≤ 140737488355328) := by (show (ps.length + 1) * 24 ≤ 140737488355328; omega)
      by_cases hE : holdsE xs (c0, c1, c2) = 0
      · rw [hE, holdsR_of hE] at con
        clear hE
        obtain ⟨q, hq⟩ : ∃ q, holdsP xs (c0, c1, c2) = q := ⟨_, rfl⟩
        rw [hq] at con hcc
        have hbq : (b' = true ∧ q = true) ∨ b' = false := by cases b' <;> simp_all
        clear hcc hq
        rcases hbx with hx | ⟨rfl, rfl⟩
        · have dx : (x != 0) = true := by simpa using hx
          clear hx
          rcases hbq with ⟨rfl, rfl⟩ | rfl
          all_goals
            go_wp2_with (go_at_call 15; refine con.mono ?_; rintro e w5 ⟨rfl, hb5⟩; have h5 := HB.out.next hb5; have H5 : Hid (Bx w (c0, c1, c2) (m0, m1, m2) w5) := h5; clear hb5 con h5 ra rb rc sa sb sc)
            go_region_held3 (fun W => W.cell? ⟨w.heap.size, 0, none⟩ = some (.bool c0) ∧ W.cell? ⟨w.heap.size, 1, none⟩ = some (.int .i64 c1) ∧ W.cell? ⟨w.heap.size, 2, none⟩ = some (.int .i64 c2) ∧ W.cell? ⟨w.heap.size + 1, 0, none⟩ = some (.bool m0) ∧ W.cell? ⟨w.heap.size + 1, 1, none⟩ = some (.int .i64 m1) ∧ W.cell? ⟨w.heap.size + 1, 2, none⟩ = some (.int .i64 m2)) (first | exact keepS H9.out | exact keepS H7.out | exact keepS (Bx.alloc H6.out _) | exact keepS H6.out | exact keepS (Bx.drew (Bx.alloc (Bx.alloc H5.out _) _)) | exact keepS (Bx.drew (Bx.alloc H5.out _)) | exact keepS (Bx.drew H5.out)) (first | (refine step1 rfl _ _ rfl H5.out HP.out HL1.out (w5.heap.size) rfl rfl (lit0 w5) (below1 w5 _) ?_; intro v6 w6 ho6 h6 hz6 hk6; have HO6 : Hid (w6.ownsRow w5.heap.size 24 3 v6 ps.length (ccs ps)) := ho6; have H6 : Hid (Bx w (c0, c1, c2) (m0, m1, m2) w6) := h6; have HZ6 : Hid (w5.heap.size ≤ w6.heap.size) := hz6; clear ho6 h6 hz6 hk6) | (refine step1 rfl _ _ rfl H5.out HP.out HL1.out (w5.heap.size) rfl rfl (lit1 w5 _) (below2 w5 _ _) ?_; intro v6 w6 ho6 h6 hz6 hk6; have HO6 : Hid (w6.ownsRow w5.heap.size 24 3 v6 ps.length (ccs ps)) := ho6; have H6 : Hid (Bx w (c0, c1, c2) (m0, m1, m2) w6) := h6; have HZ6 : Hid (w5.heap.size ≤ w6.heap.size) := hz6; have HM6 : Hid (w6.heap[w5.heap.size + 1]? = some (.cells #[.bool m0, .int .i64 m1, .int .i64 m2] 24 (0, 0))) := m6a hk6; clear ho6 h6 hz6 hk6) | (refine step1 rfl _ _ rfl H5.out HP.out HL1.out (w5.heap.size + 1) rfl rfl (lit2 w5 _) (below2 w5 _ _) ?_; intro v6 w6 ho6 h6 hz6 hk6; have HO6 : Hid (w6.ownsRow w5.heap.size 24 3 v6 ps.length (ccs ps)) := ho6; have H6 : Hid (Bx w (c0, c1, c2) (m0, m1, m2) w6) := h6; have HZ6 : Hid (w5.heap.size ≤ w6.heap.size) := hz6; have HM6 : Hid (w6.heap[w5.heap.size]? = some (.cells #[.bool m0, .int .i64 m1, .int .i64 m2] 24 (0, 0))) := m6b hk6; clear ho6 h6 hz6 hk6) | (refine step2 rfl _ _ rfl H5.out (Bx.alloc H6.out _) HL2.out (w6.heap.size) rfl rfl (HO6.out.alloc _) (z_alloc HZ6.out _) (heapA w6 _) ?_; intro v7 w7 hc7 h7; have HC7 : Hid (IsC w7 v7 (ps ++ [(m0, m1, m2)])) := hc7; have H7 : Hid (Bx w (c0, c1, c2) (m0, m1, m2) w7) := h7; clear hc7 h7) | (refine step2 rfl _ _ rfl H5.out (H6.out) HL2.out (w5.heap.size + 1) rfl rfl (HO6.out) (HZ6.out) (HM6.out) ?_; intro v7 w7 hc7 h7; have HC7 : Hid (IsC w7 v7 (ps ++ [(m0, m1, m2)])) := hc7; have H7 : Hid (Bx w (c0, c1, c2) (m0, m1, m2) w7) := h7; clear hc7 h7) | (refine step2 rfl _ _ rfl H5.out (H6.out) HL2.out (w5.heap.size) rfl rfl (HO6.out) (HZ6.out) (HM6.out) ?_; intro v7 w7 hc7 h7; have HC7 : Hid (IsC w7 v7 (ps ++ [(m0, m1, m2)])) := hc7; have H7 : Hid (Bx w (c0, c1, c2) (m0, m1, m2) w7) := h7; clear hc7 h7) | (go_at_call 5; refine (kA _ _ HC7.out).mono ?_; rintro e w9 ⟨a9, n9, k9, rfl, hb9⟩; have H9 : Hid (Bx w (c0, c1, c2) (m0, m1, m2) w9) := H7.out.next hb9; clear hb9))
            all_goals
              go_wp2
              go_ret
              exact ⟨rfl, H9.out.bel⟩
        · rcases hbq with ⟨rfl, rfl⟩ | rfl
          all_goals
            go_wp2_with (go_at_call 15; refine con.mono ?_; rintro e w5 ⟨rfl, hb5⟩; have h5 := HB.out.next hb5; have H5 : Hid (Bx w (c0, c1, c2) (m0, m1, m2) w5) := h5; clear hb5 con h5 ra rb rc sa sb sc)
            go_region_held3 (fun W => W.cell? ⟨w.heap.size, 0, none⟩ = some (.bool c0) ∧ W.cell? ⟨w.heap.size, 1, none⟩ = some (.int .i64 c1) ∧ W.cell? ⟨w.heap.size, 2, none⟩ = some (.int .i64 c2) ∧ W.cell? ⟨w.heap.size + 1, 0, none⟩ = some (.bool m0) ∧ W.cell? ⟨w.heap.size + 1, 1, none⟩ = some (.int .i64 m1) ∧ W.cell? ⟨w.heap.size + 1, 2, none⟩ = some (.int .i64 m2)) (first | exact keepS H9.out | exact keepS H7.out | exact keepS (Bx.alloc H6.out _) | exact keepS H6.out | exact keepS (Bx.drew (Bx.alloc (Bx.alloc H5.out _) _)) | exact keepS (Bx.drew (Bx.alloc H5.out _)) | exact keepS (Bx.drew H5.out)) (first | (refine step1 rfl _ _ rfl H5.out HP.out HL1.out (w5.heap.size) rfl rfl (lit0 w5) (below1 w5 _) ?_; intro v6 w6 ho6 h6 hz6 hk6; have HO6 : Hid (w6.ownsRow w5.heap.size 24 3 v6 ps.length (ccs ps)) := ho6; have H6 : Hid (Bx w (c0, c1, c2) (m0, m1, m2) w6) := h6; have HZ6 : Hid (w5.heap.size ≤ w6.heap.size) := hz6; clear ho6 h6 hz6 hk6) | (refine step1 rfl _ _ rfl H5.out HP.out HL1.out (w5.heap.size) rfl rfl (lit1 w5 _) (below2 w5 _ _) ?_; intro v6 w6 ho6 h6 hz6 hk6; have HO6 : Hid (w6.ownsRow w5.heap.size 24 3 v6 ps.length (ccs ps)) := ho6; have H6 : Hid (Bx w (c0, c1, c2) (m0, m1, m2) w6) := h6; have HZ6 : Hid (w5.heap.size ≤ w6.heap.size) := hz6; have HM6 : Hid (w6.heap[w5.heap.size + 1]? = some (.cells #[.bool m0, .int .i64 m1, .int .i64 m2] 24 (0, 0))) := m6a hk6; clear ho6 h6 hz6 hk6) | (refine step1 rfl _ _ rfl H5.out HP.out HL1.out (w5.heap.size + 1) rfl rfl (lit2 w5 _) (below2 w5 _ _) ?_; intro v6 w6 ho6 h6 hz6 hk6; have HO6 : Hid (w6.ownsRow w5.heap.size 24 3 v6 ps.length (ccs ps)) := ho6; have H6 : Hid (Bx w (c0, c1, c2) (m0, m1, m2) w6) := h6; have HZ6 : Hid (w5.heap.size ≤ w6.heap.size) := hz6; have HM6 : Hid (w6.heap[w5.heap.size]? = some (.cells #[.bool m0, .int .i64 m1, .int .i64 m2] 24 (0, 0))) := m6b hk6; clear ho6 h6 hz6 hk6) | (refine step2 rfl _ _ rfl H5.out (Bx.alloc H6.out _) HL2.out (w6.heap.size) rfl rfl (HO6.out.alloc _) (z_alloc HZ6.out _) (heapA w6 _) ?_; intro v7 w7 hc7 h7; have HC7 : Hid (IsC w7 v7 (ps ++ [(m0, m1, m2)])) := hc7; have H7 : Hid (Bx w (c0, c1, c2) (m0, m1, m2) w7) := h7; clear hc7 h7) | (refine step2 rfl _ _ rfl H5.out (H6.out) HL2.out (w5.heap.size + 1) rfl rfl (HO6.out) (HZ6.out) (HM6.out) ?_; intro v7 w7 hc7 h7; have HC7 : Hid (IsC w7 v7 (ps ++ [(m0, m1, m2)])) := hc7; have H7 : Hid (Bx w (c0, c1, c2) (m0, m1, m2) w7) := h7; clear hc7 h7) | (refine step2 rfl _ _ rfl H5.out (H6.out) HL2.out (w5.heap.size) rfl rfl (HO6.out) (HZ6.out) (HM6.out) ?_; intro v7 w7 hc7 h7; have HC7 : Hid (IsC w7 v7 (ps ++ [(m0, m1, m2)])) := hc7; have H7 : Hid (Bx w (c0, c1, c2) (m0, m1, m2) w7) := h7; clear hc7 h7) | (go_at_call 5; refine (kA _ _ HC7.out).mono ?_; rintro e w9 ⟨a9, n9, k9, rfl, hb9⟩; have H9 : Hid (Bx w (c0, c1, c2) (m0, m1, m2) w9) := H7.out.next hb9; clear hb9))
            all_goals
              go_wp2
              go_ret
              exact ⟨rfl, H9.out.bel⟩
      · obtain ⟨y, hy⟩ : ∃ y, holdsE xs (c0, c1, c2) = y := ⟨_, rfl⟩
        obtain ⟨r, hr⟩ : ∃ r, holdsR xs (c0, c1, c2) = r := ⟨_, rfl⟩
        rw [hy, hr] at con
        rw [hy] at hE
        have dy : (y != 0) = true := by simpa using hE
        clear hy hr hE hcc hbx kA
        go_wp2_with (go_at_call 15; refine con.mono ?_; rintro e w5 ⟨rfl, hb5⟩; have h5 := HB.out.next hb5; have H5 : Hid (Bx w (c0, c1, c2) (m0, m1, m2) w5) := h5; clear hb5 con h5 ra rb rc sa sb sc)
        go_ret
        exact ⟨rfl, H5.out.bel⟩
end Go.Proofs.Ytcnanbimpajonaa.Le
