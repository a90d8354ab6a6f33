/- ProveComplete, where a world is against the claim. -/
import Derived.Test.YtcnanbimpajonaaLb
namespace Go.Proofs.Ytcnanbimpajonaa.Ld
open Go.RowKit Cl Cf Cs Ce Nu Hd He Ag Kp Nd Au Ri Sn Pm Pn Po Pq Pk Az Ba Lc Lb

theorem z_alloc {a : Nat} {W : World} (h : a ≤ W.heap.size) (o : Obj) : a ≤ (W.alloc o).heap.size := by simp; omega
theorem m6a {w5 w6 : World} {o o' : Obj} (hk : ∀ k, k < ((w5.alloc o).alloc o').drew.heap.size → k ≠ w5.heap.size → w6.heap[k]? = ((w5.alloc o).alloc o').drew.heap[k]?) : w6.heap[w5.heap.size + 1]? = some o' :=
  (hk _ (by show _ < ((w5.alloc o).alloc o').heap.size; simp) (by omega)).trans (heapB w5 o o')
theorem m6b {w5 w6 : World} {o o' : Obj} (hk : ∀ k, k < ((w5.alloc o).alloc o').drew.heap.size → k ≠ w5.heap.size + 1 → w6.heap[k]? = ((w5.alloc o).alloc o').drew.heap[k]?) : w6.heap[w5.heap.size]? = some o :=
  (hk _ (by show _ < ((w5.alloc o).alloc o').heap.size; simp; omega) (by omega)).trans (heapC w5 o o')

set_option maxHeartbeats 8000000 in
set_option maxRecDepth 100000 in
theorem walk_no (ps : List C) (c : C) (xs : List Int) (mo : C) (vp vw : Value) (w : World) (hp : IsC w vp ps) (hw : IsI w vw xs) (h : checkAllP ps c = 0) (ha : againstB ps c = true) :
    Calls Try.prog 4 #[vp, vc c, vw, vc mo] w fun e w' => e = .returned (.bool true) ∧ Below w.heap.size w w' := by
  obtain ⟨hl, hps, hc⟩ := check_ok h
  obtain ⟨ha1, ha2⟩ := against_all ha
  have k5 : ∀ W (_ : Below w.heap.size w W), Calls Try.prog 5 #[vp, vc c] W fun e w' => e = .returned (.tuple #[.slice none 0 0, .bool false, .int .i64 0]) ∧ Below W.heap.size W w' := fun W hW => (argue_ok ps c vp W (IsC.below hp hW) h).mono fun e w' ⟨ht, hb⟩ => by
    rcases ht with ⟨_, e1⟩ | ⟨h1, _⟩
    · exact ⟨e1, hb⟩
    · rw [ha] at h1; cases h1
  have k6 : ∀ W (_ : Below w.heap.size w W), Calls Try.prog 6 #[vp, vc c] W fun e w' => ∃ a n k, e = .returned (.tuple #[.slice a n k, .bool true, .int .i64 0]) ∧ IsI w' (.slice a n k) (worldL ps c) ∧ Below W.heap.size W w' := fun W hW => (against_ok ps c vp W (IsC.below hp hW) h).mono fun e w' ⟨ht, hb⟩ => by
    rcases ht with ⟨h1, _⟩ | ⟨_, a, n, k, e1, hI⟩
    · rw [ha] at h1; cases h1
    · exact ⟨a, n, k, e1, hI, hb⟩
  have kp15 : ∀ W v, IsI W v (worldL ps c) → ∀ p ∈ ps, Calls Try.prog 15 #[v, vc p] W fun e w' => e = .returned (.tuple #[.bool true, .int .i64 0]) ∧ Below W.heap.size W w' := fun W v hI p hm => by
    have := Holds_any (worldL ps c) p v W hI
    rw [(holds_ok worldE_low (hps p hm)).1, (holds_ok worldE_low (hps p hm)).2, ha1 p hm] at this
    exact this
  have kc15 : ∀ W v, IsI W v (worldL ps c) → Calls Try.prog 15 #[v, vc c] W fun e w' => e = .returned (.tuple #[.bool false, .int .i64 0]) ∧ Below W.heap.size W w' := fun W v hI => by
    have := Holds_any (worldL ps c) c v W hI
    rw [(holds_ok worldE_low hc).1, (holds_ok worldE_low hc).2, ha2] at this
    exact this
  have kA : ∃ (b : Bool) (x : Int), ∀ W v, IsC W v (ps ++ [mo]) → Calls Try.prog 5 #[v, vc c] W fun e w' => ∃ a n k, e = .returned (.tuple #[.slice a n k, .bool b, .int .i64 x]) ∧ Below W.heap.size W w' := by
    by_cases hq : checkAllP (ps ++ [mo]) c = 0
    · cases hg : againstB (ps ++ [mo]) c with
      | true => exact ⟨false, 0, fun W v hv => (argue_ok _ c v W hv hq).mono fun e w' ⟨ht, hb⟩ => by
          rcases ht with ⟨_, e1⟩ | ⟨h1, _⟩
          · exact ⟨none, 0, 0, e1, hb⟩
          · rw [hg] at h1; cases h1⟩
      | false => exact ⟨true, 0, fun W v hv => (argue_ok _ c v W hv hq).mono fun e w' ⟨ht, hb⟩ => by
          rcases ht with ⟨h1, _⟩ | ⟨_, _, v', e1, hl⟩
          · rw [hg] at h1; cases h1
          · obtain ⟨Z, a, k, hv', _⟩ := hl
            subst hv'
            exact ⟨a, _, k, e1, hb⟩⟩
    · exact ⟨false, _, fun W v hv => (argue_bad _ c v W hv hq).mono fun e w' ⟨e1, hb⟩ => ⟨none, 0, 0, e1, hb⟩⟩
  obtain ⟨b, x, kA⟩ := kA
  have HP : Hid (IsC w vp ps) := hp
  obtain ⟨_, ap, kp, hv, hnp, hpc⟩ := hp
  subst hv
  obtain ⟨_, aw, kw, hv, _, _⟩ := id hw
  subst hv
  have HPC : Hid (ps.length = 0 ∨ ∃ b off, ap = some ⟨b, off, none⟩ ∧ b < w.heap.size ∧ ∀ j u, (ccs ps)[j]? = some u → w.cell? ⟨b, off + j, none⟩ = some u) := hpc
  have KP : Hid _ := kp15
  have KC : Hid _ := kc15
  have KA : Hid (∀ W v, IsC W v (ps ++ [mo]) → Calls Try.prog 5 #[v, vc c] W fun e w' => ∃ a n k, e = .returned (.tuple #[.slice a n k, .bool b, .int .i64 x]) ∧ Below W.heap.size W w') := kA
  obtain ⟨c0, c1, c2⟩ := c
  obtain ⟨m0, m1, m2⟩ := mo
  have t2 := Co.two w (.cells #[.bool c0, .int .i64 c1, .int .i64 c2] 24) (.cells #[.bool m0, .int .i64 m1, .int .i64 m2] 24)
  have H0 : Hid (Bx w (c0, c1, c2) (m0, m1, m2) ((w.alloc (.cells #[.bool c0, .int .i64 c1, .int .i64 c2] 24)).alloc (.cells #[.bool m0, .int .i64 m1, .int .i64 m2] 24))) := ⟨t2.2.2, t2.1, t2.2.1⟩
  unfold vc at k5 k6 ⊢
  dsimp only at k5 k6 ⊢
  clear h ha ha1 ha2 t2 hpc hw hps hc kA kp15 kc15
  go_enter Try.func4, Try.ntmps4
  go_wp2_with (first | (go_at_call 8; refine (Pb.begun_true _).mono ?_; rintro e W2 ⟨rfl, hb2⟩; have h2 := H0.out.next hb2; have H2 : Hid (Bx w (c0, c1, c2) (m0, m1, m2) W2) := h2; have r2a := h2.a; have r2b := h2.b; have r2c := h2.c; have s2a := h2.d; have s2b := h2.e; have s2c := h2.f; clear h2 hb2) | (go_at_call 5; refine (k5 _ H2.out.bel).mono ?_; rintro e W3 ⟨rfl, hb3⟩; have h3 := H2.out.next hb3; have H3 : Hid (Bx w (c0, c1, c2) (m0, m1, m2) W3) := h3; have r3a := h3.a; have r3b := h3.b; have r3c := h3.c; have s3a := h3.d; have s3b := h3.e; have s3c := h3.f; clear h3 hb3 k5) | (go_at_call 6; refine (k6 _ H3.out.bel).mono ?_; rintro e W4 ⟨a, n, m, rfl, hI, hb4⟩; have h4 := H3.out.next hb4; have H4 : Hid (Bx w (c0, c1, c2) (m0, m1, m2) W4) := h4; have r4a := h4.a; have r4b := h4.b; have r4c := h4.c; have s4a := h4.d; have s4b := h4.e; have s4c := h4.f; have HI : Hid (IsI W4 (.slice a n m) (worldL ps (c0, c1, c2))) := hI; clear h4 hb4 hI k6))
  clear r2a r2b r2c s2a s2b s2c r3a r3b r3c s3a s3b s3c r4a r4b r4c s4a s4b s4c
  go_loopw [18, 19] (fun bv iv wr => ∃ k : Nat, bv = .bool true ∧ iv = .int .i64 (k : Int) ∧ k ≤ ps.length ∧ Bx w (c0, c1, c2) (m0, m1, m2) wr ∧ IsI wr (.slice a n m) (worldL ps (c0, c1, c2))) (fun _ iv _ => ps.length - (intOf iv).toNat)
  case atStart => exact ⟨0, rfl, rfl, Nat.zero_le _, H4.out, HI.out⟩
  case round =>
    obtain ⟨k, rfl, rfl, hk, hB, hI⟩ := hrel
    have HB : Hid (Bx w (c0, c1, c2) (m0, m1, m2) wr) := hB
    have HI' : Hid (IsI wr (.slice a n m) (worldL ps (c0, c1, c2))) := hI
    have ra := hB.a
    have rb := hB.b
    have rc := hB.c
    have sa := hB.d
    have sb := hB.e
    have sc := hB.f
    clear hB hI
    by_cases hlt : k < ps.length
    · obtain ⟨pb, po, rfl, hpb, hpcs⟩ := HPC.out.resolve_left (by omega)
      have hat := ccs_at ps k hlt
      have con := KP.out wr _ HI'.out ps[k] (List.getElem_mem hlt)
      obtain ⟨⟨p0, p1, p2⟩, hpk⟩ : ∃ p, ps[k] = p := ⟨_, rfl⟩
      rw [hpk] at hat con
      have d0 : wr.cell? ⟨pb, po + k * 3, none⟩ = some (.bool p0) := (HB.out.bel.cell hpb).trans (hpcs _ _ hat.1)
      have d1 : wr.cell? ⟨pb, po + k * 3 + 1, none⟩ = some (.int .i64 p1) := (HB.out.bel.cell hpb).trans (hpcs _ _ hat.2.1)
      have d2 : wr.cell? ⟨pb, po + k * 3 + 2, none⟩ = some (.int .i64 p2) := (HB.out.bel.cell hpb).trans (hpcs _ _ hat.2.2)
      unfold vc at con
      dsimp only at con
      clear hat hpk hpcs
      go_wp2_with (go_at_call 15; refine con.mono ?_; rintro e w5 ⟨rfl, hb5⟩; have HB5 : Hid (Bx w (c0, c1, c2) (m0, m1, m2) w5) := HB.out.next hb5; have HI5 : Hid (IsI w5 (.slice a n m) (worldL ps (c0, c1, c2))) := He.IsI.below HI'.out hb5; clear hb5 con)
      go_roundw
      case rel => exact ⟨k + 1, rfl, by go_num, hlt, HB5.out, HI5.out⟩
      case measure => simp [intOf]; omega
    · have con := KC.out wr _ HI'.out
      unfold vc at con
      dsimp only at con
      have kA := fun W v hI => KA.out W v hI
      unfold vc at kA
      dsimp only at kA
      have HL1 : Hid (ps.length * 24 ≤ 140737488355328) := by (show ps.length * 24 ≤ 140737488355328; omega)
      have HL2 : Hid ((ps.length + 1) * 24 ≤ 140737488355328) := by (show (ps.length + 1) * 24 ≤ 140737488355328; omega)
      by_cases hx : x = 0
      · subst hx
        cases b
        all_goals
          go_wp2_with (go_at_call 15; refine con.mono ?_; rintro e w5 ⟨rfl, hb5⟩; have h5 := HB.out.next hb5; have H5 : Hid (Bx w (c0, c1, c2) (m0, m1, m2) w5) := h5; clear hb5 con h5 ra rb rc sa sb sc)
          go_region_held3 (fun W => W.cell? ⟨w.heap.size, 0, none⟩ = some (.bool c0) ∧ W.cell? ⟨w.heap.size, 1, none⟩ = some (.int .i64 c1) ∧ W.cell? ⟨w.heap.size, 2, none⟩ = some (.int .i64 c2) ∧ W.cell? ⟨w.heap.size + 1, 0, none⟩ = some (.bool m0) ∧ W.cell? ⟨w.heap.size + 1, 1, none⟩ = some (.int .i64 m1) ∧ W.cell? ⟨w.heap.size + 1, 2, none⟩ = some (.int .i64 m2)) (first | exact keepS H9.out | exact keepS H7.out | exact keepS (Bx.alloc H6.out _) | exact keepS H6.out | exact keepS (Bx.drew (Bx.alloc (Bx.alloc H5.out _) _)) | exact keepS (Bx.drew (Bx.alloc H5.out _)) | exact keepS (Bx.drew H5.out)) (first | (refine step1 rfl _ _ rfl H5.out HP.out HL1.out (w5.heap.size) rfl rfl (lit0 w5) (below1 w5 _) ?_; intro v6 w6 ho6 h6 hz6 hk6; have HO6 : Hid (w6.ownsRow w5.heap.size 24 3 v6 ps.length (ccs ps)) := ho6; have H6 : Hid (Bx w (c0, c1, c2) (m0, m1, m2) w6) := h6; have HZ6 : Hid (w5.heap.size ≤ w6.heap.size) := hz6; clear ho6 h6 hz6 hk6) | (refine step1 rfl _ _ rfl H5.out HP.out HL1.out (w5.heap.size) rfl rfl (lit1 w5 _) (below2 w5 _ _) ?_; intro v6 w6 ho6 h6 hz6 hk6; have HO6 : Hid (w6.ownsRow w5.heap.size 24 3 v6 ps.length (ccs ps)) := ho6; have H6 : Hid (Bx w (c0, c1, c2) (m0, m1, m2) w6) := h6; have HZ6 : Hid (w5.heap.size ≤ w6.heap.size) := hz6; have HM6 : Hid (w6.heap[w5.heap.size + 1]? = some (.cells #[.bool m0, .int .i64 m1, .int .i64 m2] 24 (0, 0))) := m6a hk6; clear ho6 h6 hz6 hk6) | (refine step1 rfl _ _ rfl H5.out HP.out HL1.out (w5.heap.size + 1) rfl rfl (lit2 w5 _) (below2 w5 _ _) ?_; intro v6 w6 ho6 h6 hz6 hk6; have HO6 : Hid (w6.ownsRow w5.heap.size 24 3 v6 ps.length (ccs ps)) := ho6; have H6 : Hid (Bx w (c0, c1, c2) (m0, m1, m2) w6) := h6; have HZ6 : Hid (w5.heap.size ≤ w6.heap.size) := hz6; have HM6 : Hid (w6.heap[w5.heap.size]? = some (.cells #[.bool m0, .int .i64 m1, .int .i64 m2] 24 (0, 0))) := m6b hk6; clear ho6 h6 hz6 hk6) | (refine step2 rfl _ _ rfl H5.out (Bx.alloc H6.out _) HL2.out (w6.heap.size) rfl rfl (HO6.out.alloc _) (z_alloc HZ6.out _) (heapA w6 _) ?_; intro v7 w7 hc7 h7; have HC7 : Hid (IsC w7 v7 (ps ++ [(m0, m1, m2)])) := hc7; have H7 : Hid (Bx w (c0, c1, c2) (m0, m1, m2) w7) := h7; clear hc7 h7) | (refine step2 rfl _ _ rfl H5.out (H6.out) HL2.out (w5.heap.size + 1) rfl rfl (HO6.out) (HZ6.out) (HM6.out) ?_; intro v7 w7 hc7 h7; have HC7 : Hid (IsC w7 v7 (ps ++ [(m0, m1, m2)])) := hc7; have H7 : Hid (Bx w (c0, c1, c2) (m0, m1, m2) w7) := h7; clear hc7 h7) | (refine step2 rfl _ _ rfl H5.out (H6.out) HL2.out (w5.heap.size) rfl rfl (HO6.out) (HZ6.out) (HM6.out) ?_; intro v7 w7 hc7 h7; have HC7 : Hid (IsC w7 v7 (ps ++ [(m0, m1, m2)])) := hc7; have H7 : Hid (Bx w (c0, c1, c2) (m0, m1, m2) w7) := h7; clear hc7 h7) | (go_at_call 5; refine (kA _ _ HC7.out).mono ?_; rintro e w9 ⟨a9, n9, k9, rfl, hb9⟩; have H9 : Hid (Bx w (c0, c1, c2) (m0, m1, m2) w9) := H7.out.next hb9; clear hb9))
          all_goals
            go_wp2
            go_ret
            exact ⟨rfl, H9.out.bel⟩
      · have dx : (x != 0) = true := by simpa using hx
        go_wp2_with (go_at_call 15; refine con.mono ?_; rintro e w5 ⟨rfl, hb5⟩; have h5 := HB.out.next hb5; have H5 : Hid (Bx w (c0, c1, c2) (m0, m1, m2) w5) := h5; clear hb5 con h5 ra rb rc sa sb sc)
        go_region_held3 (fun W => W.cell? ⟨w.heap.size, 0, none⟩ = some (.bool c0) ∧ W.cell? ⟨w.heap.size, 1, none⟩ = some (.int .i64 c1) ∧ W.cell? ⟨w.heap.size, 2, none⟩ = some (.int .i64 c2) ∧ W.cell? ⟨w.heap.size + 1, 0, none⟩ = some (.bool m0) ∧ W.cell? ⟨w.heap.size + 1, 1, none⟩ = some (.int .i64 m1) ∧ W.cell? ⟨w.heap.size + 1, 2, none⟩ = some (.int .i64 m2)) (first | exact keepS H9.out | exact keepS H7.out | exact keepS (Bx.alloc H6.out _) | exact keepS H6.out | exact keepS (Bx.drew (Bx.alloc (Bx.alloc H5.out _) _)) | exact keepS (Bx.drew (Bx.alloc H5.out _)) | exact keepS (Bx.drew H5.out)) (first | (refine step1 rfl _ _ rfl H5.out HP.out HL1.out (w5.heap.size) rfl rfl (lit0 w5) (below1 w5 _) ?_; intro v6 w6 ho6 h6 hz6 hk6; have HO6 : Hid (w6.ownsRow w5.heap.size 24 3 v6 ps.length (ccs ps)) := ho6; have H6 : Hid (Bx w (c0, c1, c2) (m0, m1, m2) w6) := h6; have HZ6 : Hid (w5.heap.size ≤ w6.heap.size) := hz6; clear ho6 h6 hz6 hk6) | (refine step1 rfl _ _ rfl H5.out HP.out HL1.out (w5.heap.size) rfl rfl (lit1 w5 _) (below2 w5 _ _) ?_; intro v6 w6 ho6 h6 hz6 hk6; have HO6 : Hid (w6.ownsRow w5.heap.size 24 3 v6 ps.length (ccs ps)) := ho6; have H6 : Hid (Bx w (c0, c1, c2) (m0, m1, m2) w6) := h6; have HZ6 : Hid (w5.heap.size ≤ w6.heap.size) := hz6; have HM6 : Hid (w6.heap[w5.heap.size + 1]? = some (.cells #[.bool m0, .int .i64 m1, .int .i64 m2] 24 (0, 0))) := m6a hk6; clear ho6 h6 hz6 hk6) | (refine step1 rfl _ _ rfl H5.out HP.out HL1.out (w5.heap.size + 1) rfl rfl (lit2 w5 _) (below2 w5 _ _) ?_; intro v6 w6 ho6 h6 hz6 hk6; have HO6 : Hid (w6.ownsRow w5.heap.size 24 3 v6 ps.length (ccs ps)) := ho6; have H6 : Hid (Bx w (c0, c1, c2) (m0, m1, m2) w6) := h6; have HZ6 : Hid (w5.heap.size ≤ w6.heap.size) := hz6; have HM6 : Hid (w6.heap[w5.heap.size]? = some (.cells #[.bool m0, .int .i64 m1, .int .i64 m2] 24 (0, 0))) := m6b hk6; clear ho6 h6 hz6 hk6) | (refine step2 rfl _ _ rfl H5.out (Bx.alloc H6.out _) HL2.out (w6.heap.size) rfl rfl (HO6.out.alloc _) (z_alloc HZ6.out _) (heapA w6 _) ?_; intro v7 w7 hc7 h7; have HC7 : Hid (IsC w7 v7 (ps ++ [(m0, m1, m2)])) := hc7; have H7 : Hid (Bx w (c0, c1, c2) (m0, m1, m2) w7) := h7; clear hc7 h7) | (refine step2 rfl _ _ rfl H5.out (H6.out) HL2.out (w5.heap.size + 1) rfl rfl (HO6.out) (HZ6.out) (HM6.out) ?_; intro v7 w7 hc7 h7; have HC7 : Hid (IsC w7 v7 (ps ++ [(m0, m1, m2)])) := hc7; have H7 : Hid (Bx w (c0, c1, c2) (m0, m1, m2) w7) := h7; clear hc7 h7) | (refine step2 rfl _ _ rfl H5.out (H6.out) HL2.out (w5.heap.size) rfl rfl (HO6.out) (HZ6.out) (HM6.out) ?_; intro v7 w7 hc7 h7; have HC7 : Hid (IsC w7 v7 (ps ++ [(m0, m1, m2)])) := hc7; have H7 : Hid (Bx w (c0, c1, c2) (m0, m1, m2) w7) := h7; clear hc7 h7) | (go_at_call 5; refine (kA _ _ HC7.out).mono ?_; rintro e w9 ⟨a9, n9, k9, rfl, hb9⟩; have H9 : Hid (Bx w (c0, c1, c2) (m0, m1, m2) w9) := H7.out.next hb9; clear hb9))
        all_goals
          go_wp2
          go_ret
          exact ⟨rfl, H9.out.bel⟩
end Go.Proofs.Ytcnanbimpajonaa.Ld
