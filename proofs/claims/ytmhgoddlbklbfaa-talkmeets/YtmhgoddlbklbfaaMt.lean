/- What is looked at: the entries of both, none earlier than it was, each of them said. Condition: the map that keeps them has room. -/
import Derived.Test.YtmhgoddlbklbfaaMs
import Derived.Test.YtmhgoddlbklbfaaZz
import Derived.Deep.CutRange
namespace Go.Proofs.Ytmhgoddlbklbfaa.Ms
open Go.RowKit Ta Tb Ra Lb Mm Mo Zz
variable {w wr W' : World} {N i : Nat} {F : Fm} {es : Nat → List Sl} {LL : Nat → List (List To)} {D : To → Prop} {la : Nat → Nat → To} {ns nl : Nat}

set_option maxHeartbeats 4000000 in
set_option maxRecDepth 100000 in
theorem looks_any (h : Sm w N F es LL D la ns nl wr) (hI : Inv N i es LL D la) (hn : nl + 40 ≤ 1000000) : Calls Try.prog 18 #[.pointer (some ⟨F.P, 0, none⟩), .pointer (some ⟨F.T, 0, none⟩), .pointer (some ⟨F.S, 0, none⟩)] wr fun e w' => e = .returned (.bool true) ∧ ∃ la', Sm w N F es LL D la' ns (nl + 40) w' ∧ Inv N i es LL D la' := by
  have HS : Hid (Sm w N F es LL D la ns nl wr) := h
  have HI : Hid (Inv N i es LL D la) := hI
  clear h hI
  go_enter Try.func18, Try.ntmps18
  go_wp2
  go_loopw [4, 5, 6, 7] (fun iv _ _ _ W => ∃ (j : Nat) (la' : Nat → Nat → To), iv = .int .i64 (j : Int) ∧ j ≤ 2 ∧ Sm w N F es LL D la' ns (nl + 20 * j) W ∧ Inv N i es LL D la') (fun iv _ _ _ _ => 2 - (intOf iv).toNat)
  case atStart => exact ⟨0, _, rfl, by omega, HS.out, HI.out⟩
  case round =>
    clear HS HI
    obtain ⟨j, la', rfl, hj, hs, hi⟩ := hrel
    by_cases hj2 : j < 2
    · have hj2' : (j : Int) < 2 := by omega
      have cp := hs.pb j hj2
      have K16 := tell_any (hs.tk j hj2) hi.few
      have HS : Hid (Sm w N F es LL D la' ns (nl + 20 * j) wr) := hs
      have HI : Hid (Inv N i es LL D la') := hi
      obtain ⟨L, hL⟩ : ∃ L, tellL ((es j).take N) = L := ⟨_, rfl⟩
      have hL20 : L.length ≤ 20 := by
        rw [← hL]
        exact Nat.le_trans (tellL_le _) (by rw [List.length_take, hi.len j hj2]; omega)
      rw [hL] at K16
      have HL : Hid (∀ t, t ∈ L → t ∈ tellL ((es j).take N)) := fun t ht => by rw [hL]; exact ht
      have hml : F.ml < wr.heap.size := hs.ls.lt
      clear hs hi hL
      go_wp2_with (go_at_call 16; (with_reducible refine K16.mono ?_); rintro e w1 ⟨v, rfl, ho, hb⟩; obtain ⟨a, c, rfl, hT, ha⟩ := isT_own ho (by omega); have HT : Hid (IsT w1 a L) := hT; have HA : Hid (Away a F.ml) := (fun p hp => by have := (ha p hp).1; omega); have HS1 : Hid _ := HS.out.below hb)
      go_loopw [6, 7] (fun kv _ W => ∃ (q : Nat) (la2 : Nat → Nat → To), kv = .int .i64 (q : Int) ∧ q ≤ L.length ∧ Sm w N F es LL D la2 ns (nl + 20 * j + q) W ∧ Inv N i es LL D la2 ∧ IsT W a L) (fun kv _ _ => L.length - (intOf kv).toNat)
      case atStart => exact ⟨0, _, rfl, by omega, HS1.out, HI.out, HT.out⟩
      case round =>
        clear HS HS1 HI HT cp
        obtain ⟨q, la2, rfl, hq, hs, hi, hT⟩ := hrel
        by_cases hq2 : q < L.length
        · have hq2' : (q : Int) < (L.length : Int) := by omega
          obtain ⟨g0, off, rfl, hg, c0, c1, c2, c3, c4⟩ := hT.at hq2
          obtain ⟨s, hsN, hsl, hD, hlk, hI2⟩ := hi.look hj2 (HL.out _ (List.getElem_mem hq2))
          have hOK := okT (hi.d _ hD).1 hi.few
          obtain ⟨⟨t0, t1, t2, t3, t4⟩, ht⟩ : ∃ t, L[q] = t := ⟨_, rfl⟩
          rw [ht] at c0 c1 c2 c3 c4 hsl hD hlk hI2 hOK
          dsimp only at c0 c1 c2 c3 c4 hsl
          subst hsl
          have hs20 : s < 20 := by have := hi.few; omega
          obtain ⟨⟨z0, z1, z2, z3, z4⟩, hz⟩ : ∃ z, la2 j s = z := ⟨_, rfl⟩
          rw [hz] at hlk
          have lk := hs.ls.look hj2 hs20
          rw [hz] at lk
          have tb := hs.tb
          have sb := hs.sb
          have HK : Hid (∀ W, Below wr.heap.size wr W → W.cell? ⟨F.T, 0, none⟩ = some (.map (some F.ml)) ∧ W.cell? ⟨g0, off + q * 5, none⟩ = some (.int .i64 (s : Int)) ∧ (Instr.lookup 48 (.map (some F.ml)) (.agg #[.int .i64 (j : Int), .int .i64 (s : Int)]) false).run Try.prog W = .ok (.agg #[.int .i64 z0, .int .i64 z1, .int .i64 z2, .string z3, .bool z4]) W) := fun W hW => ⟨(hs.below hW).tb, (hW.cell (p := ⟨g0, off + q * 5, none⟩) hg).trans c0, by have := (hs.below hW).ls.look hj2 hs20; rw [hz] at this; exact this⟩
          have HS : Hid (Sm w N F es LL D la2 ns (nl + 20 * j + q) wr) := hs
          have HI : Hid (Inv N i es LL D la2) := hi
          have HI2 : Hid (Inv N i es LL D (Lb.upd la2 j (Lb.upd (la2 j) s ⟨(s : Int), t1, t2, t3, t4⟩))) := hI2
          have HT : Hid (IsT wr (some ⟨g0, off, none⟩) L) := hT
          have HD : Hid (D ⟨(s : Int), t1, t2, t3, t4⟩ ∧ OkT ⟨(s : Int), t1, t2, t3, t4⟩) := ⟨hD, hOK⟩
          have HLK : Hid (⟨z0, z1, z2, z3, z4⟩ = (⟨(s : Int), t1, t2, t3, t4⟩ : To) ∨ laterB ⟨(s : Int), t1, t2, t3, t4⟩ ⟨z0, z1, z2, z3, z4⟩ = true) := hlk
          have HLQ : Hid (L[q] = ⟨(s : Int), t1, t2, t3, t4⟩) := ht
          have HQ : Hid (q < L.length) := hq2
          clear hs hi hI2 hT hD hOK hlk tb sb lk hz ht c0 c1 c2 c3 c4
          go_upto_region 8 with fail
          refine region_z (S := fun W => W.cell? ⟨F.T, 0, none⟩ = some (.map (some F.ml)) ∧ W.cell? ⟨g0, off + q * 5, none⟩ = some (.int .i64 (s : Int)) ∧ (Instr.lookup 48 (.map (some F.ml)) (.agg #[.int .i64 (j : Int), .int .i64 (s : Int)]) false).run Try.prog W = .ok (.agg #[.int .i64 z0, .int .i64 z1, .int .i64 z2, .string z3, .bool z4]) W) 10 (by kernel_rfl) (HK.out _ (Below.refl _ _).drew) (fun hHeld => ?_)
          refine take_z (z := 10) (i := 0) (oi := { dst := some 22, op := Op.load 48 (Operand.tmp 1), type := 48, pos := "talk.go:284", after := #[], guard := none }) (v := ?_) (by kernel_rfl) (by decide) rfl (by kernel_rfl) (by kernel_rfl) (by kernel_rfl) (fun _ _ _ h => h) (Or.inl ⟨by rfl, ?_⟩) (by assumption) ?_
          case refine_2 => intro w hSw; (try dsimp only at hSw); obtain ⟨hA, hB, hC⟩ := hSw; go_simp; (try with_reducible rfl)
          simp only [Act.put, List.setIfInBounds_toArray, List.set_cons_zero, List.set_cons_succ]
          refine take_z (z := 10) (i := 1) (oi := { dst := some 23, op := Op.move (Operand.tmp 4), type := 3, pos := "talk.go:284", after := #[], guard := none }) (v := ?_) (by kernel_rfl) (by decide) rfl (by kernel_rfl) (by kernel_rfl) (by kernel_rfl) (fun _ _ _ h => h) (Or.inl ⟨by rfl, ?_⟩) (by assumption) ?_
          case refine_2 => intro w hSw; (try dsimp only at hSw); obtain ⟨hA, hB, hC⟩ := hSw; go_simp; (try with_reducible rfl)
          simp only [Act.put, List.setIfInBounds_toArray, List.set_cons_zero, List.set_cons_succ]
          refine take_z (z := 10) (i := 2) (oi := { dst := some 24, op := Op.move (Operand.tmp 5), type := 36, pos := "talk.go:284", after := #[], guard := none }) (v := ?_) (by kernel_rfl) (by decide) rfl (by kernel_rfl) (by kernel_rfl) (by kernel_rfl) (fun _ _ _ h => h) (Or.inl ⟨by rfl, ?_⟩) (by assumption) ?_
          case refine_2 => intro w hSw; (try dsimp only at hSw); obtain ⟨hA, hB, hC⟩ := hSw; go_simp; (try with_reducible rfl)
          simp only [Act.put, List.setIfInBounds_toArray, List.set_cons_zero, List.set_cons_succ]
          refine take_z (z := 10) (i := 3) (oi := { dst := some 25, op := Op.move (Operand.tmp 6), type := 3, pos := "talk.go:284", after := #[], guard := none }) (v := ?_) (by kernel_rfl) (by decide) rfl (by kernel_rfl) (by kernel_rfl) (by kernel_rfl) (fun _ _ _ h => h) (Or.inl ⟨by rfl, ?_⟩) (by assumption) ?_
          case refine_2 => intro w hSw; (try dsimp only at hSw); obtain ⟨hA, hB, hC⟩ := hSw; go_simp; (try with_reducible rfl)
          simp only [Act.put, List.setIfInBounds_toArray, List.set_cons_zero, List.set_cons_succ]
          refine take_z (z := 10) (i := 4) (oi := { dst := some 26, op := Op.indexAddr 36 (Operand.tmp 24) (Operand.tmp 25), type := 0, pos := "talk.go:284", after := #[{ on := 2, ground := Ground.data }, { on := 3, ground := Ground.data }], guard := none }) (v := ?_) (by kernel_rfl) (by decide) rfl (by kernel_rfl) (by kernel_rfl) (by kernel_rfl) (fun _ _ _ h => h) (Or.inl ⟨by rfl, ?_⟩) (by assumption) ?_
          case refine_2 => intro w hSw; (try dsimp only at hSw); obtain ⟨hA, hB, hC⟩ := hSw; go_simp; (try with_reducible rfl)
          simp only [Act.put, List.setIfInBounds_toArray, List.set_cons_zero, List.set_cons_succ]
          refine take_z (z := 10) (i := 5) (oi := { dst := some 27, op := Op.fieldAddr 44 (Operand.tmp 26) 0, type := 0, pos := "talk.go:284", after := #[{ on := 4, ground := Ground.data }], guard := none }) (v := ?_) (by kernel_rfl) (by decide) rfl (by kernel_rfl) (by kernel_rfl) (by kernel_rfl) (fun _ _ _ h => h) (Or.inl ⟨by rfl, ?_⟩) (by assumption) ?_
          case refine_2 => intro w hSw; (try dsimp only at hSw); obtain ⟨hA, hB, hC⟩ := hSw; go_simp; (try with_reducible rfl)
          simp only [Act.put, List.setIfInBounds_toArray, List.set_cons_zero, List.set_cons_succ]
          refine take_z (z := 10) (i := 6) (oi := { dst := some 28, op := Op.load 3 (Operand.tmp 27), type := 3, pos := "talk.go:284", after := #[{ on := 5, ground := Ground.data }], guard := none }) (v := ?_) (by kernel_rfl) (by decide) rfl (by kernel_rfl) (by kernel_rfl) (by kernel_rfl) (fun _ _ _ h => h) (Or.inl ⟨by rfl, ?_⟩) (by assumption) ?_
          case refine_2 => intro w hSw; (try dsimp only at hSw); obtain ⟨hA, hB, hC⟩ := hSw; go_simp; (try with_reducible rfl)
          simp only [Act.put, List.setIfInBounds_toArray, List.set_cons_zero, List.set_cons_succ]
          refine take_z (z := 10) (i := 7) (oi := { dst := some 29, op := Op.build 49 #[(0, Operand.tmp 23), (1, Operand.tmp 28)], type := 49, pos := "talk.go:284", after := #[{ on := 1, ground := Ground.data }, { on := 6, ground := Ground.data }], guard := none }) (v := ?_) (by kernel_rfl) (by decide) rfl (by kernel_rfl) (by kernel_rfl) (by kernel_rfl) (fun _ _ _ h => h) (Or.inl ⟨by rfl, ?_⟩) (by assumption) ?_
          case refine_2 => intro w hSw; (try dsimp only at hSw); obtain ⟨hA, hB, hC⟩ := hSw; go_simp; (try with_reducible rfl)
          simp only [Act.put, List.setIfInBounds_toArray, List.set_cons_zero, List.set_cons_succ]
          refine take_z (z := 10) (i := 8) (oi := { dst := some 30, op := Op.lookup 48 (Operand.tmp 22) (Operand.tmp 29) false, type := 44, pos := "talk.go:284", after := #[{ on := 0, ground := Ground.data }, { on := 7, ground := Ground.data }], guard := none }) (v := ?_) (by kernel_rfl) (by decide) rfl (by kernel_rfl) (by kernel_rfl) (by kernel_rfl) (fun _ _ _ h => h) (Or.inl ⟨by rfl, ?_⟩) (by assumption) ?_
          case refine_2 => intro w hSw; (try dsimp only at hSw); obtain ⟨hA, hB, hC⟩ := hSw; go_simp; (try with_reducible rfl)
          simp only [Act.put, List.setIfInBounds_toArray, List.set_cons_zero, List.set_cons_succ]
          refine ready_z (rs := [9]) (by kernel_rfl) (by simp) ?_
          refine (AllZ.cons (o := { dst := some 7, op := Op.alloc 44, type := 0, pos := "talk.go:284", after := #[], guard := none }) rfl (fun K hK => ?_) AllZ.nil)
          go_simp
          refine hK.out _ _ ?_ (fun hHeld => ?_)
          · exact HK.out _ (by first | exact ((Below.refl _ wr).alloc (Nat.le_refl _) _).drew | exact (Below.refl _ wr).drew.alloc (Nat.le_refl _) _)
          clear hK K
          try simp only [Act.put, List.setIfInBounds_toArray, List.set_cons_zero, List.set_cons_succ]
          refine ready_z (rs := [10]) (by kernel_rfl) (by simp) ?_
          refine (AllZ.last (o := { dst := none, op := Op.store 44 (Operand.tmp 7) (Operand.tmp 30), type := 0, pos := "talk.go:284", after := #[{ on := 9, ground := Ground.data }, { on := 8, ground := Ground.data }, { on := 0, ground := Ground.phase }, { on := 1, ground := Ground.phase }, { on := 2, ground := Ground.phase }, { on := 3, ground := Ground.phase }, { on := 4, ground := Ground.phase }, { on := 5, ground := Ground.phase }, { on := 6, ground := Ground.phase }, { on := 7, ground := Ground.phase }, { on := 8, ground := Ground.phase }, { on := 9, ground := Ground.phase }], guard := none }) rfl (fun K hK => ?_) AllZ.nil)
          go_simp
          refine hK.out _ _ ?_
          clear hK K
          try simp only [Act.put, List.setIfInBounds_toArray, List.set_cons_zero, List.set_cons_succ]
          refine done_z (by kernel_rfl) ?_ _
          obtain ⟨Wb, hWb⟩ : ∃ Wb, (wr.alloc (.cells #[.int .i64 z0, .int .i64 z1, .int .i64 z2, .string z3, .bool z4] 44)).drew = Wb := ⟨_, rfl⟩
          have hbb : Below wr.heap.size wr Wb := hWb ▸ ((Below.refl _ wr).alloc (Nat.le_refl _) _).drew
          have hbx : Wb.heap[wr.heap.size]? = some (.cells #[.int .i64 z0, .int .i64 z1, .int .i64 z2, .string z3, .bool z4] 44 (0, 0)) := hWb ▸ heap_alloc_new _ _
          have hsz : wr.heap.size < Wb.heap.size := hWb ▸ (by simp)
          rw [hWb]
          obtain ⟨B, hB⟩ : ∃ B, wr.heap.size = B := ⟨_, rfl⟩
          rw [hB] at hbx hsz ⊢
          have HSB : Hid (Sm w N F es LL D la2 ns (nl + 20 * j + q) Wb) := HS.out.below hbb
          have HTB : Hid (IsT Wb (some ⟨g0, off, none⟩) L) := HT.out.below hbb
          clear hWb hHeld hbb hB HS HT
          haveI : Inhabited (After Wb) := ⟨⟨_, Below.refl _ _⟩⟩
          have r := fun p : After Wb => ((p.h.block B hsz).trans hbx)
          have r0 := fun p : After Wb => cell_of_row _ _ 0 _ 44 (0, 0) (r p)
          have r1 := fun p : After Wb => cell_of_row _ _ 1 _ 44 (0, 0) (r p)
          have r2 := fun p : After Wb => cell_of_row _ _ 2 _ 44 (0, 0) (r p)
          have r3 := fun p : After Wb => cell_of_row _ _ 3 _ 44 (0, 0) (r p)
          have r4 := fun p : After Wb => cell_of_row _ _ 4 _ 44 (0, 0) (r p)
          have hrow : ∀ W, IsT W (some ⟨g0, off, none⟩) L → W.cell? ⟨g0, off + q * 5, none⟩ = some (.int .i64 (s : Int)) ∧ W.cell? ⟨g0, off + q * 5 + 1, none⟩ = some (.int .i64 t1) ∧ W.cell? ⟨g0, off + q * 5 + 2, none⟩ = some (.int .i64 t2) ∧ W.cell? ⟨g0, off + q * 5 + 3, none⟩ = some (.string t3) ∧ W.cell? ⟨g0, off + q * 5 + 4, none⟩ = some (.bool t4) := fun W hW => by
            obtain ⟨g1, off1, e1, _, c0, c1, c2, c3, c4⟩ := hW.at HQ.out
            simp only [Option.some.injEq, Addr.mk.injEq, and_true] at e1
            obtain ⟨rfl, rfl⟩ := e1
            rw [HLQ.out] at c0 c1 c2 c3 c4
            exact ⟨c0, c1, c2, c3, c4⟩
          have HROW : Hid (∀ W, IsT W (some ⟨g0, off, none⟩) L → W.cell? ⟨g0, off + q * 5, none⟩ = some (.int .i64 (s : Int)) ∧ W.cell? ⟨g0, off + q * 5 + 1, none⟩ = some (.int .i64 t1) ∧ W.cell? ⟨g0, off + q * 5 + 2, none⟩ = some (.int .i64 t2) ∧ W.cell? ⟨g0, off + q * 5 + 3, none⟩ = some (.string t3) ∧ W.cell? ⟨g0, off + q * 5 + 4, none⟩ = some (.bool t4)) := hrow
          have d0 := fun p : After Wb => (hrow _ (HTB.out.below p.h)).1
          have d1 := fun p : After Wb => (hrow _ (HTB.out.below p.h)).2.1
          have d2 := fun p : After Wb => (hrow _ (HTB.out.below p.h)).2.2.1
          have d3 := fun p : After Wb => (hrow _ (HTB.out.below p.h)).2.2.2.1
          have d4 := fun p : After Wb => (hrow _ (HTB.out.below p.h)).2.2.2.2
          have sb := fun p : After Wb => (HSB.out.below p.h).sb
          have slk : ∀ p : After Wb, (Instr.lookup 47 (.map (some F.ms)) (.agg #[.int .i64 (s : Int), .int .i64 t1, .int .i64 t2, .string t3, .bool t4]) false).run Try.prog p.W = .ok (.bool true) p.W := fun p => (HSB.out.below p.h).sd.look HD.out.2 HD.out.1
          have KL := fun p : After Wb => later_any ⟨(s : Int), t1, t2, t3, t4⟩ ⟨z0, z1, z2, z3, z4⟩ p.W
          unfold vt at KL
          dsimp only at KL
          have HQ44 := neq44
          clear hrow r hbx hsz
          go_upto_region 9 with fail
          go_cut [54] from 16 to 66 (fun s54 wc => s54 = .bool false ∧ Below Wb.heap.size Wb wc)
          case first =>
            obtain ⟨sm, hsm⟩ : ∃ sm, sameB ⟨z0, z1, z2, z3, z4⟩ ⟨(s : Int), t1, t2, t3, t4⟩ = sm := ⟨_, rfl⟩
            cases sm
            · have hlt : laterB ⟨(s : Int), t1, t2, t3, t4⟩ ⟨z0, z1, z2, z3, z4⟩ = true := by
                rcases HLK.out with h | h
                · rw [h, sameB_self] at hsm; cases hsm
                · exact h
              rw [hlt] at KL
              refine wp_region_after (by kernel_rfl) (by kernel_rfl) ?_
              repeat (go_big_quiet_step (first | (go_at_call 19; (with_reducible refine after_of (KL _)))))
              refine wpQuiet_nil ?_
              intro W' hw'
              obtain ⟨⟨w1, hb1⟩, rfl⟩ := hw'
              go_wp2_with fail
              go_meet
              case rel => exact ⟨rfl, hb1⟩
            · refine wp_region_after (by kernel_rfl) (by kernel_rfl) ?_
              repeat (go_big_quiet_step (fail))
              refine wpQuiet_nil ?_
              intro W' hw'
              obtain ⟨⟨w1, hb1⟩, rfl⟩ := hw'
              go_wp2_with fail
              go_meet
              case rel => exact ⟨rfl, hb1⟩
          case rest =>
            obtain ⟨rfl, hbc⟩ := hcut
            clear r0 r1 r2 r3 r4 d0 d1 d2 d3 d4 sb slk KL HQ44
            have HSC : Hid (Sm w N F es LL D la2 ns (nl + 20 * j + q) wc) := HSB.out.below hbc
            have HTC : Hid (IsT wc (some ⟨g0, off, none⟩) L) := HTB.out.below hbc
            clear HSB HTB HK
            go_upto_region 11 with fail
            have hs20 : s < 20 := by have := HI.out.few; omega
            have hmx : nl + 20 * j + q < maxLen := by unfold maxLen; omega
            obtain ⟨W9, hup, hl9, hg9⟩ := (HSC.out.ls.kept (w' := wc.drew) rfl).store hmx hj2 hs20 ⟨(s : Int), t1, t2, t3, t4⟩
            unfold vt at hup
            dsimp only at hup
            have HL9 : Hid _ := hl9
            have hk9 : Ko wc W9 F.ml := (ko_below (Below.refl _ wc).drew).trans (ko_grown hg9)
            have HR := HROW.out _ HTC.out
            obtain ⟨c0, c1, c2, c3, c4⟩ := HR
            have tb := HSC.out.tb
            have HS9 : Hid _ := HSC.out.last hk9 HL9.out
            have HT9 : Hid (IsT W9 (some ⟨g0, off, none⟩) L) := HTC.out.ko hk9 HA.out
            clear hl9 hk9 hg9
            refine region_z (S := fun W => W.cell? ⟨F.T, 0, none⟩ = some (.map (some F.ml)) ∧ W.cell? ⟨g0, off + q * 5, none⟩ = some (.int .i64 (s : Int)) ∧ W.cell? ⟨g0, off + q * 5 + 1, none⟩ = some (.int .i64 t1) ∧ W.cell? ⟨g0, off + q * 5 + 2, none⟩ = some (.int .i64 t2) ∧ W.cell? ⟨g0, off + q * 5 + 3, none⟩ = some (.string t3) ∧ W.cell? ⟨g0, off + q * 5 + 4, none⟩ = some (.bool t4)) 12 (by kernel_rfl) (by exact ⟨tb, c0, c1, c2, c3, c4⟩) (fun hHeld => ?_)
            refine take_z (z := 12) (i := 0) (oi := { dst := some 55, op := Op.load 48 (Operand.tmp 1), type := 48, pos := "talk.go:288", after := #[], guard := none }) (v := ?_) (by kernel_rfl) (by decide) rfl (by kernel_rfl) (by kernel_rfl) (by kernel_rfl) (fun _ _ _ h => h) (Or.inl ⟨by rfl, ?_⟩) (by assumption) ?_
            case refine_2 => intro w hSw; (try dsimp only at hSw); obtain ⟨hA, hB, hC, hD1, hD2, hD3⟩ := hSw; go_simp; (try with_reducible rfl)
            simp only [Act.put, List.setIfInBounds_toArray, List.set_cons_zero, List.set_cons_succ]
            refine take_z (z := 12) (i := 1) (oi := { dst := some 56, op := Op.move (Operand.tmp 4), type := 3, pos := "talk.go:288", after := #[], guard := none }) (v := ?_) (by kernel_rfl) (by decide) rfl (by kernel_rfl) (by kernel_rfl) (by kernel_rfl) (fun _ _ _ h => h) (Or.inl ⟨by rfl, ?_⟩) (by assumption) ?_
            case refine_2 => intro w hSw; (try dsimp only at hSw); obtain ⟨hA, hB, hC, hD1, hD2, hD3⟩ := hSw; go_simp; (try with_reducible rfl)
            simp only [Act.put, List.setIfInBounds_toArray, List.set_cons_zero, List.set_cons_succ]
            refine take_z (z := 12) (i := 2) (oi := { dst := some 57, op := Op.move (Operand.tmp 5), type := 36, pos := "talk.go:288", after := #[], guard := none }) (v := ?_) (by kernel_rfl) (by decide) rfl (by kernel_rfl) (by kernel_rfl) (by kernel_rfl) (fun _ _ _ h => h) (Or.inl ⟨by rfl, ?_⟩) (by assumption) ?_
            case refine_2 => intro w hSw; (try dsimp only at hSw); obtain ⟨hA, hB, hC, hD1, hD2, hD3⟩ := hSw; go_simp; (try with_reducible rfl)
            simp only [Act.put, List.setIfInBounds_toArray, List.set_cons_zero, List.set_cons_succ]
            refine take_z (z := 12) (i := 3) (oi := { dst := some 58, op := Op.move (Operand.tmp 6), type := 3, pos := "talk.go:288", after := #[], guard := none }) (v := ?_) (by kernel_rfl) (by decide) rfl (by kernel_rfl) (by kernel_rfl) (by kernel_rfl) (fun _ _ _ h => h) (Or.inl ⟨by rfl, ?_⟩) (by assumption) ?_
            case refine_2 => intro w hSw; (try dsimp only at hSw); obtain ⟨hA, hB, hC, hD1, hD2, hD3⟩ := hSw; go_simp; (try with_reducible rfl)
            simp only [Act.put, List.setIfInBounds_toArray, List.set_cons_zero, List.set_cons_succ]
            refine take_z (z := 12) (i := 4) (oi := { dst := some 59, op := Op.indexAddr 36 (Operand.tmp 57) (Operand.tmp 58), type := 0, pos := "talk.go:288", after := #[{ on := 2, ground := Ground.data }, { on := 3, ground := Ground.data }], guard := none }) (v := ?_) (by kernel_rfl) (by decide) rfl (by kernel_rfl) (by kernel_rfl) (by kernel_rfl) (fun _ _ _ h => h) (Or.inl ⟨by rfl, ?_⟩) (by assumption) ?_
            case refine_2 => intro w hSw; (try dsimp only at hSw); obtain ⟨hA, hB, hC, hD1, hD2, hD3⟩ := hSw; go_simp; (try with_reducible rfl)
            simp only [Act.put, List.setIfInBounds_toArray, List.set_cons_zero, List.set_cons_succ]
            refine take_z (z := 12) (i := 5) (oi := { dst := some 60, op := Op.fieldAddr 44 (Operand.tmp 59) 0, type := 0, pos := "talk.go:288", after := #[{ on := 4, ground := Ground.data }], guard := none }) (v := ?_) (by kernel_rfl) (by decide) rfl (by kernel_rfl) (by kernel_rfl) (by kernel_rfl) (fun _ _ _ h => h) (Or.inl ⟨by rfl, ?_⟩) (by assumption) ?_
            case refine_2 => intro w hSw; (try dsimp only at hSw); obtain ⟨hA, hB, hC, hD1, hD2, hD3⟩ := hSw; go_simp; (try with_reducible rfl)
            simp only [Act.put, List.setIfInBounds_toArray, List.set_cons_zero, List.set_cons_succ]
            refine take_z (z := 12) (i := 6) (oi := { dst := some 61, op := Op.load 3 (Operand.tmp 60), type := 3, pos := "talk.go:288", after := #[{ on := 5, ground := Ground.data }], guard := none }) (v := ?_) (by kernel_rfl) (by decide) rfl (by kernel_rfl) (by kernel_rfl) (by kernel_rfl) (fun _ _ _ h => h) (Or.inl ⟨by rfl, ?_⟩) (by assumption) ?_
            case refine_2 => intro w hSw; (try dsimp only at hSw); obtain ⟨hA, hB, hC, hD1, hD2, hD3⟩ := hSw; go_simp; (try with_reducible rfl)
            simp only [Act.put, List.setIfInBounds_toArray, List.set_cons_zero, List.set_cons_succ]
            refine take_z (z := 12) (i := 7) (oi := { dst := some 62, op := Op.build 49 #[(0, Operand.tmp 56), (1, Operand.tmp 61)], type := 49, pos := "talk.go:288", after := #[{ on := 1, ground := Ground.data }, { on := 6, ground := Ground.data }], guard := none }) (v := ?_) (by kernel_rfl) (by decide) rfl (by kernel_rfl) (by kernel_rfl) (by kernel_rfl) (fun _ _ _ h => h) (Or.inl ⟨by rfl, ?_⟩) (by assumption) ?_
            case refine_2 => intro w hSw; (try dsimp only at hSw); obtain ⟨hA, hB, hC, hD1, hD2, hD3⟩ := hSw; go_simp; (try with_reducible rfl)
            simp only [Act.put, List.setIfInBounds_toArray, List.set_cons_zero, List.set_cons_succ]
            refine take_z (z := 12) (i := 8) (oi := { dst := some 63, op := Op.move (Operand.tmp 5), type := 36, pos := "talk.go:288", after := #[], guard := none }) (v := ?_) (by kernel_rfl) (by decide) rfl (by kernel_rfl) (by kernel_rfl) (by kernel_rfl) (fun _ _ _ h => h) (Or.inl ⟨by rfl, ?_⟩) (by assumption) ?_
            case refine_2 => intro w hSw; (try dsimp only at hSw); obtain ⟨hA, hB, hC, hD1, hD2, hD3⟩ := hSw; go_simp; (try with_reducible rfl)
            simp only [Act.put, List.setIfInBounds_toArray, List.set_cons_zero, List.set_cons_succ]
            refine take_z (z := 12) (i := 9) (oi := { dst := some 64, op := Op.move (Operand.tmp 6), type := 3, pos := "talk.go:288", after := #[], guard := none }) (v := ?_) (by kernel_rfl) (by decide) rfl (by kernel_rfl) (by kernel_rfl) (by kernel_rfl) (fun _ _ _ h => h) (Or.inl ⟨by rfl, ?_⟩) (by assumption) ?_
            case refine_2 => intro w hSw; (try dsimp only at hSw); obtain ⟨hA, hB, hC, hD1, hD2, hD3⟩ := hSw; go_simp; (try with_reducible rfl)
            simp only [Act.put, List.setIfInBounds_toArray, List.set_cons_zero, List.set_cons_succ]
            refine take_z (z := 12) (i := 10) (oi := { dst := some 65, op := Op.indexAddr 36 (Operand.tmp 63) (Operand.tmp 64), type := 0, pos := "talk.go:288", after := #[{ on := 8, ground := Ground.data }, { on := 9, ground := Ground.data }], guard := none }) (v := ?_) (by kernel_rfl) (by decide) rfl (by kernel_rfl) (by kernel_rfl) (by kernel_rfl) (fun _ _ _ h => h) (Or.inl ⟨by rfl, ?_⟩) (by assumption) ?_
            case refine_2 => intro w hSw; (try dsimp only at hSw); obtain ⟨hA, hB, hC, hD1, hD2, hD3⟩ := hSw; go_simp; (try with_reducible rfl)
            simp only [Act.put, List.setIfInBounds_toArray, List.set_cons_zero, List.set_cons_succ]
            refine take_z (z := 12) (i := 11) (oi := { dst := some 66, op := Op.load 44 (Operand.tmp 65), type := 44, pos := "talk.go:288", after := #[{ on := 10, ground := Ground.data }], guard := none }) (v := ?_) (by kernel_rfl) (by decide) rfl (by kernel_rfl) (by kernel_rfl) (by kernel_rfl) (fun _ _ _ h => h) (Or.inl ⟨by rfl, ?_⟩) (by assumption) ?_
            case refine_2 => intro w hSw; (try dsimp only at hSw); obtain ⟨hA, hB, hC, hD1, hD2, hD3⟩ := hSw; go_simp; (try with_reducible rfl)
            simp only [Act.put, List.setIfInBounds_toArray, List.set_cons_zero, List.set_cons_succ]
            refine ready_z (rs := [12]) (by kernel_rfl) (by simp) ?_
            refine (AllZ.last (o := { dst := none, op := Op.mapUpdate 48 (Operand.tmp 55) (Operand.tmp 62) (Operand.tmp 66), type := 0, pos := "talk.go:288", after := #[{ on := 0, ground := Ground.data }, { on := 7, ground := Ground.data }, { on := 11, ground := Ground.data }, { on := 0, ground := Ground.phase }, { on := 1, ground := Ground.phase }, { on := 2, ground := Ground.phase }, { on := 3, ground := Ground.phase }, { on := 4, ground := Ground.phase }, { on := 5, ground := Ground.phase }, { on := 6, ground := Ground.phase }, { on := 7, ground := Ground.phase }, { on := 8, ground := Ground.phase }, { on := 9, ground := Ground.phase }, { on := 10, ground := Ground.phase }, { on := 11, ground := Ground.phase }], guard := none }) rfl (fun K hK => ?_) AllZ.nil)
            go_simp
            refine hK.out _ _ ?_
            clear hK K
            try simp only [Act.put, List.setIfInBounds_toArray, List.set_cons_zero, List.set_cons_succ]
            refine done_z (by kernel_rfl) ?_ _
            go_wp2_with fail
            go_roundw
            case rel => exact ⟨q + 1, _, by go_num, by omega, HS9.out, HI2.out, HT9.out⟩
            case measure => simp [intOf]; omega
        · have hq2' : ¬ (q : Int) < (L.length : Int) := by omega
          have HS : Hid (Sm w N F es LL D la2 ns (nl + 20 * j + q) wr) := hs
          have HI : Hid (Inv N i es LL D la2) := hi
          clear hs hi hT
          go_wp2
          go_roundw
          case rel => exact ⟨j + 1, la2, by go_num, by omega, HS.out.mono (Nat.le_refl _) (by omega), HI.out⟩
          case measure => simp [intOf]; omega
    · have hj2' : ¬ (j : Int) < 2 := by omega
      have e2 : j = 2 := by omega
      subst e2
      have HS : Hid (Sm w N F es LL D la' ns (nl + 20 * 2) wr) := hs
      have HI : Hid (Inv N i es LL D la') := hi
      clear hs hi
      go_wp2
      go_ret
      exact ⟨rfl, la', HS.out, HI.out⟩
end Go.Proofs.Ytmhgoddlbklbfaa.Ms
