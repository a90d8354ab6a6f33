/- The document's Readings, of a right lexicon. No conditions beyond how the lexicon and the form lie. -/
import Derived.Test.YtkcbgapakpheiaaFnM
import Derived.Test.YtkcbgapakpheiaaFs
import Derived.Test.YtkcbgapakpheiaaSnM
import Derived.Test.YtkcbgapakpheiaaFgM
namespace Go.Proofs.Ytkcbgapakpheiaa.Rg
open Go.RowKit Go.Shelf Sd Md Sc Ap Aq Ls Lx Ly Lz Fo Mk Tk Rd Fp Fq Fg Fm Ch

theorem hits_app (form : List Int) (a b : List (Nat × Nat × List Int)) : hits form (a ++ b) = hits form a ++ hits form b := by
  unfold hits
  rw [List.filter_append, List.map_append]
theorem fit_bool (y : VX) (i j : Nat) (hi : i < y.sts.length) (hj : j < y.ces.length) : (fitX y i j).isSome = ((y.sts[i]).2.cls == (y.ces[j]).2.cls) := by
  unfold fitX
  rw [if_neg (by omega), Int.toNat_natCast, Int.toNat_natCast, List.getElem?_eq_getElem hi, List.getElem?_eq_getElem hj]
  dsimp only
  by_cases e : (y.sts[i]).2.cls = (y.ces[j]).2.cls
  · rw [if_pos e, e]; simp
  · rw [if_neg e]; simp [e]
theorem rd_one (w : World) (i m : Nat) : Row (w.alloc (.cells #[.int .i64 i, .int .i64 m] 40)) (.slice (some ⟨w.heap.size, 0, none⟩) 1 1) 2 1 [.int .i64 i, .int .i64 m] := by
  refine ⟨rfl, some ⟨w.heap.size, 0, none⟩, 1, rfl, Nat.le_refl _, (by omega), (fun h => by cases h), .inr ⟨w.heap.size, 0, rfl, by simp, fun j u hu => ?_⟩⟩
  match j, hu with
  | 0, hu => simp at hu ⊢; exact hu
  | 1, hu => simp at hu ⊢; exact hu
theorem own_keep' {w w' : World} {base e s n : Nat} {v : Value} {xs : List Value} (h : w.ownsRow base e s v n xs) (hb : Below w.heap.size w w') : w'.ownsRow base e s v n xs :=
  h.kept ⟨hb.os, hb.tape, hb.output, hb.size, fun q hq _ => hb.block q hq⟩ (row := none) (by rcases h.2 with ⟨rfl, _⟩ | ⟨g, cap, cur, rfl, _⟩ <;> simp [Value.ownBlock])

set_option maxHeartbeats 4000000 in
set_option maxRecDepth 100000 in
theorem readings_any (y : VX) (v : Value) (form : List Int) (w : World) (h : IsX w y) (hf : IsI w v form) (hck : checkX y.lex = 0) :
    Calls Try.prog 17 #[y.val, v] w fun e w' => ∃ u, e = .returned u ∧ Row w' u 2 (hits form (toldX y)).length ((hits form (toldX y)).flatMap rdc) ∧ Below w.heap.size w w' := by
  have hb1 : ∀ (W : World) (o : Obj), Below W.heap.size W (W.alloc o) := fun W o => (Below.refl _ _).alloc (Nat.le_refl _) _
  have c7 := fun W (hW : Below w.heap.size w W) (i j : Nat) (hi : i < y.sts.length) (hj : j < y.ces.length) => Fs.fits_any y i j W (h.below hW)
  have c8 := fun W (hW : Below w.heap.size w W) (i j : Nat) hi hj => form_any y i j W (h.below hW) hck hi hj
  have hT : (toldX y).length ≤ 800 := Nat.le_trans (toldX_len y) (Nat.mul_le_mul (many_of hck).1 (many_of hck).2)
  have hfb := fit_bool y
  have htl : (hits form (toldX y)).length ≤ 800 := Nat.le_trans (hits_len _ _) hT
  obtain ⟨tl, hdef⟩ : ∃ z, hits form (toldX y) = z := ⟨_, rfl⟩
  rw [hdef] at htl ⊢
  obtain ⟨k, vs, vc, vh, sts, ces, xs⟩ := y
  have hS := h.s
  have hCe := h.c
  dsimp only at hS hCe c7 c8 hfb
  have hdef0 : hits form (stemsX (chs xs) ces 0 sts) = tl := hdef
  obtain ⟨aS, cs, hv, _, hmS⟩ := IsR.len hS
  subst hv
  obtain ⟨aC, cc, hv, _, hmC⟩ := IsR.len hCe
  subst hv
  obtain ⟨av, cv, hv, _, _⟩ := hf.len
  subst hv
  simp only [VX.val] at c7 c8 ⊢
  clear h hck hT hdef hS hCe
  have bx0 := Bx4.new w k (.slice aS sts.length cs) (.slice aC ces.length cc) vh
  obtain ⟨i0, hi0, hz0, hz1, hz2⟩ := info_parts info40
  have HM : Hid (sts.length ≤ 140737488355328 ∧ ces.length ≤ 140737488355328) := ⟨hmS, hmC⟩
  clear hmS hmC
  go_enter Try.func17, Try.ntmps17
  go_wp2
  obtain ⟨W1, hW1⟩ : ∃ W, w.alloc (.cells #[.int .i64 k, .slice aS sts.length cs, .slice aC ces.length cc, vh] 26) = W := ⟨_, rfl⟩
  have B1 : Below w.heap.size w W1 := by rw [← hW1]; exact hb1 _ _
  have s1 : w.heap.size + 1 ≤ W1.heap.size := by rw [← hW1]; simp
  rw [hW1] at bx0 ⊢
  clear hW1
  go_loopw [5, 6] (fun v5 i wr => ∃ (n : Nat) (acc : List (Nat × Nat)), i = .int .i64 n ∧ n ≤ sts.length ∧ wr.ownsRow (w.heap.size + 1) 40 2 v5 acc.length (acc.flatMap rdc) ∧ Below (w.heap.size + 1) W1 wr ∧ Hid (acc ++ hits form (stemsX (chs xs) ces n (sts.drop n)) = tl)) (fun _ i _ => sts.length - (intOf i).toNat)
  case atStart => exact ⟨0, [], rfl, Nat.zero_le _, World.ownsRow_nil _ _ _ _, Below.refl _ _, hdef0⟩
  case round =>
    obtain ⟨n, acc, rfl, hn, hown, hbw, hall⟩ := hrel
    have hmm := HM.out
    have sr := hbw.size
    have q1 : wr.cell? ⟨w.heap.size, 1, none⟩ = some (.slice aS sts.length cs) := (hbw.cell (p := ⟨w.heap.size, 1, none⟩) (by dsimp only; omega)).trans bx0.g1
    by_cases hlt : n < sts.length
    · have hlti : (n : Int) < (sts.length : Int) := by omega
      have hat := stemsX_at (chs xs) ces n sts hlt
      have HALL : Hid (acc ++ hits form (cellsX (chs xs) (sts[n]).2 n 0 (ces.drop 0)) ++ hits form (stemsX (chs xs) ces (n + 1) (sts.drop (n + 1))) = tl) := by
        show _ = _
        rw [← hall.out, hat, hits_app, List.append_assoc]
      clear hall hat hdef0
      go_wp2
      go_loopw [5, 7] (fun v5 i wq => ∃ (m : Nat) (acc : List (Nat × Nat)), i = .int .i64 m ∧ m ≤ ces.length ∧ wq.ownsRow (w.heap.size + 1) 40 2 v5 acc.length (acc.flatMap rdc) ∧ Below (w.heap.size + 1) W1 wq ∧ Hid (acc ++ hits form (cellsX (chs xs) (sts[n]).2 n m (ces.drop m)) ++ hits form (stemsX (chs xs) ces (n + 1) (sts.drop (n + 1))) = tl)) (fun _ i _ => ces.length - (intOf i).toNat)
      case atStart => exact ⟨0, acc, rfl, Nat.zero_le _, hown, hbw, HALL⟩
      case round =>
        clear hown hbw HALL q1 sr acc
        obtain ⟨m, acc, rfl, hm, hown, hbw, hall⟩ := hrel
        have sr := hbw.size
        have xr : Bx4 w.heap.size k (.slice aS sts.length cs) (.slice aC ces.length cc) vh wr := ⟨by omega, (hbw.cell (p := ⟨w.heap.size, 0, none⟩) (by dsimp only; omega)).trans bx0.g0, (hbw.cell (p := ⟨w.heap.size, 1, none⟩) (by dsimp only; omega)).trans bx0.g1, (hbw.cell (p := ⟨w.heap.size, 2, none⟩) (by dsimp only; omega)).trans bx0.g2, (hbw.cell (p := ⟨w.heap.size, 3, none⟩) (by dsimp only; omega)).trans bx0.g3⟩
        have BQ : Below w.heap.size w wr := B1.trans (hbw.mono (by omega))
        have g0 := xr.g0
        have g1 := xr.g1
        have g2 := xr.g2
        have g3 := xr.g3
        by_cases hltm : m < ces.length
        · have hltmi : (m : Int) < (ces.length : Int) := by omega
          have hat := cellsX_at (chs xs) (sts[n]).2 n m ces hltm
          have d7 := c7 wr BQ n m hlt hltm
          rw [hfb n m hlt hltm] at d7
          have hlen : acc.length ≤ 800 := by
            have := congrArg List.length hall.out
            simp only [List.length_append] at this
            omega
          by_cases hcl : (sts[n]).2.cls = (ces[m]).2.cls
          · rw [if_pos hcl] at hat
            rw [show ((sts[n]).2.cls == (ces[m]).2.cls) = true by simpa using hcl] at d7
            have d8 := fun W hW => c8 W hW n m hlt hltm
            obtain ⟨fm, hfm⟩ : ∃ z, formX (chs xs) (sts[n]).2 (ces[m]).2 = z := ⟨_, rfl⟩
            rw [hfm] at hat d8
            have hhit := hits_app form [(n, m, fm)] (cellsX (chs xs) (sts[n]).2 n (m + 1) (ces.drop (m + 1)))
            by_cases he : (fm == form) = true
            · have HN : Hid ((acc ++ [(n, m)]) ++ hits form (cellsX (chs xs) (sts[n]).2 n (m + 1) (ces.drop (m + 1))) ++ hits form (stemsX (chs xs) ces (n + 1) (sts.drop (n + 1))) = tl) := by
                show _ = _
                have := hall.out
                rw [hat, hhit, show hits form [(n, m, fm)] = [(n, m)] by simp [hits, he]] at this
                simpa [List.append_assoc] using this
              clear hall hat hhit hfm hcl hfb c7 c8
              go_wp2_with (first
                | (go_at_call 7; refine d7.mono ?_; rintro e w2 ⟨rfl, hb2⟩; have x2 := xr.below hb2; have p0 := x2.g0; have p1 := x2.g1; have p2 := x2.g2; have p3 := x2.g3; have BQ2 := BQ.trans (hb2.mono BQ.size))
                | (go_at_call 8; refine (d8 _ BQ2).mono ?_; rintro e w3 ⟨v8, rfl, hI8, hb3⟩; have BQ3 := BQ2.trans (hb3.mono BQ2.size))
                | (go_at_call 11; refine (Sn.same_all _ _ fm form _ hI8 (hf.below (Nat.le_refl _) BQ3)).mono ?_; rintro e w4 ⟨he4, q, hq4⟩; rw [he] at he4; subst he4; have hb4 : Below w3.heap.size w3 w4 := (by rw [hq4]; exact below_drewN' (Below.refl _ _) q); clear hq4; have hbr4 := hb2.trans ((hb3.mono hb2.size).trans (hb4.mono (Nat.le_trans hb2.size hb3.size))); have own4 := own_keep' hown hbr4; have s4 := hbr4.size)
                | (at_builtin; refine wpList_app _ rfl (.tmp 34) (.tmp 38) 43 rfl (w.heap.size + 1) 40 i0 (.agg #[.int .i64 0, .int .i64 0]) 2 16 Try.underlying43 hi0 hz0 hz1 hz2 rfl (by decide) _ _ _ rfl (own4.alloc _) _ _ _ rfl (rd_one w4 n m) (by simp [Value.oneCell']) (by unfold maxLen; omega) (by omega) (by simp; omega) ?_; intro v' W3 hown3 hgrow3))
              have hB5 : Below (w.heap.size + 1) wr W3 := ((hbr4.mono (by omega)).trans ((hb1 w4 _).mono (by omega))).trans (below_of_grown hgrow3 (own4.alloc _) (by simp; omega))
              have hc5 : W3.cell? ⟨w.heap.size, 2, none⟩ = some (.slice aC ces.length cc) := (hB5.cell (p := ⟨w.heap.size, 2, none⟩) (by dsimp only; omega)).trans g2
              go_roundw
              case rel => exact ⟨m + 1, acc ++ [(n, m)], by go_num, by omega, by simpa [rdc] using hown3, hbw.trans (hB5.mono (by omega)), HN⟩
              case measure => simp [intOf]; omega
            · have he' : (fm == form) = false := by simpa using he
              have HN : Hid (acc ++ hits form (cellsX (chs xs) (sts[n]).2 n (m + 1) (ces.drop (m + 1))) ++ hits form (stemsX (chs xs) ces (n + 1) (sts.drop (n + 1))) = tl) := by
                show _ = _
                have := hall.out
                rw [hat, hhit, show hits form [(n, m, fm)] = [] by simp [hits, he']] at this
                simpa [List.append_assoc] using this
              clear hall hat hhit hfm hcl hfb c7 c8 he
              go_wp2_with (first
                | (go_at_call 7; refine d7.mono ?_; rintro e w2 ⟨rfl, hb2⟩; have x2 := xr.below hb2; have p0 := x2.g0; have p1 := x2.g1; have p2 := x2.g2; have p3 := x2.g3; have BQ2 := BQ.trans (hb2.mono BQ.size))
                | (go_at_call 8; refine (d8 _ BQ2).mono ?_; rintro e w3 ⟨v8, rfl, hI8, hb3⟩; have BQ3 := BQ2.trans (hb3.mono BQ2.size))
                | (go_at_call 11; refine (Sn.same_all _ _ fm form _ hI8 (hf.below (Nat.le_refl _) BQ3)).mono ?_; rintro e w4 ⟨he4, q, hq4⟩; rw [he'] at he4; subst he4; have hb4 : Below w3.heap.size w3 w4 := (by rw [hq4]; exact below_drewN' (Below.refl _ _) q); clear hq4; have hbr4 := hb2.trans ((hb3.mono hb2.size).trans (hb4.mono (Nat.le_trans hb2.size hb3.size))); have own4 := own_keep' hown hbr4; have s4 := hbr4.size))
              go_roundw
              case rel => exact ⟨m + 1, acc, by go_num, by omega, own4, hbw.trans (hbr4.mono (by omega)), HN⟩
              case measure => simp [intOf]; omega
          · rw [if_neg hcl] at hat
            rw [show ((sts[n]).2.cls == (ces[m]).2.cls) = false by simpa using hcl] at d7
            have HN : Hid (acc ++ hits form (cellsX (chs xs) (sts[n]).2 n (m + 1) (ces.drop (m + 1))) ++ hits form (stemsX (chs xs) ces (n + 1) (sts.drop (n + 1))) = tl) := by
              show _ = _
              have := hall.out
              rw [hat] at this
              simpa using this
            clear hall hat hcl hfb c7 c8
            go_wp2_with (go_at_call 7; refine d7.mono ?_; rintro e w2 ⟨rfl, hb2⟩; have own4 := own_keep' hown hb2; have s4 := hb2.size)
            go_roundw
            case rel => exact ⟨m + 1, acc, by go_num, by omega, own4, hbw.trans (hb2.mono (by omega)), HN⟩
            case measure => simp [intOf]; omega
        · have e : m = ces.length := by omega
          subst e
          have HN : Hid (acc ++ hits form (stemsX (chs xs) ces (n + 1) (sts.drop (n + 1))) = tl) := by
            show _ = _
            have := hall.out
            rw [List.drop_length] at this
            simpa [cellsX, hits] using this
          clear hall hfb c7 c8
          go_wp2
          go_roundw
          case rel => exact ⟨n + 1, acc, by go_num, by omega, hown, hbw, HN⟩
          case measure => simp [intOf]; omega
    · have e : n = sts.length := by omega
      subst e
      have htl2 : acc = tl := by
        have := hall.out
        rw [List.drop_length] at this
        simpa [stemsX, hits] using this
      go_wp2
      go_ret
      exact ⟨_, rfl, by rw [← htl2]; exact row_of_own hown (by rw [htl2]; omega), B1.trans (hbw.mono (by omega))⟩
end Go.Proofs.Ytkcbgapakpheiaa.Rg
