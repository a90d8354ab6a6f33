/- The program's edits, from the last one on. Conditions: as for the last one. -/
import Derived.Test.YtiiheaopamjijaaRv
import Derived.Deep.CutRange
import Derived.Deep.DeepCutAuto
namespace Go.Proofs.Ytiiheaopamjijaa.Bk
open Go.RowKit Rw Ay Fi Nx Ap Ro La Lb Lc Ld Le Lf Lp Lg Rv

theorem info34 : (Try.prog.info? 34).map (fun i => (i.zero, i.size, i.bytes)) = some (some (.agg #[.int .i64 0, .string ByteArray.empty]), 2, 24) := by kernel_rfl
/-- the edits, from the last one on -/
def backs (us l : List ByteArray) : Nat → Nat → Nat → List (Int × ByteArray)
  | 0, _, _ => []
  | n + 1, i, j => if i = 0 ∧ j = 0 then [] else lastE us l i j :: backs us l n (if (lastE us l i j).1 = 4 then i else i - 1) (if (lastE us l i j).1 = 3 then j else j - 1)
theorem last_kind (us l : List ByteArray) (i j : Nat) (h : 0 < i + j) : ((lastE us l i j).1 = 4 ∨ 0 < i) ∧ ((lastE us l i j).1 = 3 ∨ 0 < j) ∧ 1 ≤ (lastE us l i j).1 ∧ (lastE us l i j).1 ≤ 4 := by
  match i, j with
  | 0, 0 => omega
  | 0, j + 1 => simp [lastE]
  | i + 1, 0 => simp [lastE]
  | i + 1, j + 1 =>
    simp only [lastE]
    repeat' split
    all_goals simp

theorem backs_fuel (us l : List ByteArray) : ∀ (n m i j : Nat), i + j ≤ n → i + j ≤ m → backs us l n i j = backs us l m i j
  | 0, m, i, j, hn, hm => by
    obtain ⟨rfl, rfl⟩ : i = 0 ∧ j = 0 := by omega
    cases m with
    | zero => rfl
    | succ m => simp [backs]
  | n + 1, 0, i, j, hn, hm => by
    obtain ⟨rfl, rfl⟩ : i = 0 ∧ j = 0 := by omega
    simp [backs]
  | n + 1, m + 1, i, j, hn, hm => by
    simp only [backs]
    by_cases h : i = 0 ∧ j = 0
    · rw [if_pos h, if_pos h]
    · rw [if_neg h, if_neg h]
      have hk := last_kind us l i j (by omega)
      congr 1
      apply backs_fuel us l n m
      · split <;> split <;> omega
      · split <;> split <;> omega
theorem backs_step (us l : List ByteArray) (i j : Nat) (h : 0 < i + j) : backs us l (i + j) i j = lastE us l i j :: backs us l ((if (lastE us l i j).1 = 4 then i else i - 1) + (if (lastE us l i j).1 = 3 then j else j - 1)) (if (lastE us l i j).1 = 4 then i else i - 1) (if (lastE us l i j).1 = 3 then j else j - 1) := by
  obtain ⟨n, hn⟩ : ∃ n, i + j = n + 1 := ⟨i + j - 1, by omega⟩
  have hk := last_kind us l i j h
  rw [hn]
  simp only [backs]
  rw [if_neg (by omega)]
  congr 1
  apply backs_fuel
  · split <;> split <;> omega
  · exact Nat.le_refl _
theorem lies_below {w w' : World} {a : Option Addr} {ca : Nat} {b : Option Addr} {cb : Nat} {r : Value} {us l : List ByteArray} (h : Lies w a ca b cb r us l) (hb : Below w.heap.size w w') : Lies w' a ca b cb r us l :=
  ⟨h.p.below hb, h.q.below hb, h.t.below (Nat.le_refl _) hb, h.np, h.nq, h.few⟩

theorem below_drew {B : Nat} {A C : World} (h : Below B A.drew C) : Below B A C := ⟨h.os, h.tape, h.output, h.size, h.block⟩
theorem box_block {w W0 w5 : World} (hb : Below W0.heap.size W0 w5) (e : W0.heap = (w.alloc (.cells #[.int .i64 0, .string ⟨#[]⟩] 34)).heap) : w5.heap[w.heap.size]? = some (.cells #[.int .i64 0, .string ⟨#[]⟩] 34) := by
  have hl : w.heap.size < W0.heap.size := by rw [e]; simp
  rw [hb.block _ hl, e]
  exact heap_alloc_last w _
theorem box_set {w5 : World} {b : Nat} (h : w5.heap[b]? = some (.cells #[.int .i64 0, .string ⟨#[]⟩] 34)) (k : Int) (s : ByteArray) : ((w5.setCell ⟨b, 0, none⟩ (.int .i64 k)).setCell ⟨b, 1, none⟩ (.string s)).heap[b]? = some (.cells #[.int .i64 k, .string s] 34) := by
  have h1 := heap_setCell_same _ _ 0 _ _ (.int .i64 k) h
  exact heap_setCell_same _ _ 1 _ _ (.string s) h1
theorem own_below {A B : World} {base e s n : Nat} {v : Value} {xs : List Value} (h : A.ownsRow base e s v n xs) (hb : Below A.heap.size A B) : B.ownsRow base e s v n xs := by
  refine ⟨h.1, ?_⟩
  rcases h.2 with h' | ⟨g', cap', cur, h', hbb, hg, hr⟩
  · exact .inl h'
  · exact .inr ⟨g', cap', cur, h', hbb, (hb.block g' (Array.getElem?_eq_some_iff.1 hg).1).trans hg, hr⟩
theorem cell_two (w : World) (a b : Value) : ∀ j u, [a, b][j]? = some u → (w.alloc (.cells #[a, b] 34)).cell? ((⟨w.heap.size, 0, none⟩ : Addr).add j) = some u := by
  intro j u hj
  have hadd : (⟨w.heap.size, 0, none⟩ : Addr).add j = ⟨w.heap.size, j, none⟩ := by unfold Addr.add; split <;> simp_all
  rw [hadd, cell_of_row _ _ j _ 34 _ (heap_alloc_last w _)]
  simpa using hj
theorem two_one (k : Int) (s : ByteArray) : ∀ u ∈ [Value.int .i64 k, .string s], u.oneCell' = true := by
  intro u hu
  simp at hu
  rcases hu with rfl | rfl <;> rfl
theorem grown_cell {wr A W2 : World} {base e s n : Nat} {v u : Value} {xs : List Value} (h : wr.ownsRow base e s v n xs) (hg : A.grownBy W2 v.ownBlock) {B o : Nat} (hB : wr.heap.size ≤ B) (hl : B < A.heap.size) (hc : A.cell? ⟨B, o, none⟩ = some u) : W2.cell? ⟨B, o, none⟩ = some u := by
  refine (World.cell?_of_block (a := ⟨B, o, none⟩) (hg.block B hl (fun e' => ?_))).trans hc
  have := (h.lt B e'.symm).2
  omega

set_option maxHeartbeats 1000000 in
set_option maxRecDepth 100000 in
theorem back_any {w : World} {a : Option Addr} {ca : Nat} {b : Option Addr} {cb : Nat} {r : Value} {us l : List ByteArray} (h : Lies w a ca b cb r us l) :
    Calls Try.prog 13 #[.slice a us.length ca, .slice b l.length cb, r] w fun e w' => ∃ v, e = .returned v ∧ Row w' v 2 (backs us l (us.length + l.length) us.length l.length).length (ecs (backs us l (us.length + l.length) us.length l.length).reverse) ∧ Below w.heap.size w w' := by
  have np := h.np
  have nq := h.nq
  obtain ⟨_, _, _, hp1, hp2, _, hp3, _⟩ := h.p
  obtain ⟨_, _, _, hq1, hq2, _, hq3, _⟩ := h.q
  simp only [Value.slice.injEq] at hp1 hq1
  obtain ⟨rfl, _, rfl⟩ := hp1
  obtain ⟨rfl, _, rfl⟩ := hq1
  go_enter Try.func13, Try.ntmps13
  go_wp2
  go_loopw [7, 8, 9] (fun v x y wr => ∃ (i j : Nat) (L : List (Int × ByteArray)), x = .int .i64 i ∧ y = .int .i64 j ∧ i ≤ us.length ∧ j ≤ l.length ∧ wr.ownsRow w.heap.size 34 2 v L.length (ecs L) ∧ L ++ backs us l (i + j) i j = backs us l (us.length + l.length) us.length l.length ∧ L.length + i + j ≤ us.length + l.length ∧ Below w.heap.size w wr) (fun _ x y _ => (intOf x).toNat + (intOf y).toNat)
  case atStart => exact ⟨us.length, l.length, [], rfl, rfl, Nat.le_refl _, Nat.le_refl _, World.ownsRow_nil _ _ _ _, rfl, by simp, Below.refl _ _⟩
  case round =>
    obtain ⟨i, j, L, rfl, rfl, hi, hj, hown, hL, hLn, RB⟩ := hrel
    by_cases h0 : 0 < i + j
    · have hl := fun W hW => last_any (lies_below h (RB.trans (Below.mono (B := wr.heap.size) (w' := W) hW RB.size))) i j hi hj h0
      have bi : (i : Int) ≤ (ca : Int) := by omega
      have bj : (j : Int) ≤ (cb : Int) := by omega
      obtain ⟨E, hE⟩ : ∃ E, lastE us l i j = E := ⟨_, rfl⟩
      rw [hE] at hl
      obtain ⟨k, s⟩ := E
      dsimp only at hl
      obtain ⟨i34, hi34, hz340, hz341, hz342⟩ := info_parts info34
      have hkind := last_kind us l i j h0
      have hST0 := backs_step us l i j h0
      rw [hE] at hkind hST0
      dsimp only at hkind hST0
      have hST : Hid (backs us l (i + j) i j = ((k, s) : Int × ByteArray) :: backs us l ((if k = 4 then i else i - 1) + (if k = 3 then j else j - 1)) (if k = 4 then i else i - 1) (if k = 3 then j else j - 1)) := hST0
      clear hST0 hE
      by_cases hi0 : (0 : Int) < (i : Int)
      · go_upto_region 4 with fail
        go_cut [10] from 15 to 42 (fun s10 wx => ∃ B, s10 = .pointer (some ⟨B, 0, none⟩) ∧ wx.heap[B]? = some (.cells #[.int .i64 k, .string s] 34) ∧ Below wr.heap.size wr wx ∧ wr.heap.size ≤ B)
        case first =>
          go_region_with (first
            | (go_at_call 23; refine (hl _ (Below.refl _ wr).drew).mono ?_; rintro e w5 ⟨rfl, hb5⟩)
            | (go_at_call 23; refine (hl _ ((Below.refl _ wr).alloc (Nat.le_refl _) _).drew).mono ?_; rintro e w5 ⟨rfl, hb5⟩; have hq := box_block hb5 rfl; obtain ⟨q0, q1, q2, q3, qb⟩ := box_keep hb5 rfl rfl rfl rfl))
          · go_wp2_with fail
            go_meet
            have hb6 := below_drew hb5
            exact ⟨w5.heap.size, rfl, heap_alloc_last w5 _, hb6.alloc hb6.size _, hb6.size⟩
          · go_wp2_with fail
            go_meet
            exact ⟨wr.heap.size, rfl, box_set hq k s, (qb.setCell (Nat.le_refl _) _).setCell (Nat.le_refl _) _, Nat.le_refl _⟩
        case rest =>
          obtain ⟨B, rfl, hblk, hbx, hB⟩ := hcut
          have hown2 := own_below hown hbx
          have z0 : wc.cell? ⟨B, 0, none⟩ = some (.int .i64 k) := by rw [cell_of_row _ _ _ _ _ _ hblk]; rfl
          have z1 : wc.cell? ⟨B, 1, none⟩ = some (.string s) := by rw [cell_of_row _ _ _ _ _ _ hblk]; rfl
          have hBl : B < wc.heap.size := World.block_lt_of_cell? _ _ z0
          have hsz := hbx.size
          have hsw := RB.size
          have hlim : L.length ≤ 400 := by omega
          have BX := RB.trans (hbx.mono RB.size)
          clear hl hblk
          by_cases h4 : k = 4
          · subst h4
            have hj1 : (0 : Int) < (j : Int) := by omega
            have HST : Hid (backs us l (i + j) i j = ((4, s) : Int × ByteArray) :: backs us l (i + (j - 1)) i (j - 1)) := (by simpa using hST.out : backs us l (i + j) i j = ((4, s) : Int × ByteArray) :: backs us l (i + (j - 1)) i (j - 1))
            clear hST hkind
            go_wp2_with (at_builtin; refine wpList_append_own _ rfl (.tmp 29) (.tmp 31) 22 rfl w.heap.size 34 i34 (.agg #[.int .i64 0, .string ByteArray.empty]) 2 24 Try.underlying22 hi34 hz340 hz341 hz342 rfl (by decide) _ _ _ rfl (hown2.alloc _) ⟨_, 0, none⟩ 1 1 [.int .i64 4, .string s] rfl rfl (cell_two _ _ _) (two_one _ _) (by unfold maxLen; omega) (by omega) (by simp; omega) ?_; intro v' W2 hown3 hgrow3 _; have z2 := grown_cell hown hgrow3 (B := B) hB (by simp; omega) (wr := wr) ((World.cell?_alloc_lt _ _ _ hBl).trans z0))
            refine ⟨⟨i, j - 1, L ++ [(4, s)], by first | rfl | (congr 1; omega), by first | rfl | (congr 1; omega), by omega, by omega, ?_, ?_, by simp; omega, (BX.alloc (by omega) _).grown hgrow3 (by simp; omega) (fun q hq => (hown.lt q hq).1)⟩, by simp [intOf]; omega⟩
            · rw [ecs_snoc, List.length_append]
              exact hown3
            · rw [← hL, HST.out, List.append_assoc]
              rfl
          · by_cases h3 : k = 3
            · subst h3
              have HST : Hid (backs us l (i + j) i j = ((3, s) : Int × ByteArray) :: backs us l (i - 1 + j) (i - 1) j) := (by simpa using hST.out : backs us l (i + j) i j = ((3, s) : Int × ByteArray) :: backs us l (i - 1 + j) (i - 1) j)
              clear hST hkind h4
              go_wp2_with (at_builtin; refine wpList_append_own _ rfl (.tmp 29) (.tmp 31) 22 rfl w.heap.size 34 i34 (.agg #[.int .i64 0, .string ByteArray.empty]) 2 24 Try.underlying22 hi34 hz340 hz341 hz342 rfl (by decide) _ _ _ rfl (hown2.alloc _) ⟨_, 0, none⟩ 1 1 [.int .i64 3, .string s] rfl rfl (cell_two _ _ _) (two_one _ _) (by unfold maxLen; omega) (by omega) (by simp; omega) ?_; intro v' W2 hown3 hgrow3 _; have z2 := grown_cell hown hgrow3 (B := B) hB (by simp; omega) (wr := wr) ((World.cell?_alloc_lt _ _ _ hBl).trans z0))
              refine ⟨⟨i - 1, j, L ++ [(3, s)], by first | rfl | (congr 1; omega), by first | rfl | (congr 1; omega), by omega, by omega, ?_, ?_, by simp; omega, (BX.alloc (by omega) _).grown hgrow3 (by simp; omega) (fun q hq => (hown.lt q hq).1)⟩, by simp [intOf]; omega⟩
              · rw [ecs_snoc, List.length_append]
                exact hown3
              · rw [← hL, HST.out, List.append_assoc]
                rfl
            · have d4 : (k != 4) = true := by simpa using h4
              have d3 : (k != 3) = true := by simpa using h3
              have e4 : (k == 4) = false := by simpa using h4
              have e3 : (k == 3) = false := by simpa using h3
              have hj1 : (0 : Int) < (j : Int) := by omega
              have HST : Hid (backs us l (i + j) i j = ((k, s) : Int × ByteArray) :: backs us l (i - 1 + (j - 1)) (i - 1) (j - 1)) := by
                have := hST.out
                rw [if_neg h4, if_neg h3] at this
                exact this
              clear hST hkind
              go_wp2_with (at_builtin; refine wpList_append_own _ rfl (.tmp 29) (.tmp 31) 22 rfl w.heap.size 34 i34 (.agg #[.int .i64 0, .string ByteArray.empty]) 2 24 Try.underlying22 hi34 hz340 hz341 hz342 rfl (by decide) _ _ _ rfl (hown2.alloc _) ⟨_, 0, none⟩ 1 1 [.int .i64 k, .string s] rfl rfl (cell_two _ _ _) (two_one _ _) (by unfold maxLen; omega) (by omega) (by simp; omega) ?_; intro v' W2 hown3 hgrow3 _; have z2 := grown_cell hown hgrow3 (B := B) hB (by simp; omega) (wr := wr) ((World.cell?_alloc_lt _ _ _ hBl).trans z0))
              refine ⟨⟨i - 1, j - 1, L ++ [(k, s)], by first | rfl | (congr 1; omega), by first | rfl | (congr 1; omega), by omega, by omega, ?_, ?_, by simp; omega, (BX.alloc (by omega) _).grown hgrow3 (by simp; omega) (fun q hq => (hown.lt q hq).1)⟩, by simp [intOf]; omega⟩
              · rw [ecs_snoc, List.length_append]
                exact hown3
              · rw [← hL, HST.out, List.append_assoc]
                rfl
      · obtain rfl : i = 0 := by omega
        obtain rfl : k = 4 := by omega
        go_upto_region 4 with fail
        go_cut [10] from 15 to 42 (fun s10 wx => ∃ B, s10 = .pointer (some ⟨B, 0, none⟩) ∧ wx.heap[B]? = some (.cells #[.int .i64 4, .string s] 34) ∧ Below wr.heap.size wr wx ∧ wr.heap.size ≤ B)
        case first =>
          go_region_with (first
            | (go_at_call 23; refine (hl _ (Below.refl _ wr).drew).mono ?_; rintro e w5 ⟨rfl, hb5⟩)
            | (go_at_call 23; refine (hl _ ((Below.refl _ wr).alloc (Nat.le_refl _) _).drew).mono ?_; rintro e w5 ⟨rfl, hb5⟩; have hq := box_block hb5 rfl; obtain ⟨q0, q1, q2, q3, qb⟩ := box_keep hb5 rfl rfl rfl rfl))
          · go_wp2_with fail
            go_meet
            have hb6 := below_drew hb5
            exact ⟨w5.heap.size, rfl, heap_alloc_last w5 _, hb6.alloc hb6.size _, hb6.size⟩
          · go_wp2_with fail
            go_meet
            exact ⟨wr.heap.size, rfl, box_set hq 4 s, (qb.setCell (Nat.le_refl _) _).setCell (Nat.le_refl _) _, Nat.le_refl _⟩
        case rest =>
          obtain ⟨B, rfl, hblk, hbx, hB⟩ := hcut
          have hown2 := own_below hown hbx
          have z0 : wc.cell? ⟨B, 0, none⟩ = some (.int .i64 4) := by rw [cell_of_row _ _ _ _ _ _ hblk]; rfl
          have z1 : wc.cell? ⟨B, 1, none⟩ = some (.string s) := by rw [cell_of_row _ _ _ _ _ _ hblk]; rfl
          have hBl : B < wc.heap.size := World.block_lt_of_cell? _ _ z0
          have hsz := hbx.size
          have hsw := RB.size
          have hlim : L.length ≤ 400 := by omega
          have BX := RB.trans (hbx.mono RB.size)
          clear hl hblk
          have hj1 : (0 : Int) < (j : Int) := by omega
          have HST : Hid (backs us l (0 + j) 0 j = ((4, s) : Int × ByteArray) :: backs us l (0 + (j - 1)) 0 (j - 1)) := (by simpa using hST.out : backs us l (0 + j) 0 j = ((4, s) : Int × ByteArray) :: backs us l (0 + (j - 1)) 0 (j - 1))
          clear hST hkind
          go_wp2_with (at_builtin; refine wpList_append_own _ rfl (.tmp 29) (.tmp 31) 22 rfl w.heap.size 34 i34 (.agg #[.int .i64 0, .string ByteArray.empty]) 2 24 Try.underlying22 hi34 hz340 hz341 hz342 rfl (by decide) _ _ _ rfl (hown2.alloc _) ⟨_, 0, none⟩ 1 1 [.int .i64 4, .string s] rfl rfl (cell_two _ _ _) (two_one _ _) (by unfold maxLen; omega) (by omega) (by simp; omega) ?_; intro v' W2 hown3 hgrow3 _; have z2 := grown_cell hown hgrow3 (B := B) hB (by simp; omega) (wr := wr) ((World.cell?_alloc_lt _ _ _ hBl).trans z0))
          refine ⟨⟨0, j - 1, L ++ [(4, s)], by first | rfl | (congr 1; omega), by first | rfl | (congr 1; omega), by omega, by omega, ?_, ?_, by simp; omega, (BX.alloc (by omega) _).grown hgrow3 (by simp; omega) (fun q hq => (hown.lt q hq).1)⟩, by simp [intOf]; omega⟩
          · rw [ecs_snoc, List.length_append]
            exact hown3
          · rw [← hL, HST.out, List.append_assoc]
            rfl
    · obtain ⟨rfl, rfl⟩ : i = 0 ∧ j = 0 := by omega
      have : L = backs us l (us.length + l.length) us.length l.length := by simpa [backs] using hL
      subst this
      have hr := rev_any _ hown (by omega)
      go_wp2_with (go_at_call 24; refine hr.mono ?_; rintro e w5 ⟨rfl, hrow, hb5⟩)
      go_ret
      exact ⟨_, rfl, hrow, RB.trans hb5⟩
end Go.Proofs.Ytiiheaopamjijaa.Bk
