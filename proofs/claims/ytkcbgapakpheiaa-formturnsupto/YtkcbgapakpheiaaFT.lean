/- FormTurns: at every lexicon, stem and cell as they lie in memory the law returns true. No conditions beyond how the lexicon lies. -/
import Derived.Test.YtkcbgapakpheiaaFb
import Derived.Test.YtkcbgapakpheiaaFq
import Derived.Test.YtkcbgapakpheiaaSm
namespace Go.Proofs.Ytkcbgapakpheiaa.FT
open Go.RowKit Go.Shelf Sd Md Sc Aq Ls Lx Ly Lz Fo Mk Tk Rd Fb Fp Fq Sm

/-- is a stem and a cell among readings -/
def seen (s c : Int) (l : List (Nat × Nat)) : Bool := l.any fun p => ((p.1 : Int) == s) && ((p.2 : Int) == c)
theorem seen_mem {s c : Int} {l : List (Nat × Nat)} {i j : Nat} (h : (i, j) ∈ l) (hs : s = i) (hc : c = j) : seen s c l = true := by
  unfold seen
  rw [List.any_eq_true]
  exact ⟨(i, j), h, by simp [hs, hc]⟩
theorem seen_take (s c : Int) (l : List (Nat × Nat)) (k : Nat) (hk : k < l.length) : seen s c (l.take (k + 1)) = (seen s c (l.take k) || (((l[k]).1 : Int) == s && ((l[k]).2 : Int) == c)) := by
  unfold seen
  rw [List.take_add_one, List.getElem?_eq_getElem hk, List.any_append]
  simp

set_option maxHeartbeats 4000000 in
set_option maxRecDepth 100000 in
theorem walk (y : VX) (s c : Int) (w : World) (h : IsX w y) :
    Calls Try.prog 4 #[y.val, .int .i64 s, .int .i64 c] w fun e w' => e = .returned (.bool true) ∧ Below w.heap.size w w' := by
  have hb : ∀ o, Below w.heap.size w (w.alloc o) := fun o => (Below.refl _ _).alloc (Nat.le_refl _) _
  have c5 := fun W (hW : Below w.heap.size w W) s c => make_any y s c W (h.below hW)
  have c14 := fun W (hW : Below w.heap.size w W) v form hv => read_any y v form W (h.below hW) hv
  by_cases hE : makeE y s c = 0
  · by_cases hL : 60 < (makeR y s c).length
    · have d6 : decide ((60 : Int) < ((makeR y s c).length : Int)) = true := decide_eq_true (by omega)
      have k5 := fun W hW => c5 W hW s c
      rw [hE] at k5
      generalize makeR y s c = form at k5 d6
      obtain ⟨k, vs, vc, vh, sts, ces, xs⟩ := y
      simp only [VX.val] at k5 ⊢
      have bx0 := Bx4.new w k vs vc vh
      clear h hE hL c5 c14
      go_enter Try.func4, Try.ntmps4
      go_wp2_with (first
        | (go_at_call 9; refine (begun_any _).mono ?_; rintro e w1 ⟨rfl, hb1⟩; have B1 := (hb _).trans (hb1.mono (hb _).size); have x1 := bx0.below hb1; have p0 := x1.g0; have p1 := x1.g1; have p2 := x1.g2; have p3 := x1.g3)
        | (go_at_call 5; refine (k5 _ B1).mono ?_; rintro e w2 ⟨v2, rfl, hI2, hb2⟩; obtain ⟨a2, cap2, rfl, _, _⟩ := hI2.len))
      go_ret
      exact ⟨rfl, B1.trans (hb2.mono B1.size)⟩
    · have hck : checkX y.lex = 0 := by
        by_cases hck : checkX y.lex = 0
        · exact hck
        · have e1 : makeE y s c = checkX y.lex := if_neg hck
          exact absurd (e1.symm.trans hE) hck
      obtain ⟨i, j, hs, hc, hm⟩ := made_hit hE
      have hR := make_read hE hL
      have hM := fun p hp => hit_made (y := y) (form := makeR y s c) hck (p := p) hp
      have hF := seen_mem hm hs hc
      have d6 : decide ((60 : Int) < ((makeR y s c).length : Int)) = false := decide_eq_false (by omega)
      have hRR : readR y (makeR y s c) = hits (makeR y s c) (toldX y) := by unfold readR; rw [if_pos hR]
      have k5 := fun W hW => c5 W hW s c
      have k14 := fun W hW v hv => c14 W hW v (makeR y s c) hv
      rw [hE] at k5
      rw [hR, hRR] at k14
      obtain ⟨form, hform⟩ : ∃ z, makeR y s c = z := ⟨_, rfl⟩
      rw [hform] at k5 k14 hM hF d6
      obtain ⟨rd, hrd⟩ : ∃ z, hits form (toldX y) = z := ⟨_, rfl⟩
      rw [hrd] at k14 hM hF
      have m5 : ∀ W, Below w.heap.size w W → ∀ (k : Nat) (hk : k < rd.length), Calls Try.prog 5 #[y.val, .int .i64 ((rd[k]).1 : Int), .int .i64 ((rd[k]).2 : Int)] W fun e w' => ∃ v, e = .returned (.tuple #[v, .int .i64 0]) ∧ IsI w' v form ∧ Below W.heap.size W w' := by
        intro W hW k hk
        have := c5 W hW (rd[k]).1 (rd[k]).2
        obtain ⟨e1, e2⟩ := hM _ (List.getElem_mem hk)
        rw [e1, e2] at this
        exact this
      have HF : Hid (seen s c rd = true) := hF
      obtain ⟨k, vs, vc, vh, sts, ces, xs⟩ := y
      simp only [VX.val] at k5 k14 m5 ⊢
      have bx0 := Bx4.new w k vs vc vh
      clear h hE hL c5 c14 hck hs hc hm hR hM hF hRR hform hrd
      go_enter Try.func4, Try.ntmps4
      go_wp2_with (first
        | (go_at_call 9; refine (begun_any _).mono ?_; rintro e w1 ⟨rfl, hb1⟩; have B1 := (hb _).trans (hb1.mono (hb _).size); have x1 := bx0.below hb1; have p0 := x1.g0; have p1 := x1.g1; have p2 := x1.g2; have p3 := x1.g3)
        | (go_at_call 5; refine (k5 _ B1).mono ?_; rintro e w2 ⟨v2, rfl, hI2, hb2⟩; obtain ⟨a2, cap2, rfl, _, _⟩ := hI2.len; have B2 := B1.trans (hb2.mono B1.size); have x2 := x1.below hb2; have q0 := x2.g0; have q1 := x2.g1; have q2 := x2.g2; have q3 := x2.g3)
        | (go_at_call 14; refine (k14 _ B2 _ hI2).mono ?_; rintro e w3 ⟨u3, rfl, hR3, hb3⟩; have B3 := B2.trans (hb3.mono B2.size); have x3 := x2.below hb3; have hI3 := hI2.below (Nat.le_refl _) hb3))
      clear p0 p1 p2 p3 q0 q1 q2 q3 x1 x2 hI2 hb2 hb3 hb1 k5 k14 B1 B2 bx0 d6
      obtain ⟨ar, cr, hu, _, hmr⟩ := IsR.len (f := rdc) (k := 2) (Q := fun _ _ => True) ⟨hR3, fun _ _ => trivial⟩
      subst hu
      have HM : Hid (rd.length ≤ 140737488355328) := hmr
      clear hmr
      go_loopw [10, 11] (fun f i wr => ∃ k : Nat, i = .int .i64 k ∧ k ≤ rd.length ∧ f = .bool (seen s c (rd.take k)) ∧ Below w3.heap.size w3 wr) (fun _ i _ => rd.length - (intOf i).toNat)
      case atStart => exact ⟨0, rfl, by omega, rfl, Below.refl _ _⟩
      case round =>
        obtain ⟨n, rfl, hn, rfl, hbT⟩ := hrel
        have hbb := HM.out
        by_cases hlt : n < rd.length
        · have hst := seen_take s c rd n hlt
          have hRT : IsR rdc 2 (fun _ _ => True) wr (.slice ar rd.length cr) rd := ⟨hR3.below (Nat.le_refl _) hbT, fun _ _ => trivial⟩
          obtain ⟨br, or, rfl⟩ := row_some hRT (by omega)
          obtain ⟨_, hcell, _⟩ := row_cells (f := rdc) (k := 2) (fun _ => rfl) hRT n hlt
          have z0 := hcell 0 _ (by omega) rfl
          have z1 := hcell 1 _ (by omega) rfl
          rw [Nat.add_zero] at z0
          have BT := B3.trans (hbT.mono B3.size)
          have BD : Below w.heap.size w wr.drew := BT.drew
          have f5 := m5 _ BD n hlt
          have y3 := x3.below hbT
          have hIT : IsI wr.drew _ form := (hI3.below (Nat.le_refl _) hbT).below (Nat.le_refl _) (Below.refl _ _).drew
          obtain ⟨_, y10, y11, y12, y13⟩ := y3
          obtain ⟨⟨pi, pj⟩, hp⟩ : ∃ p, rd[n] = p := ⟨_, rfl⟩
          rw [hp] at z0 z1 f5 hst
          dsimp only at z0 z1 f5 hst
          obtain ⟨fb, hfb⟩ : ∃ b, seen s c (rd.take n) = b := ⟨_, rfl⟩
          rw [hfb] at hst ⊢
          obtain ⟨nx, hnx⟩ : ∃ b, (fb || ((pi : Int) == s && (pj : Int) == c)) = b := ⟨_, rfl⟩
          rw [hnx] at hst
          have HST : Hid (seen s c (rd.take (n + 1)) = nx) := hst
          clear hp hcell hRT m5 hfb hst
          have KP : ∀ w2 : World, Below wr.drew.heap.size wr.drew w2 → w2.cell? ⟨w.heap.size, 0, none⟩ = some (.int .i64 k) ∧ w2.cell? ⟨w.heap.size, 1, none⟩ = some vs ∧ w2.cell? ⟨w.heap.size, 2, none⟩ = some vc ∧ w2.cell? ⟨w.heap.size, 3, none⟩ = some vh ∧ w2.cell? ⟨br, or + n * 2, none⟩ = some (.int .i64 pi) ∧ w2.cell? ⟨br, or + n * 2 + 1, none⟩ = some (.int .i64 pj) := by
            intro w2 hb2
            exact ⟨(hb2.cell (World.block_lt_of_cell? _ _ y10)).trans y10, (hb2.cell (World.block_lt_of_cell? _ _ y11)).trans y11, (hb2.cell (World.block_lt_of_cell? _ _ y12)).trans y12, (hb2.cell (World.block_lt_of_cell? _ _ y13)).trans y13, (hb2.cell (World.block_lt_of_cell? _ _ z0)).trans z0, (hb2.cell (World.block_lt_of_cell? _ _ z1)).trans z1⟩
          go_wp2
          go_region_held3 (fun w2 => w2.cell? ⟨w.heap.size, 0, none⟩ = some (.int .i64 k) ∧ w2.cell? ⟨w.heap.size, 1, none⟩ = some vs ∧ w2.cell? ⟨w.heap.size, 2, none⟩ = some vc ∧ w2.cell? ⟨w.heap.size, 3, none⟩ = some vh ∧ w2.cell? ⟨br, or + n * 2, none⟩ = some (.int .i64 pi) ∧ w2.cell? ⟨br, or + n * 2 + 1, none⟩ = some (.int .i64 pj)) (first | exact KP _ (Below.refl _ _) | assumption | go_keep)
            (first
              | (go_at_call 5; refine f5.mono ?_; rintro e w4 ⟨v4, rfl, hI4, hb4⟩; have HK := KP _ hb4))
          have BE : Below w3.heap.size w3 w4 := hbT.trans ((Below.refl _ wr).drew.trans (hb4.mono (Nat.le_refl _)) |>.mono hbT.size)
          have hI5 := hIT.below (Nat.le_refl _) hb4
          obtain ⟨_, _, _, _, t0, t1⟩ := HK
          have g0 : ∀ q, (w4.drewN q).cell? ⟨br, or + n * 2, none⟩ = some (.int .i64 pi) := fun q => t0
          have g1 : ∀ q, (w4.drewN q).cell? ⟨br, or + n * 2 + 1, none⟩ = some (.int .i64 pj) := fun q => t1
          clear KP f5 y10 y11 y12 y13 z0 z1 BD hIT t0 t1
          cases fb with
          | true =>
            have e : nx = true := by rw [← hnx]; rfl
            subst e
            go_wp2_with (go_at_call 11; refine (same_any _ _ form _ hI5 hI4).mono ?_; rintro e w5 ⟨rfl, q, rfl⟩)
            go_roundw
            case rel => exact ⟨n + 1, by go_num, by omega, by rw [HST.out], below_drewN' BE q⟩
            case measure => simp [intOf]; omega
          | false =>
            cases e1 : ((pi : Int) == s) with
            | false =>
              have e : nx = false := by rw [← hnx, e1]; rfl
              subst e
              go_wp2_with (go_at_call 11; refine (same_any _ _ form _ hI5 hI4).mono ?_; rintro e w5 ⟨rfl, q, rfl⟩; have t0 := g0 q; have t1 := g1 q)
              go_roundw
              case rel => exact ⟨n + 1, by go_num, by omega, by rw [HST.out], below_drewN' BE q⟩
              case measure => simp [intOf]; omega
            | true =>
              cases e2 : ((pj : Int) == c) with
              | false =>
                have e : nx = false := by rw [← hnx, e1, e2]; rfl
                subst e
                go_wp2_with (go_at_call 11; refine (same_any _ _ form _ hI5 hI4).mono ?_; rintro e w5 ⟨rfl, q, rfl⟩; have t0 := g0 q; have t1 := g1 q)
                go_roundw
                case rel => exact ⟨n + 1, by go_num, by omega, by rw [HST.out], below_drewN' BE q⟩
                case measure => simp [intOf]; omega
              | true =>
                have e : nx = true := by rw [← hnx, e1, e2]; rfl
                subst e
                go_wp2_with (go_at_call 11; refine (same_any _ _ form _ hI5 hI4).mono ?_; rintro e w5 ⟨rfl, q, rfl⟩; have t0 := g0 q; have t1 := g1 q)
                go_roundw
                case rel => exact ⟨n + 1, by go_num, by omega, by rw [HST.out], below_drewN' BE q⟩
                case measure => simp [intOf]; omega
        · have e : n = rd.length := by omega
          subst e
          rw [List.take_length, HF.out]
          go_wp2
          go_ret
          exact ⟨rfl, B3.trans (hbT.mono B3.size)⟩
  · have hne : (makeE y s c != 0) = true := by simpa using hE
    have k5 := fun W hW => c5 W hW s c
    generalize makeE y s c = r at k5 hne
    generalize makeR y s c = form at k5
    obtain ⟨k, vs, vc, vh, sts, ces, xs⟩ := y
    simp only [VX.val] at k5 ⊢
    have bx0 := Bx4.new w k vs vc vh
    clear h hE c5 c14
    go_enter Try.func4, Try.ntmps4
    go_wp2_with (first
      | (go_at_call 9; refine (begun_any _).mono ?_; rintro e w1 ⟨rfl, hb1⟩; have B1 := (hb _).trans (hb1.mono (hb _).size); have x1 := bx0.below hb1; have p0 := x1.g0; have p1 := x1.g1; have p2 := x1.g2; have p3 := x1.g3)
      | (go_at_call 5; refine (k5 _ B1).mono ?_; rintro e w2 ⟨v2, rfl, hI2, hb2⟩))
    go_ret
    exact ⟨rfl, B1.trans (hb2.mono B1.size)⟩
end Go.Proofs.Ytkcbgapakpheiaa.FT
