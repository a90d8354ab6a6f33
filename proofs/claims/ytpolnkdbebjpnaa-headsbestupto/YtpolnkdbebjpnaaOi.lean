/- areSpans (33) of a tree, Flat (13) of any list of numbers. Condition: at most 1200000 numbers. -/
import Derived.Test.YtpolnkdbebjpnaaOh
import Derived.Test.YtpolnkdbebjpnaaZz
namespace Go.Proofs.Ytpolnkdbebjpnaa.Hd
open Go.RowKit Zz

theorem two_made (w W0 : World) (n m : Nat) (hm : n + 1 = m) (h : (w.alloc (.cells (madeCells #[.int .i64 0, .int .i64 0, .int .i64 0] (m * 3)) 66)).alloc (.cells (madeCells #[.int .i64 0] m) 3) = W0) : Ar w W0 w.heap.size (w.heap.size + 1) n (fun _ => 0) (fun _ => 0) := by
  subst hm
  subst h
  have e : (w.alloc (.cells (madeCells #[.int .i64 0, .int .i64 0, .int .i64 0] ((n + 1) * 3)) 66)).heap.size = w.heap.size + 1 := by simp
  have h1 := made3 w ((n + 1) * 3)
  have h2 := made1 (w.alloc (.cells (madeCells #[.int .i64 0, .int .i64 0, .int .i64 0] ((n + 1) * 3)) 66)) (n + 1)
  rw [e] at h2
  exact ⟨by rw [show n * 3 + 3 = (n + 1) * 3 by omega]; exact h1.kept (kp_below (below_al _ _) (fun _ => False)) id, h2, by omega, Nat.le_refl _, by omega, (below_al w _).alloc (by omega) _⟩
theorem set3_row {W : World} {q : Nat} (h : W.heap[q]? = some (.cells #[.int .i64 0, .int .i64 0, .int .i64 0] 66 (0, 0))) (a b c : Int) : (((W.setCell ⟨q, 0, none⟩ (.int .i64 a)).setCell ⟨q, 1, none⟩ (.int .i64 b)).setCell ⟨q, 2, none⟩ (.int .i64 c)).heap[q]? = some (.cells #[.int .i64 a, .int .i64 b, .int .i64 c] 66 (0, 0)) := by
  have h1 := heap_setCell_same _ q 0 _ 66 (.int .i64 a) h
  have h2 := heap_setCell_same _ q 1 _ 66 (.int .i64 b) h1
  exact heap_setCell_same _ q 2 _ 66 (.int .i64 c) h2
theorem kp_set {X : Nat → Prop} {a w : World} (h : Kp X a w) {b : Nat} (hb : a.heap.size ≤ b) (j : Nat) (u : Value) : Kp X a (w.setCell ⟨b, j, none⟩ u) := h.setCell b j u (fun h2 => absurd h2 (Nat.not_lt.2 hb))
set_option maxHeartbeats 8000000 in
set_option maxRecDepth 100000 in
theorem areSpans_any (l : List Int) (a : Option Addr) (cap : Nat) (w : World) (hR : Rl w a l) (hN : l.length ≤ 1200000) (hT : isTr l) :
    Calls Try.prog 33 #[.slice a l.length cap] w (SayQ (Fl l.length (un l)) w) := by
  have HL : Hid (0 < l.length → ∃ rb ro, a = some ⟨rb, ro, none⟩ ∧ ∀ W, Below w.heap.size w W → ∀ i, i < l.length → W.cell? ⟨rb, ro + i, none⟩ = some (.int .i64 (un l (i + 1) : Int))) := fun h0 => by
    obtain ⟨g, go, e1, e2, e3⟩ := hR h0
    exact ⟨g, go, e1, fun W hW i hi => by rw [← hT.1.at hi]; exact (hW.cell (p := ⟨g, go + i, none⟩) e2).trans (e3 i hi)⟩
  obtain ⟨n, hn⟩ : ∃ n, l.length = n := ⟨_, rfl⟩
  have HT : Hid (Tr n (un l)) := by rw [← hn]; exact hT.2
  rw [hn] at HL ⊢
  have hmk3 := run_mk64n (n + 1) (by omega)
  have hmk1 := run_mk26n (n + 1) (by omega)
  have hw1 : wrap64 ((n : Int) + 1) = ((n + 1 : Nat) : Int) := by unfold wrap64; omega
  have HNB : Hid (n ≤ 1200000) := by show n ≤ _; omega
  obtain ⟨m, hm⟩ : ∃ m, n + 1 = m := ⟨_, rfl⟩
  rw [hm] at hmk3 hmk1 hw1
  have HM : Hid (n + 1 = m) := hm
  obtain ⟨W0, hW0⟩ : ∃ W0, (w.alloc (.cells (madeCells #[.int .i64 0, .int .i64 0, .int .i64 0] (m * 3)) 66)).alloc (.cells (madeCells #[.int .i64 0] m) 3) = W0 := ⟨_, rfl⟩
  have HA0 : Hid (Ar w W0 w.heap.size (w.heap.size + 1) n (fun _ => 0) (fun _ => 0)) := two_made w W0 n m hm hW0
  clear hR hN hn hT hm
  go_enter Try.func33, Try.ntmps33
  go_upto_region 3 with fail
  try rw [hW0]
  clear hmk3 hmk1 hw1 hW0
  generalize w.heap.size + 1 = g at *
  obtain ⟨p, hp⟩ : ∃ p, w.heap.size = p := ⟨_, rfl⟩
  have HA : Hid (Ar w W0 p g n (fun _ => 0) (fun _ => 0)) := by rw [← hp]; exact HA0.out
  rw [hp]
  clear HA0 hp
  go_upto_region 4 with fail
  go_loopw [22] (fun c wr => ∃ (i : Nat) (S : Nat → Int), c = .int .i64 (i : Int) ∧ i ≤ m ∧ Ar w wr p g n S (fun _ => 0) ∧ ∀ x, x < i → S (x * 3) = x ∧ S (x * 3 + 1) = x ∧ S (x * 3 + 2) = 1) (fun c _ => m - (intOf c).toNat)
  case atStart => exact ⟨0, _, rfl, Nat.zero_le _, HA.out, fun x hx => absurd hx (Nat.not_lt_zero _)⟩
  case round =>
    obtain ⟨i, S, rfl, hi, hA, hS⟩ := hrel
    have HI : Hid (Ar w wr p g n S (fun _ => 0) ∧ ∀ x, x < i → S (x * 3) = x ∧ S (x * 3 + 1) = x ∧ S (x * 3 + 2) = 1) := ⟨hA, hS⟩
    clear HA
    clear hA hS
    by_cases hlt : i < m
    · have hii : (i : Int) < (m : Int) := by omega
      have hnb := HNB.out
      have hin : i ≤ n := by have := HM.out; omega
      have y0 := HI.out.1.sp.cell (i := i * 3) (by omega)
      have y1 := HI.out.1.sp.cell (i := i * 3 + 1) (by omega)
      have y2 := HI.out.1.sp.cell (i := i * 3 + 2) (by omega)
      have f0 := HI.out.1.sp.froz (i * 3)
      have f1 := HI.out.1.sp.froz (i * 3 + 1)
      have f2 := HI.out.1.sp.froz (i * 3 + 2)
      have HN : Hid _ := HI.out.1.set3 i (i : Int) (i : Int) 1 hin
      have HS : Hid (∀ x, x < i + 1 → up3 S i (i : Int) (i : Int) 1 (x * 3) = x ∧ up3 S i (i : Int) (i : Int) 1 (x * 3 + 1) = x ∧ up3 S i (i : Int) (i : Int) 1 (x * 3 + 2) = 1) := fun x hx => by
        by_cases e : x = i
        · subst e; exact up3_at _ _ _ _ _
        · obtain ⟨e1, e2, e3⟩ := up3_ne S (i : Int) (i : Int) 1 e
          rw [e1, e2, e3]
          exact HI.out.2 x (by omega)
      go_wp2
      go_roundw
      case rel => exact ⟨i + 1, _, by go_num, hlt, HN.out, HS.out⟩
      case measure => simp [intOf]; omega
    · have HS : Hid (∀ x, x ≤ n → S (x * 3) = x ∧ S (x * 3 + 1) = x ∧ S (x * 3 + 2) = 1) := fun x hx => HI.out.2 x (by have := HM.out; omega)
      have HA : Hid (Ar w wr p g n S (fun _ => 0)) := HI.out.1
      have hii : ¬ (i : Int) < (m : Int) := by omega
      clear hlt hi
      clear HI
      go_upto_region 9 with fail
      clear hii
      go_loopw [34] (fun c wr => ∃ (i : Nat) (D : Nat → Int), c = .int .i64 (i : Int) ∧ i ≤ n ∧ Ar w wr p g n S D ∧ ∀ x, x ≤ n → D x = (kc (un l) i x : Int)) (fun c _ => n - (intOf c).toNat)
      case atStart => exact ⟨0, _, rfl, Nat.zero_le _, HA.out, fun x hx => rfl⟩
      case round =>
        obtain ⟨j, D, rfl, hj, hA, hD⟩ := hrel
        have HI : Hid (Ar w wr p g n S D ∧ ∀ x, x ≤ n → D x = (kc (un l) j x : Int)) := ⟨hA, hD⟩
        clear HA
        clear hA hD
        by_cases hlt : j < n
        · obtain ⟨rb, ro, rfl, hcl⟩ := HL.out (by omega)
          have hjj : (j : Int) < (n : Int) := by omega
          have c0 := hcl wr HI.out.1.below j hlt
          obtain ⟨h, hh⟩ : ∃ h, un l (j + 1) = h := ⟨_, rfl⟩
          have hhn : h ≤ n := by rw [← hh]; exact HT.out.it_le 1 (w := j + 1) hlt
          have hhm : (h : Int) < (m : Int) := by have := HM.out; omega
          have HH : Hid (un l (j + 1) = h) := hh
          rw [hh] at c0
          have y0 := HI.out.1.wt.cell (i := h) (by omega)
          have f0 := HI.out.1.wt.froz h
          have hk := kc_le (un l) j h
          have HN : Hid (Ar w (wr.setCell ⟨g, h, none⟩ (.int .i64 (D h + 1))) p g n S (upC D h (D h + 1))) := HI.out.1.setD h (D h + 1) (by omega)
          have HD : Hid (∀ x, x ≤ n → upC D h (D h + 1) x = (kc (un l) (j + 1) x : Int)) := fun x hx => by
            rw [kc_up, HH.out]
            unfold upC
            by_cases e : x = h
            · subst e; rw [if_pos rfl, if_pos rfl, HI.out.2 x hx]; rfl
            · rw [if_neg e, if_neg (fun e2 => e e2.symm), HI.out.2 x hx]; rfl
          have hd : D h = (kc (un l) j h : Int) := HI.out.2 h hhn
          obtain ⟨d, hd2⟩ : ∃ d, D h = d := ⟨_, rfl⟩
          obtain ⟨k, hk2⟩ : ∃ k, kc (un l) j h = k := ⟨_, rfl⟩
          rw [hd2] at y0 hd HN HD
          rw [hk2] at hd hk
          have hnb := HNB.out
          have wd : wrap64 (d + 1) = d + 1 := by unfold wrap64; omega
          clear hcl hh hd hd2 hk hk2
          go_wp2
          go_roundw
          case rel => exact ⟨j + 1, _, by go_num, hlt, HN.out, HD.out⟩
          case measure => simp [intOf]; omega
        · obtain rfl : j = n := by omega
          have HA : Hid (Ar w wr p g j S D) := HI.out.1
          have HS0 : Hid (St j (un l) (fun _ => false) (fun w => [w]) S D) := St.start HS.out HI.out.2
          clear HS hj
          clear HI
          go_upto_region 14 with fail
          go_loopw [47] (fun c wr => ∃ (i : Nat) (told : Nat → Bool) (L : Nat → List Nat) (S D : Nat → Int), c = .int .i64 (i : Int) ∧ i ≤ j ∧ Ar w wr p g j S D ∧ St j (un l) told L S D ∧ ∀ x, 1 ≤ x → x ≤ i → told x = true ∨ kids j (un l) told x ≠ 0) (fun c _ => j - (intOf c).toNat)
          case atStart => exact ⟨0, _, _, S, D, rfl, Nat.zero_le _, HA.out, HS0.out, fun x h1 h2 => by omega⟩
          case round =>
            clear HA HS0
            obtain ⟨i, told, L, S, D, rfl, hi, hA, hS, hk⟩ := hrel
            have HI : Hid (Ar w wr p g j S D ∧ St j (un l) told L S D ∧ ∀ x, 1 ≤ x → x ≤ i → told x = true ∨ kids j (un l) told x ≠ 0) := ⟨hA, hS, hk⟩
            clear hA hS hk
            by_cases hlt : i < j
            · obtain ⟨rb, ro, rfl, hcl⟩ := HL.out (by omega)
              have HC : Hid (∀ W, Below w.heap.size w W → ∀ i, i < j → W.cell? ⟨rb, ro + i, none⟩ = some (.int .i64 (un l (i + 1) : Int))) := hcl
              obtain ⟨fr, hfr⟩ : ∃ f, i + 1 = f := ⟨_, rfl⟩
              have HFR : Hid (i + 1 = fr) := hfr
              have hnb := HNB.out
              have hw2 : wrap64 ((i : Int) + 1) = (fr : Int) := by unfold wrap64; omega
              clear hcl hfr hnb
              go_upto_region 17 with fail
              try rw [hw2]
              clear hw2
              go_loopg [9] (untold j told) (fun gk c wr => ∃ (told : Nat → Bool) (L : Nat → List Nat) (S D : Nat → Int) (x : Nat), c = .int .i64 (x : Int) ∧ x ≤ j ∧ Ar w wr p g j S D ∧ St j (un l) told L S D ∧ (∀ y, 1 ≤ y → y ≤ fr → y ≠ x → told y = true ∨ kids j (un l) told y ≠ 0) ∧ gk = untold j told)
              case atStart => exact ⟨told, L, S, D, fr, rfl, by have := HFR.out; omega, HI.out.1, HI.out.2.1, fun y h1 h2 h3 => HI.out.2.2 y h1 (by have := HFR.out; omega), rfl⟩
              case round =>
                clear HI
                obtain ⟨told, L, S, D, x, rfl, hx, hA, hS, hk, hgk⟩ := hrel
                have HI : Hid (Ar w wr p g j S D ∧ St j (un l) told L S D ∧ (∀ y, 1 ≤ y → y ≤ fr → y ≠ x → told y = true ∨ kids j (un l) told y ≠ 0) ∧ gk = untold j told) := ⟨hA, hS, hk, hgk⟩
                clear hA hS hk hgk
                by_cases hx0 : x = 0
                · subst hx0
                  have HK : Hid (∀ y, 1 ≤ y → y ≤ fr → told y = true ∨ kids j (un l) told y ≠ 0) := fun y h1 h2 => HI.out.2.2.1 y h1 h2 (by omega)
                  have hnb := HNB.out
                  go_wp2
                  go_roundw
                  case rel => exact ⟨fr, told, L, S, D, by rw [show ((fr : Nat) : Int) = (i : Int) + 1 by have := HFR.out; omega], by have := HFR.out; omega, HI.out.1, HI.out.2.1, HK.out⟩
                  case measure => have := HFR.out; simp [intOf]; omega
                · have q0 : ((x : Int) == 0) = false := by simp [hx0]
                  have q0n : ((x : Int) != 0) = true := by simp [hx0]
                  have q0' : ¬ (x : Int) = 0 := by omega
                  have hx1 : 1 ≤ x := by omega
                  have hxm : (x : Int) < (m : Int) := by have := HM.out; omega
                  have y0 := HI.out.1.wt.cell (i := x) (by omega)
                  obtain ⟨d, hd⟩ : ∃ d, D x = d := ⟨_, rfl⟩
                  have HD : Hid (D x = d) := hd
                  rw [hd] at y0
                  clear hd
                  by_cases hd0 : d = 0
                  · subst hd0
                    have HZ : Hid (told x = false ∧ kids j (un l) told x = 0) := HI.out.2.1.zero_of hx HD.out
                    obtain ⟨h, hh⟩ : ∃ h, un l x = h := ⟨_, rfl⟩
                    have HH : Hid (un l x = h ∧ h ≤ j) := ⟨hh, by rw [← hh]; exact HT.out.it_le 1 hx⟩
                    have hxj : (x : Int) - 1 < (j : Int) := by omega
                    obtain ⟨lo, hlo⟩ : ∃ v, S (x * 3) = v := ⟨_, rfl⟩
                    obtain ⟨hg, hhg⟩ : ∃ v, S (x * 3 + 1) = v := ⟨_, rfl⟩
                    obtain ⟨mn, hmn⟩ : ∃ v, S (x * 3 + 2) = v := ⟨_, rfl⟩
                    have HV : Hid (S (x * 3) = lo ∧ S (x * 3 + 1) = hg ∧ S (x * 3 + 2) = mn) := ⟨hlo, hhg, hmn⟩
                    have HXX : Hid (1 ≤ x ∧ x ≤ j) := ⟨hx1, hx⟩
                    clear hlo hhg hmn hh
                    go_upto_region 19 with fail
                    clear y0
                    have hnb := HNB.out
                    have wx1 : IntKind.i64.wrap ((x : Int) - 1) = ((x - 1 : Nat) : Int) := by rw [IntKind.wrap_i64]; omega
                    have hxj' : ((x - 1 : Nat) : Int) < (j : Int) := by omega
                    have HBX : Hid (∀ W, Kp (fun _ => False) wr W → W.cell? ⟨p, x * 3, none⟩ = some (.int .i64 lo) ∧ W.cell? ⟨p, x * 3 + 1, none⟩ = some (.int .i64 hg) ∧ W.cell? ⟨p, x * 3 + 2, none⟩ = some (.int .i64 mn) ∧ W.cell? ⟨rb, ro + (x - 1), none⟩ = some (.int .i64 (h : Int))) := fun W hW => by
                      have hA := HI.out.1.kept hW
                      have c0 := hA.sp.cell (i := x * 3) (by omega)
                      have c1 := hA.sp.cell (i := x * 3 + 1) (by omega)
                      have c2 := hA.sp.cell (i := x * 3 + 2) (by omega)
                      have c3 := HC.out W hA.below (x - 1) (by omega)
                      rw [HV.out.1] at c0
                      rw [HV.out.2.1] at c1
                      rw [HV.out.2.2] at c2
                      rw [show x - 1 + 1 = x by omega, HH.out.1] at c3
                      exact ⟨c0, c1, c2, c3⟩
                    clear hx0 hnb
                    have HCE : Hid _ := fun (W : World) (hSw : Kp (fun _ => False) wr W) => (And.intro ((HBX.out W hSw).1) (And.intro ((HBX.out W hSw).2.1) (And.intro ((HBX.out W hSw).2.2.1) ((HBX.out W hSw).2.2.2))))
                    refine wp_region_held_drew (S := fun W => Kp (fun _ => False) wr W) (by kernel_rfl) (by exact (Kp.refl _ wr).drewN 1) (fun hHeld => ?_)
                    have hS0 : Kp (fun _ => False) wr wr.drew := (Kp.refl _ _).drewN 1
                    generalize hV2 : wr.drew = V2 at *
                    clear hV2
                    refine wpAnyH_take (i := 0) (oi := { dst := some 66, op := Op.move (Operand.tmp 3), type := 64, pos := "spans.go:20", after := #[], guard := none }) (v := ?_) rfl (by kernel_rfl) (by kernel_rfl) (by kernel_rfl) (fun _ _ _ h => h) (Or.inl ⟨by rfl, ?_⟩) (by assumption) ?_
                    case refine_2 => intro w hSw; (try dsimp only at hSw); obtain ⟨z0, z1, z2, z3⟩ := HCE.out _ hSw; go_simp; (try with_reducible rfl)
                    simp only [Act.put, List.setIfInBounds_toArray, List.set_cons_zero, List.set_cons_succ]
                    refine wpAnyH_take (i := 1) (oi := { dst := some 67, op := Op.move (Operand.tmp 9), type := 3, pos := "spans.go:20", after := #[], guard := none }) (v := ?_) rfl (by kernel_rfl) (by kernel_rfl) (by kernel_rfl) (fun _ _ _ h => h) (Or.inl ⟨by rfl, ?_⟩) (by assumption) ?_
                    case refine_2 => intro w hSw; (try dsimp only at hSw); obtain ⟨z0, z1, z2, z3⟩ := HCE.out _ hSw; go_simp; (try with_reducible rfl)
                    simp only [Act.put, List.setIfInBounds_toArray, List.set_cons_zero, List.set_cons_succ]
                    refine wpAnyH_take (i := 2) (oi := { dst := some 68, op := Op.indexAddr 64 (Operand.tmp 66) (Operand.tmp 67), type := 0, pos := "spans.go:20", after := #[{ on := 0, ground := Ground.data }, { on := 1, ground := Ground.data }], guard := none }) (v := ?_) rfl (by kernel_rfl) (by kernel_rfl) (by kernel_rfl) (fun _ _ _ h => h) (Or.inl ⟨by rfl, ?_⟩) (by assumption) ?_
                    case refine_2 => intro w hSw; (try dsimp only at hSw); obtain ⟨z0, z1, z2, z3⟩ := HCE.out _ hSw; go_simp; (try with_reducible rfl)
                    simp only [Act.put, List.setIfInBounds_toArray, List.set_cons_zero, List.set_cons_succ]
                    refine wpAnyH_take (i := 3) (oi := { dst := some 69, op := Op.load 66 (Operand.tmp 68), type := 66, pos := "spans.go:20", after := #[{ on := 2, ground := Ground.data }], guard := none }) (v := ?_) rfl (by kernel_rfl) (by kernel_rfl) (by kernel_rfl) (fun _ _ _ h => h) (Or.inl ⟨by rfl, ?_⟩) (by assumption) ?_
                    case refine_2 => intro w hSw; (try dsimp only at hSw); obtain ⟨z0, z1, z2, z3⟩ := HCE.out _ hSw; go_simp; (try with_reducible rfl)
                    simp only [Act.put, List.setIfInBounds_toArray, List.set_cons_zero, List.set_cons_succ]
                    refine wpAnyH_take (i := 4) (oi := { dst := some 70, op := Op.move (Operand.tmp 0), type := 26, pos := "spans.go:20", after := #[{ on := 10, ground := Ground.gcOnly Departure.lateStores }], guard := none }) (v := ?_) rfl (by kernel_rfl) (by kernel_rfl) (by kernel_rfl) (fun _ _ _ h => h) (Or.inl ⟨by rfl, ?_⟩) (by assumption) ?_
                    case refine_2 => intro w hSw; (try dsimp only at hSw); obtain ⟨z0, z1, z2, z3⟩ := HCE.out _ hSw; go_simp; (try with_reducible rfl)
                    simp only [Act.put, List.setIfInBounds_toArray, List.set_cons_zero, List.set_cons_succ]
                    refine wpAnyH_take (i := 5) (oi := { dst := some 71, op := Op.move (Operand.tmp 9), type := 3, pos := "spans.go:20", after := #[{ on := 10, ground := Ground.gcOnly Departure.lateStores }], guard := none }) (v := ?_) rfl (by kernel_rfl) (by kernel_rfl) (by kernel_rfl) (fun _ _ _ h => h) (Or.inl ⟨by rfl, ?_⟩) (by assumption) ?_
                    case refine_2 => intro w hSw; (try dsimp only at hSw); obtain ⟨z0, z1, z2, z3⟩ := HCE.out _ hSw; go_simp; (try with_reducible rfl)
                    simp only [Act.put, List.setIfInBounds_toArray, List.set_cons_zero, List.set_cons_succ]
                    refine wpAnyH_take (i := 6) (oi := { dst := some 72, op := Op.binOp BinOp.sub 3 (Operand.tmp 71) (Operand.const (Value.int IntKind.i64 1)) 3, type := 3, pos := "spans.go:20", after := #[{ on := 5, ground := Ground.data }, { on := 10, ground := Ground.gcOnly Departure.lateStores }], guard := none }) (v := ?_) rfl (by kernel_rfl) (by kernel_rfl) (by kernel_rfl) (fun _ _ _ h => h) (Or.inl ⟨by rfl, ?_⟩) (by assumption) ?_
                    case refine_2 => intro w hSw; (try dsimp only at hSw); obtain ⟨z0, z1, z2, z3⟩ := HCE.out _ hSw; go_simp; (try with_reducible rfl)
                    simp only [Act.put, List.setIfInBounds_toArray, List.set_cons_zero, List.set_cons_succ]
                    refine wpAnyH_take (i := 7) (oi := { dst := some 73, op := Op.indexAddr 26 (Operand.tmp 70) (Operand.tmp 72), type := 0, pos := "spans.go:20", after := #[{ on := 4, ground := Ground.data }, { on := 6, ground := Ground.data }, { on := 10, ground := Ground.gcOnly Departure.lateStores }], guard := none }) (v := ?_) rfl (by kernel_rfl) (by kernel_rfl) (by kernel_rfl) (fun _ _ _ h => h) (Or.inl ⟨by rfl, ?_⟩) (by assumption) ?_
                    case refine_2 => intro w hSw; (try dsimp only at hSw); obtain ⟨z0, z1, z2, z3⟩ := HCE.out _ hSw; go_simp; (try with_reducible rfl)
                    simp only [Act.put, List.setIfInBounds_toArray, List.set_cons_zero, List.set_cons_succ]
                    refine wpAnyH_take (i := 8) (oi := { dst := some 74, op := Op.load 3 (Operand.tmp 73), type := 3, pos := "spans.go:20", after := #[{ on := 7, ground := Ground.data }, { on := 10, ground := Ground.gcOnly Departure.lateStores }], guard := none }) (v := ?_) rfl (by kernel_rfl) (by kernel_rfl) (by kernel_rfl) (fun _ _ _ h => h) (Or.inl ⟨by rfl, ?_⟩) (by assumption) ?_
                    case refine_2 => intro w hSw; (try dsimp only at hSw); obtain ⟨z0, z1, z2, z3⟩ := HCE.out _ hSw; go_simp; (try with_reducible rfl)
                    simp only [Act.put, List.setIfInBounds_toArray, List.set_cons_zero, List.set_cons_succ]
                    refine wpAnyH_ready (rs := [9]) (by kernel_rfl) (by simp) ?_
                    refine (AllReadyH.cons (o := { dst := some 10, op := Op.alloc 66, type := 0, pos := "spans.go:20", after := #[], guard := none }) rfl (fun K hK => ?_) AllReadyH.nil)
                    have hS1 : Kp (fun _ => False) wr (V2.alloc (.cells #[.int .i64 0, .int .i64 0, .int .i64 0] 66)) := hS0.alloc _
                    have hq1 := heap_alloc_new V2 (.cells #[.int .i64 0, .int .i64 0, .int .i64 0] 66)
                    have hq2 := hS0.size
                    go_simp
                    refine hK.out _ _ ?_ (fun hHeld => ?_)
                    · first | exact hS2 | exact hS1
                    clear hK K
                    try simp only [Act.put, List.setIfInBounds_toArray, List.set_cons_zero, List.set_cons_succ]
                    generalize hV3 : V2.alloc (.cells #[.int .i64 0, .int .i64 0, .int .i64 0] 66) = V3 at *
                    clear hV3
                    obtain ⟨q, hq⟩ : ∃ q, V2.heap.size = q := ⟨_, rfl⟩
                    rw [hq] at hq1 hq2 ⊢
                    clear hq
                    refine wpAnyH_ready (rs := [10]) (by kernel_rfl) (by simp) ?_
                    refine (AllReadyH.cons (o := { dst := none, op := Op.store 66 (Operand.tmp 10) (Operand.tmp 69), type := 0, pos := "spans.go:20", after := #[{ on := 9, ground := Ground.data }, { on := 3, ground := Ground.data }, { on := 0, ground := Ground.phase }, { on := 1, ground := Ground.phase }, { on := 2, ground := Ground.phase }, { on := 3, ground := Ground.phase }, { on := 4, ground := Ground.textOnly Departure.lateStores }, { on := 5, ground := Ground.textOnly Departure.lateStores }, { on := 6, ground := Ground.textOnly Departure.lateStores }, { on := 7, ground := Ground.textOnly Departure.lateStores }, { on := 8, ground := Ground.textOnly Departure.lateStores }, { on := 9, ground := Ground.phase }], guard := none }) rfl (fun K hK => ?_) AllReadyH.nil)
                    have y0 := cell_of_row _ _ 0 _ _ _ hq1
                    have y1 := cell_of_row _ _ 1 _ _ _ hq1
                    have y2 := cell_of_row _ _ 2 _ _ _ hq1
                    have f0 := frozen_of_row _ _ 0 _ _ hq1
                    have f1 := frozen_of_row _ _ 1 _ _ hq1
                    have f2 := frozen_of_row _ _ 2 _ _ hq1
                    have hS2 : Kp (fun _ => False) wr (((V3.setCell ⟨q, 0, none⟩ (.int .i64 lo)).setCell ⟨q, 1, none⟩ (.int .i64 hg)).setCell ⟨q, 2, none⟩ (.int .i64 mn)) := kp_set (kp_set (kp_set hS1 hq2 _ _) hq2 _ _) hq2 _ _
                    have hq3 := set3_row hq1 lo hg mn
                    go_simp
                    clear y0 y1 y2 f0 f1 f2
                    refine hK.out _ _ ?_ (fun hHeld => ?_)
                    · first | exact hS2 | exact hS1
                    clear hK K
                    try simp only [Act.put, List.setIfInBounds_toArray, List.set_cons_zero, List.set_cons_succ]
                    refine wpAnyH_take (i := 11) (oi := { dst := some 11, op := Op.assign (Operand.tmp 74), type := 3, pos := "spans.go:20", after := #[{ on := 8, ground := Ground.data }, { on := 10, ground := Ground.chain }, { on := 0, ground := Ground.phase }, { on := 1, ground := Ground.phase }, { on := 2, ground := Ground.phase }, { on := 3, ground := Ground.phase }, { on := 4, ground := Ground.phase }, { on := 5, ground := Ground.phase }, { on := 6, ground := Ground.phase }, { on := 7, ground := Ground.phase }, { on := 8, ground := Ground.phase }, { on := 9, ground := Ground.phase }, { on := 10, ground := Ground.phase }], guard := none }) (v := ?_) rfl (by kernel_rfl) (by kernel_rfl) (by kernel_rfl) (fun _ _ _ h => h) (Or.inl ⟨by rfl, ?_⟩) (by assumption) ?_
                    case refine_2 => intro w hSw; (try dsimp only at hSw); obtain ⟨z0, z1, z2, z3⟩ := HCE.out _ hSw; go_simp; (try with_reducible rfl)
                    simp only [Act.put, List.setIfInBounds_toArray, List.set_cons_zero, List.set_cons_succ]
                    refine wpAnyH_done (by kernel_rfl) ?_ _
                    generalize ((V3.setCell ⟨q, 0, none⟩ (.int .i64 lo)).setCell ⟨q, 1, none⟩ (.int .i64 hg)).setCell ⟨q, 2, none⟩ (.int .i64 mn) = W4 at *
                    have HA4 : Hid (Ar w W4 p g j S D ∧ W4.heap[q]? = some (.cells #[.int .i64 lo, .int .i64 hg, .int .i64 mn] 66 (0, 0)) ∧ wr.heap.size ≤ q) := ⟨HI.out.1.kept hS2, hq3, hq2⟩
                    clear hS0 hS1 hS2 hq1 hq2 hq3 HBX HCE wx1 hxj'
                    have hsm := HI.out.2.1.small HXX.out.1 HXX.out.2
                    rw [HV.out.1, HV.out.2.1, HV.out.2.2] at hsm
                    have b0 := cell_of_row _ _ 0 _ _ _ HA4.out.2.1
                    have b1 := cell_of_row _ _ 1 _ _ _ HA4.out.2.1
                    have b2 := cell_of_row _ _ 2 _ _ _ HA4.out.2.1
                    have w1 : wrap64 (hg - lo) = hg - lo := by have := HNB.out; unfold wrap64; omega
                    have w2 : wrap64 (hg - lo + 1) = hg - lo + 1 := by have := HNB.out; unfold wrap64; omega
                    have wm : wrap64 mn = mn := by have := HNB.out; unfold wrap64; omega
                    have HSM : Hid (0 ≤ lo ∧ lo ≤ j ∧ 0 ≤ hg ∧ hg ≤ j ∧ 0 ≤ mn ∧ mn ≤ j + 1) := hsm
                    clear hsm
                    have HCV : Hid (hg - lo + 1 = mn ↔ Cv j (un l) x) := by
                      have h := HI.out.2.1.cv HT.out HXX.out.1 HXX.out.2 HZ.out.2
                      rw [HV.out.1, HV.out.2.1, HV.out.2.2] at h
                      exact h
                    by_cases hcv : hg - lo + 1 = mn
                    · have HCC : Hid (Cv j (un l) x) := HCV.out.1 hcv
                      have q2 : (hg - lo + 1 != mn) = false := by simp [hcv]
                      have q2' : (hg - lo + 1 == mn) = true := by simp [hcv]
                      go_upto_region 22 with fail
                      clear b0 b1 b2 w1 w2 wm q2 q2' hcv
                      have hhj := HH.out.2
                      have hhm : (h : Int) < (m : Int) := by have := HM.out; omega
                      obtain ⟨lo2, hlo2⟩ : ∃ v, S (h * 3) = v := ⟨_, rfl⟩
                      obtain ⟨hg2, hhg2⟩ : ∃ v, S (h * 3 + 1) = v := ⟨_, rfl⟩
                      obtain ⟨mn2, hmn2⟩ : ∃ v, S (h * 3 + 2) = v := ⟨_, rfl⟩
                      have HV2 : Hid (S (h * 3) = lo2 ∧ S (h * 3 + 1) = hg2 ∧ S (h * 3 + 2) = mn2) := ⟨hlo2, hhg2, hmn2⟩
                      have HBY : Hid (∀ W, Kp (fun _ => False) W4 W → W.cell? ⟨p, h * 3, none⟩ = some (.int .i64 lo2) ∧ W.cell? ⟨p, h * 3 + 1, none⟩ = some (.int .i64 hg2) ∧ W.cell? ⟨p, h * 3 + 2, none⟩ = some (.int .i64 mn2) ∧ W.cell? ⟨q, 0, none⟩ = some (.int .i64 lo) ∧ W.cell? ⟨q, 1, none⟩ = some (.int .i64 hg) ∧ W.cell? ⟨q, 2, none⟩ = some (.int .i64 mn)) := fun W hW => by
                        have hA := HA4.out.1.kept hW
                        have c0 := hA.sp.cell (i := h * 3) (by omega)
                        have c1 := hA.sp.cell (i := h * 3 + 1) (by omega)
                        have c2 := hA.sp.cell (i := h * 3 + 2) (by omega)
                        have hb := (hW.block q (lt_at HA4.out.2.1) id).trans HA4.out.2.1
                        rw [HV2.out.1] at c0
                        rw [HV2.out.2.1] at c1
                        rw [HV2.out.2.2] at c2
                        exact ⟨c0, c1, c2, cell_of_row _ _ 0 _ _ _ hb, cell_of_row _ _ 1 _ _ _ hb, cell_of_row _ _ 2 _ _ _ hb⟩
                      clear hlo2 hhg2 hmn2
                      refine region_z (S := fun W => Kp (fun _ => False) W4 W) 9 (by kernel_rfl) (by exact (Kp.refl _ W4).drewN 1) (fun hHeld => ?_)
                      have hS0 : Kp (fun _ => False) W4 W4.drew := (Kp.refl _ _).drewN 1
                      generalize hV5 : W4.drew = V5 at *
                      clear hV5
                      refine take_z (z := 9) (i := 0) (oi := { dst := some 84, op := Op.move (Operand.tmp 3), type := 64, pos := "spans.go:24", after := #[], guard := none }) (v := ?_) (by kernel_rfl) (by decide) rfl (by kernel_rfl) (by kernel_rfl) (by kernel_rfl) (fun _ _ _ h => h) (Or.inl ⟨by rfl, ?_⟩) (by assumption) ?_
                      case refine_2 => intro w hSw; (try dsimp only at hSw); obtain ⟨z0, z1, z2, z3, z4, z5⟩ := HBY.out _ hSw; go_simp; (try with_reducible rfl)
                      simp only [Act.put, List.setIfInBounds_toArray, List.set_cons_zero, List.set_cons_succ]
                      refine take_z (z := 9) (i := 1) (oi := { dst := some 85, op := Op.move (Operand.tmp 11), type := 3, pos := "spans.go:24", after := #[], guard := none }) (v := ?_) (by kernel_rfl) (by decide) rfl (by kernel_rfl) (by kernel_rfl) (by kernel_rfl) (fun _ _ _ h => h) (Or.inl ⟨by rfl, ?_⟩) (by assumption) ?_
                      case refine_2 => intro w hSw; (try dsimp only at hSw); obtain ⟨z0, z1, z2, z3, z4, z5⟩ := HBY.out _ hSw; go_simp; (try with_reducible rfl)
                      simp only [Act.put, List.setIfInBounds_toArray, List.set_cons_zero, List.set_cons_succ]
                      refine take_z (z := 9) (i := 2) (oi := { dst := some 86, op := Op.move (Operand.tmp 3), type := 64, pos := "spans.go:24", after := #[], guard := none }) (v := ?_) (by kernel_rfl) (by decide) rfl (by kernel_rfl) (by kernel_rfl) (by kernel_rfl) (fun _ _ _ h => h) (Or.inl ⟨by rfl, ?_⟩) (by assumption) ?_
                      case refine_2 => intro w hSw; (try dsimp only at hSw); obtain ⟨z0, z1, z2, z3, z4, z5⟩ := HBY.out _ hSw; go_simp; (try with_reducible rfl)
                      simp only [Act.put, List.setIfInBounds_toArray, List.set_cons_zero, List.set_cons_succ]
                      refine take_z (z := 9) (i := 3) (oi := { dst := some 87, op := Op.move (Operand.tmp 11), type := 3, pos := "spans.go:24", after := #[], guard := none }) (v := ?_) (by kernel_rfl) (by decide) rfl (by kernel_rfl) (by kernel_rfl) (by kernel_rfl) (fun _ _ _ h => h) (Or.inl ⟨by rfl, ?_⟩) (by assumption) ?_
                      case refine_2 => intro w hSw; (try dsimp only at hSw); obtain ⟨z0, z1, z2, z3, z4, z5⟩ := HBY.out _ hSw; go_simp; (try with_reducible rfl)
                      simp only [Act.put, List.setIfInBounds_toArray, List.set_cons_zero, List.set_cons_succ]
                      refine take_z (z := 9) (i := 4) (oi := { dst := some 88, op := Op.indexAddr 64 (Operand.tmp 86) (Operand.tmp 87), type := 0, pos := "spans.go:24", after := #[{ on := 2, ground := Ground.data }, { on := 3, ground := Ground.data }], guard := none }) (v := ?_) (by kernel_rfl) (by decide) rfl (by kernel_rfl) (by kernel_rfl) (by kernel_rfl) (fun _ _ _ h => h) (Or.inl ⟨by rfl, ?_⟩) (by assumption) ?_
                      case refine_2 => intro w hSw; (try dsimp only at hSw); obtain ⟨z0, z1, z2, z3, z4, z5⟩ := HBY.out _ hSw; go_simp; (try with_reducible rfl)
                      simp only [Act.put, List.setIfInBounds_toArray, List.set_cons_zero, List.set_cons_succ]
                      refine take_z (z := 9) (i := 5) (oi := { dst := some 89, op := Op.load 66 (Operand.tmp 88), type := 66, pos := "spans.go:24", after := #[{ on := 4, ground := Ground.data }], guard := none }) (v := ?_) (by kernel_rfl) (by decide) rfl (by kernel_rfl) (by kernel_rfl) (by kernel_rfl) (fun _ _ _ h => h) (Or.inl ⟨by rfl, ?_⟩) (by assumption) ?_
                      case refine_2 => intro w hSw; (try dsimp only at hSw); obtain ⟨z0, z1, z2, z3, z4, z5⟩ := HBY.out _ hSw; go_simp; (try with_reducible rfl)
                      simp only [Act.put, List.setIfInBounds_toArray, List.set_cons_zero, List.set_cons_succ]
                      refine take_z (z := 9) (i := 6) (oi := { dst := some 90, op := Op.load 66 (Operand.tmp 10), type := 66, pos := "spans.go:24", after := #[], guard := none }) (v := ?_) (by kernel_rfl) (by decide) rfl (by kernel_rfl) (by kernel_rfl) (by kernel_rfl) (fun _ _ _ h => h) (Or.inl ⟨by rfl, ?_⟩) (by assumption) ?_
                      case refine_2 => intro w hSw; (try dsimp only at hSw); obtain ⟨z0, z1, z2, z3, z4, z5⟩ := HBY.out _ hSw; go_simp; (try with_reducible rfl)
                      simp only [Act.put, List.setIfInBounds_toArray, List.set_cons_zero, List.set_cons_succ]
                      refine ready_z (rs := [7]) (by kernel_rfl) (by simp) ?_
                      refine (AllZ.cons (o := { dst := some 91, op := Op.call { callee := Callee.value (Operand.func 46), args := #[Operand.tmp 89, Operand.tmp 90], argTypes := #[66, 66] }, type := 66, pos := "spans.go:24", after := #[{ on := 5, ground := Ground.data }, { on := 6, ground := Ground.data }], guard := none }) rfl (fun K hK => ?_) AllZ.nil)
                      have K46 := with_any lo2 hg2 mn2 lo hg mn V5
                      go_simp
                      (with_reducible refine K46.mono ?_)
                      clear K46
                      rintro e6 w6 ⟨rfl, hb6⟩
                      dsimp only
                      have hS1 : Kp (fun _ => False) W4 w6 := kp_then hS0 (kp_below hb6 (fun _ => False)) (fun _ _ e => e)
                      clear hb6
                      refine hK.out _ _ ?_ (fun hHeld => ?_)
                      · exact hS1
                      clear hK K
                      try simp only [Act.put, List.setIfInBounds_toArray, List.set_cons_zero, List.set_cons_succ]
                      refine take_z (z := 9) (i := 8) (oi := { dst := some 92, op := Op.indexAddr 64 (Operand.tmp 84) (Operand.tmp 85), type := 0, pos := "spans.go:24", after := #[{ on := 0, ground := Ground.data }, { on := 1, ground := Ground.data }, { on := 0, ground := Ground.phase }, { on := 1, ground := Ground.phase }, { on := 2, ground := Ground.phase }, { on := 3, ground := Ground.phase }, { on := 4, ground := Ground.phase }, { on := 5, ground := Ground.phase }, { on := 6, ground := Ground.phase }, { on := 7, ground := Ground.phase }], guard := none }) (v := ?_) (by kernel_rfl) (by decide) rfl (by kernel_rfl) (by kernel_rfl) (by kernel_rfl) (fun _ _ _ h => h) (Or.inl ⟨by rfl, ?_⟩) (by assumption) ?_
                      case refine_2 => intro w hSw; (try dsimp only at hSw); obtain ⟨z0, z1, z2, z3, z4, z5⟩ := HBY.out _ hSw; go_simp; (try with_reducible rfl)
                      simp only [Act.put, List.setIfInBounds_toArray, List.set_cons_zero, List.set_cons_succ]
                      refine ready_z (rs := [9]) (by kernel_rfl) (by simp) ?_
                      refine (AllZ.last (o := { dst := none, op := Op.store 66 (Operand.tmp 92) (Operand.tmp 91), type := 0, pos := "spans.go:24", after := #[{ on := 8, ground := Ground.data }, { on := 7, ground := Ground.data }, { on := 7, ground := Ground.chain }, { on := 0, ground := Ground.phase }, { on := 1, ground := Ground.phase }, { on := 2, ground := Ground.phase }, { on := 3, ground := Ground.phase }, { on := 4, ground := Ground.phase }, { on := 5, ground := Ground.phase }, { on := 6, ground := Ground.phase }, { on := 7, ground := Ground.phase }], guard := none }) rfl (fun K hK => ?_) AllZ.nil)
                      have HA6 : Hid (Ar w w6 p g j S D) := HA4.out.1.kept hS1
                      have y0 := HA6.out.sp.cell (i := h * 3) (by omega)
                      have y1 := HA6.out.sp.cell (i := h * 3 + 1) (by omega)
                      have y2 := HA6.out.sp.cell (i := h * 3 + 2) (by omega)
                      have f0 := HA6.out.sp.froz (h * 3)
                      have f1 := HA6.out.sp.froz (h * 3 + 1)
                      have f2 := HA6.out.sp.froz (h * 3 + 2)
                      have HA7 : Hid _ := HA6.out.set3 h (min lo2 lo) (max hg2 hg) (wrap64 (mn2 + mn)) hhj
                      go_simp
                      clear y0 y1 y2 f0 f1 f2
                      refine hK.out _ _ ?_
                      clear hK K
                      try simp only [Act.put, List.setIfInBounds_toArray, List.set_cons_zero, List.set_cons_succ]
                      refine done_z (by kernel_rfl) ?_ _
                      generalize ((w6.setCell ⟨p, h * 3, none⟩ (.int .i64 (min lo2 lo))).setCell ⟨p, h * 3 + 1, none⟩ (.int .i64 (max hg2 hg))).setCell ⟨p, h * 3 + 2, none⟩ (.int .i64 (wrap64 (mn2 + mn))) = W7 at *
                      have HA8 : Hid (Ar w W7 p g j (up3 S h (min lo2 lo) (max hg2 hg) (wrap64 (mn2 + mn))) D) := HA7.out
                      clear HA7 HA6 hS0 hS1 HBY
                      have HST : Hid (St j (un l) (tellT told x) (tellL L h x) (up3 S h (min lo2 lo) (max hg2 hg) (wrap64 (mn2 + mn))) (upC (upC D h (D h - 1)) x (-1))) := by
                        have hst := HI.out.2.1.step HT.out HXX.out.1 HXX.out.2 HZ.out.1 HZ.out.2 HCC.out (x := min lo2 lo) (y := max hg2 hg) (m := wrap64 (mn2 + mn)) (by
                          rw [HH.out.1, HV.out.1, HV.out.2.1, HV.out.2.2, HV2.out.1, HV2.out.2.1, HV2.out.2.2]
                          intro h1
                          have hs2 := HI.out.2.1.small h1 hhj
                          rw [HV2.out.2.2] at hs2
                          have := HSM.out
                          have := HNB.out
                          exact ⟨rfl, rfl, by unfold wrap64; omega⟩)
                        rw [HH.out.1] at hst
                        exact hst
                      have HUT : Hid (∀ y, 1 ≤ y → y ≤ fr → y ≠ h → tellT told x y = true ∨ kids j (un l) (tellT told x) y ≠ 0) := fun y h1 h2 h3 => by
                        by_cases e : y = x
                        · left; unfold tellT; simp [e]
                        · rcases HI.out.2.2.1 y h1 h2 e with h4 | h4
                          · left; unfold tellT; simp [h4]
                          · right; rw [kids_other (by rw [HH.out.1]; exact h3)]; exact h4
                      have HUL : Hid (untold j (tellT told x) < gk) := by
                        have h := untold_less HXX.out.1 HXX.out.2 HZ.out.1
                        rw [← HI.out.2.2.2] at h
                        exact h
                      have hdh := HI.out.2.1.dw h hhj
                      have hkl := @kids_le j (un l) told h
                      have HNE : Hid (h ≠ x) := by have := HT.out.ne HXX.out.1 HXX.out.2; rw [HH.out.1] at this; exact this
                      obtain ⟨dh, hdd⟩ : ∃ v, D h = v := ⟨_, rfl⟩
                      have wdh : wrap64 (dh - 1) = dh - 1 := by
                        have := HNB.out
                        rw [hdd] at hdh
                        unfold wrap64
                        by_cases e : told h = true
                        · rw [if_pos e] at hdh; omega
                        · rw [if_neg e] at hdh; omega
                      have y0 := HA8.out.wt.cell (i := h) (by omega)
                      have f0 := HA8.out.wt.froz h
                      rw [hdd] at y0
                      have HA9 : Hid (Ar w (W7.setCell ⟨g, h, none⟩ (.int .i64 (dh - 1))) p g j (up3 S h (min lo2 lo) (max hg2 hg) (wrap64 (mn2 + mn))) (upC D h (D h - 1))) := by
                        have h9 := HA8.out.setD h (D h - 1) (by omega)
                        rw [hdd] at h9 ⊢
                        exact h9
                      clear hdh hkl hdd
                      go_upto_region 24 with fail
                      clear y0 f0 wdh
                      generalize W7.setCell ⟨g, h, none⟩ (.int .i64 (dh - 1)) = W8 at *
                      have y0 := HA9.out.wt.cell (i := x) (by omega)
                      have f0 := HA9.out.wt.froz x
                      have HA10 : Hid _ := HA9.out.setD x (-1) (by omega)
                      go_upto_region 18 with fail
                      clear y0 f0
                      generalize W8.setCell ⟨g, x, none⟩ (.int .i64 (-1)) = W9 at *
                      have c0 := HC.out W9 HA10.out.below (x - 1) (by have := HXX.out; omega)
                      rw [show x - 1 + 1 = x by have := HXX.out; omega, HH.out.1] at c0
                      have hnb := HNB.out
                      go_wp2
                      go_roundg (untold j (tellT told x))
                      case measure => exact HUL.out
                      case rel => exact ⟨tellT told x, tellL L h x, _, _, h, rfl, hhj, HA10.out, HST.out, HUT.out, rfl⟩
                    · have HF : Hid (¬ Fl j (un l)) := fun hF => hcv (HCV.out.2 ((fl_cv HT.out).1 hF x HXX.out.1 HXX.out.2))
                      have q2 : (hg - lo + 1 == mn) = false := by simp [hcv]
                      go_wp2
                      try rw [Exit.noGoto_ret]
                      go_ret
                      exact ⟨false, rfl, ⟨fun h => by (cases h), fun h => absurd h HF.out⟩, HA4.out.1.below⟩
                  · have HK : Hid (∀ y, 1 ≤ y → y ≤ fr → told y = true ∨ kids j (un l) told y ≠ 0) := fun y h1 h2 => by
                      by_cases e : y = x
                      · subst e; exact HI.out.2.1.not_zero hx (by rw [HD.out]; exact hd0)
                      · exact HI.out.2.2.1 y h1 h2 e
                    have q1 : (d == 0) = false := by simp [hd0]
                    have hnb := HNB.out
                    go_wp2
                    go_roundw
                    case rel => exact ⟨fr, told, L, S, D, by rw [show ((fr : Nat) : Int) = (i : Int) + 1 by have := HFR.out; omega], by have := HFR.out; omega, HI.out.1, HI.out.2.1, HK.out⟩
                    case measure => have := HFR.out; simp [intOf]; omega
            · obtain rfl : i = j := by omega
              have HF : Hid (Fl i (un l)) := (fl_cv HT.out).2 fun x h1 h2 => HI.out.2.1.sp.cv x h1 h2 (all_told HT.out HI.out.2.2 x h1 h2)
              have hii : ¬ (i : Int) < (i : Int) := by omega
              go_wp2
              try rw [Exit.noGoto_ret]
              go_ret
              exact ⟨true, rfl, ⟨fun _ => HF.out, fun _ => rfl⟩, HI.out.1.below⟩
set_option maxHeartbeats 2000000 in
set_option maxRecDepth 100000 in
theorem flat_any (l : List Int) (a : Option Addr) (cap : Nat) (w : World) (hR : Rl w a l) (hN : l.length ≤ 1200000) :
    Calls Try.prog 13 #[.slice a l.length cap] w (SayQ (isTr l ∧ Fl l.length (un l)) w) := by
  have K11 := tree_any l a cap w hR hN
  by_cases hT : isTr l
  · have K33 : Hid (∀ W, Below w.heap.size w W → Calls Try.prog 33 #[.slice a l.length cap] W (SayQ (Fl l.length (un l)) W)) := fun W hW => areSpans_any l a cap W (hR.below hW) hN hT
    have HT : Hid (isTr l) := hT
    obtain ⟨n, hn⟩ : ∃ n, l.length = n := ⟨_, rfl⟩
    rw [hn] at K11 K33 ⊢
    clear hR hN hn hT
    go_enter Try.func13, Try.ntmps13
    go_wp2_with (first | (go_at_call 11; (with_reducible refine K11.mono ?_); clear K11; rintro e w1 ⟨z, rfl, hz, hb⟩; have HB : Hid (Below w.heap.size w w1) := hb; obtain rfl : z = true := hz.2 HT.out; have K := K33.out w1 hb; clear hz hb) | (go_at_call 33; (with_reducible refine K.mono ?_); clear K; rintro e w2 ⟨z, rfl, hz, hb⟩; have HZ : Hid ((z = true ↔ Fl n (un l)) ∧ Below w.heap.size w w2) := ⟨hz, HB.out.trans (hb.mono HB.out.size)⟩; clear hz hb))
    go_ret
    exact ⟨z, rfl, ⟨fun h => ⟨HT.out, HZ.out.1.1 h⟩, fun h => HZ.out.1.2 h.2⟩, HZ.out.2⟩
  · have HT : Hid (¬ isTr l) := hT
    obtain ⟨n, hn⟩ : ∃ n, l.length = n := ⟨_, rfl⟩
    rw [hn] at K11 ⊢
    clear hR hN hn hT
    go_enter Try.func13, Try.ntmps13
    go_wp2_with (go_at_call 11; (with_reducible refine K11.mono ?_); clear K11; rintro e w1 ⟨z, rfl, hz, hb⟩; have HB : Hid (Below w.heap.size w w1) := hb; obtain rfl : z = false := eq_false_of_ne_true (fun e => HT.out (hz.1 e)); clear hz hb)
    go_ret
    exact ⟨false, rfl, ⟨fun h => by (cases h), fun h => absurd h.1 HT.out⟩, HB.out⟩
end Go.Proofs.Ytpolnkdbebjpnaa.Hd
