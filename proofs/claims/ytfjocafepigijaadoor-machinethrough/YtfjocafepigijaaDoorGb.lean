/- newCouple: the arcs of the second machine by what they read. Conditions: few states, few arcs of each. -/
import Derived.Test.YtfjocafepigijaaDoorSkM
import Derived.Test.YtfjocafepigijaaDoorPvM
namespace Go.Proofs.YtfjocafepigijaaDoor.Cu
open Go.RowKit Mv Qp Sk Po Ps Wd Se Mp St Cm Nm Nx Ra Am Tc
open CR (nc)

theorem lt_nb {w wr : World} {C nb SB N m : Nat} {vf vg : Value} {gs : List Nat} {G : Nat → List Arc} {V : Nat → Value} {vs : List Value} (h : Nc w wr C nb SB N m vf vg gs G V vs) : nb < wr.heap.size := (h.nums.lt nb rfl).2
theorem cell_alloc_old (w : World) (o : Obj) {b j : Nat} {v : Value} (hb : b < w.heap.size) (h : w.cell? ⟨b, j, none⟩ = some v) : (w.alloc o).cell? ⟨b, j, none⟩ = some v := (World.cell?_of_block (w := w) (heap_alloc_old w o hb)).trans h
theorem cell_grown {w w' : World} {row : Option Nat} (hg : w.grownBy w' row) {b j : Nat} (hb : b < w.heap.size) (hne : some b ≠ row) : w'.cell? ⟨b, j, none⟩ = w.cell? ⟨b, j, none⟩ := World.cell?_of_block (w := w) (hg.block b hb hne)
theorem cell_set_other (w : World) (g i : Nat) (v : Value) {b j : Nat} (hne : b ≠ g) : (w.setCell ⟨g, i, none⟩ v).cell? ⟨b, j, none⟩ = w.cell? ⟨b, j, none⟩ := World.cell?_of_block (w := w) (heap_setCell_other w ⟨g, i, none⟩ b v hne)
theorem adn_len {G : Nat → List Arc} {n g : Nat} {a : Arc} (h : ∀ k, (G k).length ≤ n) : ∀ k, (adn G g a k).length ≤ n + 1 := fun k => by
  unfold adn
  have := h k
  split
  · rw [List.length_append]; simp; omega
  · omega
theorem one_nil : ∀ x ∈ [nilS], x.oneCell' = true := by
  intro x hx
  rw [List.mem_singleton] at hx
  subst hx
  rfl
theorem cell_nil_at (w : World) (g : Nat) (hg : g = w.heap.size) : ∀ j u, [nilS][j]? = some u → (w.alloc (.cells #[.slice none 0 0] 22)).cell? ((⟨g, 0, none⟩ : Addr).add j) = some u := by
  intro j u hj
  subst hg
  match j, hj with
  | 0, hj => simp at hj; subst hj; simp [Addr.add, nilS]
set_option maxHeartbeats 8000000 in
set_option maxRecDepth 100000 in
theorem couple_any (SA SB fb sb : Nat) (F R : Nat → List Arc) (w : World) (HF : Hid (Rws w fb SA F)) (HRw : Hid (Rws w sb SB R)) (hS : SB ≤ 40) (h0 : 0 < SB) (HAR : Hid (∀ q, q < SB → ∀ a ∈ R q, ∃ s : Nat, a.2.2.1 = (s : Int) ∧ s ≤ 60)) (HRL : Hid (∀ q, q < SB → (R q).length ≤ 120)) :
    Calls Tryd.prog 38 #[.slice (some ⟨fb, 0, none⟩) SA SA, .slice (some ⟨sb, 0, none⟩) SB SB] w fun e w' => ∃ C gb gc nb m gs G, e = .returned (.pointer (some ⟨C, 0, none⟩)) ∧ IsCp w' C SA SB F R fb gb gc nb m gs G ∧ Below w.heap.size w w' := by
  obtain ⟨N, hN, hw, hw'⟩ : ∃ N : Nat, N = SB * 61 ∧ wrap64 ((SB : Int) * 61) = (N : Int) ∧ IntKind.i64.wrap ((SB : Int) * 61) = (N : Int) := ⟨SB * 61, rfl, by unfold wrap64; omega, by rw [IntKind.wrap_i64]; omega⟩
  have hN2 : N ≤ 129600 := by omega
  have hmk1 := Nx.run_mk 1 (by decide)
  have hmk2 := run_mk26 N hN2
  rw [show ((1 : Nat) : Int) = 1 from rfl] at hmk1
  obtain ⟨i0, hi, hz0, hz1, hz2⟩ := info_parts info36
  obtain ⟨i2, hi2, hy0, hy1, hy2⟩ := info_parts info22
  obtain ⟨M1, hM1⟩ : ∃ m, m = mc 1 := ⟨_, rfl⟩
  obtain ⟨M2, hM2⟩ : ∃ m, m = madeCells #[.int .i64 0] N := ⟨_, rfl⟩
  rw [← hM1] at hmk1
  rw [← hM2] at hmk2
  have HM1 : Hid (M1 = mc 1) := hM1
  have HM2 : Hid (M2 = madeCells #[.int .i64 0] N) := hM2
  have HN2 : Hid (N ≤ 129600) := hN2
  have HN : Hid (N = SB * 61) := hN
  clear hM1 hM2 hN2 hN
  go_enter Tryd.func38, Tryd.ntmps38
  go_upto_region 1 with fail
  go_cut [5] from 11 to 20 (fun s5 wx => ∃ (C nb : Nat) (vg : Value), s5 = .pointer (some ⟨C, 0, none⟩) ∧ Nc w wx C nb SB N 1 (.slice (some ⟨fb, 0, none⟩) SA SA) vg (List.replicate N 0) (fun _ => []) (fun _ => nilS) [nilS])
  case first =>
    go_region
    all_goals (go_wp2_with fail; go_meet)
    all_goals (first | exact ⟨_, _, _, rfl, (by have := ncA w SB N (.slice (some ⟨fb, 0, none⟩) SA SA) HN2.out; rw [← HM1.out, ← HM2.out] at this; exact this.drew)⟩ | exact ⟨_, _, _, rfl, (by have := ncB w SB N (.slice (some ⟨fb, 0, none⟩) SA SA) HN2.out; rw [← HM1.out, ← HM2.out] at this; exact this.drew)⟩)
  case rest =>
  obtain ⟨C, nb, vg, rfl, hN0⟩ := hcut
  have HN0 : Hid (Nc w wc C nb SB N 1 (.slice (some ⟨fb, 0, none⟩) SA SA) vg (List.replicate N 0) (fun _ => []) (fun _ => nilS) [nilS]) := hN0
  clear hN0 hmk1 hmk2 hw hw'
  go_wp2
  go_loopw [23] (fun a wr => ∃ (q m : Nat) (vg : Value) (gs : List Nat) (G : Nat → List Arc) (V : Nat → Value) (vs : List Value), a = .int .i64 q ∧ q ≤ SB ∧ Nc w wr C nb SB N m (.slice (some ⟨fb, 0, none⟩) SA SA) vg gs G V vs ∧ Sem SB m gs G (Rr R q 0) ∧ m ≤ 1 + 120 * q ∧ ∀ k, (G k).length ≤ 120 * q) (fun a _ => SB - (intOf a).toNat)
  case atStart => exact ⟨0, 1, vg, _, _, _, _, rfl, Nat.zero_le _, HN0.out, by rw [Rr_zero]; have := Sem.begun SB; rw [← HN.out] at this; exact this, Nat.le_refl _, fun _ => Nat.le_refl _⟩
  case round =>
    clear HN0
    obtain ⟨q, m, vg, gs, G, Vx, vs, rfl, hq, hNc, hsem, hmb, hgl⟩ := hrel
    by_cases hlt : q < SB
    · obtain ⟨aq, cq, hcq, hrow⟩ := HRw.out.2 q hlt
      have HRo : Hid (Mv.Row w (.slice aq (R q).length cq) 5 (R q).length (acs (R q))) := hrow
      have u := (hNc.below.cell (p := ⟨sb, q, none⟩) HRw.out.1).trans hcq
      have HNc : Hid (Nc w wr C nb SB N m (.slice (some ⟨fb, 0, none⟩) SA SA) vg gs G Vx vs) := hNc
      have HSE : Hid (Sem SB m gs G (Rr R q 0)) := hsem
      have HMB : Hid (m ≤ 1 + 120 * q) := hmb
      have HGL : Hid (∀ k, (G k).length ≤ 120 * q) := hgl
      have hlen := HRL.out q hlt
      obtain ⟨n, hn⟩ : ∃ n, (R q).length = n := ⟨_, rfl⟩
      have HLN : Hid ((R q).length = n) := hn
      rw [hn] at u hlen
      have hqs : q < 40 := by omega
      clear hrow hcq hNc hsem hmb hgl hn
      go_wp2
      go_loopw [30] (fun a wr => ∃ (y m : Nat) (vg : Value) (gs : List Nat) (G : Nat → List Arc) (V : Nat → Value) (vs : List Value), a = .int .i64 y ∧ y ≤ n ∧ Nc w wr C nb SB N m (.slice (some ⟨fb, 0, none⟩) SA SA) vg gs G V vs ∧ Sem SB m gs G (Rr R q y) ∧ m ≤ 1 + 120 * q + y ∧ ∀ k, (G k).length ≤ 120 * q + y) (fun a _ => n - (intOf a).toNat)
      case atStart => exact ⟨0, m, vg, gs, G, Vx, vs, rfl, Nat.zero_le _, HNc.out, HSE.out, HMB.out, HGL.out⟩
      case round =>
        clear HNc HSE HMB HGL u
        obtain ⟨y, m, vg, gs, G, Vx, vs, rfl, hy, hNc, hsem, hmb, hgl⟩ := hrel
        have HNc : Hid (Nc w wr C nb SB N m (.slice (some ⟨fb, 0, none⟩) SA SA) vg gs G Vx vs) := hNc
        have HSE : Hid (Sem SB m gs G (Rr R q y)) := hsem
        have HMB0 : Hid (m ≤ 1 + 120 * q + y) := hmb
        have HGL : Hid (∀ k, (G k).length ≤ 120 * q + y) := hgl
        by_cases hlt : y < n
        · have hyl : y < (R q).length := by rw [HLN.out]; exact hlt
          obtain ⟨b, off, rfl, hbl, hcs⟩ : ∃ b off, aq = some ⟨b, off, none⟩ ∧ b < w.heap.size ∧ ∀ j u, (acs (R q))[j]? = some u → wr.cell? ⟨b, off + j, none⟩ = some u := by
            obtain ⟨_, a', c', e, _, hr⟩ := HRo.out
            cases e
            obtain ⟨b, off, e, hb, hc⟩ := hr.resolve_left (by omega)
            exact ⟨b, off, e, hb, fun j u hu => (hNc.below.cell hb).trans (hc j u hu)⟩
          have u := acs_at (R q) y hyl
          obtain ⟨s, hsa, hs⟩ := HAR.out q ‹q < SB› _ (List.getElem_mem hyl)
          obtain ⟨fI, tI, iI, oI, xI, ea⟩ : ∃ f t i1 o1 x, (R q)[y] = (f, t, i1, o1, x) := ⟨_, _, _, _, _, rfl⟩
          rw [ea] at u hsa
          dsimp only at hsa
          subst hsa
          have p0 := hcs _ _ u.1
          have p1 := hcs _ _ u.2.1
          have p2 := hcs _ _ u.2.2.1
          have p3 := hcs _ _ u.2.2.2.1
          have p4 := hcs _ _ u.2.2.2.2
          rw [← Nat.add_assoc] at p1 p2 p3 p4
          have HTK : Hid (Rr R q (y + 1) = adn (Rr R q y) q (fI, tI, (s : Int), oI, xI)) := by show _ = _; rw [Rr_up R q y hyl, ea]
          have hXN : q * 61 + s < N := by rw [HN.out]; exact at_lt ‹q < SB› hs
          have hXi : (q : Int) * 61 + (s : Int) < (N : Int) := by omega
          have hX0 : 0 ≤ (q : Int) * 61 + (s : Int) := by omega
          have hXt : ((q : Int) * 61 + (s : Int)).toNat = q * 61 + s := by omega
          obtain ⟨gb, cap, rfl⟩ := hNc.head_slice hsem.pos
          have HR : Hid (Nc w (wr.alloc (.cells #[.int .i64 fI, .int .i64 tI, .int .i64 (s : Int), .int .i64 oI, .int .i64 xI] 64)) C nb SB N m (.slice (some ⟨fb, 0, none⟩) SA SA) (.slice (some ⟨gb, 0, none⟩) m cap) gs G Vx vs) := hNc.alloc _
          have hx := heap_alloc_new wr (.cells #[.int .i64 fI, .int .i64 tI, .int .i64 (s : Int), .int .i64 oI, .int .i64 xI] 64)
          have HBX : Hid ((∀ k, (Vx k).ownBlock ≠ some wr.heap.size) ∧ wr.heap.size ≠ C ∧ wr.heap.size ≠ nb ∧ wr.heap.size ≠ gb) := ⟨fun k e => by have := ((hNc.rows k).lt _ e).2; omega, fun e => by have := lt_at hNc.row; omega, fun e => by have := (hNc.nums.lt nb rfl).2; omega, fun e => by have := (hNc.heads.lt gb rfl).2; omega⟩
          have hqB : Hid (q < SB) := ‹q < SB›
          obtain ⟨g, hg⟩ : ∃ g, gs.getD (q * 61 + s) 0 = g := ⟨_, rfl⟩
          have HG : Hid (gs.getD (q * 61 + s) 0 = g) := hg
          have hm5 : m ≤ 5000 := by omega
          clear u hcs ea hNc hsem hmb hgl HNc hg
          go_upto_region 9 with fail
          have y3 := cell_of_row _ _ 3 _ _ _ HR.out.row
          have y4 := HR.out.cellN hXN
          rw [HG.out] at y4
          clear p0 p1 p2 p3 p4
          generalize hV : wr.alloc (.cells #[.int .i64 fI, .int .i64 tI, .int .i64 (s : Int), .int .i64 oI, .int .i64 xI] 64) = V at *
          clear hV
          generalize wr.heap.size = bx at *
          have hxn := HBX.out.2.2.1
          have hgB : ¬ bx = gb := HBX.out.2.2.2
          by_cases hg0 : g = 0
          · subst hg0
            go_upto_region 10 with fail
            clear y3 y4
            have HCE : Hid _ := fun (W : World) (hSw : W.heap[C]? = some (.cells #[.int .i64 (SB : Int), .slice (some ⟨fb, 0, none⟩) SA SA, .slice (some ⟨gb, 0, none⟩) m cap, .slice (some ⟨nb, 0, none⟩) N N] 129 (0, 0))) => (And.intro (cell_of_row _ _ 2 _ _ _ hSw) (cell_of_row _ _ 3 _ _ _ hSw))
            refine wp_region_held_drew (S := fun W => W.heap[C]? = some (.cells #[.int .i64 (SB : Int), .slice (some ⟨fb, 0, none⟩) SA SA, .slice (some ⟨gb, 0, none⟩) m cap, .slice (some ⟨nb, 0, none⟩) N N] 129 (0, 0))) (by kernel_rfl) (by exact HR.out.row) (fun hHeld => ?_)
            have HR0 : Hid _ := HR.out.drew
            have hx0 : V.drew.heap[bx]? = _ := hx
            clear HR hx
            generalize hV : V.drew = V0 at *
            clear hV
            refine tk (v := ?_) 0 { dst := some 47, op := .move (.tmp 5), type := 71, pos := "through.go:82", after := #[], guard := none } (by rfl) ?_ ?_
            case refine_2 => intro w hSw; (try dsimp only at hSw); obtain ⟨z2, z3⟩ := HCE.out _ hSw; go_simp; (try with_reducible rfl)
            simp only [Act.put, zS0, zS1, zS2]
            refine tk (v := ?_) 1 { dst := some 48, op := .nilCheck (.tmp 47), type := 0, pos := "through.go:82", after := #[⟨0, .data⟩], guard := none } (by rfl) ?_ ?_
            case refine_2 => intro w hSw; (try dsimp only at hSw); obtain ⟨z2, z3⟩ := HCE.out _ hSw; go_simp; (try with_reducible rfl)
            simp only [Act.put, zS0, zS1, zS2]
            refine tk (v := ?_) 2 { dst := some 49, op := .fieldAddr 129 (.tmp 48) 3, type := 0, pos := "through.go:82", after := #[⟨1, .data⟩], guard := none } (by rfl) ?_ ?_
            case refine_2 => intro w hSw; (try dsimp only at hSw); obtain ⟨z2, z3⟩ := HCE.out _ hSw; go_simp; (try with_reducible rfl)
            simp only [Act.put, zS0, zS1, zS2]
            refine tk (v := ?_) 3 { dst := some 50, op := .load 26 (.tmp 49), type := 26, pos := "through.go:82", after := #[⟨2, .data⟩], guard := none } (by rfl) ?_ ?_
            case refine_2 => intro w hSw; (try dsimp only at hSw); obtain ⟨z2, z3⟩ := HCE.out _ hSw; go_simp; (try with_reducible rfl)
            simp only [Act.put, zS0, zS1, zS2]
            refine tk (v := ?_) 4 { dst := some 51, op := .move (.tmp 10), type := 3, pos := "through.go:82", after := #[], guard := none } (by rfl) ?_ ?_
            case refine_2 => intro w hSw; (try dsimp only at hSw); obtain ⟨z2, z3⟩ := HCE.out _ hSw; go_simp; (try with_reducible rfl)
            simp only [Act.put, zS0, zS1, zS2]
            refine tk (v := ?_) 5 { dst := some 52, op := .move (.tmp 5), type := 71, pos := "through.go:82", after := #[], guard := none } (by rfl) ?_ ?_
            case refine_2 => intro w hSw; (try dsimp only at hSw); obtain ⟨z2, z3⟩ := HCE.out _ hSw; go_simp; (try with_reducible rfl)
            simp only [Act.put, zS0, zS1, zS2]
            refine tk (v := ?_) 6 { dst := some 53, op := .nilCheck (.tmp 52), type := 0, pos := "through.go:82", after := #[⟨5, .data⟩], guard := none } (by rfl) ?_ ?_
            case refine_2 => intro w hSw; (try dsimp only at hSw); obtain ⟨z2, z3⟩ := HCE.out _ hSw; go_simp; (try with_reducible rfl)
            simp only [Act.put, zS0, zS1, zS2]
            refine tk (v := ?_) 7 { dst := some 54, op := .fieldAddr 129 (.tmp 53) 2, type := 0, pos := "through.go:82", after := #[⟨6, .data⟩], guard := none } (by rfl) ?_ ?_
            case refine_2 => intro w hSw; (try dsimp only at hSw); obtain ⟨z2, z3⟩ := HCE.out _ hSw; go_simp; (try with_reducible rfl)
            simp only [Act.put, zS0, zS1, zS2]
            refine tk (v := ?_) 8 { dst := some 55, op := .load 73 (.tmp 54), type := 73, pos := "through.go:82", after := #[⟨7, .data⟩], guard := none } (by rfl) ?_ ?_
            case refine_2 => intro w hSw; (try dsimp only at hSw); obtain ⟨z2, z3⟩ := HCE.out _ hSw; go_simp; (try with_reducible rfl)
            simp only [Act.put, zS0, zS1, zS2]
            refine tk (v := ?_) 9 { dst := some 56, op := .call { callee := .builtin .len, args := #[.tmp 55], argTypes := #[73] }, type := 3, pos := "through.go:82", after := #[⟨8, .data⟩], guard := none } (by rfl) ?_ ?_
            case refine_2 => intro w hSw; (try dsimp only at hSw); obtain ⟨z2, z3⟩ := HCE.out _ hSw; go_simp; (try with_reducible rfl)
            simp only [Act.put, zS0, zS1, zS2]
            refine tk (v := ?_) 10 { dst := some 57, op := .indexAddr 26 (.tmp 50) (.tmp 51), type := 0, pos := "through.go:82", after := #[⟨3, .data⟩, ⟨4, .data⟩, ⟨0, .phase⟩, ⟨1, .phase⟩, ⟨2, .phase⟩, ⟨3, .phase⟩, ⟨4, .phase⟩, ⟨5, .phase⟩, ⟨6, .phase⟩, ⟨7, .phase⟩, ⟨8, .phase⟩, ⟨9, .phase⟩], guard := none } (by rfl) ?_ ?_
            case refine_2 => intro w hSw; (try dsimp only at hSw); obtain ⟨z2, z3⟩ := HCE.out _ hSw; go_simp; (try with_reducible rfl)
            simp only [Act.put, zS0, zS1, zS2]
            refine wpAnyH_ready (rs := [11]) (by kernel_rfl) (by simp) ?_
            refine (AllReadyH.cons (o := { dst := none, op := .store 3 (.tmp 57) (.tmp 56), type := 0, pos := "through.go:82", after := #[⟨10, .data⟩, ⟨9, .data⟩, ⟨0, .phase⟩, ⟨1, .phase⟩, ⟨2, .phase⟩, ⟨3, .phase⟩, ⟨4, .phase⟩, ⟨5, .phase⟩, ⟨6, .phase⟩, ⟨7, .phase⟩, ⟨8, .phase⟩, ⟨9, .phase⟩], guard := none }) rfl (fun K hK => ?_) AllReadyH.nil)
            have c7 := HR0.out.cellN hXN
            have f7 := HR0.out.nums.frozenAt (q * 61 + s)
            go_simp
            have HR1 : Hid _ := HR0.out.num (q * 61 + s) m
            have hS1 := HR1.out.row
            have hx1 := (heap_setCell_other V0 ⟨nb, q * 61 + s, none⟩ bx (.int .i64 (m : Int)) hxn).trans hx0
            refine hK.out _ _ ?_ (fun hHeld => ?_)
            · exact hS1
            clear hK K
            try simp only [Act.put, zS0, zS1, zS2]
            clear c7 f7 HR0 hx0 HCE
            generalize hV : V0.setCell ⟨nb, q * 61 + s, none⟩ (.int .i64 (m : Int)) = V1 at *
            clear hV
            refine wpAnyH_done (by kernel_rfl) ?_ _
            have yc := cell_of_row _ _ 2 _ _ _ HR1.out.row
            go_upto_region 12 with (refine wpList_append_own_at _ rfl _ _ 73 rfl w.heap.size 22 i2 (.slice none 0 0) 1 24 Tryd.underlying73 hi2 hy0 hy1 hy2 rfl (by decide) _ _ _ rfl (HR1.out.heads.alloc _) ⟨_, 0, none⟩ 1 1 [nilS] rfl rfl (cell_nil_at _ _ rfl) one_nil (by unfold maxLen; omega) (by omega) (Nat.le_trans HR1.out.below.size (by simp)) ?_; intro v1 w3 ho1 hg1 _ hl1; obtain ⟨g2, c2, rfl, _, _⟩ := own_some ho1 (Nat.succ_pos _); have hG1 := (HR1.out.alloc (.cells #[.slice none 0 0] 22)).grow ho1 hg1; have hxw := (hg1.block bx (by simp; exact Nat.lt_succ_of_lt (lt_get hx1)) (fun e => hgB (Option.some.inj e))).trans ((heap_alloc_old V1 (.cells #[.slice none 0 0] 22) (lt_get hx1)).trans hx1); have yq := cell_of_row _ _ 2 _ _ _ hG1.1; have fq := frozen_of_row _ _ 2 _ 129 hG1.1; have HR2 : Hid _ := hG1.2; have HNG : Hid (g2 = gb ∨ V1.heap.size ≤ g2) := (hl1.imp (fun e => Option.some.inj e) (fun e => by have := Option.some.inj e; simp at this; omega)); clear ho1 hg1 hl1 hG1)
            have hgm : m < m + 1 := Nat.lt_succ_self m
            have hgi : (m : Int) < (m : Int) + 1 := by omega
            have hx : (w3.setCell ⟨C, 2, none⟩ (.slice (some ⟨g2, 0, none⟩) (m + 1) c2)).heap[bx]? = _ := (heap_setCell_other w3 ⟨C, 2, none⟩ bx _ HBX.out.2.1).trans hxw
            have HR : Hid (Nc w (w3.setCell ⟨C, 2, none⟩ (.slice (some ⟨g2, 0, none⟩) (m + 1) c2)) C nb SB N (m + 1) (.slice (some ⟨fb, 0, none⟩) SA SA) (.slice (some ⟨g2, 0, none⟩) (m + 1) c2) (gs.set (q * 61 + s) m) G Vx (vs ++ [nilS])) := HR2.out
            have HGS : Hid ((gs.set (q * 61 + s) m).getD (q * 61 + s) 0 = m) := by show _ = _; rw [getD_set gs _ _ _ (by have := HR.out.nlen; rw [List.length_set] at this; omega), if_pos rfl]
            have hxg := HR.out.cellN hXN
            rw [HGS.out] at hxg
            have HS1 : Hid (Sem SB (m + 1) (gs.set (q * 61 + s) m) (adn G m (fI, tI, (s : Int), oI, xI)) (adn (Rr R q y) q (fI, tI, (s : Int), oI, xI))) := (HSE.out.fresh (by rw [← HN.out]; exact hXN) (by have := HR.out.nlen; rw [List.length_set] at this; rw [← HN.out]; exact this) HG.out).more hqB.out hs rfl HGS.out (by have := HSE.out.pos; omega)
            have HMB : Hid (m + 1 ≤ 1 + 120 * q + (y + 1)) := Nat.succ_le_succ HMB0.out
            have HGB : Hid (∀ k, (adn G m (fI, tI, (s : Int), oI, xI) k).length ≤ 120 * q + (y + 1)) := adn_len HGL.out
            have hgB2 : ¬ bx = g2 := fun e => by rcases HNG.out with h | h
                                                 · exact hgB (e.trans h)
                                                 · have := lt_get hx1; omega
            clear hgB hx1 hxw yq fq yc HR1 HR2
            have hgB := hgB2
            clear hgB2
            generalize hV : w3.setCell ⟨C, 2, none⟩ (.slice (some ⟨g2, 0, none⟩) (m + 1) c2) = V at *
            clear hV
            obtain ⟨v0, hv0⟩ : ∃ v, Vx m = v := ⟨_, rfl⟩
            have HV0 : Hid (Vx m = v0) := hv0
            have hvB : ¬ v0.ownBlock = some bx := fun e => by rw [← hv0] at e; obtain ⟨c, hc⟩ := own_ty (HR.out.rows m) e; exact HBX.out.1 m e
            have hvC : ¬ v0.ownBlock = some C := fun e => by rw [← hv0] at e; exact HR.out.ne.2.2.2.2.1 m e
            have hvN : ¬ v0.ownBlock = some nb := fun e => by rw [← hv0] at e; exact HR.out.ne.2.2.2.1 m e
            have hgC : ¬ C = g2 := fun e => HR.out.ne.2.2.1 (by rw [e]; rfl)
            have hgN : ¬ nb = g2 := fun e => HR.out.ne.2.1 (by rw [e]; rfl)
            clear hv0
            have HCE : Hid _ := fun (W : World) (hSw : W.heap[bx]? = some (.cells #[.int .i64 fI, .int .i64 tI, .int .i64 (s : Int), .int .i64 oI, .int .i64 xI] 64 (0, 0)) ∧ W.heap[C]? = some (.cells #[.int .i64 (SB : Int), .slice (some ⟨fb, 0, none⟩) SA SA, .slice (some ⟨g2, 0, none⟩) (m + 1) c2, .slice (some ⟨nb, 0, none⟩) N N] 129 (0, 0)) ∧ W.cell? ⟨nb, q * 61 + s, none⟩ = some (.int .i64 (m : Nat))) => (And.intro (cell_of_row _ _ 0 _ _ _ hSw.1) (And.intro (cell_of_row _ _ 1 _ _ _ hSw.1) (And.intro (cell_of_row _ _ 2 _ _ _ hSw.1) (And.intro (cell_of_row _ _ 3 _ _ _ hSw.1) (And.intro (cell_of_row _ _ 4 _ _ _ hSw.1) (And.intro (cell_of_row _ _ 2 _ _ _ hSw.2.1) (And.intro (cell_of_row _ _ 3 _ _ _ hSw.2.1) (hSw.2.2))))))))
            refine wp_region_held_drew (S := fun W => W.heap[bx]? = some (.cells #[.int .i64 fI, .int .i64 tI, .int .i64 (s : Int), .int .i64 oI, .int .i64 xI] 64 (0, 0)) ∧ W.heap[C]? = some (.cells #[.int .i64 (SB : Int), .slice (some ⟨fb, 0, none⟩) SA SA, .slice (some ⟨g2, 0, none⟩) (m + 1) c2, .slice (some ⟨nb, 0, none⟩) N N] 129 (0, 0)) ∧ W.cell? ⟨nb, q * 61 + s, none⟩ = some (.int .i64 (m : Nat))) (by kernel_rfl) (by exact ⟨hx, HR.out.row, hxg⟩) (fun hHeld => ?_)
            have HR0 : Hid _ := HR.out.drew
            have hx0 := hHeld
            clear HR hx hxg
            generalize hV : V.drew = V0 at *
            clear hV
            refine tk (v := ?_) 0 { dst := some 67, op := .move (.tmp 5), type := 71, pos := "through.go:85", after := #[], guard := none } (by rfl) ?_ ?_
            case refine_2 => intro w hSw; (try dsimp only at hSw); obtain ⟨z0, z1, z2, z3, z4, y2, y3, y4⟩ := HCE.out _ hSw; go_simp; (try with_reducible rfl)
            simp only [Act.put, zS0, zS1, zS2]
            refine tk (v := ?_) 1 { dst := some 68, op := .nilCheck (.tmp 67), type := 0, pos := "through.go:85", after := #[⟨0, .data⟩], guard := none } (by rfl) ?_ ?_
            case refine_2 => intro w hSw; (try dsimp only at hSw); obtain ⟨z0, z1, z2, z3, z4, y2, y3, y4⟩ := HCE.out _ hSw; go_simp; (try with_reducible rfl)
            simp only [Act.put, zS0, zS1, zS2]
            refine tk (v := ?_) 2 { dst := some 69, op := .fieldAddr 129 (.tmp 68) 2, type := 0, pos := "through.go:85", after := #[⟨1, .data⟩], guard := none } (by rfl) ?_ ?_
            case refine_2 => intro w hSw; (try dsimp only at hSw); obtain ⟨z0, z1, z2, z3, z4, y2, y3, y4⟩ := HCE.out _ hSw; go_simp; (try with_reducible rfl)
            simp only [Act.put, zS0, zS1, zS2]
            refine tk (v := ?_) 3 { dst := some 70, op := .load 73 (.tmp 69), type := 73, pos := "through.go:85", after := #[⟨2, .data⟩], guard := none } (by rfl) ?_ ?_
            case refine_2 => intro w hSw; (try dsimp only at hSw); obtain ⟨z0, z1, z2, z3, z4, y2, y3, y4⟩ := HCE.out _ hSw; go_simp; (try with_reducible rfl)
            simp only [Act.put, zS0, zS1, zS2]
            refine tk (v := ?_) 4 { dst := some 71, op := .move (.tmp 5), type := 71, pos := "through.go:85", after := #[], guard := none } (by rfl) ?_ ?_
            case refine_2 => intro w hSw; (try dsimp only at hSw); obtain ⟨z0, z1, z2, z3, z4, y2, y3, y4⟩ := HCE.out _ hSw; go_simp; (try with_reducible rfl)
            simp only [Act.put, zS0, zS1, zS2]
            refine tk (v := ?_) 5 { dst := some 72, op := .nilCheck (.tmp 71), type := 0, pos := "through.go:85", after := #[⟨4, .data⟩], guard := none } (by rfl) ?_ ?_
            case refine_2 => intro w hSw; (try dsimp only at hSw); obtain ⟨z0, z1, z2, z3, z4, y2, y3, y4⟩ := HCE.out _ hSw; go_simp; (try with_reducible rfl)
            simp only [Act.put, zS0, zS1, zS2]
            refine tk (v := ?_) 6 { dst := some 73, op := .fieldAddr 129 (.tmp 72) 3, type := 0, pos := "through.go:85", after := #[⟨5, .data⟩], guard := none } (by rfl) ?_ ?_
            case refine_2 => intro w hSw; (try dsimp only at hSw); obtain ⟨z0, z1, z2, z3, z4, y2, y3, y4⟩ := HCE.out _ hSw; go_simp; (try with_reducible rfl)
            simp only [Act.put, zS0, zS1, zS2]
            refine tk (v := ?_) 7 { dst := some 74, op := .load 26 (.tmp 73), type := 26, pos := "through.go:85", after := #[⟨6, .data⟩], guard := none } (by rfl) ?_ ?_
            case refine_2 => intro w hSw; (try dsimp only at hSw); obtain ⟨z0, z1, z2, z3, z4, y2, y3, y4⟩ := HCE.out _ hSw; go_simp; (try with_reducible rfl)
            simp only [Act.put, zS0, zS1, zS2]
            refine tk (v := ?_) 8 { dst := some 75, op := .move (.tmp 10), type := 3, pos := "through.go:85", after := #[], guard := none } (by rfl) ?_ ?_
            case refine_2 => intro w hSw; (try dsimp only at hSw); obtain ⟨z0, z1, z2, z3, z4, y2, y3, y4⟩ := HCE.out _ hSw; go_simp; (try with_reducible rfl)
            simp only [Act.put, zS0, zS1, zS2]
            refine tk (v := ?_) 9 { dst := some 76, op := .indexAddr 26 (.tmp 74) (.tmp 75), type := 0, pos := "through.go:85", after := #[⟨7, .data⟩, ⟨8, .data⟩], guard := none } (by rfl) ?_ ?_
            case refine_2 => intro w hSw; (try dsimp only at hSw); obtain ⟨z0, z1, z2, z3, z4, y2, y3, y4⟩ := HCE.out _ hSw; go_simp; (try with_reducible rfl)
            simp only [Act.put, zS0, zS1, zS2]
            refine tk (v := ?_) 10 { dst := some 77, op := .load 3 (.tmp 76), type := 3, pos := "through.go:85", after := #[⟨9, .data⟩], guard := none } (by rfl) ?_ ?_
            case refine_2 => intro w hSw; (try dsimp only at hSw); obtain ⟨z0, z1, z2, z3, z4, y2, y3, y4⟩ := HCE.out _ hSw; go_simp; (try with_reducible rfl)
            simp only [Act.put, zS0, zS1, zS2]
            refine tk (v := ?_) 11 { dst := some 78, op := .move (.tmp 5), type := 71, pos := "through.go:85", after := #[], guard := none } (by rfl) ?_ ?_
            case refine_2 => intro w hSw; (try dsimp only at hSw); obtain ⟨z0, z1, z2, z3, z4, y2, y3, y4⟩ := HCE.out _ hSw; go_simp; (try with_reducible rfl)
            simp only [Act.put, zS0, zS1, zS2]
            refine tk (v := ?_) 12 { dst := some 79, op := .nilCheck (.tmp 78), type := 0, pos := "through.go:85", after := #[⟨11, .data⟩], guard := none } (by rfl) ?_ ?_
            case refine_2 => intro w hSw; (try dsimp only at hSw); obtain ⟨z0, z1, z2, z3, z4, y2, y3, y4⟩ := HCE.out _ hSw; go_simp; (try with_reducible rfl)
            simp only [Act.put, zS0, zS1, zS2]
            refine tk (v := ?_) 13 { dst := some 80, op := .fieldAddr 129 (.tmp 79) 2, type := 0, pos := "through.go:85", after := #[⟨12, .data⟩], guard := none } (by rfl) ?_ ?_
            case refine_2 => intro w hSw; (try dsimp only at hSw); obtain ⟨z0, z1, z2, z3, z4, y2, y3, y4⟩ := HCE.out _ hSw; go_simp; (try with_reducible rfl)
            simp only [Act.put, zS0, zS1, zS2]
            refine tk (v := ?_) 14 { dst := some 81, op := .load 73 (.tmp 80), type := 73, pos := "through.go:85", after := #[⟨13, .data⟩], guard := none } (by rfl) ?_ ?_
            case refine_2 => intro w hSw; (try dsimp only at hSw); obtain ⟨z0, z1, z2, z3, z4, y2, y3, y4⟩ := HCE.out _ hSw; go_simp; (try with_reducible rfl)
            simp only [Act.put, zS0, zS1, zS2]
            refine tk (v := ?_) 15 { dst := some 82, op := .move (.tmp 5), type := 71, pos := "through.go:85", after := #[], guard := none } (by rfl) ?_ ?_
            case refine_2 => intro w hSw; (try dsimp only at hSw); obtain ⟨z0, z1, z2, z3, z4, y2, y3, y4⟩ := HCE.out _ hSw; go_simp; (try with_reducible rfl)
            simp only [Act.put, zS0, zS1, zS2]
            refine tk (v := ?_) 16 { dst := some 83, op := .nilCheck (.tmp 82), type := 0, pos := "through.go:85", after := #[⟨15, .data⟩], guard := none } (by rfl) ?_ ?_
            case refine_2 => intro w hSw; (try dsimp only at hSw); obtain ⟨z0, z1, z2, z3, z4, y2, y3, y4⟩ := HCE.out _ hSw; go_simp; (try with_reducible rfl)
            simp only [Act.put, zS0, zS1, zS2]
            refine tk (v := ?_) 17 { dst := some 84, op := .fieldAddr 129 (.tmp 83) 3, type := 0, pos := "through.go:85", after := #[⟨16, .data⟩], guard := none } (by rfl) ?_ ?_
            case refine_2 => intro w hSw; (try dsimp only at hSw); obtain ⟨z0, z1, z2, z3, z4, y2, y3, y4⟩ := HCE.out _ hSw; go_simp; (try with_reducible rfl)
            simp only [Act.put, zS0, zS1, zS2]
            refine tk (v := ?_) 18 { dst := some 85, op := .load 26 (.tmp 84), type := 26, pos := "through.go:85", after := #[⟨17, .data⟩], guard := none } (by rfl) ?_ ?_
            case refine_2 => intro w hSw; (try dsimp only at hSw); obtain ⟨z0, z1, z2, z3, z4, y2, y3, y4⟩ := HCE.out _ hSw; go_simp; (try with_reducible rfl)
            simp only [Act.put, zS0, zS1, zS2]
            refine tk (v := ?_) 19 { dst := some 86, op := .move (.tmp 10), type := 3, pos := "through.go:85", after := #[], guard := none } (by rfl) ?_ ?_
            case refine_2 => intro w hSw; (try dsimp only at hSw); obtain ⟨z0, z1, z2, z3, z4, y2, y3, y4⟩ := HCE.out _ hSw; go_simp; (try with_reducible rfl)
            simp only [Act.put, zS0, zS1, zS2]
            refine tk (v := ?_) 20 { dst := some 87, op := .indexAddr 26 (.tmp 85) (.tmp 86), type := 0, pos := "through.go:85", after := #[⟨18, .data⟩, ⟨19, .data⟩], guard := none } (by rfl) ?_ ?_
            case refine_2 => intro w hSw; (try dsimp only at hSw); obtain ⟨z0, z1, z2, z3, z4, y2, y3, y4⟩ := HCE.out _ hSw; go_simp; (try with_reducible rfl)
            simp only [Act.put, zS0, zS1, zS2]
            refine tk (v := ?_) 21 { dst := some 88, op := .load 3 (.tmp 87), type := 3, pos := "through.go:85", after := #[⟨20, .data⟩], guard := none } (by rfl) ?_ ?_
            case refine_2 => intro w hSw; (try dsimp only at hSw); obtain ⟨z0, z1, z2, z3, z4, y2, y3, y4⟩ := HCE.out _ hSw; go_simp; (try with_reducible rfl)
            simp only [Act.put, zS0, zS1, zS2]
            refine tk (v := ?_) 22 { dst := some 89, op := .indexAddr 73 (.tmp 81) (.tmp 88), type := 0, pos := "through.go:85", after := #[⟨14, .data⟩, ⟨21, .data⟩], guard := none } (by rfl) ?_ ?_
            case refine_2 => intro w hSw; (try dsimp only at hSw); obtain ⟨z0, z1, z2, z3, z4, y2, y3, y4⟩ := HCE.out _ hSw; go_simp; (try with_reducible rfl)
            simp only [Act.put, zS0, zS1, zS2]
            refine tk (v := ?_) 24 { dst := some 91, op := .load 64 (.tmp 9), type := 64, pos := "through.go:85", after := #[], guard := none } (by rfl) ?_ ?_
            case refine_2 => intro w hSw; (try dsimp only at hSw); obtain ⟨z0, z1, z2, z3, z4, y2, y3, y4⟩ := HCE.out _ hSw; go_simp; (try with_reducible rfl)
            simp only [Act.put, zS0, zS1, zS2]
            refine wpAnyH_ready (rs := [23, 25]) (by kernel_rfl) (by simp) ?_
            refine (AllReadyH.cons (o := { dst := some 90, op := .load 22 (.tmp 89), type := 22, pos := "through.go:85", after := #[⟨22, .data⟩], guard := none }) rfl (fun K hK => ?_) (AllReadyH.cons (o := { dst := some 92, op := .buildSlice 22 1 #[(0, .tmp 91)], type := 22, pos := "through.go:85", after := #[⟨24, .data⟩], guard := none }) rfl (fun K hK => ?_) AllReadyH.nil))
            · skip
              have c7 := HR0.out.cellG hgm
              rw [HV0.out] at c7
              go_simp
              refine hK.out _ _ ?_ (fun hHeld => ?_)
              · first | exact hx1 | exact hx0
              clear hK K
              try simp only [Act.put, zS0, zS1, zS2]
              clear c7
              refine wpAnyH_ready (rs := [25]) (by kernel_rfl) (by simp) ?_
              refine (AllReadyH.cons (o := { dst := some 92, op := .buildSlice 22 1 #[(0, .tmp 91)], type := 22, pos := "through.go:85", after := #[⟨24, .data⟩], guard := none }) rfl (fun K hK => ?_) AllReadyH.nil)
              go_simp
              have HR1 : Hid _ := HR0.out.alloc (.cells #[.int .i64 fI, .int .i64 tI, .int .i64 (s : Int), .int .i64 oI, .int .i64 xI] 64)
              have hx1 := And.intro ((heap_alloc_old V0 (.cells #[.int .i64 fI, .int .i64 tI, .int .i64 (s : Int), .int .i64 oI, .int .i64 xI] 64) (lt_get hx0.1)).trans hx0.1) (And.intro HR1.out.row (cell_alloc_old V0 (.cells #[.int .i64 fI, .int .i64 tI, .int .i64 (s : Int), .int .i64 oI, .int .i64 xI] 64) (lt_nb HR0.out) hx0.2.2))
              have hn1 := cell_five_at V0 V0.heap.size (.int .i64 fI) (.int .i64 tI) (.int .i64 (s : Int)) (.int .i64 oI) (.int .i64 xI) 64 rfl
              refine hK.out _ _ ?_ (fun hHeld => ?_)
              · exact hx1
              clear hK K
              try simp only [Act.put, zS0, zS1, zS2]
              generalize hV : V0.alloc (.cells #[.int .i64 fI, .int .i64 tI, .int .i64 (s : Int), .int .i64 oI, .int .i64 xI] 64) = V1 at *
              clear hV
              generalize V0.heap.size = bs at *
              refine wpAnyH_ready (rs := [26]) (by kernel_rfl) (by simp) ?_
              refine (AllReadyH.cons (o := { dst := some 93, op := .call { callee := .builtin .append, args := #[.tmp 90, .tmp 92], argTypes := #[22, 22] }, type := 22, pos := "through.go:85", after := #[⟨23, .data⟩, ⟨25, .data⟩], guard := none }) rfl (fun K hK => ?_) AllReadyH.nil)
              refine step_append_at rfl (.tmp 90) (.tmp 92) 22 rfl w.heap.size 64 i0 (.agg #[.int .i64 0, .int .i64 0, .int .i64 0, .int .i64 0, .int .i64 0]) 5 40 Tryd.underlying22 hi hz0 hz1 hz2 rfl (by decide) v0 _ _ rfl (by rw [← HV0.out]; exact HR1.out.rows (m)) ⟨bs, 0, none⟩ 1 1 [.int .i64 fI, .int .i64 tI, .int .i64 (s : Int), .int .i64 oI, .int .i64 xI] rfl rfl hn1 (five_one _ _ _ _ _) (by have := HGL.out (m); unfold maxLen; omega) (by have := HGL.out (m); omega) HR1.out.below.size ?_
              intro v1 w1 ho1 hg1 hl1
              obtain ⟨gg, cc, rfl, _, _⟩ := own_some ho1 (Nat.succ_pos _)
              have hN2 := HR1.out.add (a := (fI, tI, (s : Int), oI, xI)) hgm ho1 (by rw [HV0.out]; exact hg1) (by rw [HV0.out]; exact hl1.imp id (fun h => ⟨_, h, Nat.le_refl _⟩))
              have z1 := hN2.1.1
              have z2 := hN2.1.2
              have HN2 : Hid _ := hN2.2
              rw [HV0.out] at z1
              have hx2 := And.intro ((hg1.block bx (lt_get hx1.1) (fun e => hvB e.symm)).trans hx1.1) (And.intro ((hg1.block C (lt_get hx1.2.1) (fun e => hvC e.symm)).trans hx1.2.1) ((cell_grown hg1 (lt_nb HR1.out) (fun e => hvN e.symm)).trans hx1.2.2))
              clear hN2 ho1 hg1 hl1
              refine hK.out _ _ ?_ (fun hHeld => ?_)
              · exact hx2
              clear hK K
              try simp only [Act.put, zS0, zS1, zS2]
              refine tk (v := ?_) 27 { dst := some 94, op := .indexAddr 73 (.tmp 70) (.tmp 77), type := 0, pos := "through.go:85", after := #[⟨3, .data⟩, ⟨10, .data⟩, ⟨0, .phase⟩, ⟨1, .phase⟩, ⟨2, .phase⟩, ⟨3, .phase⟩, ⟨4, .phase⟩, ⟨5, .phase⟩, ⟨6, .phase⟩, ⟨7, .phase⟩, ⟨8, .phase⟩, ⟨9, .phase⟩, ⟨10, .phase⟩, ⟨11, .phase⟩, ⟨12, .phase⟩, ⟨13, .phase⟩, ⟨14, .phase⟩, ⟨15, .phase⟩, ⟨16, .phase⟩, ⟨17, .phase⟩, ⟨18, .phase⟩, ⟨19, .phase⟩, ⟨20, .phase⟩, ⟨21, .phase⟩, ⟨22, .phase⟩, ⟨23, .phase⟩, ⟨24, .phase⟩, ⟨25, .phase⟩, ⟨26, .phase⟩], guard := none } (by rfl) ?_ ?_
              case refine_2 => intro w hSw; (try dsimp only at hSw); obtain ⟨z0, z1, z2, z3, z4, y2, y3, y4⟩ := HCE.out _ hSw; go_simp; (try with_reducible rfl)
              simp only [Act.put, zS0, zS1, zS2]
              refine wpAnyH_ready (rs := [28]) (by kernel_rfl) (by simp) ?_
              refine (AllReadyH.cons (o := { dst := none, op := .store 22 (.tmp 94) (.tmp 93), type := 0, pos := "through.go:85", after := #[⟨27, .data⟩, ⟨26, .data⟩, ⟨26, .chain⟩, ⟨0, .phase⟩, ⟨1, .phase⟩, ⟨2, .phase⟩, ⟨3, .phase⟩, ⟨4, .phase⟩, ⟨5, .phase⟩, ⟨6, .phase⟩, ⟨7, .phase⟩, ⟨8, .phase⟩, ⟨9, .phase⟩, ⟨10, .phase⟩, ⟨11, .phase⟩, ⟨12, .phase⟩, ⟨13, .phase⟩, ⟨14, .phase⟩, ⟨15, .phase⟩, ⟨16, .phase⟩, ⟨17, .phase⟩, ⟨18, .phase⟩, ⟨19, .phase⟩, ⟨20, .phase⟩, ⟨21, .phase⟩, ⟨22, .phase⟩, ⟨23, .phase⟩, ⟨24, .phase⟩, ⟨25, .phase⟩, ⟨26, .phase⟩], guard := none }) rfl (fun K hK => ?_) AllReadyH.nil)
              go_simp
              refine hK.out _ _ ?_ (fun hHeld => ?_)
              · exact ⟨(heap_setCell_other _ _ _ _ hgB).trans hx2.1, (heap_setCell_other _ _ _ _ hgC).trans hx2.2.1, (cell_set_other _ _ _ _ hgN).trans hx2.2.2⟩
              clear hK K
              try simp only [Act.put, zS0, zS1, zS2]
              refine wpAnyH_done (by kernel_rfl) ?_ _
              go_wp2
              exact ⟨⟨y + 1, _, _, _, _, _, _, by go_num, hlt, HN2.out, by rw [HTK.out]; exact HS1.out, HMB.out, HGB.out⟩, by simp [intOf]; omega⟩
            · skip
              go_simp
              have HR1 : Hid _ := HR0.out.alloc (.cells #[.int .i64 fI, .int .i64 tI, .int .i64 (s : Int), .int .i64 oI, .int .i64 xI] 64)
              have hx1 := And.intro ((heap_alloc_old V0 (.cells #[.int .i64 fI, .int .i64 tI, .int .i64 (s : Int), .int .i64 oI, .int .i64 xI] 64) (lt_get hx0.1)).trans hx0.1) (And.intro HR1.out.row (cell_alloc_old V0 (.cells #[.int .i64 fI, .int .i64 tI, .int .i64 (s : Int), .int .i64 oI, .int .i64 xI] 64) (lt_nb HR0.out) hx0.2.2))
              have hn1 := cell_five_at V0 V0.heap.size (.int .i64 fI) (.int .i64 tI) (.int .i64 (s : Int)) (.int .i64 oI) (.int .i64 xI) 64 rfl
              refine hK.out _ _ ?_ (fun hHeld => ?_)
              · exact hx1
              clear hK K
              try simp only [Act.put, zS0, zS1, zS2]
              generalize hV : V0.alloc (.cells #[.int .i64 fI, .int .i64 tI, .int .i64 (s : Int), .int .i64 oI, .int .i64 xI] 64) = V1 at *
              clear hV
              generalize V0.heap.size = bs at *
              refine wpAnyH_ready (rs := [23]) (by kernel_rfl) (by simp) ?_
              refine (AllReadyH.cons (o := { dst := some 90, op := .load 22 (.tmp 89), type := 22, pos := "through.go:85", after := #[⟨22, .data⟩], guard := none }) rfl (fun K hK => ?_) AllReadyH.nil)
              have c7 := HR1.out.cellG hgm
              rw [HV0.out] at c7
              go_simp
              refine hK.out _ _ ?_ (fun hHeld => ?_)
              · first | exact hx1 | exact hx0
              clear hK K
              try simp only [Act.put, zS0, zS1, zS2]
              clear c7
              refine wpAnyH_ready (rs := [26]) (by kernel_rfl) (by simp) ?_
              refine (AllReadyH.cons (o := { dst := some 93, op := .call { callee := .builtin .append, args := #[.tmp 90, .tmp 92], argTypes := #[22, 22] }, type := 22, pos := "through.go:85", after := #[⟨23, .data⟩, ⟨25, .data⟩], guard := none }) rfl (fun K hK => ?_) AllReadyH.nil)
              refine step_append_at rfl (.tmp 90) (.tmp 92) 22 rfl w.heap.size 64 i0 (.agg #[.int .i64 0, .int .i64 0, .int .i64 0, .int .i64 0, .int .i64 0]) 5 40 Tryd.underlying22 hi hz0 hz1 hz2 rfl (by decide) v0 _ _ rfl (by rw [← HV0.out]; exact HR1.out.rows (m)) ⟨bs, 0, none⟩ 1 1 [.int .i64 fI, .int .i64 tI, .int .i64 (s : Int), .int .i64 oI, .int .i64 xI] rfl rfl hn1 (five_one _ _ _ _ _) (by have := HGL.out (m); unfold maxLen; omega) (by have := HGL.out (m); omega) HR1.out.below.size ?_
              intro v1 w1 ho1 hg1 hl1
              obtain ⟨gg, cc, rfl, _, _⟩ := own_some ho1 (Nat.succ_pos _)
              have hN2 := HR1.out.add (a := (fI, tI, (s : Int), oI, xI)) hgm ho1 (by rw [HV0.out]; exact hg1) (by rw [HV0.out]; exact hl1.imp id (fun h => ⟨_, h, Nat.le_refl _⟩))
              have z1 := hN2.1.1
              have z2 := hN2.1.2
              have HN2 : Hid _ := hN2.2
              rw [HV0.out] at z1
              have hx2 := And.intro ((hg1.block bx (lt_get hx1.1) (fun e => hvB e.symm)).trans hx1.1) (And.intro ((hg1.block C (lt_get hx1.2.1) (fun e => hvC e.symm)).trans hx1.2.1) ((cell_grown hg1 (lt_nb HR1.out) (fun e => hvN e.symm)).trans hx1.2.2))
              clear hN2 ho1 hg1 hl1
              refine hK.out _ _ ?_ (fun hHeld => ?_)
              · exact hx2
              clear hK K
              try simp only [Act.put, zS0, zS1, zS2]
              refine tk (v := ?_) 27 { dst := some 94, op := .indexAddr 73 (.tmp 70) (.tmp 77), type := 0, pos := "through.go:85", after := #[⟨3, .data⟩, ⟨10, .data⟩, ⟨0, .phase⟩, ⟨1, .phase⟩, ⟨2, .phase⟩, ⟨3, .phase⟩, ⟨4, .phase⟩, ⟨5, .phase⟩, ⟨6, .phase⟩, ⟨7, .phase⟩, ⟨8, .phase⟩, ⟨9, .phase⟩, ⟨10, .phase⟩, ⟨11, .phase⟩, ⟨12, .phase⟩, ⟨13, .phase⟩, ⟨14, .phase⟩, ⟨15, .phase⟩, ⟨16, .phase⟩, ⟨17, .phase⟩, ⟨18, .phase⟩, ⟨19, .phase⟩, ⟨20, .phase⟩, ⟨21, .phase⟩, ⟨22, .phase⟩, ⟨23, .phase⟩, ⟨24, .phase⟩, ⟨25, .phase⟩, ⟨26, .phase⟩], guard := none } (by rfl) ?_ ?_
              case refine_2 => intro w hSw; (try dsimp only at hSw); obtain ⟨z0, z1, z2, z3, z4, y2, y3, y4⟩ := HCE.out _ hSw; go_simp; (try with_reducible rfl)
              simp only [Act.put, zS0, zS1, zS2]
              refine wpAnyH_ready (rs := [28]) (by kernel_rfl) (by simp) ?_
              refine (AllReadyH.cons (o := { dst := none, op := .store 22 (.tmp 94) (.tmp 93), type := 0, pos := "through.go:85", after := #[⟨27, .data⟩, ⟨26, .data⟩, ⟨26, .chain⟩, ⟨0, .phase⟩, ⟨1, .phase⟩, ⟨2, .phase⟩, ⟨3, .phase⟩, ⟨4, .phase⟩, ⟨5, .phase⟩, ⟨6, .phase⟩, ⟨7, .phase⟩, ⟨8, .phase⟩, ⟨9, .phase⟩, ⟨10, .phase⟩, ⟨11, .phase⟩, ⟨12, .phase⟩, ⟨13, .phase⟩, ⟨14, .phase⟩, ⟨15, .phase⟩, ⟨16, .phase⟩, ⟨17, .phase⟩, ⟨18, .phase⟩, ⟨19, .phase⟩, ⟨20, .phase⟩, ⟨21, .phase⟩, ⟨22, .phase⟩, ⟨23, .phase⟩, ⟨24, .phase⟩, ⟨25, .phase⟩, ⟨26, .phase⟩], guard := none }) rfl (fun K hK => ?_) AllReadyH.nil)
              go_simp
              refine hK.out _ _ ?_ (fun hHeld => ?_)
              · exact ⟨(heap_setCell_other _ _ _ _ hgB).trans hx2.1, (heap_setCell_other _ _ _ _ hgC).trans hx2.2.1, (cell_set_other _ _ _ _ hgN).trans hx2.2.2⟩
              clear hK K
              try simp only [Act.put, zS0, zS1, zS2]
              refine wpAnyH_done (by kernel_rfl) ?_ _
              go_wp2
              exact ⟨⟨y + 1, _, _, _, _, _, _, by go_num, hlt, HN2.out, by rw [HTK.out]; exact HS1.out, HMB.out, HGB.out⟩, by simp [intOf]; omega⟩
          · have hgm : g < m := by rw [← HG.out]; exact HSE.out.lt _ (by rw [← HN.out]; exact hXN)
            have hgz : ((g : Int) == 0) = false := by simp; omega
            go_upto_region 12 with fail
            clear y3
            have hxg := y4
            clear y4
            have HS1 : Hid (Sem SB m gs (adn G g (fI, tI, (s : Int), oI, xI)) (adn (Rr R q y) q (fI, tI, (s : Int), oI, xI))) := HSE.out.more hqB.out hs rfl HG.out hg0
            have HMB : Hid (m ≤ 1 + 120 * q + (y + 1)) := Nat.le_succ_of_le HMB0.out
            have HGB : Hid (∀ k, (adn G g (fI, tI, (s : Int), oI, xI) k).length ≤ 120 * q + (y + 1)) := adn_len HGL.out
            obtain ⟨v0, hv0⟩ : ∃ v, Vx g = v := ⟨_, rfl⟩
            have HV0 : Hid (Vx g = v0) := hv0
            have hvB : ¬ v0.ownBlock = some bx := fun e => by rw [← hv0] at e; obtain ⟨c, hc⟩ := own_ty (HR.out.rows g) e; exact HBX.out.1 g e
            have hvC : ¬ v0.ownBlock = some C := fun e => by rw [← hv0] at e; exact HR.out.ne.2.2.2.2.1 g e
            have hvN : ¬ v0.ownBlock = some nb := fun e => by rw [← hv0] at e; exact HR.out.ne.2.2.2.1 g e
            have hgC : ¬ C = gb := fun e => HR.out.ne.2.2.1 (by rw [e]; rfl)
            have hgN : ¬ nb = gb := fun e => HR.out.ne.2.1 (by rw [e]; rfl)
            clear hv0
            have HCE : Hid _ := fun (W : World) (hSw : W.heap[bx]? = some (.cells #[.int .i64 fI, .int .i64 tI, .int .i64 (s : Int), .int .i64 oI, .int .i64 xI] 64 (0, 0)) ∧ W.heap[C]? = some (.cells #[.int .i64 (SB : Int), .slice (some ⟨fb, 0, none⟩) SA SA, .slice (some ⟨gb, 0, none⟩) (m) cap, .slice (some ⟨nb, 0, none⟩) N N] 129 (0, 0)) ∧ W.cell? ⟨nb, q * 61 + s, none⟩ = some (.int .i64 (g : Nat))) => (And.intro (cell_of_row _ _ 0 _ _ _ hSw.1) (And.intro (cell_of_row _ _ 1 _ _ _ hSw.1) (And.intro (cell_of_row _ _ 2 _ _ _ hSw.1) (And.intro (cell_of_row _ _ 3 _ _ _ hSw.1) (And.intro (cell_of_row _ _ 4 _ _ _ hSw.1) (And.intro (cell_of_row _ _ 2 _ _ _ hSw.2.1) (And.intro (cell_of_row _ _ 3 _ _ _ hSw.2.1) (hSw.2.2))))))))
            refine wp_region_held_drew (S := fun W => W.heap[bx]? = some (.cells #[.int .i64 fI, .int .i64 tI, .int .i64 (s : Int), .int .i64 oI, .int .i64 xI] 64 (0, 0)) ∧ W.heap[C]? = some (.cells #[.int .i64 (SB : Int), .slice (some ⟨fb, 0, none⟩) SA SA, .slice (some ⟨gb, 0, none⟩) (m) cap, .slice (some ⟨nb, 0, none⟩) N N] 129 (0, 0)) ∧ W.cell? ⟨nb, q * 61 + s, none⟩ = some (.int .i64 (g : Nat))) (by kernel_rfl) (by exact ⟨hx, HR.out.row, hxg⟩) (fun hHeld => ?_)
            have HR0 : Hid _ := HR.out.drew
            have hx0 := hHeld
            clear HR hx hxg
            generalize hV : V.drew = V0 at *
            clear hV
            refine tk (v := ?_) 0 { dst := some 67, op := .move (.tmp 5), type := 71, pos := "through.go:85", after := #[], guard := none } (by rfl) ?_ ?_
            case refine_2 => intro w hSw; (try dsimp only at hSw); obtain ⟨z0, z1, z2, z3, z4, y2, y3, y4⟩ := HCE.out _ hSw; go_simp; (try with_reducible rfl)
            simp only [Act.put, zS0, zS1, zS2]
            refine tk (v := ?_) 1 { dst := some 68, op := .nilCheck (.tmp 67), type := 0, pos := "through.go:85", after := #[⟨0, .data⟩], guard := none } (by rfl) ?_ ?_
            case refine_2 => intro w hSw; (try dsimp only at hSw); obtain ⟨z0, z1, z2, z3, z4, y2, y3, y4⟩ := HCE.out _ hSw; go_simp; (try with_reducible rfl)
            simp only [Act.put, zS0, zS1, zS2]
            refine tk (v := ?_) 2 { dst := some 69, op := .fieldAddr 129 (.tmp 68) 2, type := 0, pos := "through.go:85", after := #[⟨1, .data⟩], guard := none } (by rfl) ?_ ?_
            case refine_2 => intro w hSw; (try dsimp only at hSw); obtain ⟨z0, z1, z2, z3, z4, y2, y3, y4⟩ := HCE.out _ hSw; go_simp; (try with_reducible rfl)
            simp only [Act.put, zS0, zS1, zS2]
            refine tk (v := ?_) 3 { dst := some 70, op := .load 73 (.tmp 69), type := 73, pos := "through.go:85", after := #[⟨2, .data⟩], guard := none } (by rfl) ?_ ?_
            case refine_2 => intro w hSw; (try dsimp only at hSw); obtain ⟨z0, z1, z2, z3, z4, y2, y3, y4⟩ := HCE.out _ hSw; go_simp; (try with_reducible rfl)
            simp only [Act.put, zS0, zS1, zS2]
            refine tk (v := ?_) 4 { dst := some 71, op := .move (.tmp 5), type := 71, pos := "through.go:85", after := #[], guard := none } (by rfl) ?_ ?_
            case refine_2 => intro w hSw; (try dsimp only at hSw); obtain ⟨z0, z1, z2, z3, z4, y2, y3, y4⟩ := HCE.out _ hSw; go_simp; (try with_reducible rfl)
            simp only [Act.put, zS0, zS1, zS2]
            refine tk (v := ?_) 5 { dst := some 72, op := .nilCheck (.tmp 71), type := 0, pos := "through.go:85", after := #[⟨4, .data⟩], guard := none } (by rfl) ?_ ?_
            case refine_2 => intro w hSw; (try dsimp only at hSw); obtain ⟨z0, z1, z2, z3, z4, y2, y3, y4⟩ := HCE.out _ hSw; go_simp; (try with_reducible rfl)
            simp only [Act.put, zS0, zS1, zS2]
            refine tk (v := ?_) 6 { dst := some 73, op := .fieldAddr 129 (.tmp 72) 3, type := 0, pos := "through.go:85", after := #[⟨5, .data⟩], guard := none } (by rfl) ?_ ?_
            case refine_2 => intro w hSw; (try dsimp only at hSw); obtain ⟨z0, z1, z2, z3, z4, y2, y3, y4⟩ := HCE.out _ hSw; go_simp; (try with_reducible rfl)
            simp only [Act.put, zS0, zS1, zS2]
            refine tk (v := ?_) 7 { dst := some 74, op := .load 26 (.tmp 73), type := 26, pos := "through.go:85", after := #[⟨6, .data⟩], guard := none } (by rfl) ?_ ?_
            case refine_2 => intro w hSw; (try dsimp only at hSw); obtain ⟨z0, z1, z2, z3, z4, y2, y3, y4⟩ := HCE.out _ hSw; go_simp; (try with_reducible rfl)
            simp only [Act.put, zS0, zS1, zS2]
            refine tk (v := ?_) 8 { dst := some 75, op := .move (.tmp 10), type := 3, pos := "through.go:85", after := #[], guard := none } (by rfl) ?_ ?_
            case refine_2 => intro w hSw; (try dsimp only at hSw); obtain ⟨z0, z1, z2, z3, z4, y2, y3, y4⟩ := HCE.out _ hSw; go_simp; (try with_reducible rfl)
            simp only [Act.put, zS0, zS1, zS2]
            refine tk (v := ?_) 9 { dst := some 76, op := .indexAddr 26 (.tmp 74) (.tmp 75), type := 0, pos := "through.go:85", after := #[⟨7, .data⟩, ⟨8, .data⟩], guard := none } (by rfl) ?_ ?_
            case refine_2 => intro w hSw; (try dsimp only at hSw); obtain ⟨z0, z1, z2, z3, z4, y2, y3, y4⟩ := HCE.out _ hSw; go_simp; (try with_reducible rfl)
            simp only [Act.put, zS0, zS1, zS2]
            refine tk (v := ?_) 10 { dst := some 77, op := .load 3 (.tmp 76), type := 3, pos := "through.go:85", after := #[⟨9, .data⟩], guard := none } (by rfl) ?_ ?_
            case refine_2 => intro w hSw; (try dsimp only at hSw); obtain ⟨z0, z1, z2, z3, z4, y2, y3, y4⟩ := HCE.out _ hSw; go_simp; (try with_reducible rfl)
            simp only [Act.put, zS0, zS1, zS2]
            refine tk (v := ?_) 11 { dst := some 78, op := .move (.tmp 5), type := 71, pos := "through.go:85", after := #[], guard := none } (by rfl) ?_ ?_
            case refine_2 => intro w hSw; (try dsimp only at hSw); obtain ⟨z0, z1, z2, z3, z4, y2, y3, y4⟩ := HCE.out _ hSw; go_simp; (try with_reducible rfl)
            simp only [Act.put, zS0, zS1, zS2]
            refine tk (v := ?_) 12 { dst := some 79, op := .nilCheck (.tmp 78), type := 0, pos := "through.go:85", after := #[⟨11, .data⟩], guard := none } (by rfl) ?_ ?_
            case refine_2 => intro w hSw; (try dsimp only at hSw); obtain ⟨z0, z1, z2, z3, z4, y2, y3, y4⟩ := HCE.out _ hSw; go_simp; (try with_reducible rfl)
            simp only [Act.put, zS0, zS1, zS2]
            refine tk (v := ?_) 13 { dst := some 80, op := .fieldAddr 129 (.tmp 79) 2, type := 0, pos := "through.go:85", after := #[⟨12, .data⟩], guard := none } (by rfl) ?_ ?_
            case refine_2 => intro w hSw; (try dsimp only at hSw); obtain ⟨z0, z1, z2, z3, z4, y2, y3, y4⟩ := HCE.out _ hSw; go_simp; (try with_reducible rfl)
            simp only [Act.put, zS0, zS1, zS2]
            refine tk (v := ?_) 14 { dst := some 81, op := .load 73 (.tmp 80), type := 73, pos := "through.go:85", after := #[⟨13, .data⟩], guard := none } (by rfl) ?_ ?_
            case refine_2 => intro w hSw; (try dsimp only at hSw); obtain ⟨z0, z1, z2, z3, z4, y2, y3, y4⟩ := HCE.out _ hSw; go_simp; (try with_reducible rfl)
            simp only [Act.put, zS0, zS1, zS2]
            refine tk (v := ?_) 15 { dst := some 82, op := .move (.tmp 5), type := 71, pos := "through.go:85", after := #[], guard := none } (by rfl) ?_ ?_
            case refine_2 => intro w hSw; (try dsimp only at hSw); obtain ⟨z0, z1, z2, z3, z4, y2, y3, y4⟩ := HCE.out _ hSw; go_simp; (try with_reducible rfl)
            simp only [Act.put, zS0, zS1, zS2]
            refine tk (v := ?_) 16 { dst := some 83, op := .nilCheck (.tmp 82), type := 0, pos := "through.go:85", after := #[⟨15, .data⟩], guard := none } (by rfl) ?_ ?_
            case refine_2 => intro w hSw; (try dsimp only at hSw); obtain ⟨z0, z1, z2, z3, z4, y2, y3, y4⟩ := HCE.out _ hSw; go_simp; (try with_reducible rfl)
            simp only [Act.put, zS0, zS1, zS2]
            refine tk (v := ?_) 17 { dst := some 84, op := .fieldAddr 129 (.tmp 83) 3, type := 0, pos := "through.go:85", after := #[⟨16, .data⟩], guard := none } (by rfl) ?_ ?_
            case refine_2 => intro w hSw; (try dsimp only at hSw); obtain ⟨z0, z1, z2, z3, z4, y2, y3, y4⟩ := HCE.out _ hSw; go_simp; (try with_reducible rfl)
            simp only [Act.put, zS0, zS1, zS2]
            refine tk (v := ?_) 18 { dst := some 85, op := .load 26 (.tmp 84), type := 26, pos := "through.go:85", after := #[⟨17, .data⟩], guard := none } (by rfl) ?_ ?_
            case refine_2 => intro w hSw; (try dsimp only at hSw); obtain ⟨z0, z1, z2, z3, z4, y2, y3, y4⟩ := HCE.out _ hSw; go_simp; (try with_reducible rfl)
            simp only [Act.put, zS0, zS1, zS2]
            refine tk (v := ?_) 19 { dst := some 86, op := .move (.tmp 10), type := 3, pos := "through.go:85", after := #[], guard := none } (by rfl) ?_ ?_
            case refine_2 => intro w hSw; (try dsimp only at hSw); obtain ⟨z0, z1, z2, z3, z4, y2, y3, y4⟩ := HCE.out _ hSw; go_simp; (try with_reducible rfl)
            simp only [Act.put, zS0, zS1, zS2]
            refine tk (v := ?_) 20 { dst := some 87, op := .indexAddr 26 (.tmp 85) (.tmp 86), type := 0, pos := "through.go:85", after := #[⟨18, .data⟩, ⟨19, .data⟩], guard := none } (by rfl) ?_ ?_
            case refine_2 => intro w hSw; (try dsimp only at hSw); obtain ⟨z0, z1, z2, z3, z4, y2, y3, y4⟩ := HCE.out _ hSw; go_simp; (try with_reducible rfl)
            simp only [Act.put, zS0, zS1, zS2]
            refine tk (v := ?_) 21 { dst := some 88, op := .load 3 (.tmp 87), type := 3, pos := "through.go:85", after := #[⟨20, .data⟩], guard := none } (by rfl) ?_ ?_
            case refine_2 => intro w hSw; (try dsimp only at hSw); obtain ⟨z0, z1, z2, z3, z4, y2, y3, y4⟩ := HCE.out _ hSw; go_simp; (try with_reducible rfl)
            simp only [Act.put, zS0, zS1, zS2]
            refine tk (v := ?_) 22 { dst := some 89, op := .indexAddr 73 (.tmp 81) (.tmp 88), type := 0, pos := "through.go:85", after := #[⟨14, .data⟩, ⟨21, .data⟩], guard := none } (by rfl) ?_ ?_
            case refine_2 => intro w hSw; (try dsimp only at hSw); obtain ⟨z0, z1, z2, z3, z4, y2, y3, y4⟩ := HCE.out _ hSw; go_simp; (try with_reducible rfl)
            simp only [Act.put, zS0, zS1, zS2]
            refine tk (v := ?_) 24 { dst := some 91, op := .load 64 (.tmp 9), type := 64, pos := "through.go:85", after := #[], guard := none } (by rfl) ?_ ?_
            case refine_2 => intro w hSw; (try dsimp only at hSw); obtain ⟨z0, z1, z2, z3, z4, y2, y3, y4⟩ := HCE.out _ hSw; go_simp; (try with_reducible rfl)
            simp only [Act.put, zS0, zS1, zS2]
            refine wpAnyH_ready (rs := [23, 25]) (by kernel_rfl) (by simp) ?_
            refine (AllReadyH.cons (o := { dst := some 90, op := .load 22 (.tmp 89), type := 22, pos := "through.go:85", after := #[⟨22, .data⟩], guard := none }) rfl (fun K hK => ?_) (AllReadyH.cons (o := { dst := some 92, op := .buildSlice 22 1 #[(0, .tmp 91)], type := 22, pos := "through.go:85", after := #[⟨24, .data⟩], guard := none }) rfl (fun K hK => ?_) AllReadyH.nil))
            · skip
              have c7 := HR0.out.cellG hgm
              rw [HV0.out] at c7
              go_simp
              refine hK.out _ _ ?_ (fun hHeld => ?_)
              · first | exact hx1 | exact hx0
              clear hK K
              try simp only [Act.put, zS0, zS1, zS2]
              clear c7
              refine wpAnyH_ready (rs := [25]) (by kernel_rfl) (by simp) ?_
              refine (AllReadyH.cons (o := { dst := some 92, op := .buildSlice 22 1 #[(0, .tmp 91)], type := 22, pos := "through.go:85", after := #[⟨24, .data⟩], guard := none }) rfl (fun K hK => ?_) AllReadyH.nil)
              go_simp
              have HR1 : Hid _ := HR0.out.alloc (.cells #[.int .i64 fI, .int .i64 tI, .int .i64 (s : Int), .int .i64 oI, .int .i64 xI] 64)
              have hx1 := And.intro ((heap_alloc_old V0 (.cells #[.int .i64 fI, .int .i64 tI, .int .i64 (s : Int), .int .i64 oI, .int .i64 xI] 64) (lt_get hx0.1)).trans hx0.1) (And.intro HR1.out.row (cell_alloc_old V0 (.cells #[.int .i64 fI, .int .i64 tI, .int .i64 (s : Int), .int .i64 oI, .int .i64 xI] 64) (lt_nb HR0.out) hx0.2.2))
              have hn1 := cell_five_at V0 V0.heap.size (.int .i64 fI) (.int .i64 tI) (.int .i64 (s : Int)) (.int .i64 oI) (.int .i64 xI) 64 rfl
              refine hK.out _ _ ?_ (fun hHeld => ?_)
              · exact hx1
              clear hK K
              try simp only [Act.put, zS0, zS1, zS2]
              generalize hV : V0.alloc (.cells #[.int .i64 fI, .int .i64 tI, .int .i64 (s : Int), .int .i64 oI, .int .i64 xI] 64) = V1 at *
              clear hV
              generalize V0.heap.size = bs at *
              refine wpAnyH_ready (rs := [26]) (by kernel_rfl) (by simp) ?_
              refine (AllReadyH.cons (o := { dst := some 93, op := .call { callee := .builtin .append, args := #[.tmp 90, .tmp 92], argTypes := #[22, 22] }, type := 22, pos := "through.go:85", after := #[⟨23, .data⟩, ⟨25, .data⟩], guard := none }) rfl (fun K hK => ?_) AllReadyH.nil)
              refine step_append_at rfl (.tmp 90) (.tmp 92) 22 rfl w.heap.size 64 i0 (.agg #[.int .i64 0, .int .i64 0, .int .i64 0, .int .i64 0, .int .i64 0]) 5 40 Tryd.underlying22 hi hz0 hz1 hz2 rfl (by decide) v0 _ _ rfl (by rw [← HV0.out]; exact HR1.out.rows (g)) ⟨bs, 0, none⟩ 1 1 [.int .i64 fI, .int .i64 tI, .int .i64 (s : Int), .int .i64 oI, .int .i64 xI] rfl rfl hn1 (five_one _ _ _ _ _) (by have := HGL.out (g); unfold maxLen; omega) (by have := HGL.out (g); omega) HR1.out.below.size ?_
              intro v1 w1 ho1 hg1 hl1
              obtain ⟨gg, cc, rfl, _, _⟩ := own_some ho1 (Nat.succ_pos _)
              have hN2 := HR1.out.add (a := (fI, tI, (s : Int), oI, xI)) hgm ho1 (by rw [HV0.out]; exact hg1) (by rw [HV0.out]; exact hl1.imp id (fun h => ⟨_, h, Nat.le_refl _⟩))
              have z1 := hN2.1.1
              have z2 := hN2.1.2
              have HN2 : Hid _ := hN2.2
              rw [HV0.out] at z1
              have hx2 := And.intro ((hg1.block bx (lt_get hx1.1) (fun e => hvB e.symm)).trans hx1.1) (And.intro ((hg1.block C (lt_get hx1.2.1) (fun e => hvC e.symm)).trans hx1.2.1) ((cell_grown hg1 (lt_nb HR1.out) (fun e => hvN e.symm)).trans hx1.2.2))
              clear hN2 ho1 hg1 hl1
              refine hK.out _ _ ?_ (fun hHeld => ?_)
              · exact hx2
              clear hK K
              try simp only [Act.put, zS0, zS1, zS2]
              refine tk (v := ?_) 27 { dst := some 94, op := .indexAddr 73 (.tmp 70) (.tmp 77), type := 0, pos := "through.go:85", after := #[⟨3, .data⟩, ⟨10, .data⟩, ⟨0, .phase⟩, ⟨1, .phase⟩, ⟨2, .phase⟩, ⟨3, .phase⟩, ⟨4, .phase⟩, ⟨5, .phase⟩, ⟨6, .phase⟩, ⟨7, .phase⟩, ⟨8, .phase⟩, ⟨9, .phase⟩, ⟨10, .phase⟩, ⟨11, .phase⟩, ⟨12, .phase⟩, ⟨13, .phase⟩, ⟨14, .phase⟩, ⟨15, .phase⟩, ⟨16, .phase⟩, ⟨17, .phase⟩, ⟨18, .phase⟩, ⟨19, .phase⟩, ⟨20, .phase⟩, ⟨21, .phase⟩, ⟨22, .phase⟩, ⟨23, .phase⟩, ⟨24, .phase⟩, ⟨25, .phase⟩, ⟨26, .phase⟩], guard := none } (by rfl) ?_ ?_
              case refine_2 => intro w hSw; (try dsimp only at hSw); obtain ⟨z0, z1, z2, z3, z4, y2, y3, y4⟩ := HCE.out _ hSw; go_simp; (try with_reducible rfl)
              simp only [Act.put, zS0, zS1, zS2]
              refine wpAnyH_ready (rs := [28]) (by kernel_rfl) (by simp) ?_
              refine (AllReadyH.cons (o := { dst := none, op := .store 22 (.tmp 94) (.tmp 93), type := 0, pos := "through.go:85", after := #[⟨27, .data⟩, ⟨26, .data⟩, ⟨26, .chain⟩, ⟨0, .phase⟩, ⟨1, .phase⟩, ⟨2, .phase⟩, ⟨3, .phase⟩, ⟨4, .phase⟩, ⟨5, .phase⟩, ⟨6, .phase⟩, ⟨7, .phase⟩, ⟨8, .phase⟩, ⟨9, .phase⟩, ⟨10, .phase⟩, ⟨11, .phase⟩, ⟨12, .phase⟩, ⟨13, .phase⟩, ⟨14, .phase⟩, ⟨15, .phase⟩, ⟨16, .phase⟩, ⟨17, .phase⟩, ⟨18, .phase⟩, ⟨19, .phase⟩, ⟨20, .phase⟩, ⟨21, .phase⟩, ⟨22, .phase⟩, ⟨23, .phase⟩, ⟨24, .phase⟩, ⟨25, .phase⟩, ⟨26, .phase⟩], guard := none }) rfl (fun K hK => ?_) AllReadyH.nil)
              go_simp
              refine hK.out _ _ ?_ (fun hHeld => ?_)
              · exact ⟨(heap_setCell_other _ _ _ _ hgB).trans hx2.1, (heap_setCell_other _ _ _ _ hgC).trans hx2.2.1, (cell_set_other _ _ _ _ hgN).trans hx2.2.2⟩
              clear hK K
              try simp only [Act.put, zS0, zS1, zS2]
              refine wpAnyH_done (by kernel_rfl) ?_ _
              go_wp2
              exact ⟨⟨y + 1, _, _, _, _, _, _, by go_num, hlt, HN2.out, by rw [HTK.out]; exact HS1.out, HMB.out, HGB.out⟩, by simp [intOf]; omega⟩
            · skip
              go_simp
              have HR1 : Hid _ := HR0.out.alloc (.cells #[.int .i64 fI, .int .i64 tI, .int .i64 (s : Int), .int .i64 oI, .int .i64 xI] 64)
              have hx1 := And.intro ((heap_alloc_old V0 (.cells #[.int .i64 fI, .int .i64 tI, .int .i64 (s : Int), .int .i64 oI, .int .i64 xI] 64) (lt_get hx0.1)).trans hx0.1) (And.intro HR1.out.row (cell_alloc_old V0 (.cells #[.int .i64 fI, .int .i64 tI, .int .i64 (s : Int), .int .i64 oI, .int .i64 xI] 64) (lt_nb HR0.out) hx0.2.2))
              have hn1 := cell_five_at V0 V0.heap.size (.int .i64 fI) (.int .i64 tI) (.int .i64 (s : Int)) (.int .i64 oI) (.int .i64 xI) 64 rfl
              refine hK.out _ _ ?_ (fun hHeld => ?_)
              · exact hx1
              clear hK K
              try simp only [Act.put, zS0, zS1, zS2]
              generalize hV : V0.alloc (.cells #[.int .i64 fI, .int .i64 tI, .int .i64 (s : Int), .int .i64 oI, .int .i64 xI] 64) = V1 at *
              clear hV
              generalize V0.heap.size = bs at *
              refine wpAnyH_ready (rs := [23]) (by kernel_rfl) (by simp) ?_
              refine (AllReadyH.cons (o := { dst := some 90, op := .load 22 (.tmp 89), type := 22, pos := "through.go:85", after := #[⟨22, .data⟩], guard := none }) rfl (fun K hK => ?_) AllReadyH.nil)
              have c7 := HR1.out.cellG hgm
              rw [HV0.out] at c7
              go_simp
              refine hK.out _ _ ?_ (fun hHeld => ?_)
              · first | exact hx1 | exact hx0
              clear hK K
              try simp only [Act.put, zS0, zS1, zS2]
              clear c7
              refine wpAnyH_ready (rs := [26]) (by kernel_rfl) (by simp) ?_
              refine (AllReadyH.cons (o := { dst := some 93, op := .call { callee := .builtin .append, args := #[.tmp 90, .tmp 92], argTypes := #[22, 22] }, type := 22, pos := "through.go:85", after := #[⟨23, .data⟩, ⟨25, .data⟩], guard := none }) rfl (fun K hK => ?_) AllReadyH.nil)
              refine step_append_at rfl (.tmp 90) (.tmp 92) 22 rfl w.heap.size 64 i0 (.agg #[.int .i64 0, .int .i64 0, .int .i64 0, .int .i64 0, .int .i64 0]) 5 40 Tryd.underlying22 hi hz0 hz1 hz2 rfl (by decide) v0 _ _ rfl (by rw [← HV0.out]; exact HR1.out.rows (g)) ⟨bs, 0, none⟩ 1 1 [.int .i64 fI, .int .i64 tI, .int .i64 (s : Int), .int .i64 oI, .int .i64 xI] rfl rfl hn1 (five_one _ _ _ _ _) (by have := HGL.out (g); unfold maxLen; omega) (by have := HGL.out (g); omega) HR1.out.below.size ?_
              intro v1 w1 ho1 hg1 hl1
              obtain ⟨gg, cc, rfl, _, _⟩ := own_some ho1 (Nat.succ_pos _)
              have hN2 := HR1.out.add (a := (fI, tI, (s : Int), oI, xI)) hgm ho1 (by rw [HV0.out]; exact hg1) (by rw [HV0.out]; exact hl1.imp id (fun h => ⟨_, h, Nat.le_refl _⟩))
              have z1 := hN2.1.1
              have z2 := hN2.1.2
              have HN2 : Hid _ := hN2.2
              rw [HV0.out] at z1
              have hx2 := And.intro ((hg1.block bx (lt_get hx1.1) (fun e => hvB e.symm)).trans hx1.1) (And.intro ((hg1.block C (lt_get hx1.2.1) (fun e => hvC e.symm)).trans hx1.2.1) ((cell_grown hg1 (lt_nb HR1.out) (fun e => hvN e.symm)).trans hx1.2.2))
              clear hN2 ho1 hg1 hl1
              refine hK.out _ _ ?_ (fun hHeld => ?_)
              · exact hx2
              clear hK K
              try simp only [Act.put, zS0, zS1, zS2]
              refine tk (v := ?_) 27 { dst := some 94, op := .indexAddr 73 (.tmp 70) (.tmp 77), type := 0, pos := "through.go:85", after := #[⟨3, .data⟩, ⟨10, .data⟩, ⟨0, .phase⟩, ⟨1, .phase⟩, ⟨2, .phase⟩, ⟨3, .phase⟩, ⟨4, .phase⟩, ⟨5, .phase⟩, ⟨6, .phase⟩, ⟨7, .phase⟩, ⟨8, .phase⟩, ⟨9, .phase⟩, ⟨10, .phase⟩, ⟨11, .phase⟩, ⟨12, .phase⟩, ⟨13, .phase⟩, ⟨14, .phase⟩, ⟨15, .phase⟩, ⟨16, .phase⟩, ⟨17, .phase⟩, ⟨18, .phase⟩, ⟨19, .phase⟩, ⟨20, .phase⟩, ⟨21, .phase⟩, ⟨22, .phase⟩, ⟨23, .phase⟩, ⟨24, .phase⟩, ⟨25, .phase⟩, ⟨26, .phase⟩], guard := none } (by rfl) ?_ ?_
              case refine_2 => intro w hSw; (try dsimp only at hSw); obtain ⟨z0, z1, z2, z3, z4, y2, y3, y4⟩ := HCE.out _ hSw; go_simp; (try with_reducible rfl)
              simp only [Act.put, zS0, zS1, zS2]
              refine wpAnyH_ready (rs := [28]) (by kernel_rfl) (by simp) ?_
              refine (AllReadyH.cons (o := { dst := none, op := .store 22 (.tmp 94) (.tmp 93), type := 0, pos := "through.go:85", after := #[⟨27, .data⟩, ⟨26, .data⟩, ⟨26, .chain⟩, ⟨0, .phase⟩, ⟨1, .phase⟩, ⟨2, .phase⟩, ⟨3, .phase⟩, ⟨4, .phase⟩, ⟨5, .phase⟩, ⟨6, .phase⟩, ⟨7, .phase⟩, ⟨8, .phase⟩, ⟨9, .phase⟩, ⟨10, .phase⟩, ⟨11, .phase⟩, ⟨12, .phase⟩, ⟨13, .phase⟩, ⟨14, .phase⟩, ⟨15, .phase⟩, ⟨16, .phase⟩, ⟨17, .phase⟩, ⟨18, .phase⟩, ⟨19, .phase⟩, ⟨20, .phase⟩, ⟨21, .phase⟩, ⟨22, .phase⟩, ⟨23, .phase⟩, ⟨24, .phase⟩, ⟨25, .phase⟩, ⟨26, .phase⟩], guard := none }) rfl (fun K hK => ?_) AllReadyH.nil)
              go_simp
              refine hK.out _ _ ?_ (fun hHeld => ?_)
              · exact ⟨(heap_setCell_other _ _ _ _ hgB).trans hx2.1, (heap_setCell_other _ _ _ _ hgC).trans hx2.2.1, (cell_set_other _ _ _ _ hgN).trans hx2.2.2⟩
              clear hK K
              try simp only [Act.put, zS0, zS1, zS2]
              refine wpAnyH_done (by kernel_rfl) ?_ _
              go_wp2
              exact ⟨⟨y + 1, _, _, _, _, _, _, by go_num, hlt, HN2.out, by rw [HTK.out]; exact HS1.out, HMB.out, HGB.out⟩, by simp [intOf]; omega⟩
        · obtain rfl : y = n := by omega
          have HS2 : Hid (Sem SB m gs G (Rr R (q + 1) 0)) := by have := HSE.out; rw [← HLN.out, Rr_row] at this; exact this
          clear hNc hsem hgl
          go_wp2
          go_roundw
          case rel => exact ⟨q + 1, m, vg, gs, G, Vx, vs, by go_num, ‹q < SB›, HNc.out, HS2.out, by have := HMB0.out; omega, fun k => by have := HGL.out k; omega⟩
          case measure => simp [intOf]; omega
    · obtain rfl : q = SB := by omega
      have HNc : Hid (Nc w wr C nb q N m (.slice (some ⟨fb, 0, none⟩) SA SA) vg gs G Vx vs) := hNc
      have HSE : Hid (Sem q m gs G (Rr R q 0)) := hsem
      have HGL : Hid (∀ k, (G k).length ≤ 120 * q) := hgl
      obtain ⟨gb, cap, rfl⟩ := hNc.head_slice hsem.pos
      have HMB : Hid (m ≤ 1 + 120 * q) := hmb
      clear hNc hsem hgl hmb
      go_wp2
      go_ret
      refine ⟨_, gb, cap, nb, m, gs, G, rfl, IsCp.of (by have := HNc.out; rw [HN.out] at this; exact this) HF.out HSE.out.full (by have := HMB.out; omega) (fun k => by have := HGL.out k; omega), HNc.out.below⟩
end Go.Proofs.YtfjocafepigijaaDoor.Cu
