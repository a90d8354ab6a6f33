/- best (22): the best tree, Chu-Liu-Edmonds. Condition: at most 12 words, scores of no great size. -/
import Derived.Test.YtpolnkdbebjpnaaMi
namespace Go.Proofs.Ytpolnkdbebjpnaa.Hd
open Go.RowKit

/-- the scores' size, with so many words left -/
def Bk (k n : Nat) (s : Nat → Nat → Int) : Prop := ∀ h w, h ≤ n → 1 ≤ w → w ≤ n → -(30000000 * 2 ^ (12 - k) : Int) ≤ s h w ∧ s h w ≤ 30000000 * 2 ^ (12 - k)
theorem pow_le (k : Nat) : (2 : Int) ^ (12 - k) ≤ 4096 := by
  have h : (2 : Nat) ^ (12 - k) ≤ 2 ^ 12 := Nat.pow_le_pow_right (by omega) (by omega)
  rw [show (2 : Int) = ((2 : Nat) : Int) from rfl, ← Int.natCast_pow]
  exact Int.ofNat_le.2 h
theorem Bk.sz {k n : Nat} {s : Nat → Nat → Int} (h : Bk k n s) : Sz n s := fun a b h1 h2 h3 => by
  have h4 := h a b h1 h2 h3
  have h5 := pow_le k
  omega
theorem Bk.less {k n m : Nat} {s s' : Nat → Nat → Int} (h : Bk k n s) (hk : 1 ≤ k) (hk2 : k ≤ 12) (hs : ∀ h i, h ≤ m + 1 → 1 ≤ i → i ≤ m + 1 → ∃ h1 w1 h2 w2, h1 ≤ n ∧ 1 ≤ w1 ∧ w1 ≤ n ∧ h2 ≤ n ∧ 1 ≤ w2 ∧ w2 ≤ n ∧ (s' h i = s h1 w1 ∨ s' h i = s h1 w1 - s h2 w2 ∨ s' h i = 0)) : Bk (k - 1) (m + 1) s' := fun a b h1 h2 h3 => by
  obtain ⟨a1, b1, a2, b2, q1, q2, q3, q4, q5, q6, hq⟩ := hs a b h1 h2 h3
  have e1 := h a1 b1 q1 q2 q3
  have e2 := h a2 b2 q4 q5 q6
  have e3 : (2 : Int) ^ (12 - (k - 1)) = 2 * 2 ^ (12 - k) := by
    rw [show 12 - (k - 1) = (12 - k) + 1 by omega, Int.pow_succ, Int.mul_comm]
  have e4 : (0 : Int) ≤ 2 ^ (12 - k) := Int.pow_nonneg (by decide)
  rw [e3]
  omega
theorem rg_two {n : Nat} {s : Nat → Nat → Int} {u : Nat → Nat} {R : List Nat} (hR : Rg n u R) (hH : Hi n s u) : 2 ≤ R.length := by
  obtain ⟨r, hr⟩ := List.exists_mem_of_ne_nil R hR.some
  have hu := hR.up r hr
  have hp := hR.pos r hr
  have hne := hH.ne r hp.1 hp.2
  match R, hr, hu with
  | [x], hr, hu =>
    have e1 := List.mem_singleton.1 hr
    have e2 := List.mem_singleton.1 hu
    exact absurd (e2.trans e1.symm) hne
  | x :: y :: l, _, _ => simp
theorem inf47 : (Try.prog.info? 47).map (fun i => (i.zero, i.size, i.bytes)) = (Try.prog.info? 47).map (fun i => (i.zero, i.size, i.bytes)) := rfl
set_option maxHeartbeats 4000000 in
set_option maxRecDepth 100000 in
theorem best_any : ∀ (k : Nat), k ≤ 12 → ∀ (n b off cap : Nat) (ra : Nat → Option Addr) (rc : Nat → Nat) (s : Nat → Nat → Int) (w : World), n ≤ k → Sc w b off n ra rc s → Bk k n s →
    Calls Try.prog 22 #[.slice (some ⟨b, off, none⟩) (n + 1) cap] w (UpQ n (fun ul => Opt n s (uv ul)) w) := by
  intro k
  induction k using Nat.strongRecOn with
  | ind k ih =>
  intro hk n b off cap ra rc s w hnk hS hB
  have K36 := highest_any n b off cap ra rc s w hS (by omega)
  have HS : Hid (∀ W, Below w.heap.size w W → Sc W b off n ra rc s) := fun W hW => hS.below hW
  have HB : Hid (Bk k n s) := hB
  have HN : Hid (n ≤ k ∧ k ≤ 12 ∧ n ≤ 1000) := ⟨hnk, hk, by omega⟩
  have hn12 : n ≤ 12 := by omega
  clear hS hB hnk hk
  obtain ⟨m1, hm1⟩ : ∃ m, n + 1 = m := ⟨_, rfl⟩
  have HM1 : Hid (n + 1 = m1) := hm1
  rw [hm1] at K36
  rw [hm1]
  clear hm1
  go_enter Try.func22, Try.ntmps22
  go_upto_region 2 with (go_at_call 36; (with_reducible refine K36.mono ?_); clear K36; rintro e w1 ⟨g, ul, rfl, hu, hh⟩; have HU : Hid (Ul w w1 g n ul) := hu; have HH : Hid (Hi n s (uv ul)) := hh; clear hu hh)
  have K32 := ring_any n ul (.slice (some ⟨g, 0, none⟩) n n) w1 (own_rowN HU.out.row (by omega)) HU.out.len (fun x h1 h2 => HH.out.le x h1 h2) (by omega)
  go_upto_region 3 with (go_at_call 32; (with_reducible refine K32.mono ?_); clear K32; rintro e w2 ⟨r, rfl, hb, hr⟩; have HU2 : Hid (Ul w w2 g n ul) := HU.out.laid hb; clear hb)
  clear HU
  rcases hr with ⟨rfl, hr⟩ | ⟨hr1, hr2, hr3⟩
  · have HO : Hid (Opt n s (uv ul)) := HH.out.opt hr
    clear hr
    go_wp2
    go_ret
    exact ⟨g, ul, rfl, HU2.out, HO.out⟩
  · have q0 : ((r : Int) == 0) = false := by simp; omega
    have q0' : ¬ (r : Int) = 0 := by omega
    have HK1 : Hid (1 ≤ k) := by have := HN.out.1; show _ ≤ _; omega
    have K38 := ringOf_any n ul (.slice (some ⟨g, 0, none⟩) n n) r w2 (own_rowN HU2.out.row (by omega)) HU2.out.len (fun x h1 h2 => HH.out.le x h1 h2) HN.out.2.2 hr1 hr2 hr3
    clear hr1 hr2 hr3
    go_upto_region 5 with fail
    have HJK : Hid (∀ (g3 c3 : Nat) (R : List Nat) (w3 : World), Rg n (uv ul) R → Below w2.heap.size w2 w3 → w3.ownsRow w2.heap.size 3 1 (.slice (some ⟨g3, 0, none⟩) R.length c3) R.length (ns R) → Calls Try.prog 37 #[.slice (some ⟨b, off, none⟩) m1 cap, .slice (some ⟨g, 0, none⟩) n n, .slice (some ⟨g3, 0, none⟩) R.length c3] w3 (JoQ n s (uv ul) R w3)) := fun g3 c3 R w3 hR hb3 ho3 => by
      have hu3 := HU2.out.laid hb3
      have hlr := inj_len (n + 1) R hR.nodup fun y hy => by have := hR.pos y hy; omega
      have h := joinedOf_any n b off cap g g3 c3 ra rc s ul R w3 (HS.out w3 hu3.below) HN.out.2.2 HB.out.sz HH.out hR (own_le hu3.row (Nat.zero_le _)) hu3.len (own_rowN ho3 (by omega))
      rw [HM1.out] at h
      exact h
    go_upto_region 6 with (first | (go_at_call 38; (with_reducible refine K38.mono ?_); clear K38; rintro e w3 ⟨g3, c3, R, rfl, ho3, hb3, hR⟩; have HR : Hid (Rg n (uv ul) R) := hR; have HU3 : Hid (Ul w w3 g n ul) := HU2.out.laid hb3; have K37 := HJK.out g3 c3 R w3 hR hb3 ho3; clear HU2 ho3 hb3 hR) | (go_at_call 37; (with_reducible refine K37.mono ?_); clear K37; rintro e w4 ⟨m, bo, co, bi, ci, bx, cx, bs, cs, ax, O, Iw, X, ra2, rc2, s2, rfl, hb4, j1, j2, j3, j4, j5, j6, j7, j8, j9, j10, j11, j12, j13, j14, j15, j16⟩))
    have HQ : Hid (O.length = m + 1 ∧ Os n R O ∧ Sml n m s s2 (uv ul) R O (inl Iw) (oul X) ∧ (m + 2 ≤ n ∧ n ≤ k ∧ k ≤ 12) ∧ Bk (k - 1) (m + 1) s2) := ⟨j1, j3, j4, by have := rg_two HR.out HH.out; have := HN.out; omega, HB.out.less HK1.out HN.out.2.1 j6⟩
    have hgl : g < w3.heap.size := (HU3.out.row.lt g rfl).2
    obtain ⟨w5, hw5⟩ : ∃ w5, w4.alloc (.cells #[.slice (some ⟨bs, 0, none⟩) (m + 2) cs, .slice (some ⟨bo, 0, none⟩) (m + 1) co, .slice (some ⟨bi, 0, none⟩) (m + 1) ci, .slice ax m cx] 47) = w5 := ⟨_, rfl⟩
    have hb5 : Below w4.heap.size w4 w5 := hw5 ▸ below_al _ _
    have hp5 : w5.heap[w4.heap.size]? = some (.cells #[.slice (some ⟨bs, 0, none⟩) (m + 2) cs, .slice (some ⟨bo, 0, none⟩) (m + 1) co, .slice (some ⟨bi, 0, none⟩) (m + 1) ci, .slice ax m cx] 47 (0, 0)) := hw5 ▸ heap_alloc_new _ _
    have HW : Hid (∀ W, Below w5.heap.size w5 W → Sc W bs 0 (m + 1) ra2 rc2 s2 ∧ Ul w W g n ul ∧ ((∀ j, j ≤ m → W.cell? ⟨bo, j, none⟩ = some (.int .i64 (O.getD j 0 : Int))) ∧ (∀ j, j ≤ m → W.cell? ⟨bi, j, none⟩ = some (.int .i64 (Iw.getD j 0 : Int))) ∧ (0 < m → ax = some ⟨bx, 0, none⟩ ∧ ∀ j, j < m → W.cell? ⟨bx, j, none⟩ = some (.int .i64 (X.getD j 0 : Int)))) ∧ g < W.heap.size ∧ bo < W.heap.size ∧ bi < W.heap.size ∧ (0 < m → bx < W.heap.size)) := fun W hW => by
      have hbW : Below w4.heap.size w4 W := hb5.trans (hW.mono hb5.size)
      have hs := hbW.size
      have hs4 := hb4.size
      exact ⟨j5.below hbW, HU3.out.laid (hb4.trans (hbW.mono hb4.size)), ⟨fun j hj => (hbW.cell (p := ⟨bo, j, none⟩) j14).trans (j7 j hj), fun j hj => (hbW.cell (p := ⟨bi, j, none⟩) j15).trans (j8 j hj), fun h0 => ⟨(j9 h0).1, fun j hj => (hbW.cell (p := ⟨bx, j, none⟩) (j16 h0)).trans ((j9 h0).2 j hj)⟩⟩, by omega, by omega, by omega, fun h0 => by have := j16 h0; omega⟩
    obtain ⟨p5, hpp⟩ : ∃ p, w4.heap.size = p := ⟨_, rfl⟩
    have HC : Hid (g < bo ∧ g < bi ∧ (0 < m → g < bx) ∧ g < p5) := ⟨by omega, by omega, fun h0 => by have := j12 h0; omega, by have := hb4.size; omega⟩
    rw [hpp] at hp5
    rw [hw5, hpp]
    clear hw5 hpp hb5 hgl hb4 j1 j2 j3 j4 j5 j6 j7 j8 j9 j10 j11 j12 j13 j14 j15 j16 HJK HU3 q0 q0'
    have HCE : Hid _ := fun (W : World) (hSw : W.heap[p5]? = some (.cells #[.slice (some ⟨bs, 0, none⟩) (m + 2) cs, .slice (some ⟨bo, 0, none⟩) (m + 1) co, .slice (some ⟨bi, 0, none⟩) (m + 1) ci, .slice ax m cx] 47 (0, 0))) => (And.intro (cell_of_row _ _ 0 _ _ _ hSw) (And.intro (cell_of_row _ _ 1 _ _ _ hSw) (And.intro (cell_of_row _ _ 2 _ _ _ hSw) (cell_of_row _ _ 3 _ _ _ hSw))))
    refine wp_region_held_drew (S := fun W => W.heap[p5]? = some (.cells #[.slice (some ⟨bs, 0, none⟩) (m + 2) cs, .slice (some ⟨bo, 0, none⟩) (m + 1) co, .slice (some ⟨bi, 0, none⟩) (m + 1) ci, .slice ax m cx] 47 (0, 0))) (by kernel_rfl) (by exact hp5) (fun hHeld => ?_)
    have hS0 := hHeld
    have HS0 : Hid _ := HW.out w5.drew (below_drewN (Below.refl _ _) 1)
    generalize hV0 : w5.drew = V0 at *
    clear hV0
    refine wpAnyH_take (i := 0) (oi := { dst := some 19, op := Op.load 47 (Operand.tmp 5), type := 47, pos := "best.go:18", after := #[], guard := none }) (v := ?_) rfl (by kernel_rfl) (by kernel_rfl) (by kernel_rfl) (fun _ _ _ h => h) (Or.inl ⟨by rfl, ?_⟩) (by assumption) ?_
    case refine_2 => intro w hSw; (try dsimp only at hSw); obtain ⟨z0, z1, z2, z3⟩ := HCE.out _ hSw; go_simp; (try with_reducible rfl)
    simp only [Act.put, List.setIfInBounds_toArray, List.set_cons_zero, List.set_cons_succ]
    refine wpAnyH_take (i := 1) (oi := { dst := some 20, op := Op.move (Operand.tmp 3), type := 26, pos := "best.go:18", after := #[], guard := none }) (v := ?_) rfl (by kernel_rfl) (by kernel_rfl) (by kernel_rfl) (fun _ _ _ h => h) (Or.inl ⟨by rfl, ?_⟩) (by assumption) ?_
    case refine_2 => intro w hSw; (try dsimp only at hSw); obtain ⟨z0, z1, z2, z3⟩ := HCE.out _ hSw; go_simp; (try with_reducible rfl)
    simp only [Act.put, List.setIfInBounds_toArray, List.set_cons_zero, List.set_cons_succ]
    refine wpAnyH_take (i := 2) (oi := { dst := some 21, op := Op.fieldAddr 47 (Operand.tmp 5) 0, type := 0, pos := "best.go:18", after := #[], guard := none }) (v := ?_) rfl (by kernel_rfl) (by kernel_rfl) (by kernel_rfl) (fun _ _ _ h => h) (Or.inl ⟨by rfl, ?_⟩) (by assumption) ?_
    case refine_2 => intro w hSw; (try dsimp only at hSw); obtain ⟨z0, z1, z2, z3⟩ := HCE.out _ hSw; go_simp; (try with_reducible rfl)
    simp only [Act.put, List.setIfInBounds_toArray, List.set_cons_zero, List.set_cons_succ]
    refine wpAnyH_take (i := 3) (oi := { dst := some 22, op := Op.load 22 (Operand.tmp 21), type := 22, pos := "best.go:18", after := #[{ on := 2, ground := Ground.data }], guard := none }) (v := ?_) rfl (by kernel_rfl) (by kernel_rfl) (by kernel_rfl) (fun _ _ _ h => h) (Or.inl ⟨by rfl, ?_⟩) (by assumption) ?_
    case refine_2 => intro w hSw; (try dsimp only at hSw); obtain ⟨z0, z1, z2, z3⟩ := HCE.out _ hSw; go_simp; (try with_reducible rfl)
    simp only [Act.put, List.setIfInBounds_toArray, List.set_cons_zero, List.set_cons_succ]
    refine wpAnyH_ready (rs := [4]) (by kernel_rfl) (by simp) ?_
    refine (AllReadyH.cons (o := { dst := some 23, op := Op.call { callee := Callee.value (Operand.func 22), args := #[Operand.tmp 22], argTypes := #[22] }, type := 26, pos := "best.go:18", after := #[{ on := 3, ground := Ground.data }], guard := none }) rfl (fun K hK => ?_) AllReadyH.nil)
    have K22 := ih (k - 1) (by have := HQ.out.2.2.2.1; omega) (by have := HQ.out.2.2.2.1; omega) (m + 1) bs 0 cs ra2 rc2 s2 V0 (by have := HQ.out.2.2.2.1; omega) (HS0.out.1) HQ.out.2.2.2.2
    go_simp
    (with_reducible refine K22.mono ?_)
    clear K22
    rintro e6 w6 ⟨g6, vl, rfl, hu6, ho6⟩
    dsimp only
    have H6 : Hid (Ul V0 w6 g6 (m + 1) vl ∧ Opt (m + 1) s2 (uv vl)) := ⟨hu6, ho6⟩
    have hS1 : w6.heap[p5]? = some (.cells #[.slice (some ⟨bs, 0, none⟩) (m + 2) cs, .slice (some ⟨bo, 0, none⟩) (m + 1) co, .slice (some ⟨bi, 0, none⟩) (m + 1) ci, .slice ax m cx] 47 (0, 0)) := (hu6.below.block _ (lt_at hS0)).trans hS0
    clear hu6 ho6
    refine hK.out _ _ ?_ (fun hHeld => ?_)
    · first | exact hS2 | exact hS1
    clear hK K
    try simp only [Act.put, List.setIfInBounds_toArray, List.set_cons_zero, List.set_cons_succ]
    refine wpAnyH_ready (rs := [5]) (by kernel_rfl) (by simp) ?_
    refine (AllReadyH.cons (o := { dst := some 24, op := Op.call { callee := Callee.value (Operand.func 39), args := #[Operand.tmp 19, Operand.tmp 20, Operand.tmp 23], argTypes := #[47, 26, 26] }, type := 0, pos := "best.go:18", after := #[{ on := 0, ground := Ground.data }, { on := 1, ground := Ground.data }, { on := 4, ground := Ground.data }, { on := 4, ground := Ground.chain }], guard := none }) rfl (fun K hK => ?_) AllReadyH.nil)
    have hg6 : g < V0.heap.size := HS0.out.2.2.2.1
    have hb6 := H6.out.1.below
    have hg60 : V0.heap.size ≤ g6 := (H6.out.1.row.lt g6 rfl).1
    obtain ⟨by', hby⟩ : ∃ q, (0 < m → ax = some ⟨q, 0, none⟩ ∧ ∀ j, j < m → w6.cell? ⟨q, j, none⟩ = some (.int .i64 (X.getD j 0 : Int))) ∧ q ≠ g := by
      by_cases h0 : 0 < m
      · have h1 := HS0.out.2.2.1.2.2 h0
        exact ⟨bx, fun _ => ⟨h1.1, fun j hj => (hb6.cell (p := ⟨bx, j, none⟩) (by have := HS0.out.2.2.2.2.2.2 h0; show bx < _; omega)).trans (h1.2 j hj)⟩, by have := HC.out.2.2.1 h0; omega⟩
      · exact ⟨g + 1, fun h => absurd h h0, by omega⟩
    have K39 := open_any n m w.heap.size g bo co bi ci by' cx g6 ax (.slice (some ⟨bs, 0, none⟩) (m + 2) cs) ul R O Iw X vl w6 ⟨own_kp2 HS0.out.2.1.row (kp_below hb6 (fun _ => False)) (fun _ _ => id), HS0.out.2.1.len⟩ HN.out.2.2 (by have := HQ.out.2.2.2.1; omega) HQ.out.2.1 HQ.out.1 HQ.out.2.2.1.intoR HR.out.pos (fun i hi => by have h := HQ.out.2.2.1.outR (i + 1) (by omega) (by omega); exact (HR.out.pos _ h).2) H6.out.1.len (fun j h1 h2 => H6.out.2.tr.le j h1 h2) (by have h1 := H6.out.2.tr.le (m + 1) (by omega) (by omega); have h2 := H6.out.2.tr.ne (w := m + 1) (by omega) (by omega); omega) (fun j hj => (hb6.cell (p := ⟨bo, j, none⟩) (by have := HS0.out.2.2.2.2.1; show bo < _; omega)).trans (HS0.out.2.2.1.1 j hj)) (fun j hj => (hb6.cell (p := ⟨bi, j, none⟩) (by have := HS0.out.2.2.2.2.2.1; show bi < _; omega)).trans (HS0.out.2.2.1.2.1 j hj)) hby.1 (fun j hj => (H6.out.1.row.cellAt j (by omega)).trans (ns_uv (by rw [H6.out.1.len]; omega))) (by have := HC.out.1; omega) (by have := HC.out.2.1; omega) hby.2 (by omega)
    go_simp
    (with_reducible refine K39.mono ?_)
    clear K39 hby
    rintro e7 w7 ⟨rfl, ul7, hu7, hk7, ho7⟩
    dsimp only
    have H7 : Hid (UpQ n (fun ul => Opt n s (uv ul)) w (.returned (.slice (some ⟨g, 0, none⟩) n n)) w7) := ⟨g, ul7, rfl, ⟨hu7.row, hu7.len, below_kp (HS0.out.2.1.below.trans (hb6.mono HS0.out.2.1.below.size)) hk7 (fun b _ e => by have e2 : b = g := e; have := (HS0.out.2.1.row.lt g rfl).1; omega)⟩, open_opt HH.out HQ.out.2.1 HR.out HQ.out.2.2.1 H6.out.2 ho7⟩
    have hS2 : w7.heap[p5]? = some (.cells #[.slice (some ⟨bs, 0, none⟩) (m + 2) cs, .slice (some ⟨bo, 0, none⟩) (m + 1) co, .slice (some ⟨bi, 0, none⟩) (m + 1) ci, .slice ax m cx] 47 (0, 0)) := (hk7.block _ (lt_at hS1) (by have := HC.out.2.2.2; omega)).trans hS1
    clear hu7 hk7 ho7 hg6 hb6 hg60
    refine hK.out _ _ ?_ (fun hHeld => ?_)
    · first | exact hS2 | exact hS1
    clear hK K
    try simp only [Act.put, List.setIfInBounds_toArray, List.set_cons_zero, List.set_cons_succ]
    refine wpAnyH_done (by kernel_rfl) ?_ _
    go_wp2
    go_ret
    exact H7.out
end Go.Proofs.Ytpolnkdbebjpnaa.Hd
