/- Contains (47), joinedOf's closures (48, 50), firstOfMost (49). Conditions: the numbers are words; at most 1000 words; scores within a thousand thousand millions. -/
import Derived.Test.YtpolnkdbebjpnaaMd
import Derived.Laws.EntriesVeiled
namespace Go.Proofs.Ytpolnkdbebjpnaa.Hd
open Go.RowKit

set_option maxHeartbeats 4000000 in
set_option maxRecDepth 100000 in
theorem index_any (R : List Nat) (h : Nat) (v : Value) (w : World) (hR : Row w v 1 R.length (ns R)) (hn : R.length ≤ 1200000) :
    Calls Try.prog 56 #[v, .int .i64 (h : Int)] w fun e w' => ∃ z : Int, e = .returned (.int .i64 z) ∧ (h ∈ R → 0 ≤ z) ∧ (h ∉ R → z = -1) ∧ Below w.heap.size w w' := by
  obtain ⟨hy1, a, cap, rfl, hy2, hc⟩ := hR
  obtain ⟨n, hl⟩ : ∃ n, R.length = n := ⟨_, rfl⟩
  have HL : Hid (R.length = n ∧ n ≤ 1200000) := ⟨hl, by omega⟩
  have HC : Hid (n = 0 ∨ ∃ b off, a = some ⟨b, off, none⟩ ∧ ∀ W, Below w.heap.size w W → ∀ (j x : Nat), R[j]? = some x → W.cell? ⟨b, off + j, none⟩ = some (.int .i64 (x : Int))) := by
    rcases hc with h | ⟨b, off, e, hb, h⟩
    · exact .inl (hl ▸ h)
    · exact .inr ⟨b, off, e, fun W hW j x hj => (hW.cell (p := ⟨b, off + j, none⟩) hb).trans (h j _ (ns_at hj))⟩
  rw [hl]
  clear hy1 hy2 hc hn hl
  go_enter Try.func56, Try.ntmps56
  go_wp2
  go_loopw [8] (fun c wr => ∃ i : Nat, c = .int .i64 (i : Int) ∧ i ≤ n ∧ Below w.heap.size w wr ∧ ∀ j : Nat, j < i → R[j]? ≠ some h) (fun c _ => n - (intOf c).toNat)
  case atStart => exact ⟨0, rfl, Nat.zero_le _, Below.refl _ _, fun j hj => absurd hj (Nat.not_lt_zero _)⟩
  case round =>
    obtain ⟨i, rfl, hi, hbe, hno⟩ := hrel
    have HBE : Hid (Below w.heap.size w wr) := hbe
    have HNO : Hid (∀ j : Nat, j < i → R[j]? ≠ some h) := hno
    clear hno hbe
    by_cases hlt : i < n
    · obtain ⟨b, off, rfl, hcc⟩ := HC.out.resolve_left (by omega)
      obtain ⟨x, hx⟩ : ∃ x, R[i]? = some x := ⟨_, List.getElem?_eq_getElem (by rw [HL.out.1]; exact hlt)⟩
      have c0 := hcc wr HBE.out i x hx
      have HX : Hid (R[i]? = some x) := hx
      have hii : (i : Int) < (n : Int) := by omega
      have hnb := HL.out.2
      clear hcc hx HC
      by_cases he : h = x
      · subst he
        go_wp2
        go_ret
        exact ⟨(i : Int), rfl, fun _ => by omega, fun hno => absurd (List.mem_of_getElem? HX.out) hno, HBE.out⟩
      · have q0 : ((h : Int) == (x : Int)) = false := by simp; omega
        have q1 : ¬ (h : Int) = (x : Int) := by omega
        go_wp2
        go_roundw
        case rel => exact ⟨i + 1, by go_num, by omega, HBE.out, fun j hj => by
          by_cases e : j = i
          · rw [e, HX.out]; intro e2; injection e2 with e2; exact he e2.symm
          · exact HNO.out j (by omega)⟩
        case measure => simp [intOf]; omega
    · obtain rfl : i = n := by omega
      go_wp2
      go_ret
      refine ⟨-1, rfl, fun hm => ?_, fun _ => rfl, HBE.out⟩
      obtain ⟨j, hj, e⟩ := List.getElem_of_mem hm
      exact absurd (by rw [List.getElem?_eq_getElem hj, e]) (HNO.out j (by rw [← HL.out.1]; exact hj))
set_option maxRecDepth 100000 in
theorem contains_any (R : List Nat) (h : Nat) (v : Value) (w : World) (hR : Row w v 1 R.length (ns R)) (hn : R.length ≤ 1200000) :
    Calls Try.prog 47 #[v, .int .i64 (h : Int)] w fun e w' => ∃ z : Bool, e = .returned (.bool z) ∧ (z = true ↔ h ∈ R) ∧ Below w.heap.size w w' := by
  have K := index_any R h v w hR hn
  clear hR hn
  go_enter Try.func47, Try.ntmps47
  go_wp2_with (go_at_call 56; (with_reducible refine K.mono ?_); clear K; rintro e w1 ⟨z, rfl, hz1, hz2, hb⟩; have HZ : Hid ((h ∈ R → 0 ≤ z) ∧ (h ∉ R → z = -1) ∧ Below w.heap.size w w1) := ⟨hz1, hz2, hb⟩; clear hz1 hz2 hb)
  go_ret
  refine ⟨_, rfl, ?_, HZ.out.2.2⟩
  rw [decide_eq_true_iff]
  constructor
  · intro h1
    refine Classical.byContradiction fun h2 => ?_
    have := HZ.out.2.1 h2
    omega
  · exact HZ.out.1
/-- the boxes that joinedOf's closures look at -/
structure Vw (W : World) (ps pu : Nat) (b off n cap : Nat) (ra : Nat → Option Addr) (rc : Nat → Nat) (s : Nat → Nat → Int) (g : Nat) (ul : List Nat) : Prop where
  sb : W.heap[ps]? = some (.cells #[.slice (some ⟨b, off, none⟩) (n + 1) cap] 22 (0, 0))
  ub : W.heap[pu]? = some (.cells #[.slice (some ⟨g, 0, none⟩) n n] 26 (0, 0))
  sc : Sc W b off n ra rc s
  up : ∀ i, i < n → W.cell? ⟨g, i, none⟩ = some (.int .i64 (uv ul (i + 1) : Int))
  gl : g < W.heap.size
theorem Vw.below {W W' : World} {ps pu b off n cap : Nat} {ra : Nat → Option Addr} {rc : Nat → Nat} {s : Nat → Nat → Int} {g : Nat} {ul : List Nat} (h : Vw W ps pu b off n cap ra rc s g ul) (hb : Below W.heap.size W W') : Vw W' ps pu b off n cap ra rc s g ul :=
  ⟨(hb.block _ (lt_at h.sb)).trans h.sb, (hb.block _ (lt_at h.ub)).trans h.ub, h.sc.below hb, fun i hi => (hb.cell (p := ⟨g, i, none⟩) h.gl).trans (h.up i hi), Nat.lt_of_lt_of_le h.gl hb.size⟩
/-- scores of no great size -/
def Sz (n : Nat) (s : Nat → Nat → Int) : Prop := ∀ h w, h ≤ n → 1 ≤ w → w ≤ n → -1000000000000 ≤ s h w ∧ s h w ≤ 1000000000000
section
variable {ps pu ph b off n cap : Nat} {ra : Nat → Option Addr} {rc : Nat → Nat} {s : Nat → Nat → Int} {g : Nat} {ul : List Nat}
set_option maxHeartbeats 4000000 in
set_option maxRecDepth 100000 in
theorem more_any (h x : Nat) (w : World) (hV : Vw w ps pu b off n cap ra rc s g ul) (hh : w.cell? ⟨ph, 0, none⟩ = some (.int .i64 (h : Int))) (hhn : h ≤ n) (hx : 1 ≤ x) (hxn : x ≤ n) (hux : uv ul x ≤ n) (hz : Sz n s) (hn : n ≤ 1000) :
    Calls Try.prog 48 #[.int .i64 (x : Int), .pointer (some ⟨ps, 0, none⟩), .pointer (some ⟨ph, 0, none⟩), .pointer (some ⟨pu, 0, none⟩)] w fun e w' => e = .returned (.int .i64 (s h x - s (uv ul x) x)) ∧ Below w.heap.size w w' := by
  obtain ⟨x', hx'⟩ : ∃ y, x = y + 1 := ⟨x - 1, by omega⟩
  obtain ⟨c, hc⟩ : ∃ c, uv ul x = c := ⟨_, rfl⟩
  obtain ⟨rb1, ro1, e1, _, k1⟩ := hV.sc.num h hhn (by omega)
  obtain ⟨rb2, ro2, e2, _, k2⟩ := hV.sc.num c (hc ▸ hux) (by omega)
  have hcn : c ≤ n := hc ▸ hux
  obtain ⟨m, hm⟩ : ∃ m, n + 1 = m := ⟨_, rfl⟩
  obtain ⟨xh, hxh⟩ : ∃ y, s h x = y := ⟨_, rfl⟩
  obtain ⟨xc, hxc⟩ : ∃ y, s c x = y := ⟨_, rfl⟩
  obtain ⟨q1, hq1⟩ : ∃ q, rc h = q := ⟨_, rfl⟩
  obtain ⟨q2, hq2⟩ : ∃ q, rc c = q := ⟨_, rfl⟩
  have HBX : Hid (∀ W, Below w.heap.size w W → W.cell? ⟨ps, 0, none⟩ = some (.slice (some ⟨b, off, none⟩) m cap) ∧ W.cell? ⟨ph, 0, none⟩ = some (.int .i64 (h : Int)) ∧ W.cell? ⟨pu, 0, none⟩ = some (.slice (some ⟨g, 0, none⟩) n n) ∧ W.cell? ⟨b, off + h, none⟩ = some (.slice (some ⟨rb1, ro1, none⟩) n q1) ∧ W.cell? ⟨rb1, ro1 + x', none⟩ = some (.int .i64 xh) ∧ W.cell? ⟨g, x', none⟩ = some (.int .i64 (c : Int)) ∧ W.cell? ⟨b, off + c, none⟩ = some (.slice (some ⟨rb2, ro2, none⟩) n q2) ∧ W.cell? ⟨rb2, ro2 + x', none⟩ = some (.int .i64 xc)) := fun W hW => by
    have hv := hV.below hW
    have h1 := hv.sc.row h hhn
    have h2 := hv.sc.row c hcn
    obtain ⟨rb3, ro3, f1, _, g1⟩ := hv.sc.num h hhn (by omega)
    obtain ⟨rb4, ro4, f2, _, g2⟩ := hv.sc.num c hcn (by omega)
    rw [e1] at f1 h1
    rw [e2] at f2 h2
    cases f1
    cases f2
    have h3 := hv.up x' (by omega)
    have h4 := g1 x' (by omega)
    have h5 := g2 x' (by omega)
    rw [← hx', hc] at h3
    rw [← hx', hxh] at h4
    rw [← hx', hxc] at h5
    rw [hq1] at h1
    rw [hq2] at h2
    have h6 := cell_of_row _ _ 0 _ _ _ hv.sb
    rw [hm] at h6
    exact ⟨h6, (hW.cell (World.block_lt_of_cell? _ _ hh)).trans hh, cell_of_row _ _ 0 _ _ _ hv.ub, h1, h4, h3, h2, h5⟩
  have hb1 := hz h x hhn hx hxn
  have hb2 := hz c x hcn hx hxn
  rw [hxh] at hb1
  rw [hxc] at hb2
  have w1 : IntKind.i64.wrap ((x : Int) - 1) = (x' : Int) := by rw [IntKind.wrap_i64]; omega
  have w2 : IntKind.i64.wrap (xh - xc) = xh - xc := by rw [IntKind.wrap_i64]; omega
  have i1 : (h : Int) < (m : Int) := by omega
  have i2 : (c : Int) < (m : Int) := by omega
  have i3 : (x' : Int) < (n : Int) := by omega
  rw [hc, hxh, hxc]
  clear hV hh e1 k1 e2 k2 hxh hxc hq1 hq2 hm hb1 hb2 hz hc hux hx' hn
  go_enter Try.func48, Try.ntmps48
  go_upto_region 1 with fail
  have HCE : Hid _ := fun (W : World) (hSw : Below w.heap.size w W) => (And.intro ((HBX.out W hSw).1) (And.intro ((HBX.out W hSw).2.1) (And.intro ((HBX.out W hSw).2.2.1) (And.intro ((HBX.out W hSw).2.2.2.1) (And.intro ((HBX.out W hSw).2.2.2.2.1) (And.intro ((HBX.out W hSw).2.2.2.2.2.1) (And.intro ((HBX.out W hSw).2.2.2.2.2.2.1) ((HBX.out W hSw).2.2.2.2.2.2.2))))))))
  refine wp_region_held_drew (S := fun W => Below w.heap.size w W) (by kernel_rfl) (by exact below_drewN (Below.refl _ _) 1) (fun hHeld => ?_)
  have hS0 := hHeld
  generalize hV0 : w.drew = V0 at *
  clear hV0
  refine wpAnyH_take (i := 0) (oi := { dst := some 6, op := Op.load 22 (Operand.tmp 1), type := 22, pos := "best.go:57", after := #[], guard := none }) (v := ?_) rfl (by kernel_rfl) (by kernel_rfl) (by kernel_rfl) (fun _ _ _ h => h) (Or.inl ⟨by rfl, ?_⟩) (by assumption) ?_
  case refine_2 => intro w hSw; (try dsimp only at hSw); obtain ⟨z0, z1, z2, z3, z4, z5, z6, z7⟩ := HCE.out _ hSw; go_simp; (try with_reducible rfl)
  simp only [Act.put, List.setIfInBounds_toArray, List.set_cons_zero, List.set_cons_succ]
  refine wpAnyH_take (i := 1) (oi := { dst := some 7, op := Op.load 3 (Operand.tmp 2), type := 3, pos := "best.go:57", after := #[], guard := none }) (v := ?_) rfl (by kernel_rfl) (by kernel_rfl) (by kernel_rfl) (fun _ _ _ h => h) (Or.inl ⟨by rfl, ?_⟩) (by assumption) ?_
  case refine_2 => intro w hSw; (try dsimp only at hSw); obtain ⟨z0, z1, z2, z3, z4, z5, z6, z7⟩ := HCE.out _ hSw; go_simp; (try with_reducible rfl)
  simp only [Act.put, List.setIfInBounds_toArray, List.set_cons_zero, List.set_cons_succ]
  refine wpAnyH_take (i := 2) (oi := { dst := some 8, op := Op.indexAddr 22 (Operand.tmp 6) (Operand.tmp 7), type := 0, pos := "best.go:57", after := #[{ on := 0, ground := Ground.data }, { on := 1, ground := Ground.data }], guard := none }) (v := ?_) rfl (by kernel_rfl) (by kernel_rfl) (by kernel_rfl) (fun _ _ _ h => h) (Or.inl ⟨by rfl, ?_⟩) (by assumption) ?_
  case refine_2 => intro w hSw; (try dsimp only at hSw); obtain ⟨z0, z1, z2, z3, z4, z5, z6, z7⟩ := HCE.out _ hSw; go_simp; (try with_reducible rfl)
  simp only [Act.put, List.setIfInBounds_toArray, List.set_cons_zero, List.set_cons_succ]
  refine wpAnyH_take (i := 3) (oi := { dst := some 9, op := Op.load 26 (Operand.tmp 8), type := 26, pos := "best.go:57", after := #[{ on := 2, ground := Ground.data }], guard := none }) (v := ?_) rfl (by kernel_rfl) (by kernel_rfl) (by kernel_rfl) (fun _ _ _ h => h) (Or.inl ⟨by rfl, ?_⟩) (by assumption) ?_
  case refine_2 => intro w hSw; (try dsimp only at hSw); obtain ⟨z0, z1, z2, z3, z4, z5, z6, z7⟩ := HCE.out _ hSw; go_simp; (try with_reducible rfl)
  simp only [Act.put, List.setIfInBounds_toArray, List.set_cons_zero, List.set_cons_succ]
  refine wpAnyH_take (i := 4) (oi := { dst := some 10, op := Op.move (Operand.tmp 0), type := 3, pos := "best.go:57", after := #[], guard := none }) (v := ?_) rfl (by kernel_rfl) (by kernel_rfl) (by kernel_rfl) (fun _ _ _ h => h) (Or.inl ⟨by rfl, ?_⟩) (by assumption) ?_
  case refine_2 => intro w hSw; (try dsimp only at hSw); obtain ⟨z0, z1, z2, z3, z4, z5, z6, z7⟩ := HCE.out _ hSw; go_simp; (try with_reducible rfl)
  simp only [Act.put, List.setIfInBounds_toArray, List.set_cons_zero, List.set_cons_succ]
  refine wpAnyH_take (i := 5) (oi := { dst := some 11, op := Op.binOp BinOp.sub 3 (Operand.tmp 10) (Operand.const (Value.int IntKind.i64 1)) 3, type := 3, pos := "best.go:57", after := #[{ on := 4, ground := Ground.data }], guard := none }) (v := ?_) rfl (by kernel_rfl) (by kernel_rfl) (by kernel_rfl) (fun _ _ _ h => h) (Or.inl ⟨by rfl, ?_⟩) (by assumption) ?_
  case refine_2 => intro w hSw; (try dsimp only at hSw); obtain ⟨z0, z1, z2, z3, z4, z5, z6, z7⟩ := HCE.out _ hSw; go_simp; (try with_reducible rfl)
  simp only [Act.put, List.setIfInBounds_toArray, List.set_cons_zero, List.set_cons_succ]
  refine wpAnyH_take (i := 6) (oi := { dst := some 12, op := Op.indexAddr 26 (Operand.tmp 9) (Operand.tmp 11), type := 0, pos := "best.go:57", after := #[{ on := 3, ground := Ground.data }, { on := 5, ground := Ground.data }], guard := none }) (v := ?_) rfl (by kernel_rfl) (by kernel_rfl) (by kernel_rfl) (fun _ _ _ h => h) (Or.inl ⟨by rfl, ?_⟩) (by assumption) ?_
  case refine_2 => intro w hSw; (try dsimp only at hSw); obtain ⟨z0, z1, z2, z3, z4, z5, z6, z7⟩ := HCE.out _ hSw; go_simp; (try with_reducible rfl)
  simp only [Act.put, List.setIfInBounds_toArray, List.set_cons_zero, List.set_cons_succ]
  refine wpAnyH_take (i := 7) (oi := { dst := some 13, op := Op.load 3 (Operand.tmp 12), type := 3, pos := "best.go:57", after := #[{ on := 6, ground := Ground.data }], guard := none }) (v := ?_) rfl (by kernel_rfl) (by kernel_rfl) (by kernel_rfl) (fun _ _ _ h => h) (Or.inl ⟨by rfl, ?_⟩) (by assumption) ?_
  case refine_2 => intro w hSw; (try dsimp only at hSw); obtain ⟨z0, z1, z2, z3, z4, z5, z6, z7⟩ := HCE.out _ hSw; go_simp; (try with_reducible rfl)
  simp only [Act.put, List.setIfInBounds_toArray, List.set_cons_zero, List.set_cons_succ]
  refine wpAnyH_take (i := 8) (oi := { dst := some 14, op := Op.load 22 (Operand.tmp 1), type := 22, pos := "best.go:57", after := #[], guard := none }) (v := ?_) rfl (by kernel_rfl) (by kernel_rfl) (by kernel_rfl) (fun _ _ _ h => h) (Or.inl ⟨by rfl, ?_⟩) (by assumption) ?_
  case refine_2 => intro w hSw; (try dsimp only at hSw); obtain ⟨z0, z1, z2, z3, z4, z5, z6, z7⟩ := HCE.out _ hSw; go_simp; (try with_reducible rfl)
  simp only [Act.put, List.setIfInBounds_toArray, List.set_cons_zero, List.set_cons_succ]
  refine wpAnyH_take (i := 9) (oi := { dst := some 15, op := Op.load 26 (Operand.tmp 3), type := 26, pos := "best.go:57", after := #[], guard := none }) (v := ?_) rfl (by kernel_rfl) (by kernel_rfl) (by kernel_rfl) (fun _ _ _ h => h) (Or.inl ⟨by rfl, ?_⟩) (by assumption) ?_
  case refine_2 => intro w hSw; (try dsimp only at hSw); obtain ⟨z0, z1, z2, z3, z4, z5, z6, z7⟩ := HCE.out _ hSw; go_simp; (try with_reducible rfl)
  simp only [Act.put, List.setIfInBounds_toArray, List.set_cons_zero, List.set_cons_succ]
  refine wpAnyH_take (i := 10) (oi := { dst := some 16, op := Op.move (Operand.tmp 0), type := 3, pos := "best.go:57", after := #[], guard := none }) (v := ?_) rfl (by kernel_rfl) (by kernel_rfl) (by kernel_rfl) (fun _ _ _ h => h) (Or.inl ⟨by rfl, ?_⟩) (by assumption) ?_
  case refine_2 => intro w hSw; (try dsimp only at hSw); obtain ⟨z0, z1, z2, z3, z4, z5, z6, z7⟩ := HCE.out _ hSw; go_simp; (try with_reducible rfl)
  simp only [Act.put, List.setIfInBounds_toArray, List.set_cons_zero, List.set_cons_succ]
  refine wpAnyH_take (i := 11) (oi := { dst := some 17, op := Op.binOp BinOp.sub 3 (Operand.tmp 16) (Operand.const (Value.int IntKind.i64 1)) 3, type := 3, pos := "best.go:57", after := #[{ on := 10, ground := Ground.data }], guard := none }) (v := ?_) rfl (by kernel_rfl) (by kernel_rfl) (by kernel_rfl) (fun _ _ _ h => h) (Or.inl ⟨by rfl, ?_⟩) (by assumption) ?_
  case refine_2 => intro w hSw; (try dsimp only at hSw); obtain ⟨z0, z1, z2, z3, z4, z5, z6, z7⟩ := HCE.out _ hSw; go_simp; (try with_reducible rfl)
  simp only [Act.put, List.setIfInBounds_toArray, List.set_cons_zero, List.set_cons_succ]
  refine wpAnyH_take (i := 12) (oi := { dst := some 18, op := Op.indexAddr 26 (Operand.tmp 15) (Operand.tmp 17), type := 0, pos := "best.go:57", after := #[{ on := 9, ground := Ground.data }, { on := 11, ground := Ground.data }], guard := none }) (v := ?_) rfl (by kernel_rfl) (by kernel_rfl) (by kernel_rfl) (fun _ _ _ h => h) (Or.inl ⟨by rfl, ?_⟩) (by assumption) ?_
  case refine_2 => intro w hSw; (try dsimp only at hSw); obtain ⟨z0, z1, z2, z3, z4, z5, z6, z7⟩ := HCE.out _ hSw; go_simp; (try with_reducible rfl)
  simp only [Act.put, List.setIfInBounds_toArray, List.set_cons_zero, List.set_cons_succ]
  refine wpAnyH_take (i := 13) (oi := { dst := some 19, op := Op.load 3 (Operand.tmp 18), type := 3, pos := "best.go:57", after := #[{ on := 12, ground := Ground.data }], guard := none }) (v := ?_) rfl (by kernel_rfl) (by kernel_rfl) (by kernel_rfl) (fun _ _ _ h => h) (Or.inl ⟨by rfl, ?_⟩) (by assumption) ?_
  case refine_2 => intro w hSw; (try dsimp only at hSw); obtain ⟨z0, z1, z2, z3, z4, z5, z6, z7⟩ := HCE.out _ hSw; go_simp; (try with_reducible rfl)
  simp only [Act.put, List.setIfInBounds_toArray, List.set_cons_zero, List.set_cons_succ]
  refine wpAnyH_take (i := 14) (oi := { dst := some 20, op := Op.indexAddr 22 (Operand.tmp 14) (Operand.tmp 19), type := 0, pos := "best.go:57", after := #[{ on := 8, ground := Ground.data }, { on := 13, ground := Ground.data }], guard := none }) (v := ?_) rfl (by kernel_rfl) (by kernel_rfl) (by kernel_rfl) (fun _ _ _ h => h) (Or.inl ⟨by rfl, ?_⟩) (by assumption) ?_
  case refine_2 => intro w hSw; (try dsimp only at hSw); obtain ⟨z0, z1, z2, z3, z4, z5, z6, z7⟩ := HCE.out _ hSw; go_simp; (try with_reducible rfl)
  simp only [Act.put, List.setIfInBounds_toArray, List.set_cons_zero, List.set_cons_succ]
  refine wpAnyH_take (i := 15) (oi := { dst := some 21, op := Op.load 26 (Operand.tmp 20), type := 26, pos := "best.go:57", after := #[{ on := 14, ground := Ground.data }], guard := none }) (v := ?_) rfl (by kernel_rfl) (by kernel_rfl) (by kernel_rfl) (fun _ _ _ h => h) (Or.inl ⟨by rfl, ?_⟩) (by assumption) ?_
  case refine_2 => intro w hSw; (try dsimp only at hSw); obtain ⟨z0, z1, z2, z3, z4, z5, z6, z7⟩ := HCE.out _ hSw; go_simp; (try with_reducible rfl)
  simp only [Act.put, List.setIfInBounds_toArray, List.set_cons_zero, List.set_cons_succ]
  refine wpAnyH_take (i := 16) (oi := { dst := some 22, op := Op.move (Operand.tmp 0), type := 3, pos := "best.go:57", after := #[], guard := none }) (v := ?_) rfl (by kernel_rfl) (by kernel_rfl) (by kernel_rfl) (fun _ _ _ h => h) (Or.inl ⟨by rfl, ?_⟩) (by assumption) ?_
  case refine_2 => intro w hSw; (try dsimp only at hSw); obtain ⟨z0, z1, z2, z3, z4, z5, z6, z7⟩ := HCE.out _ hSw; go_simp; (try with_reducible rfl)
  simp only [Act.put, List.setIfInBounds_toArray, List.set_cons_zero, List.set_cons_succ]
  refine wpAnyH_take (i := 17) (oi := { dst := some 23, op := Op.binOp BinOp.sub 3 (Operand.tmp 22) (Operand.const (Value.int IntKind.i64 1)) 3, type := 3, pos := "best.go:57", after := #[{ on := 16, ground := Ground.data }], guard := none }) (v := ?_) rfl (by kernel_rfl) (by kernel_rfl) (by kernel_rfl) (fun _ _ _ h => h) (Or.inl ⟨by rfl, ?_⟩) (by assumption) ?_
  case refine_2 => intro w hSw; (try dsimp only at hSw); obtain ⟨z0, z1, z2, z3, z4, z5, z6, z7⟩ := HCE.out _ hSw; go_simp; (try with_reducible rfl)
  simp only [Act.put, List.setIfInBounds_toArray, List.set_cons_zero, List.set_cons_succ]
  refine wpAnyH_take (i := 18) (oi := { dst := some 24, op := Op.indexAddr 26 (Operand.tmp 21) (Operand.tmp 23), type := 0, pos := "best.go:57", after := #[{ on := 15, ground := Ground.data }, { on := 17, ground := Ground.data }], guard := none }) (v := ?_) rfl (by kernel_rfl) (by kernel_rfl) (by kernel_rfl) (fun _ _ _ h => h) (Or.inl ⟨by rfl, ?_⟩) (by assumption) ?_
  case refine_2 => intro w hSw; (try dsimp only at hSw); obtain ⟨z0, z1, z2, z3, z4, z5, z6, z7⟩ := HCE.out _ hSw; go_simp; (try with_reducible rfl)
  simp only [Act.put, List.setIfInBounds_toArray, List.set_cons_zero, List.set_cons_succ]
  refine wpAnyH_take (i := 19) (oi := { dst := some 25, op := Op.load 3 (Operand.tmp 24), type := 3, pos := "best.go:57", after := #[{ on := 18, ground := Ground.data }], guard := none }) (v := ?_) rfl (by kernel_rfl) (by kernel_rfl) (by kernel_rfl) (fun _ _ _ h => h) (Or.inl ⟨by rfl, ?_⟩) (by assumption) ?_
  case refine_2 => intro w hSw; (try dsimp only at hSw); obtain ⟨z0, z1, z2, z3, z4, z5, z6, z7⟩ := HCE.out _ hSw; go_simp; (try with_reducible rfl)
  simp only [Act.put, List.setIfInBounds_toArray, List.set_cons_zero, List.set_cons_succ]
  refine wpAnyH_take (i := 20) (oi := { dst := some 26, op := Op.binOp BinOp.sub 3 (Operand.tmp 13) (Operand.tmp 25) 3, type := 3, pos := "best.go:57", after := #[{ on := 7, ground := Ground.data }, { on := 19, ground := Ground.data }], guard := none }) (v := ?_) rfl (by kernel_rfl) (by kernel_rfl) (by kernel_rfl) (fun _ _ _ h => h) (Or.inl ⟨by rfl, ?_⟩) (by assumption) ?_
  case refine_2 => intro w hSw; (try dsimp only at hSw); obtain ⟨z0, z1, z2, z3, z4, z5, z6, z7⟩ := HCE.out _ hSw; go_simp; (try with_reducible rfl)
  simp only [Act.put, List.setIfInBounds_toArray, List.set_cons_zero, List.set_cons_succ]
  refine wpAnyH_take (i := 21) (oi := { dst := some 5, op := Op.assign (Operand.tmp 26), type := 3, pos := "best.go:57", after := #[{ on := 20, ground := Ground.data }, { on := 0, ground := Ground.phase }, { on := 1, ground := Ground.phase }, { on := 2, ground := Ground.phase }, { on := 3, ground := Ground.phase }, { on := 4, ground := Ground.phase }, { on := 5, ground := Ground.phase }, { on := 6, ground := Ground.phase }, { on := 7, ground := Ground.phase }, { on := 8, ground := Ground.phase }, { on := 9, ground := Ground.phase }, { on := 10, ground := Ground.phase }, { on := 11, ground := Ground.phase }, { on := 12, ground := Ground.phase }, { on := 13, ground := Ground.phase }, { on := 14, ground := Ground.phase }, { on := 15, ground := Ground.phase }, { on := 16, ground := Ground.phase }, { on := 17, ground := Ground.phase }, { on := 18, ground := Ground.phase }, { on := 19, ground := Ground.phase }, { on := 20, ground := Ground.phase }], guard := none }) (v := ?_) rfl (by kernel_rfl) (by kernel_rfl) (by kernel_rfl) (fun _ _ _ h => h) (Or.inl ⟨by rfl, ?_⟩) (by assumption) ?_
  case refine_2 => intro w hSw; (try dsimp only at hSw); obtain ⟨z0, z1, z2, z3, z4, z5, z6, z7⟩ := HCE.out _ hSw; go_simp; (try with_reducible rfl)
  simp only [Act.put, List.setIfInBounds_toArray, List.set_cons_zero, List.set_cons_succ]
  refine wpAnyH_done (by kernel_rfl) ?_ _
  have HB0 : Hid (Below w.heap.size w V0) := hS0
  clear hS0
  go_wp2
  go_ret
  exact ⟨rfl, HB0.out⟩
set_option maxHeartbeats 4000000 in
set_option maxRecDepth 100000 in
theorem from_any (r x : Nat) (w : World) (hV : Vw w ps pu b off n cap ra rc s g ul) (hh : w.cell? ⟨ph, 0, none⟩ = some (.int .i64 (x : Int))) (hrn : r ≤ n) (hx : 1 ≤ x) (hxn : x ≤ n) (hn : n ≤ 1000) :
    Calls Try.prog 50 #[.int .i64 (r : Int), .pointer (some ⟨ps, 0, none⟩), .pointer (some ⟨ph, 0, none⟩)] w fun e w' => e = .returned (.int .i64 (s r x)) ∧ Below w.heap.size w w' := by
  obtain ⟨x', hx'⟩ : ∃ y, x = y + 1 := ⟨x - 1, by omega⟩
  obtain ⟨rb1, ro1, e1, _, k1⟩ := hV.sc.num r hrn (by omega)
  obtain ⟨m, hm⟩ : ∃ m, n + 1 = m := ⟨_, rfl⟩
  obtain ⟨xh, hxh⟩ : ∃ y, s r x = y := ⟨_, rfl⟩
  obtain ⟨q1, hq1⟩ : ∃ q, rc r = q := ⟨_, rfl⟩
  have HBX : Hid (∀ W, Below w.heap.size w W → W.cell? ⟨ps, 0, none⟩ = some (.slice (some ⟨b, off, none⟩) m cap) ∧ W.cell? ⟨ph, 0, none⟩ = some (.int .i64 (x : Int)) ∧ W.cell? ⟨b, off + r, none⟩ = some (.slice (some ⟨rb1, ro1, none⟩) n q1) ∧ W.cell? ⟨rb1, ro1 + x', none⟩ = some (.int .i64 xh)) := fun W hW => by
    have hv := hV.below hW
    have h1 := hv.sc.row r hrn
    obtain ⟨rb3, ro3, f1, _, g1⟩ := hv.sc.num r hrn (by omega)
    rw [e1] at f1 h1
    cases f1
    have h4 := g1 x' (by omega)
    rw [← hx', hxh] at h4
    rw [hq1] at h1
    have h6 := cell_of_row _ _ 0 _ _ _ hv.sb
    rw [hm] at h6
    exact ⟨h6, (hW.cell (World.block_lt_of_cell? _ _ hh)).trans hh, h1, h4⟩
  have w1 : IntKind.i64.wrap ((x : Int) - 1) = (x' : Int) := by rw [IntKind.wrap_i64]; omega
  have i1 : (r : Int) < (m : Int) := by omega
  have i3 : (x' : Int) < (n : Int) := by omega
  rw [hxh]
  clear hV hh e1 k1 hxh hq1 hm hx' hn
  go_enter Try.func50, Try.ntmps50
  go_upto_region 1 with fail
  have HCE : Hid _ := fun (W : World) (hSw : Below w.heap.size w W) => (And.intro ((HBX.out W hSw).1) (And.intro ((HBX.out W hSw).2.1) (And.intro ((HBX.out W hSw).2.2.1) ((HBX.out W hSw).2.2.2))))
  refine wp_region_held_drew (S := fun W => Below w.heap.size w W) (by kernel_rfl) (by exact below_drewN (Below.refl _ _) 1) (fun hHeld => ?_)
  have hS0 := hHeld
  generalize hV0 : w.drew = V0 at *
  clear hV0
  refine wpAnyH_take (i := 0) (oi := { dst := some 5, op := Op.load 22 (Operand.tmp 1), type := 22, pos := "best.go:64", after := #[], guard := none }) (v := ?_) rfl (by kernel_rfl) (by kernel_rfl) (by kernel_rfl) (fun _ _ _ h => h) (Or.inl ⟨by rfl, ?_⟩) (by assumption) ?_
  case refine_2 => intro w hSw; (try dsimp only at hSw); obtain ⟨z0, z1, z2, z3⟩ := HCE.out _ hSw; go_simp; (try with_reducible rfl)
  simp only [Act.put, List.setIfInBounds_toArray, List.set_cons_zero, List.set_cons_succ]
  refine wpAnyH_take (i := 1) (oi := { dst := some 6, op := Op.move (Operand.tmp 0), type := 3, pos := "best.go:64", after := #[], guard := none }) (v := ?_) rfl (by kernel_rfl) (by kernel_rfl) (by kernel_rfl) (fun _ _ _ h => h) (Or.inl ⟨by rfl, ?_⟩) (by assumption) ?_
  case refine_2 => intro w hSw; (try dsimp only at hSw); obtain ⟨z0, z1, z2, z3⟩ := HCE.out _ hSw; go_simp; (try with_reducible rfl)
  simp only [Act.put, List.setIfInBounds_toArray, List.set_cons_zero, List.set_cons_succ]
  refine wpAnyH_take (i := 2) (oi := { dst := some 7, op := Op.indexAddr 22 (Operand.tmp 5) (Operand.tmp 6), type := 0, pos := "best.go:64", after := #[{ on := 0, ground := Ground.data }, { on := 1, ground := Ground.data }], guard := none }) (v := ?_) rfl (by kernel_rfl) (by kernel_rfl) (by kernel_rfl) (fun _ _ _ h => h) (Or.inl ⟨by rfl, ?_⟩) (by assumption) ?_
  case refine_2 => intro w hSw; (try dsimp only at hSw); obtain ⟨z0, z1, z2, z3⟩ := HCE.out _ hSw; go_simp; (try with_reducible rfl)
  simp only [Act.put, List.setIfInBounds_toArray, List.set_cons_zero, List.set_cons_succ]
  refine wpAnyH_take (i := 3) (oi := { dst := some 8, op := Op.load 26 (Operand.tmp 7), type := 26, pos := "best.go:64", after := #[{ on := 2, ground := Ground.data }], guard := none }) (v := ?_) rfl (by kernel_rfl) (by kernel_rfl) (by kernel_rfl) (fun _ _ _ h => h) (Or.inl ⟨by rfl, ?_⟩) (by assumption) ?_
  case refine_2 => intro w hSw; (try dsimp only at hSw); obtain ⟨z0, z1, z2, z3⟩ := HCE.out _ hSw; go_simp; (try with_reducible rfl)
  simp only [Act.put, List.setIfInBounds_toArray, List.set_cons_zero, List.set_cons_succ]
  refine wpAnyH_take (i := 4) (oi := { dst := some 9, op := Op.load 3 (Operand.tmp 2), type := 3, pos := "best.go:64", after := #[], guard := none }) (v := ?_) rfl (by kernel_rfl) (by kernel_rfl) (by kernel_rfl) (fun _ _ _ h => h) (Or.inl ⟨by rfl, ?_⟩) (by assumption) ?_
  case refine_2 => intro w hSw; (try dsimp only at hSw); obtain ⟨z0, z1, z2, z3⟩ := HCE.out _ hSw; go_simp; (try with_reducible rfl)
  simp only [Act.put, List.setIfInBounds_toArray, List.set_cons_zero, List.set_cons_succ]
  refine wpAnyH_take (i := 5) (oi := { dst := some 10, op := Op.binOp BinOp.sub 3 (Operand.tmp 9) (Operand.const (Value.int IntKind.i64 1)) 3, type := 3, pos := "best.go:64", after := #[{ on := 4, ground := Ground.data }], guard := none }) (v := ?_) rfl (by kernel_rfl) (by kernel_rfl) (by kernel_rfl) (fun _ _ _ h => h) (Or.inl ⟨by rfl, ?_⟩) (by assumption) ?_
  case refine_2 => intro w hSw; (try dsimp only at hSw); obtain ⟨z0, z1, z2, z3⟩ := HCE.out _ hSw; go_simp; (try with_reducible rfl)
  simp only [Act.put, List.setIfInBounds_toArray, List.set_cons_zero, List.set_cons_succ]
  refine wpAnyH_take (i := 6) (oi := { dst := some 11, op := Op.indexAddr 26 (Operand.tmp 8) (Operand.tmp 10), type := 0, pos := "best.go:64", after := #[{ on := 3, ground := Ground.data }, { on := 5, ground := Ground.data }], guard := none }) (v := ?_) rfl (by kernel_rfl) (by kernel_rfl) (by kernel_rfl) (fun _ _ _ h => h) (Or.inl ⟨by rfl, ?_⟩) (by assumption) ?_
  case refine_2 => intro w hSw; (try dsimp only at hSw); obtain ⟨z0, z1, z2, z3⟩ := HCE.out _ hSw; go_simp; (try with_reducible rfl)
  simp only [Act.put, List.setIfInBounds_toArray, List.set_cons_zero, List.set_cons_succ]
  refine wpAnyH_take (i := 7) (oi := { dst := some 12, op := Op.load 3 (Operand.tmp 11), type := 3, pos := "best.go:64", after := #[{ on := 6, ground := Ground.data }], guard := none }) (v := ?_) rfl (by kernel_rfl) (by kernel_rfl) (by kernel_rfl) (fun _ _ _ h => h) (Or.inl ⟨by rfl, ?_⟩) (by assumption) ?_
  case refine_2 => intro w hSw; (try dsimp only at hSw); obtain ⟨z0, z1, z2, z3⟩ := HCE.out _ hSw; go_simp; (try with_reducible rfl)
  simp only [Act.put, List.setIfInBounds_toArray, List.set_cons_zero, List.set_cons_succ]
  refine wpAnyH_take (i := 8) (oi := { dst := some 4, op := Op.assign (Operand.tmp 12), type := 3, pos := "best.go:64", after := #[{ on := 7, ground := Ground.data }, { on := 0, ground := Ground.phase }, { on := 1, ground := Ground.phase }, { on := 2, ground := Ground.phase }, { on := 3, ground := Ground.phase }, { on := 4, ground := Ground.phase }, { on := 5, ground := Ground.phase }, { on := 6, ground := Ground.phase }, { on := 7, ground := Ground.phase }], guard := none }) (v := ?_) rfl (by kernel_rfl) (by kernel_rfl) (by kernel_rfl) (fun _ _ _ h => h) (Or.inl ⟨by rfl, ?_⟩) (by assumption) ?_
  case refine_2 => intro w hSw; (try dsimp only at hSw); obtain ⟨z0, z1, z2, z3⟩ := HCE.out _ hSw; go_simp; (try with_reducible rfl)
  simp only [Act.put, List.setIfInBounds_toArray, List.set_cons_zero, List.set_cons_succ]
  refine wpAnyH_done (by kernel_rfl) ?_ _
  have HB0 : Hid (Below w.heap.size w V0) := hS0
  clear hS0
  go_wp2
  go_ret
  exact ⟨rfl, HB0.out⟩
end
set_option maxHeartbeats 4000000 in
set_option maxRecDepth 100000 in
theorem first_more (f : Nat → Int) (R : List Nat) (v : Value) (ps ph pu : Nat) (w : World) (hR : Row w v 1 R.length (ns R)) (hne : R ≠ []) (hn : R.length ≤ 2000) (hf : ∀ x ∈ R, ∀ W, Below w.heap.size w W → Calls Try.prog 48 #[.int .i64 (x : Int), .pointer (some ⟨ps, 0, none⟩), .pointer (some ⟨ph, 0, none⟩), .pointer (some ⟨pu, 0, none⟩)] W fun e W' => e = .returned (.int .i64 (f x)) ∧ Below W.heap.size W W') :
    Calls Try.prog 49 #[v, .func (.func 48) #[] #[.pointer (some ⟨ps, 0, none⟩), .pointer (some ⟨ph, 0, none⟩), .pointer (some ⟨pu, 0, none⟩)]] w fun e w' => ∃ x : Nat, e = .returned (.int .i64 (x : Int)) ∧ x ∈ R ∧ (∀ y ∈ R, f y ≤ f x) ∧ Below w.heap.size w w' := by
  obtain ⟨hy1, a, cap, rfl, hy2, hc⟩ := hR
  have hpos : 0 < R.length := List.length_pos_iff.2 hne
  obtain ⟨b, off, rfl, hbl, hcc⟩ := hc.resolve_left (by omega)
  obtain ⟨n, hl⟩ : ∃ n, R.length = n := ⟨_, rfl⟩
  obtain ⟨x0, hx0⟩ : ∃ x, R[0]? = some x := ⟨_, List.getElem?_eq_getElem hpos⟩
  have HC : Hid (∀ W, Below w.heap.size w W → ∀ (j x : Nat), R[j]? = some x → W.cell? ⟨b, off + j, none⟩ = some (.int .i64 (x : Int))) := fun W hW j x hj => (hW.cell (p := ⟨b, off + j, none⟩) hbl).trans (hcc j _ (ns_at hj))
  have HF : Hid (∀ x ∈ R, ∀ W, Below w.heap.size w W → Calls Try.prog 48 #[.int .i64 (x : Int), .pointer (some ⟨ps, 0, none⟩), .pointer (some ⟨ph, 0, none⟩), .pointer (some ⟨pu, 0, none⟩)] W fun e W' => e = .returned (.int .i64 (f x)) ∧ Below W.heap.size W W') := hf
  have HL : Hid (R.length = n ∧ n ≤ 2000 ∧ R[0]? = some x0) := ⟨hl, by omega, hx0⟩
  have c0 := HC.out w (Below.refl _ _) 0 x0 hx0
  rw [Nat.add_zero] at c0
  have i0 : (0 : Int) < (n : Int) := by omega
  rw [hl]
  clear hy1 hy2 hc hn hl hcc hf hne hx0 hpos
  go_enter Try.func49, Try.ntmps49
  go_upto_region 3 with fail
  clear c0 i0
  go_loopw [5, 13] (fun p c wr => ∃ (i : Nat) (x : Nat), p = .int .i64 (x : Int) ∧ c = .int .i64 (i : Int) ∧ i ≤ n ∧ Below w.heap.size w wr ∧ x ∈ R ∧ ∀ (j y : Nat), j < i → R[j]? = some y → f y ≤ f x) (fun _ c _ => n - (intOf c).toNat)
  case atStart => exact ⟨0, x0, rfl, rfl, Nat.zero_le _, Below.refl _ _, List.mem_of_getElem? HL.out.2.2, fun j y hj => absurd hj (Nat.not_lt_zero _)⟩
  case round =>
    obtain ⟨i, x, rfl, rfl, hi, hbe, hxm, hmx⟩ := hrel
    have HI : Hid (Below w.heap.size w wr ∧ x ∈ R ∧ ∀ (j y : Nat), j < i → R[j]? = some y → f y ≤ f x) := ⟨hbe, hxm, hmx⟩
    clear hbe hxm hmx
    by_cases hlt : i < n
    · obtain ⟨y, hy⟩ : ∃ y, R[i]? = some y := ⟨_, List.getElem?_eq_getElem (by rw [HL.out.1]; exact hlt)⟩
      have c0 := HC.out wr HI.out.1 i y hy
      have HY : Hid (R[i]? = some y ∧ y ∈ R) := ⟨hy, List.mem_of_getElem? hy⟩
      have K1 := HF.out y HY.out.2 wr HI.out.1
      obtain ⟨fy, hfy⟩ : ∃ z, f y = z := ⟨_, rfl⟩
      obtain ⟨fx, hfx⟩ : ∃ z, f x = z := ⟨_, rfl⟩
      have HV : Hid (f y = fy ∧ f x = fx) := ⟨hfy, hfx⟩
      rw [hfy] at K1
      have hii : (i : Int) < (n : Int) := by omega
      have hnb := HL.out.2.1
      clear hy hfy hfx
      by_cases hgt : fx < fy
      · go_wp2_with (first
          | (go_at_call 48; (with_reducible refine K1.mono ?_); clear K1; rintro e w1 ⟨rfl, hb1⟩; have HB1 : Hid (Below w.heap.size w w1) := HI.out.1.trans (hb1.mono HI.out.1.size); have K2 := HF.out x HI.out.2.1 w1 HB1.out; rw [HV.out.2] at K2; clear hb1)
          | (go_at_call 48; (with_reducible refine K2.mono ?_); clear K2; rintro e w2 ⟨rfl, hb2⟩; have HB2 : Hid (Below w.heap.size w w2) := HB1.out.trans (hb2.mono HB1.out.size); clear hb2))
        go_roundw
        case rel => exact ⟨i + 1, y, rfl, by go_num, by omega, HB2.out, HY.out.2, fun j y2 hj hy2 => by
          by_cases e : j = i
          · rw [e, HY.out.1] at hy2; injection hy2 with e2; rw [e2]; exact Int.le_refl _
          · have := HI.out.2.2 j y2 (by omega) hy2
            rw [HV.out.1]
            rw [HV.out.2] at this
            omega⟩
        case measure => simp [intOf]; omega
      · go_wp2_with (first
          | (go_at_call 48; (with_reducible refine K1.mono ?_); clear K1; rintro e w1 ⟨rfl, hb1⟩; have HB1 : Hid (Below w.heap.size w w1) := HI.out.1.trans (hb1.mono HI.out.1.size); have K2 := HF.out x HI.out.2.1 w1 HB1.out; rw [HV.out.2] at K2; clear hb1)
          | (go_at_call 48; (with_reducible refine K2.mono ?_); clear K2; rintro e w2 ⟨rfl, hb2⟩; have HB2 : Hid (Below w.heap.size w w2) := HB1.out.trans (hb2.mono HB1.out.size); clear hb2))
        go_roundw
        case rel => exact ⟨i + 1, x, rfl, by go_num, by omega, HB2.out, HI.out.2.1, fun j y2 hj hy2 => by
          by_cases e : j = i
          · rw [e, HY.out.1] at hy2; injection hy2 with e2; rw [← e2, HV.out.1, HV.out.2]; omega
          · exact HI.out.2.2 j y2 (by omega) hy2⟩
        case measure => simp [intOf]; omega
    · obtain rfl : i = n := by omega
      go_wp2
      go_ret
      exact ⟨x, rfl, HI.out.2.1, fun y hy => by
        obtain ⟨j, hj, e⟩ := List.getElem_of_mem hy
        exact HI.out.2.2 j y (by rw [← HL.out.1]; exact hj) (by rw [List.getElem?_eq_getElem hj, e]), HI.out.1⟩
set_option maxHeartbeats 4000000 in
set_option maxRecDepth 100000 in
theorem first_from (f : Nat → Int) (R : List Nat) (v : Value) (ps ph : Nat) (w : World) (hR : Row w v 1 R.length (ns R)) (hne : R ≠ []) (hn : R.length ≤ 2000) (hf : ∀ x ∈ R, ∀ W, Below w.heap.size w W → Calls Try.prog 50 #[.int .i64 (x : Int), .pointer (some ⟨ps, 0, none⟩), .pointer (some ⟨ph, 0, none⟩)] W fun e W' => e = .returned (.int .i64 (f x)) ∧ Below W.heap.size W W') :
    Calls Try.prog 49 #[v, .func (.func 50) #[] #[.pointer (some ⟨ps, 0, none⟩), .pointer (some ⟨ph, 0, none⟩)]] w fun e w' => ∃ x : Nat, e = .returned (.int .i64 (x : Int)) ∧ x ∈ R ∧ (∀ y ∈ R, f y ≤ f x) ∧ Below w.heap.size w w' := by
  obtain ⟨hy1, a, cap, rfl, hy2, hc⟩ := hR
  have hpos : 0 < R.length := List.length_pos_iff.2 hne
  obtain ⟨b, off, rfl, hbl, hcc⟩ := hc.resolve_left (by omega)
  obtain ⟨n, hl⟩ : ∃ n, R.length = n := ⟨_, rfl⟩
  obtain ⟨x0, hx0⟩ : ∃ x, R[0]? = some x := ⟨_, List.getElem?_eq_getElem hpos⟩
  have HC : Hid (∀ W, Below w.heap.size w W → ∀ (j x : Nat), R[j]? = some x → W.cell? ⟨b, off + j, none⟩ = some (.int .i64 (x : Int))) := fun W hW j x hj => (hW.cell (p := ⟨b, off + j, none⟩) hbl).trans (hcc j _ (ns_at hj))
  have HF : Hid (∀ x ∈ R, ∀ W, Below w.heap.size w W → Calls Try.prog 50 #[.int .i64 (x : Int), .pointer (some ⟨ps, 0, none⟩), .pointer (some ⟨ph, 0, none⟩)] W fun e W' => e = .returned (.int .i64 (f x)) ∧ Below W.heap.size W W') := hf
  have HL : Hid (R.length = n ∧ n ≤ 2000 ∧ R[0]? = some x0) := ⟨hl, by omega, hx0⟩
  have c0 := HC.out w (Below.refl _ _) 0 x0 hx0
  rw [Nat.add_zero] at c0
  have i0 : (0 : Int) < (n : Int) := by omega
  rw [hl]
  clear hy1 hy2 hc hn hl hcc hf hne hx0 hpos
  go_enter Try.func49, Try.ntmps49
  go_upto_region 3 with fail
  clear c0 i0
  go_loopw [5, 13] (fun p c wr => ∃ (i : Nat) (x : Nat), p = .int .i64 (x : Int) ∧ c = .int .i64 (i : Int) ∧ i ≤ n ∧ Below w.heap.size w wr ∧ x ∈ R ∧ ∀ (j y : Nat), j < i → R[j]? = some y → f y ≤ f x) (fun _ c _ => n - (intOf c).toNat)
  case atStart => exact ⟨0, x0, rfl, rfl, Nat.zero_le _, Below.refl _ _, List.mem_of_getElem? HL.out.2.2, fun j y hj => absurd hj (Nat.not_lt_zero _)⟩
  case round =>
    obtain ⟨i, x, rfl, rfl, hi, hbe, hxm, hmx⟩ := hrel
    have HI : Hid (Below w.heap.size w wr ∧ x ∈ R ∧ ∀ (j y : Nat), j < i → R[j]? = some y → f y ≤ f x) := ⟨hbe, hxm, hmx⟩
    clear hbe hxm hmx
    by_cases hlt : i < n
    · obtain ⟨y, hy⟩ : ∃ y, R[i]? = some y := ⟨_, List.getElem?_eq_getElem (by rw [HL.out.1]; exact hlt)⟩
      have c0 := HC.out wr HI.out.1 i y hy
      have HY : Hid (R[i]? = some y ∧ y ∈ R) := ⟨hy, List.mem_of_getElem? hy⟩
      have K1 := HF.out y HY.out.2 wr HI.out.1
      obtain ⟨fy, hfy⟩ : ∃ z, f y = z := ⟨_, rfl⟩
      obtain ⟨fx, hfx⟩ : ∃ z, f x = z := ⟨_, rfl⟩
      have HV : Hid (f y = fy ∧ f x = fx) := ⟨hfy, hfx⟩
      rw [hfy] at K1
      have hii : (i : Int) < (n : Int) := by omega
      have hnb := HL.out.2.1
      clear hy hfy hfx
      by_cases hgt : fx < fy
      · go_wp2_with (first
          | (go_at_call 50; (with_reducible refine K1.mono ?_); clear K1; rintro e w1 ⟨rfl, hb1⟩; have HB1 : Hid (Below w.heap.size w w1) := HI.out.1.trans (hb1.mono HI.out.1.size); have K2 := HF.out x HI.out.2.1 w1 HB1.out; rw [HV.out.2] at K2; clear hb1)
          | (go_at_call 50; (with_reducible refine K2.mono ?_); clear K2; rintro e w2 ⟨rfl, hb2⟩; have HB2 : Hid (Below w.heap.size w w2) := HB1.out.trans (hb2.mono HB1.out.size); clear hb2))
        go_roundw
        case rel => exact ⟨i + 1, y, rfl, by go_num, by omega, HB2.out, HY.out.2, fun j y2 hj hy2 => by
          by_cases e : j = i
          · rw [e, HY.out.1] at hy2; injection hy2 with e2; rw [e2]; exact Int.le_refl _
          · have := HI.out.2.2 j y2 (by omega) hy2
            rw [HV.out.1]
            rw [HV.out.2] at this
            omega⟩
        case measure => simp [intOf]; omega
      · go_wp2_with (first
          | (go_at_call 50; (with_reducible refine K1.mono ?_); clear K1; rintro e w1 ⟨rfl, hb1⟩; have HB1 : Hid (Below w.heap.size w w1) := HI.out.1.trans (hb1.mono HI.out.1.size); have K2 := HF.out x HI.out.2.1 w1 HB1.out; rw [HV.out.2] at K2; clear hb1)
          | (go_at_call 50; (with_reducible refine K2.mono ?_); clear K2; rintro e w2 ⟨rfl, hb2⟩; have HB2 : Hid (Below w.heap.size w w2) := HB1.out.trans (hb2.mono HB1.out.size); clear hb2))
        go_roundw
        case rel => exact ⟨i + 1, x, rfl, by go_num, by omega, HB2.out, HI.out.2.1, fun j y2 hj hy2 => by
          by_cases e : j = i
          · rw [e, HY.out.1] at hy2; injection hy2 with e2; rw [← e2, HV.out.1, HV.out.2]; omega
          · exact HI.out.2.2 j y2 (by omega) hy2⟩
        case measure => simp [intOf]; omega
    · obtain rfl : i = n := by omega
      go_wp2
      go_ret
      exact ⟨x, rfl, HI.out.2.1, fun y hy => by
        obtain ⟨j, hj, e⟩ := List.getElem_of_mem hy
        exact HI.out.2.2 j y (by rw [← HL.out.1]; exact hj) (by rw [List.getElem?_eq_getElem hj, e]), HI.out.1⟩
end Go.Proofs.Ytpolnkdbebjpnaa.Hd
