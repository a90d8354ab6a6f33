/- reach: all pairs that one comes to. Conditions: few states, few arcs; no more pairs than may be. -/
import Derived.Test.YtfjocafepigijaaDoorSkM
import Derived.Test.YtfjocafepigijaaDoorHaM
namespace Go.Proofs.YtfjocafepigijaaDoor.Cu
open Go.RowKit Mv Set Qp Sk Po Ps Wd Se Mp St Cm Nm Nx Ra Am Pa Tc
open CR (nc)

structure R1p (w wx : World) (C Fb bS n : Nat) (fv vm : Value) (ws : List Nat) : Prop where
 row : wx.heap[Fb]? = some (.cells #[vm, .int .i64 0, .slice none 0 0] 183 (0, 0))
 set : IsSet wx w.heap.size vm n ws
 emp : ∀ k, mem ws k = false
 xC : wx.heap[w.heap.size]? = some (.cells #[.pointer (some ⟨C, 0, none⟩)] 71 (0, 0))
 xA : wx.heap[w.heap.size + 1]? = some (.cells #[fv] 114 (0, 0))
 xS : wx.heap[bS]? = some (.cells #[.pointer (some ⟨Fb, 0, none⟩)] 181 (0, 0))
 fge : w.heap.size ≤ Fb
 below : Below w.heap.size w wx
theorem R1p.drew {w wx : World} {C Fb bS n : Nat} {fv vm : Value} {ws : List Nat} (h : R1p w wx C Fb bS n fv vm ws) : R1p w wx.drew C Fb bS n fv vm ws := ⟨h.row, h.set, h.emp, h.xC, h.xA, h.xS, h.fge, h.below.drew⟩
theorem Rs.begun {w wx W : World} {C Fb bS n nh : Nat} {fv vm vh : Value} {ws hs : List Nat} (h : R1p w wx C Fb bS n fv vm ws) (hset : IsSet W wx.heap.size vh nh hs) (hb : Below wx.heap.size wx W) : Rs w W C Fb w.heap.size (w.heap.size + 1) bS n nh fv vm (.slice none 0 0) vh ws 0 [] hs :=
 ⟨⟨(hb.block _ (lt_at h.row)).trans h.row, set_below h.set hb, ⟨rfl, .inl ⟨rfl, rfl⟩⟩⟩, ⟨own_base hset.1 h.below.size, hset.2⟩, (hb.block _ (lt_at h.xC)).trans h.xC, (hb.block _ (lt_at h.xA)).trans h.xA, (hb.block _ (lt_at h.xS)).trans h.xS, h.fge, fun b e1 e2 => by have h1 := (h.set.1.lt b e1).2; have h2 := (hset.1.lt b e2).1; omega, h.below.trans (hb.mono h.below.size)⟩
theorem visit_rs (w wr : World) (C F bC bA bS n nh cnt P : Nat) (fv vm vt vh : Value) (ws T hs : List Nat) (h : Rs w wr C F bC bA bS n nh fv vm vt vh ws cnt T hs) (hP : P < n) (hn : n ≤ 1600) (hc : cnt ≤ n) (hT : T.length ≤ cnt) :
  Calls Tryd.prog 94 #[.pointer (some ⟨F, 0, none⟩), .int .i64 (P : Int)] wr fun e w' => e = .returned (.tuple #[]) ∧ ∃ vt', Rs w w' C F bC bA bS n nh fv vm vt' vh (put ws P) (cN ws P cnt) (tN ws P T) hs :=
 (visit_any w.heap.size F n cnt P ws T vm vt wr h.sr hP (by omega) (by omega) (by omega) h.below.size).mono fun _ _ ⟨e, vt', h1, h2, _⟩ => ⟨e, vt', h.went h1 h2⟩
theorem group_cp {w wr : World} {C SA SB fb gb gc nb m : Nat} {F R G : Nat → List Arc} {gs : List Nat} (h : IsCp w C SA SB F R fb gb gc nb m gs G) (hb : Below w.heap.size w wr) (hSB : SB ≤ 40) {q s g : Nat} (hq : q < SB) (hs : s ≤ 60) (hg : gs.getD (q * 61 + s) 0 = g) :
  Calls Tryd.prog 95 #[.pointer (some ⟨C, 0, none⟩), .int .i64 (q : Int), .int .i64 (s : Int)] wr fun e w' => e = .returned (.int .i64 (g : Int)) ∧ w' = wr := by
 have h' := h.on hb
 have hx := h'.nums _ (at_lt hq hs)
 rw [hg] at hx
 exact group_any C nb 0 (SB * 61) (SB * 61) q s (g : Int) wr (cell_of_row _ _ 3 _ _ _ h'.row) (by omega) hs (at_lt hq hs) (by rw [Nat.zero_add]; exact hx)
theorem row_at {w wr : World} {a : Option Addr} {c n : Nat} {L : List Arc} (h : Mv.Row w (.slice a n c) 5 L.length (acs L)) (hb : Below w.heap.size w wr) {y : Nat} (hy : y < L.length) : ∃ b off, a = some ⟨b, off, none⟩ ∧ wr.cell? ⟨b, off + y * 5, none⟩ = some (.int .i64 (L[y]).1) ∧ wr.cell? ⟨b, off + y * 5 + 1, none⟩ = some (.int .i64 (L[y]).2.1) ∧ wr.cell? ⟨b, off + y * 5 + 2, none⟩ = some (.int .i64 (L[y]).2.2.1) ∧ wr.cell? ⟨b, off + y * 5 + 3, none⟩ = some (.int .i64 (L[y]).2.2.2.1) ∧ wr.cell? ⟨b, off + y * 5 + 4, none⟩ = some (.int .i64 (L[y]).2.2.2.2) := by
 obtain ⟨_, a', c', e, _, hr⟩ := h
 cases e
 obtain ⟨b, off, e, hbl, hc⟩ := hr.resolve_left (by omega)
 have hcs := fun j u hu => (hb.cell (p := ⟨b, off + j, none⟩) hbl).trans (hc j u hu)
 have u := acs_at L y hy
 have p0 := hcs _ _ u.1
 have p1 := hcs _ _ u.2.1
 have p2 := hcs _ _ u.2.2.1
 have p3 := hcs _ _ u.2.2.2.1
 have p4 := hcs _ _ u.2.2.2.2
 rw [← Nat.add_assoc] at p1 p2 p3 p4
 exact ⟨b, off, e, p0, p1, p2, p3, p4⟩
theorem own_cap {w : World} {b e size n n' cap : Nat} {a : Option Addr} {xs : List Value} (h : w.ownsRow b e size (.slice a n' cap) n xs) (hn : 0 < n) : n ≤ cap ∧ cap ≤ maxLen := by
 rcases h.2 with ⟨_, h0⟩ | ⟨g, cap', cur, hv, _, _, hnc, hcm, _⟩
 ·omega
 ·simp only [Value.slice.injEq] at hv
  obtain ⟨_, _, rfl⟩ := hv
  exact ⟨hnc, hcm⟩
theorem wrap_mul {a b n : Nat} (h : n = a * b) (hn : n ≤ 1000000) : wrap64 ((a : Int) * (b : Int)) = (n : Int) ∧ IntKind.i64.wrap ((a : Int) * (b : Int)) = (n : Int) := by
 have e : (a : Int) * (b : Int) = (n : Int) := by rw [h]; simp
 rw [e, IntKind.wrap_i64]
 unfold wrap64
 omega
theorem wrap_sum {a b n : Nat} (h : n = a + b) (hn : n ≤ 1000000) : wrap64 ((a : Int) + (b : Int)) = (n : Int) ∧ IntKind.i64.wrap ((a : Int) + (b : Int)) = (n : Int) := by
 rw [IntKind.wrap_i64]
 unfold wrap64
 omega
set_option maxHeartbeats 8000000 in
set_option maxRecDepth 100000 in
theorem reach_any (SA SB C fb gb gc nb m n nh fk most : Nat) (F R G : Nat → List Arc) (gs L : List Nat) (af : Option Addr) (cf : Nat) (fa : Array Value) (al : Nat → Bool) (w : World)
  (HCP : Hid (IsCp w C SA SB F R fb gb gc nb m gs G)) (HAL : Hid (Alw w (.func (.func fk) fa #[]) n al)) (HFR : Hid (L.length = 0 ∨ ∃ pb po, af = some ⟨pb, po, none⟩ ∧ pb < w.heap.size ∧ ∀ i (h : i < L.length), w.cell? ⟨pb, po + i, none⟩ = some (.int .i64 (L[i] : Nat)))) (HL : Hid (∀ i (h : i < L.length), L[i] < n)) (HLl : Hid (L.length ≤ 20000))
  (HN : Hid (n = SA * SB)) (HNH : Hid (nh = SA * m)) (h0 : 0 < SB) (hSA : SA ≤ 40) (hSB : SB ≤ 40) (HMO : Hid (n ≤ most ∧ most ≤ 3000)) (HFA : Hid (∀ p, p < SA → (F p).length ≤ 120 ∧ ∀ x ∈ F p, ∃ t s : Nat, x.2.1 = (t : Int) ∧ t < SA ∧ x.2.2.2.1 = (s : Int) ∧ s ≤ 60)) (HRA : Hid (∀ q, q < SB → (R q).length ≤ 120 ∧ ∀ y ∈ R q, ∃ t : Nat, y.2.1 = (t : Int) ∧ t < SB)) :
  Calls Tryd.prog 67 #[.pointer (some ⟨C, 0, none⟩), .slice af L.length cf, .func (.func fk) fa #[], .int .i64 (most : Int)] w fun e w' => ∃ vm ws, e = .returned vm ∧ IsSet w' w.heap.size vm n ws ∧ (∀ k, mem ws k = true → k < n) ∧ (∀ k ∈ L, mem ws k = true) ∧ (∀ k, mem ws k = true → ∀ k' : Nat, (∃ e ∈ arcsP F R SB k, e.2.1 = (k' : Int)) → al k' = true → mem ws k' = true) ∧ Below w.heap.size w w' := by
 have hn16 : n ≤ 1600 := by rw [HN.out]; exact Nat.le_trans (Nat.mul_le_mul hSA hSB) (by decide)
 have hnh2 : nh ≤ 192040 := by rw [HNH.out]; exact Nat.le_trans (Nat.mul_le_mul hSA HCP.out.small) (by decide)
 have hm5 : m ≤ 4801 := HCP.out.small
 obtain ⟨wa1, wa2⟩ := wrap_mul HN.out (by omega)
 obtain ⟨wb1, wb2⟩ := wrap_mul HNH.out (by omega)
 have hn9 : n < 1000000000 := by omega
 have hn9h : nh < 1000000000 := by omega
 have hb1 : Below w.heap.size w (w.alloc (.cells #[.pointer (some ⟨C, 0, none⟩)] 71)) := (Below.refl _ w).alloc (Nat.le_refl _) _
 have hs1 : (w.alloc (.cells #[.pointer (some ⟨C, 0, none⟩)] 71)).heap.size = w.heap.size + 1 := by simp
 have hBV := hb1.alloc (by rw [hs1]; omega) (.cells #[.func (.func fk) fa #[]] 114)
 have x4 := (heap_alloc_old (w.alloc (.cells #[.pointer (some ⟨C, 0, none⟩)] 71)) (.cells #[.func (.func fk) fa #[]] 114) (by rw [hs1]; omega)).trans (heap_alloc_new w (.cells #[.pointer (some ⟨C, 0, none⟩)] 71))
 have x6 := heap_alloc_new (w.alloc (.cells #[.pointer (some ⟨C, 0, none⟩)] 71)) (.cells #[.func (.func fk) fa #[]] 114)
 rw [hs1] at x6
 have xR := (HCP.out.on hBV).row
 go_enter Tryd.func67, Tryd.ntmps67
 go_upto_region 1 with fail
 clear hs1 hb1
 generalize hV : (w.alloc (.cells #[.pointer (some ⟨C, 0, none⟩)] 71)).alloc (.cells #[.func (.func fk) fa #[]] 114) = VV at *
 clear hV
 go_cut [9] from 24 to 36 (fun s9 wx => ∃ (bS Fb : Nat) (vm : Value) (ws : List Nat), s9 = .pointer (some ⟨bS, 0, none⟩) ∧ R1p w wx C Fb bS n (.func (.func fk) fa #[]) vm ws)
 case first =>
  refine wp_region_noPanic ?_
  have HCE : Hid _ := fun (W : World) (hSw : W.heap[w.heap.size]? = some (.cells #[.pointer (some ⟨C, 0, none⟩)] 71 (0, 0)) ∧ W.heap[C]? = some (.cells #[.int .i64 (SB : Int), .slice (some ⟨fb, 0, none⟩) SA SA, .slice (some ⟨gb, 0, none⟩) m gc, .slice (some ⟨nb, 0, none⟩) (SB * 61) (SB * 61)] 129 (0, 0))) => (And.intro (cell_of_row _ _ 0 _ _ _ hSw.1) (And.intro (cell_of_row _ _ 0 _ _ _ hSw.2) (And.intro (cell_of_row _ _ 1 _ _ _ hSw.2) (cell_of_row _ _ 2 _ _ _ hSw.2))))
  refine wp_region_held_drew (S := fun W => W.heap[w.heap.size]? = some (.cells #[.pointer (some ⟨C, 0, none⟩)] 71 (0, 0)) ∧ W.heap[C]? = some (.cells #[.int .i64 (SB : Int), .slice (some ⟨fb, 0, none⟩) SA SA, .slice (some ⟨gb, 0, none⟩) m gc, .slice (some ⟨nb, 0, none⟩) (SB * 61) (SB * 61)] 129 (0, 0))) (by kernel_rfl) (by exact ⟨x4, xR⟩) (fun hHeld => ?_)
  have hS0 := hHeld
  have hA0 : VV.drew.heap[w.heap.size + 1]? = _ := x6
  have hB0 : Below w.heap.size w VV.drew := hBV.drew
  clear x4 x6 xR hBV
  generalize hV : VV.drew = V0 at *
  clear hV
  refine tk (v := ?_) 0 { dst := some 24, op := .load 71 (.tmp 4), type := 71, pos := "through.go:141", after := #[], guard := none } (by rfl) ?_ ?_
  case refine_2 => intro w hSw; (try dsimp only at hSw); obtain ⟨z0, c0, c1, c2⟩ := HCE.out _ hSw; go_simp; (try with_reducible rfl)
  simp only [Act.put, zS0, zS1, zS2]
  refine tk (v := ?_) 1 { dst := some 25, op := .nilCheck (.tmp 24), type := 0, pos := "through.go:141", after := #[⟨0, .data⟩], guard := none } (by rfl) ?_ ?_
  case refine_2 => intro w hSw; (try dsimp only at hSw); obtain ⟨z0, c0, c1, c2⟩ := HCE.out _ hSw; go_simp; (try with_reducible rfl)
  simp only [Act.put, zS0, zS1, zS2]
  refine tk (v := ?_) 2 { dst := some 26, op := .fieldAddr 129 (.tmp 25) 1, type := 0, pos := "through.go:141", after := #[⟨1, .data⟩], guard := none } (by rfl) ?_ ?_
  case refine_2 => intro w hSw; (try dsimp only at hSw); obtain ⟨z0, c0, c1, c2⟩ := HCE.out _ hSw; go_simp; (try with_reducible rfl)
  simp only [Act.put, zS0, zS1, zS2]
  refine tk (v := ?_) 3 { dst := some 27, op := .load 73 (.tmp 26), type := 73, pos := "through.go:141", after := #[⟨2, .data⟩], guard := none } (by rfl) ?_ ?_
  case refine_2 => intro w hSw; (try dsimp only at hSw); obtain ⟨z0, c0, c1, c2⟩ := HCE.out _ hSw; go_simp; (try with_reducible rfl)
  simp only [Act.put, zS0, zS1, zS2]
  refine tk (v := ?_) 4 { dst := some 28, op := .call { callee := .builtin .len, args := #[.tmp 27], argTypes := #[73] }, type := 3, pos := "through.go:141", after := #[⟨3, .data⟩], guard := none } (by rfl) ?_ ?_
  case refine_2 => intro w hSw; (try dsimp only at hSw); obtain ⟨z0, c0, c1, c2⟩ := HCE.out _ hSw; go_simp; (try with_reducible rfl)
  simp only [Act.put, zS0, zS1, zS2]
  refine tk (v := ?_) 5 { dst := some 29, op := .load 71 (.tmp 4), type := 71, pos := "through.go:141", after := #[], guard := none } (by rfl) ?_ ?_
  case refine_2 => intro w hSw; (try dsimp only at hSw); obtain ⟨z0, c0, c1, c2⟩ := HCE.out _ hSw; go_simp; (try with_reducible rfl)
  simp only [Act.put, zS0, zS1, zS2]
  refine tk (v := ?_) 6 { dst := some 30, op := .nilCheck (.tmp 29), type := 0, pos := "through.go:141", after := #[⟨5, .data⟩], guard := none } (by rfl) ?_ ?_
  case refine_2 => intro w hSw; (try dsimp only at hSw); obtain ⟨z0, c0, c1, c2⟩ := HCE.out _ hSw; go_simp; (try with_reducible rfl)
  simp only [Act.put, zS0, zS1, zS2]
  refine tk (v := ?_) 7 { dst := some 31, op := .fieldAddr 129 (.tmp 30) 0, type := 0, pos := "through.go:141", after := #[⟨6, .data⟩], guard := none } (by rfl) ?_ ?_
  case refine_2 => intro w hSw; (try dsimp only at hSw); obtain ⟨z0, c0, c1, c2⟩ := HCE.out _ hSw; go_simp; (try with_reducible rfl)
  simp only [Act.put, zS0, zS1, zS2]
  refine tk (v := ?_) 8 { dst := some 32, op := .load 3 (.tmp 31), type := 3, pos := "through.go:141", after := #[⟨7, .data⟩], guard := none } (by rfl) ?_ ?_
  case refine_2 => intro w hSw; (try dsimp only at hSw); obtain ⟨z0, c0, c1, c2⟩ := HCE.out _ hSw; go_simp; (try with_reducible rfl)
  simp only [Act.put, zS0, zS1, zS2]
  refine tk (v := ?_) 9 { dst := some 33, op := .binOp .mul 3 (.tmp 28) (.tmp 32) 3, type := 3, pos := "through.go:141", after := #[⟨4, .data⟩, ⟨8, .data⟩], guard := none } (by rfl) ?_ ?_
  case refine_2 => intro w hSw; (try dsimp only at hSw); obtain ⟨z0, c0, c1, c2⟩ := HCE.out _ hSw; go_simp; (try with_reducible rfl)
  simp only [Act.put, zS0, zS1, zS2]
  refine wpAnyH_ready (rs := [10, 13]) (by kernel_rfl) (by simp) ?_
  refine (AllReadyH.cons (o := { dst := some 34, op := .call { callee := .value (.func 59), args := #[.tmp 33], argTypes := #[3] }, type := 77, pos := "through.go:141", after := #[⟨9, .data⟩], guard := none }) rfl (fun K hK => ?_) (AllReadyH.cons (o := { dst := some 9, op := .alloc 181, type := 0, pos := "through.go:141", after := #[], guard := none }) rfl (fun K hK => ?_) AllReadyH.nil))
  ·skip
   have KN := Set.new_any n V0 hn9
   go_simp
   (with_reducible refine KN.mono ?_)
   clear KN
   rintro e1 V1 ⟨vm, ws, rfl, hset, hemp, hb⟩
   dsimp only
   obtain ⟨am, cm, rfl⟩ := Am.own_slice hset.1
   have hS1 := And.intro ((hb.block _ (lt_at hS0.1)).trans hS0.1) ((hb.block _ (lt_at hS0.2)).trans hS0.2)
   have hA1 := (hb.block _ (lt_at hA0)).trans hA0
   have hE1 : IsSet V1 w.heap.size (.slice am ws.length cm) n ws := ⟨own_base hset.1 hB0.size, hset.2⟩
   have HEM : Hid (∀ k, mem ws k = false) := hemp
   have hB1 := hB0.trans (hb.mono hB0.size)
   clear hset hemp hb
   refine hK.out _ _ ?_ (fun hHeld => ?_)
   ·first | exact hS4 | exact hS3 | exact hS2 | exact hS1
   clear hK K
   try simp only [Act.put, zS0, zS1, zS2]
   clear hS0 hA0 hB0
   refine tk (v := ?_) 11 { dst := some 35, op := .build 183 #[(0, .tmp 34)], type := 183, pos := "through.go:141", after := #[⟨10, .data⟩], guard := none } (by rfl) ?_ ?_
   case refine_2 => intro w hSw; (try dsimp only at hSw); obtain ⟨z0, c0, c1, c2⟩ := HCE.out _ hSw; go_simp; (try with_reducible rfl)
   simp only [Act.put, zS0, zS1, zS2]
   refine wpAnyH_ready (rs := [12, 13]) (by kernel_rfl) (by simp) ?_
   refine (AllReadyH.cons (o := { dst := some 36, op := .box 183 (.tmp 35), type := 181, pos := "through.go:141", after := #[⟨11, .data⟩], guard := none }) rfl (fun K hK => ?_) (AllReadyH.cons (o := { dst := some 9, op := .alloc 181, type := 0, pos := "through.go:141", after := #[], guard := none }) rfl (fun K hK => ?_) AllReadyH.nil))
   ·skip
    go_simp
    have hS2 := And.intro ((heap_alloc_old V1 (.cells #[.slice am ws.length cm, .int .i64 0, .slice none 0 0] 183) (lt_at hS1.1)).trans hS1.1) ((heap_alloc_old V1 (.cells #[.slice am ws.length cm, .int .i64 0, .slice none 0 0] 183) (lt_at hS1.2)).trans hS1.2)
    have hA2 := (heap_alloc_old V1 (.cells #[.slice am ws.length cm, .int .i64 0, .slice none 0 0] 183) (lt_at hA1)).trans hA1
    have hB2 := hB1.alloc hB1.size (.cells #[.slice am ws.length cm, .int .i64 0, .slice none 0 0] 183)
    have hE2 : IsSet (V1.alloc (.cells #[.slice am ws.length cm, .int .i64 0, .slice none 0 0] 183)) w.heap.size (.slice am ws.length cm) n ws := ⟨hE1.1.alloc (.cells #[.slice am ws.length cm, .int .i64 0, .slice none 0 0] 183), hE1.2⟩
    have hF2 := heap_alloc_new V1 (.cells #[.slice am ws.length cm, .int .i64 0, .slice none 0 0] 183)
    have hFg := hB1.size
    refine hK.out _ _ ?_ (fun hHeld => ?_)
    ·first | exact hS4 | exact hS3 | exact hS2 | exact hS1
    clear hK K
    try simp only [Act.put, zS0, zS1, zS2]
    generalize hV : V1.alloc (.cells #[.slice am ws.length cm, .int .i64 0, .slice none 0 0] 183) = V2 at *
    clear hV hS1 hA1 hB1 hE1
    generalize V1.heap.size = Fb at *
    refine wpAnyH_ready (rs := [13]) (by kernel_rfl) (by simp) ?_
    refine (AllReadyH.cons (o := { dst := some 9, op := .alloc 181, type := 0, pos := "through.go:141", after := #[], guard := none }) rfl (fun K hK => ?_) AllReadyH.nil)
    go_simp
    have hS3 := And.intro ((heap_alloc_old V2 (.cells #[.pointer none] 181) (lt_at hS2.1)).trans hS2.1) ((heap_alloc_old V2 (.cells #[.pointer none] 181) (lt_at hS2.2)).trans hS2.2)
    have hA3 := (heap_alloc_old V2 (.cells #[.pointer none] 181) (lt_at hA2)).trans hA2
    have hB3 := hB2.alloc hB2.size (.cells #[.pointer none] 181)
    have hE3 : IsSet (V2.alloc (.cells #[.pointer none] 181)) w.heap.size (.slice am ws.length cm) n ws := ⟨hE2.1.alloc (.cells #[.pointer none] 181), hE2.2⟩
    have hF3 := (heap_alloc_old V2 (.cells #[.pointer none] 181) (lt_at hF2)).trans hF2
    have hP3 := heap_alloc_new V2 (.cells #[.pointer none] 181)
    have hPg := hB2.size
    refine hK.out _ _ ?_ (fun hHeld => ?_)
    ·first | exact hS4 | exact hS3 | exact hS2 | exact hS1
    clear hK K
    try simp only [Act.put, zS0, zS1, zS2]
    generalize hV : V2.alloc (.cells #[.pointer none] 181) = V3 at *
    clear hV hS2 hA2 hB2 hE2 hF2
    generalize V2.heap.size = bS at *
    refine wpAnyH_ready (rs := [14]) (by kernel_rfl) (by simp) ?_
    refine (AllReadyH.cons (o := { dst := none, op := .store 181 (.tmp 9) (.tmp 36), type := 0, pos := "through.go:141", after := #[⟨13, .data⟩, ⟨12, .data⟩, ⟨10, .chain⟩, ⟨0, .phase⟩, ⟨1, .phase⟩, ⟨2, .phase⟩, ⟨3, .phase⟩, ⟨4, .phase⟩, ⟨5, .phase⟩, ⟨6, .phase⟩, ⟨7, .phase⟩, ⟨8, .phase⟩, ⟨9, .phase⟩, ⟨10, .phase⟩, ⟨11, .phase⟩, ⟨12, .phase⟩, ⟨13, .phase⟩], guard := none }) rfl (fun K hK => ?_) AllReadyH.nil)
    have cP := cell_of_row _ _ 0 _ _ _ hP3
    have fP := frozen_of_row _ _ 0 _ 181 hP3
    go_simp
    have hne1 : ¬ w.heap.size = bS := fun e => by rw [e] at hS3; exact ty_ne hS3.1 hP3 (by decide)
    have hne2 : ¬ C = bS := fun e => by rw [e] at hS3; exact ty_ne hS3.2 hP3 (by decide)
    have hne3 : ¬ w.heap.size + 1 = bS := fun e => by rw [e] at hA3; exact ty_ne hA3 hP3 (by decide)
    have hne4 : ¬ Fb = bS := fun e => by rw [e] at hF3; exact ty_ne hF3 hP3 (by decide)
    have hS4 := And.intro ((heap_setCell_other V3 ⟨bS, 0, none⟩ _ (.pointer (some ⟨Fb, 0, none⟩)) hne1).trans hS3.1) ((heap_setCell_other V3 ⟨bS, 0, none⟩ _ (.pointer (some ⟨Fb, 0, none⟩)) hne2).trans hS3.2)
    have hA4 := (heap_setCell_other V3 ⟨bS, 0, none⟩ _ (.pointer (some ⟨Fb, 0, none⟩)) hne3).trans hA3
    have hF4 := (heap_setCell_other V3 ⟨bS, 0, none⟩ _ (.pointer (some ⟨Fb, 0, none⟩)) hne4).trans hF3
    have hP4 := heap_setCell_same V3 bS 0 _ 181 (.pointer (some ⟨Fb, 0, none⟩)) hP3
    have hB4 := hB3.setCell (p := ⟨bS, 0, none⟩) hPg (.pointer (some ⟨Fb, 0, none⟩))
    have hE4 : IsSet (V3.setCell ⟨bS, 0, none⟩ (.pointer (some ⟨Fb, 0, none⟩))) w.heap.size (.slice am ws.length cm) n ws := ⟨own_kp2 hE3.1 ((Kp.refl (fun b => b = bS) V3).setCell _ _ _ (fun _ => rfl)) (fun b e1 e2 => by subst e2; obtain ⟨d, hd⟩ := own_ty hE3.1 e1; exact ty_ne hd hP3 (by decide)), hE3.2⟩
    clear cP fP
    refine hK.out _ _ ?_ (fun hHeld => ?_)
    ·first | exact hS4 | exact hS3 | exact hS2 | exact hS1
    clear hK K
    try simp only [Act.put, zS0, zS1, zS2]
    refine wpAnyH_done (by kernel_rfl) ?_ _
    go_wp2_with fail
    refine Met.intro ?_
    go_step
    go_meet
    case rel => exact ⟨bS, Fb, _, ws, rfl, ⟨hF4, hE4, HEM.out, hS4.1, hA4, by simpa using hP4, hFg, hB4⟩⟩
   ·skip
    go_simp
    have hS2 := And.intro ((heap_alloc_old V1 (.cells #[.pointer none] 181) (lt_at hS1.1)).trans hS1.1) ((heap_alloc_old V1 (.cells #[.pointer none] 181) (lt_at hS1.2)).trans hS1.2)
    have hA2 := (heap_alloc_old V1 (.cells #[.pointer none] 181) (lt_at hA1)).trans hA1
    have hB2 := hB1.alloc hB1.size (.cells #[.pointer none] 181)
    have hE2 : IsSet (V1.alloc (.cells #[.pointer none] 181)) w.heap.size (.slice am ws.length cm) n ws := ⟨hE1.1.alloc (.cells #[.pointer none] 181), hE1.2⟩
    have hP2 := heap_alloc_new V1 (.cells #[.pointer none] 181)
    have hPg := hB1.size
    refine hK.out _ _ ?_ (fun hHeld => ?_)
    ·first | exact hS4 | exact hS3 | exact hS2 | exact hS1
    clear hK K
    try simp only [Act.put, zS0, zS1, zS2]
    generalize hV : V1.alloc (.cells #[.pointer none] 181) = V2 at *
    clear hV hS1 hA1 hB1 hE1
    generalize V1.heap.size = bS at *
    refine wpAnyH_ready (rs := [12]) (by kernel_rfl) (by simp) ?_
    refine (AllReadyH.cons (o := { dst := some 36, op := .box 183 (.tmp 35), type := 181, pos := "through.go:141", after := #[⟨11, .data⟩], guard := none }) rfl (fun K hK => ?_) AllReadyH.nil)
    go_simp
    have hS3 := And.intro ((heap_alloc_old V2 (.cells #[.slice am ws.length cm, .int .i64 0, .slice none 0 0] 183) (lt_at hS2.1)).trans hS2.1) ((heap_alloc_old V2 (.cells #[.slice am ws.length cm, .int .i64 0, .slice none 0 0] 183) (lt_at hS2.2)).trans hS2.2)
    have hA3 := (heap_alloc_old V2 (.cells #[.slice am ws.length cm, .int .i64 0, .slice none 0 0] 183) (lt_at hA2)).trans hA2
    have hB3 := hB2.alloc hB2.size (.cells #[.slice am ws.length cm, .int .i64 0, .slice none 0 0] 183)
    have hE3 : IsSet (V2.alloc (.cells #[.slice am ws.length cm, .int .i64 0, .slice none 0 0] 183)) w.heap.size (.slice am ws.length cm) n ws := ⟨hE2.1.alloc (.cells #[.slice am ws.length cm, .int .i64 0, .slice none 0 0] 183), hE2.2⟩
    have hP3 := (heap_alloc_old V2 (.cells #[.slice am ws.length cm, .int .i64 0, .slice none 0 0] 183) (lt_at hP2)).trans hP2
    have hF3 := heap_alloc_new V2 (.cells #[.slice am ws.length cm, .int .i64 0, .slice none 0 0] 183)
    have hFg := hB2.size
    refine hK.out _ _ ?_ (fun hHeld => ?_)
    ·first | exact hS4 | exact hS3 | exact hS2 | exact hS1
    clear hK K
    try simp only [Act.put, zS0, zS1, zS2]
    generalize hV : V2.alloc (.cells #[.slice am ws.length cm, .int .i64 0, .slice none 0 0] 183) = V3 at *
    clear hV hS2 hA2 hB2 hE2 hP2
    generalize V2.heap.size = Fb at *
    refine wpAnyH_ready (rs := [14]) (by kernel_rfl) (by simp) ?_
    refine (AllReadyH.cons (o := { dst := none, op := .store 181 (.tmp 9) (.tmp 36), type := 0, pos := "through.go:141", after := #[⟨13, .data⟩, ⟨12, .data⟩, ⟨10, .chain⟩, ⟨0, .phase⟩, ⟨1, .phase⟩, ⟨2, .phase⟩, ⟨3, .phase⟩, ⟨4, .phase⟩, ⟨5, .phase⟩, ⟨6, .phase⟩, ⟨7, .phase⟩, ⟨8, .phase⟩, ⟨9, .phase⟩, ⟨10, .phase⟩, ⟨11, .phase⟩, ⟨12, .phase⟩, ⟨13, .phase⟩], guard := none }) rfl (fun K hK => ?_) AllReadyH.nil)
    have cP := cell_of_row _ _ 0 _ _ _ hP3
    have fP := frozen_of_row _ _ 0 _ 181 hP3
    go_simp
    have hne1 : ¬ w.heap.size = bS := fun e => by rw [e] at hS3; exact ty_ne hS3.1 hP3 (by decide)
    have hne2 : ¬ C = bS := fun e => by rw [e] at hS3; exact ty_ne hS3.2 hP3 (by decide)
    have hne3 : ¬ w.heap.size + 1 = bS := fun e => by rw [e] at hA3; exact ty_ne hA3 hP3 (by decide)
    have hne4 : ¬ Fb = bS := fun e => by rw [e] at hF3; exact ty_ne hF3 hP3 (by decide)
    have hS4 := And.intro ((heap_setCell_other V3 ⟨bS, 0, none⟩ _ (.pointer (some ⟨Fb, 0, none⟩)) hne1).trans hS3.1) ((heap_setCell_other V3 ⟨bS, 0, none⟩ _ (.pointer (some ⟨Fb, 0, none⟩)) hne2).trans hS3.2)
    have hA4 := (heap_setCell_other V3 ⟨bS, 0, none⟩ _ (.pointer (some ⟨Fb, 0, none⟩)) hne3).trans hA3
    have hF4 := (heap_setCell_other V3 ⟨bS, 0, none⟩ _ (.pointer (some ⟨Fb, 0, none⟩)) hne4).trans hF3
    have hP4 := heap_setCell_same V3 bS 0 _ 181 (.pointer (some ⟨Fb, 0, none⟩)) hP3
    have hB4 := hB3.setCell (p := ⟨bS, 0, none⟩) hPg (.pointer (some ⟨Fb, 0, none⟩))
    have hE4 : IsSet (V3.setCell ⟨bS, 0, none⟩ (.pointer (some ⟨Fb, 0, none⟩))) w.heap.size (.slice am ws.length cm) n ws := ⟨own_kp2 hE3.1 ((Kp.refl (fun b => b = bS) V3).setCell _ _ _ (fun _ => rfl)) (fun b e1 e2 => by subst e2; obtain ⟨d, hd⟩ := own_ty hE3.1 e1; exact ty_ne hd hP3 (by decide)), hE3.2⟩
    clear cP fP
    refine hK.out _ _ ?_ (fun hHeld => ?_)
    ·first | exact hS4 | exact hS3 | exact hS2 | exact hS1
    clear hK K
    try simp only [Act.put, zS0, zS1, zS2]
    refine wpAnyH_done (by kernel_rfl) ?_ _
    go_wp2_with fail
    refine Met.intro ?_
    go_step
    go_meet
    case rel => exact ⟨bS, Fb, _, ws, rfl, ⟨hF4, hE4, HEM.out, hS4.1, hA4, by simpa using hP4, hFg, hB4⟩⟩
  ·skip
   go_simp
   have hS1 := And.intro ((heap_alloc_old V0 (.cells #[.pointer none] 181) (lt_at hS0.1)).trans hS0.1) ((heap_alloc_old V0 (.cells #[.pointer none] 181) (lt_at hS0.2)).trans hS0.2)
   have hA1 := (heap_alloc_old V0 (.cells #[.pointer none] 181) (lt_at hA0)).trans hA0
   have hB1 := hB0.alloc hB0.size (.cells #[.pointer none] 181)
   have hP1 := heap_alloc_new V0 (.cells #[.pointer none] 181)
   have hPg := hB0.size
   refine hK.out _ _ ?_ (fun hHeld => ?_)
   ·first | exact hS4 | exact hS3 | exact hS2 | exact hS1
   clear hK K
   try simp only [Act.put, zS0, zS1, zS2]
   generalize hV : V0.alloc (.cells #[.pointer none] 181) = V1 at *
   clear hV hS0 hA0 hB0
   generalize V0.heap.size = bS at *
   refine wpAnyH_ready (rs := [10]) (by kernel_rfl) (by simp) ?_
   refine (AllReadyH.cons (o := { dst := some 34, op := .call { callee := .value (.func 59), args := #[.tmp 33], argTypes := #[3] }, type := 77, pos := "through.go:141", after := #[⟨9, .data⟩], guard := none }) rfl (fun K hK => ?_) AllReadyH.nil)
   have KN := Set.new_any n V1 hn9
   go_simp
   (with_reducible refine KN.mono ?_)
   clear KN
   rintro e1 V2 ⟨vm, ws, rfl, hset, hemp, hb⟩
   dsimp only
   obtain ⟨am, cm, rfl⟩ := Am.own_slice hset.1
   have hS2 := And.intro ((hb.block _ (lt_at hS1.1)).trans hS1.1) ((hb.block _ (lt_at hS1.2)).trans hS1.2)
   have hA2 := (hb.block _ (lt_at hA1)).trans hA1
   have hE2 : IsSet V2 w.heap.size (.slice am ws.length cm) n ws := ⟨own_base hset.1 hB1.size, hset.2⟩
   have HEM : Hid (∀ k, mem ws k = false) := hemp
   have hB2 := hB1.trans (hb.mono hB1.size)
   have hP2 := (hb.block _ (lt_at hP1)).trans hP1
   clear hset hemp hb
   refine hK.out _ _ ?_ (fun hHeld => ?_)
   ·first | exact hS4 | exact hS3 | exact hS2 | exact hS1
   clear hK K
   try simp only [Act.put, zS0, zS1, zS2]
   clear hS1 hA1 hB1 hP1
   refine tk (v := ?_) 11 { dst := some 35, op := .build 183 #[(0, .tmp 34)], type := 183, pos := "through.go:141", after := #[⟨10, .data⟩], guard := none } (by rfl) ?_ ?_
   case refine_2 => intro w hSw; (try dsimp only at hSw); obtain ⟨z0, c0, c1, c2⟩ := HCE.out _ hSw; go_simp; (try with_reducible rfl)
   simp only [Act.put, zS0, zS1, zS2]
   refine wpAnyH_ready (rs := [12]) (by kernel_rfl) (by simp) ?_
   refine (AllReadyH.cons (o := { dst := some 36, op := .box 183 (.tmp 35), type := 181, pos := "through.go:141", after := #[⟨11, .data⟩], guard := none }) rfl (fun K hK => ?_) AllReadyH.nil)
   go_simp
   have hS3 := And.intro ((heap_alloc_old V2 (.cells #[.slice am ws.length cm, .int .i64 0, .slice none 0 0] 183) (lt_at hS2.1)).trans hS2.1) ((heap_alloc_old V2 (.cells #[.slice am ws.length cm, .int .i64 0, .slice none 0 0] 183) (lt_at hS2.2)).trans hS2.2)
   have hA3 := (heap_alloc_old V2 (.cells #[.slice am ws.length cm, .int .i64 0, .slice none 0 0] 183) (lt_at hA2)).trans hA2
   have hB3 := hB2.alloc hB2.size (.cells #[.slice am ws.length cm, .int .i64 0, .slice none 0 0] 183)
   have hE3 : IsSet (V2.alloc (.cells #[.slice am ws.length cm, .int .i64 0, .slice none 0 0] 183)) w.heap.size (.slice am ws.length cm) n ws := ⟨hE2.1.alloc (.cells #[.slice am ws.length cm, .int .i64 0, .slice none 0 0] 183), hE2.2⟩
   have hP3 := (heap_alloc_old V2 (.cells #[.slice am ws.length cm, .int .i64 0, .slice none 0 0] 183) (lt_at hP2)).trans hP2
   have hF3 := heap_alloc_new V2 (.cells #[.slice am ws.length cm, .int .i64 0, .slice none 0 0] 183)
   have hFg := hB2.size
   refine hK.out _ _ ?_ (fun hHeld => ?_)
   ·first | exact hS4 | exact hS3 | exact hS2 | exact hS1
   clear hK K
   try simp only [Act.put, zS0, zS1, zS2]
   generalize hV : V2.alloc (.cells #[.slice am ws.length cm, .int .i64 0, .slice none 0 0] 183) = V3 at *
   clear hV hS2 hA2 hB2 hE2 hP2
   generalize V2.heap.size = Fb at *
   refine wpAnyH_ready (rs := [14]) (by kernel_rfl) (by simp) ?_
   refine (AllReadyH.cons (o := { dst := none, op := .store 181 (.tmp 9) (.tmp 36), type := 0, pos := "through.go:141", after := #[⟨13, .data⟩, ⟨12, .data⟩, ⟨10, .chain⟩, ⟨0, .phase⟩, ⟨1, .phase⟩, ⟨2, .phase⟩, ⟨3, .phase⟩, ⟨4, .phase⟩, ⟨5, .phase⟩, ⟨6, .phase⟩, ⟨7, .phase⟩, ⟨8, .phase⟩, ⟨9, .phase⟩, ⟨10, .phase⟩, ⟨11, .phase⟩, ⟨12, .phase⟩, ⟨13, .phase⟩], guard := none }) rfl (fun K hK => ?_) AllReadyH.nil)
   have cP := cell_of_row _ _ 0 _ _ _ hP3
   have fP := frozen_of_row _ _ 0 _ 181 hP3
   go_simp
   have hne1 : ¬ w.heap.size = bS := fun e => by rw [e] at hS3; exact ty_ne hS3.1 hP3 (by decide)
   have hne2 : ¬ C = bS := fun e => by rw [e] at hS3; exact ty_ne hS3.2 hP3 (by decide)
   have hne3 : ¬ w.heap.size + 1 = bS := fun e => by rw [e] at hA3; exact ty_ne hA3 hP3 (by decide)
   have hne4 : ¬ Fb = bS := fun e => by rw [e] at hF3; exact ty_ne hF3 hP3 (by decide)
   have hS4 := And.intro ((heap_setCell_other V3 ⟨bS, 0, none⟩ _ (.pointer (some ⟨Fb, 0, none⟩)) hne1).trans hS3.1) ((heap_setCell_other V3 ⟨bS, 0, none⟩ _ (.pointer (some ⟨Fb, 0, none⟩)) hne2).trans hS3.2)
   have hA4 := (heap_setCell_other V3 ⟨bS, 0, none⟩ _ (.pointer (some ⟨Fb, 0, none⟩)) hne3).trans hA3
   have hF4 := (heap_setCell_other V3 ⟨bS, 0, none⟩ _ (.pointer (some ⟨Fb, 0, none⟩)) hne4).trans hF3
   have hP4 := heap_setCell_same V3 bS 0 _ 181 (.pointer (some ⟨Fb, 0, none⟩)) hP3
   have hB4 := hB3.setCell (p := ⟨bS, 0, none⟩) hPg (.pointer (some ⟨Fb, 0, none⟩))
   have hE4 : IsSet (V3.setCell ⟨bS, 0, none⟩ (.pointer (some ⟨Fb, 0, none⟩))) w.heap.size (.slice am ws.length cm) n ws := ⟨own_kp2 hE3.1 ((Kp.refl (fun b => b = bS) V3).setCell _ _ _ (fun _ => rfl)) (fun b e1 e2 => by subst e2; obtain ⟨d, hd⟩ := own_ty hE3.1 e1; exact ty_ne hd hP3 (by decide)), hE3.2⟩
   clear cP fP
   refine hK.out _ _ ?_ (fun hHeld => ?_)
   ·first | exact hS4 | exact hS3 | exact hS2 | exact hS1
   clear hK K
   try simp only [Act.put, zS0, zS1, zS2]
   refine wpAnyH_done (by kernel_rfl) ?_ _
   go_wp2_with fail
   refine Met.intro ?_
   go_step
   go_meet
   case rel => exact ⟨bS, Fb, _, ws, rfl, ⟨hF4, hE4, HEM.out, hS4.1, hA4, by simpa using hP4, hFg, hB4⟩⟩
 case rest =>
 clear x4 x6 xR hBV wa1 wa2 hn9
 obtain ⟨bS, Fb, vm, ws0, rfl, h1⟩ := hcut
 have H1 : Hid (R1p w wc C Fb bS n (.func (.func fk) fa #[]) vm ws0) := h1
 have xR := (HCP.out.on h1.below).row
 clear h1
 go_upto_region 2 with fail
 have HCE : Hid _ := fun (W : World) (hSw : W.heap[w.heap.size]? = some (.cells #[.pointer (some ⟨C, 0, none⟩)] 71 (0, 0)) ∧ W.heap[C]? = some (.cells #[.int .i64 (SB : Int), .slice (some ⟨fb, 0, none⟩) SA SA, .slice (some ⟨gb, 0, none⟩) m gc, .slice (some ⟨nb, 0, none⟩) (SB * 61) (SB * 61)] 129 (0, 0))) => (And.intro (cell_of_row _ _ 0 _ _ _ hSw.1) (And.intro (cell_of_row _ _ 0 _ _ _ hSw.2) (And.intro (cell_of_row _ _ 1 _ _ _ hSw.2) (cell_of_row _ _ 2 _ _ _ hSw.2))))
 refine wp_region_held_drew (S := fun W => W.heap[w.heap.size]? = some (.cells #[.pointer (some ⟨C, 0, none⟩)] 71 (0, 0)) ∧ W.heap[C]? = some (.cells #[.int .i64 (SB : Int), .slice (some ⟨fb, 0, none⟩) SA SA, .slice (some ⟨gb, 0, none⟩) m gc, .slice (some ⟨nb, 0, none⟩) (SB * 61) (SB * 61)] 129 (0, 0))) (by kernel_rfl) (by exact ⟨H1.out.xC, xR⟩) (fun hHeld => ?_)
 have hS0 := hHeld
 have H1d : Hid (R1p w wc.drew C Fb bS n (.func (.func fk) fa #[]) vm ws0) := H1.out.drew
 clear H1 xR
 generalize hV : wc.drew = V0 at *
 clear hV
 refine tk (v := ?_) 0 { dst := some 37, op := .load 71 (.tmp 4), type := 71, pos := "through.go:142", after := #[], guard := none } (by rfl) ?_ ?_
 case refine_2 => intro w hSw; (try dsimp only at hSw); obtain ⟨z0, c0, c1, c2⟩ := HCE.out _ hSw; go_simp; (try with_reducible rfl)
 simp only [Act.put, zS0, zS1, zS2]
 refine tk (v := ?_) 1 { dst := some 38, op := .nilCheck (.tmp 37), type := 0, pos := "through.go:142", after := #[⟨0, .data⟩], guard := none } (by rfl) ?_ ?_
 case refine_2 => intro w hSw; (try dsimp only at hSw); obtain ⟨z0, c0, c1, c2⟩ := HCE.out _ hSw; go_simp; (try with_reducible rfl)
 simp only [Act.put, zS0, zS1, zS2]
 refine tk (v := ?_) 2 { dst := some 39, op := .fieldAddr 129 (.tmp 38) 1, type := 0, pos := "through.go:142", after := #[⟨1, .data⟩], guard := none } (by rfl) ?_ ?_
 case refine_2 => intro w hSw; (try dsimp only at hSw); obtain ⟨z0, c0, c1, c2⟩ := HCE.out _ hSw; go_simp; (try with_reducible rfl)
 simp only [Act.put, zS0, zS1, zS2]
 refine tk (v := ?_) 3 { dst := some 40, op := .load 73 (.tmp 39), type := 73, pos := "through.go:142", after := #[⟨2, .data⟩], guard := none } (by rfl) ?_ ?_
 case refine_2 => intro w hSw; (try dsimp only at hSw); obtain ⟨z0, c0, c1, c2⟩ := HCE.out _ hSw; go_simp; (try with_reducible rfl)
 simp only [Act.put, zS0, zS1, zS2]
 refine tk (v := ?_) 4 { dst := some 41, op := .call { callee := .builtin .len, args := #[.tmp 40], argTypes := #[73] }, type := 3, pos := "through.go:142", after := #[⟨3, .data⟩], guard := none } (by rfl) ?_ ?_
 case refine_2 => intro w hSw; (try dsimp only at hSw); obtain ⟨z0, c0, c1, c2⟩ := HCE.out _ hSw; go_simp; (try with_reducible rfl)
 simp only [Act.put, zS0, zS1, zS2]
 refine tk (v := ?_) 5 { dst := some 42, op := .load 71 (.tmp 4), type := 71, pos := "through.go:142", after := #[], guard := none } (by rfl) ?_ ?_
 case refine_2 => intro w hSw; (try dsimp only at hSw); obtain ⟨z0, c0, c1, c2⟩ := HCE.out _ hSw; go_simp; (try with_reducible rfl)
 simp only [Act.put, zS0, zS1, zS2]
 refine tk (v := ?_) 6 { dst := some 43, op := .nilCheck (.tmp 42), type := 0, pos := "through.go:142", after := #[⟨5, .data⟩], guard := none } (by rfl) ?_ ?_
 case refine_2 => intro w hSw; (try dsimp only at hSw); obtain ⟨z0, c0, c1, c2⟩ := HCE.out _ hSw; go_simp; (try with_reducible rfl)
 simp only [Act.put, zS0, zS1, zS2]
 refine tk (v := ?_) 7 { dst := some 44, op := .fieldAddr 129 (.tmp 43) 2, type := 0, pos := "through.go:142", after := #[⟨6, .data⟩], guard := none } (by rfl) ?_ ?_
 case refine_2 => intro w hSw; (try dsimp only at hSw); obtain ⟨z0, c0, c1, c2⟩ := HCE.out _ hSw; go_simp; (try with_reducible rfl)
 simp only [Act.put, zS0, zS1, zS2]
 refine tk (v := ?_) 8 { dst := some 45, op := .load 73 (.tmp 44), type := 73, pos := "through.go:142", after := #[⟨7, .data⟩], guard := none } (by rfl) ?_ ?_
 case refine_2 => intro w hSw; (try dsimp only at hSw); obtain ⟨z0, c0, c1, c2⟩ := HCE.out _ hSw; go_simp; (try with_reducible rfl)
 simp only [Act.put, zS0, zS1, zS2]
 refine tk (v := ?_) 9 { dst := some 46, op := .call { callee := .builtin .len, args := #[.tmp 45], argTypes := #[73] }, type := 3, pos := "through.go:142", after := #[⟨8, .data⟩], guard := none } (by rfl) ?_ ?_
 case refine_2 => intro w hSw; (try dsimp only at hSw); obtain ⟨z0, c0, c1, c2⟩ := HCE.out _ hSw; go_simp; (try with_reducible rfl)
 simp only [Act.put, zS0, zS1, zS2]
 refine tk (v := ?_) 10 { dst := some 47, op := .binOp .mul 3 (.tmp 41) (.tmp 46) 3, type := 3, pos := "through.go:142", after := #[⟨4, .data⟩, ⟨9, .data⟩], guard := none } (by rfl) ?_ ?_
 case refine_2 => intro w hSw; (try dsimp only at hSw); obtain ⟨z0, c0, c1, c2⟩ := HCE.out _ hSw; go_simp; (try with_reducible rfl)
 simp only [Act.put, zS0, zS1, zS2]
 refine wpAnyH_ready (rs := [11]) (by kernel_rfl) (by simp) ?_
 refine (AllReadyH.cons (o := { dst := some 48, op := .call { callee := .value (.func 59), args := #[.tmp 47], argTypes := #[3] }, type := 77, pos := "through.go:142", after := #[⟨10, .data⟩], guard := none }) rfl (fun K hK => ?_) AllReadyH.nil)
 have KN := Set.new_any nh V0 hn9h
 go_simp
 (with_reducible refine KN.mono ?_)
 clear KN
 rintro e1 V1 ⟨vh, hs0, rfl, hset, hemp, hb⟩
 dsimp only
 have hS1 := And.intro ((hb.block _ (lt_at hS0.1)).trans hS0.1) ((hb.block _ (lt_at hS0.2)).trans hS0.2)
 have HEH : Hid (∀ k, mem hs0 k = false) := hemp
 have HRS : Hid (Rs w V1 C Fb w.heap.size (w.heap.size + 1) bS n nh (.func (.func fk) fa #[]) vm (.slice none 0 0) vh ws0 0 [] hs0) := Rs.begun H1d.out hset hb
 obtain ⟨ah, ch, rfl⟩ := Am.own_slice hset.1
 refine hK.out _ _ ?_ (fun hHeld => ?_)
 ·exact hS1
 clear hK K
 try simp only [Act.put, zS0, zS1, zS2]
 clear hset hemp hb hS1 hS0
 refine tk (v := ?_) 12 { dst := some 10, op := .assign (.tmp 48), type := 77, pos := "through.go:142", after := #[⟨11, .data⟩, ⟨11, .chain⟩, ⟨0, .phase⟩, ⟨1, .phase⟩, ⟨2, .phase⟩, ⟨3, .phase⟩, ⟨4, .phase⟩, ⟨5, .phase⟩, ⟨6, .phase⟩, ⟨7, .phase⟩, ⟨8, .phase⟩, ⟨9, .phase⟩, ⟨10, .phase⟩, ⟨11, .phase⟩], guard := none } (by rfl) ?_ ?_
 case refine_2 => intro w hSw; (try dsimp only at hSw); obtain ⟨z0, c0, c1, c2⟩ := HCE.out _ hSw; go_simp; (try with_reducible rfl)
 simp only [Act.put, zS0, zS1, zS2]
 refine wpAnyH_done (by kernel_rfl) ?_ _
 clear wb1 wb2 hn9h HCE
 have HIV : Hid (Iv n SB m SA al (fun k k' => ∃ e ∈ arcsP F R SB k, e.2.1 = (k' : Int)) G (fun _ => False) ws0 0 [] hs0) := Iv.begun H1d.out.set.2.2.1 H1d.out.emp HEH.out
 have hll : L.length ≤ 20000 := HLl.out
 clear H1d HEH
 go_wp2
 go_loopw [52] (fun a wr => ∃ (i : Nat) (ws : List Nat) (cnt : Nat) (T : List Nat) (vt : Value), a = .int .i64 i ∧ i ≤ L.length ∧ Rs w wr C Fb w.heap.size (w.heap.size + 1) bS n nh (.func (.func fk) fa #[]) vm vt (.slice ah hs0.length ch) ws cnt T hs0 ∧ Iv n SB m SA al (fun k k' => ∃ e ∈ arcsP F R SB k, e.2.1 = (k' : Int)) G (fun _ => False) ws cnt T hs0 ∧ ∀ j (h : j < L.length), j < i → mem ws L[j] = true) (fun a _ => L.length - (intOf a).toNat)
 case atStart => exact ⟨0, ws0, 0, [], _, rfl, Nat.zero_le _, HRS.out, HIV.out, fun j _ h => (by omega)⟩
 case round =>
  clear HRS HIV
  obtain ⟨i, ws, cnt, T, vt, rfl, hi, hrs, hiv, hlm⟩ := hrel
  have HRS : Hid (Rs w wr C Fb w.heap.size (w.heap.size + 1) bS n nh (.func (.func fk) fa #[]) vm vt (.slice ah hs0.length ch) ws cnt T hs0) := hrs
  have HIV : Hid (Iv n SB m SA al (fun k k' => ∃ e ∈ arcsP F R SB k, e.2.1 = (k' : Int)) G (fun _ => False) ws cnt T hs0) := hiv
  have HLM : Hid (∀ j (h : j < L.length), j < i → mem ws L[j] = true) := hlm
  have hcn : cnt ≤ n := by rw [hiv.ct]; exact crd_le n ws
  by_cases hlt : i < L.length
  ·obtain ⟨pb, po, rfl, hpl, hpc⟩ := HFR.out.resolve_left (by omega)
   have hPn := HL.out i hlt
   obtain ⟨P, hP⟩ : ∃ P, L[i] = P := ⟨_, rfl⟩
   have HLP : Hid (L[i] = P) := hP
   have p0 := (hrs.below.cell (p := ⟨pb, po + i, none⟩) hpl).trans (hpc i hlt)
   rw [hP] at p0 hPn
   have uS := cell_of_row _ _ 0 _ _ _ hrs.xS
   have KV := visit_rs w wr C Fb w.heap.size (w.heap.size + 1) bS n nh cnt P (.func (.func fk) fa #[]) vm vt (.slice ah hs0.length ch) ws T hs0 hrs hPn hn16 hcn hiv.tl
   clear hrs hiv hlm hP hpc
   go_wp2_with (go_at_call 94; (with_reducible refine KV.mono ?_); clear KV; rintro e w1 ⟨rfl, vt2, h1⟩; have HR1 : Hid _ := h1; clear h1)
   have hM := HIV.out.visit hPn
   go_roundw
   case rel => exact ⟨i + 1, _, _, _, vt2, by go_num, hlt, HR1.out, hM.1, fun j h hj => by
    rcases Nat.lt_or_ge j i with h1 | h1
    ·exact hM.2.2 _ (HLM.out j h h1)
    ·obtain rfl : j = i := by omega
     rw [HLP.out]; exact hM.2.1⟩
   case measure => simp [intOf]; omega
  ·obtain rfl : i = L.length := by omega
   have HLM2 : Hid (∀ k ∈ L, mem ws k = true) := fun k hk => by
    obtain ⟨j, hj, rfl⟩ := List.getElem_of_mem hk
    exact HLM.out j hj hj
   clear hrs hiv hlm HLM
   have HLM : Hid (∀ k ∈ L, mem ws k = true) := HLM2.out
   clear HLM2 hll
   go_wp2
   go_loopg [14] (msr n cnt T) (fun gk a wr => ∃ (ws : List Nat) (cnt : Nat) (T : List Nat) (vt : Value) (hs : List Nat), True ∧ Rs w wr C Fb w.heap.size (w.heap.size + 1) bS n nh (.func (.func fk) fa #[]) vm vt (.slice ah hs0.length ch) ws cnt T hs ∧ Iv n SB m SA al (fun k k' => ∃ e ∈ arcsP F R SB k, e.2.1 = (k' : Int)) G (fun _ => False) ws cnt T hs ∧ (∀ k ∈ L, mem ws k = true) ∧ gk = msr n cnt T)
   case atStart => exact ⟨ws, cnt, T, vt, hs0, trivial, HRS.out, HIV.out, HLM.out, rfl⟩
   case round =>
    skip
    clear HRS HIV HLM
    obtain ⟨ws, cnt, T, vt, hs, _, hrs, hiv, hlm, hgk⟩ := hrel
    have HLM : Hid (∀ k ∈ L, mem ws k = true) := hlm
    have hcn : cnt ≤ n := by rw [hiv.ct]; exact crd_le n ws
    have hcm : (cnt : Int) ≤ (most : Int) := by have := HMO.out; omega
    have hTn : T.length ≤ 1600 := by have := hiv.tl; omega
    have uS := cell_of_row _ _ 0 _ _ _ hrs.xS
    have u0 := cell_of_row _ _ 0 _ _ _ hrs.sr.row
    have u1 := cell_of_row _ _ 1 _ _ _ hrs.sr.row
    have u2 := cell_of_row _ _ 2 _ _ _ hrs.sr.row
    rcases List.eq_nil_or_concat T with rfl | ⟨T', P, hTe⟩
    ·obtain ⟨av, cv, rfl⟩ := Am.own_slice hrs.sr.todo
     have HRS : Hid (Rs w wr C Fb w.heap.size (w.heap.size + 1) bS n nh (.func (.func fk) fa #[]) vm (.slice av 0 cv) (.slice ah hs0.length ch) ws cnt [] hs) := hrs
     have HIV : Hid (Iv n SB m SA al (fun k k' => ∃ e ∈ arcsP F R SB k, e.2.1 = (k' : Int)) G (fun _ => False) ws cnt [] hs) := hiv
     clear hrs hiv hlm hgk
     go_wp2
     go_ret
     exact ⟨vm, ws, rfl, HRS.out.sr.set, HIV.out.lt, HLM.out, fun k hk k' hE ha => HIV.out.cl k hk (by simp) id k' hE ha, HRS.out.below⟩
    ·rw [List.concat_eq_append] at hTe
     subst hTe
     obtain ⟨tb, cap, hv, _, _⟩ := own_some hrs.sr.todo (by simp)
     subst hv
     have hpc := hrs.sr.todo.cellAt T'.length (by simp)
     rw [show (ns (T' ++ [P]))[T'.length]? = some (.int .i64 (P : Int)) by simp [ns]] at hpc
     have hl1 : (T' ++ [P]).length = T'.length + 1 := by simp
     rw [hl1] at u2 hTn
     have hPn : P < n := hiv.lt P (hiv.tm P (by simp))
     obtain ⟨hiv3, hpm3⟩ := hiv.pop
     have HGK : Hid (gk = msr n cnt T' + 1) := by show _ = _; rw [hgk]; unfold msr; rw [hl1]; omega
     have HTK0 : Hid ((T' ++ [P]).take T'.length = T') := by show _ = _; simp
     have HRS0 : Hid (Rs w wr C Fb w.heap.size (w.heap.size + 1) bS n nh (.func (.func fk) fa #[]) vm (.slice (some ⟨tb, 0, none⟩) (T'.length + 1) cap) (.slice ah hs0.length ch) ws cnt (T' ++ [P]) hs) := by have := hrs; rw [hl1] at this; exact this
     obtain ⟨k, hk⟩ : ∃ k, T'.length = k := ⟨_, rfl⟩
     have HRS : Hid (Rs w wr C Fb w.heap.size (w.heap.size + 1) bS n nh (.func (.func fk) fa #[]) vm (.slice (some ⟨tb, 0, none⟩) (k + 1) cap) (.slice ah hs0.length ch) ws cnt (T' ++ [P]) hs) := by have := HRS0.out; rw [hk] at this; exact this
     have HTL : Hid ((T' ++ [P]).length = k + 1) := by show _ = _; rw [hl1, hk]
     have HTK : Hid ((T' ++ [P]).take k = T') := by show _ = _; rw [← hk]; exact HTK0.out
     rw [hk] at u2 hpc hTn
     have HIV3 : Hid (Iv n SB m SA al (fun k k' => ∃ e ∈ arcsP F R SB k, e.2.1 = (k' : Int)) G (fun _k => _k = P) ws cnt T' hs) := hiv3
     have HPM3 : Hid (mem ws P = true) := hpm3
     have hkc0 := own_cap HRS.out.sr.todo (by simp)
     rw [HTL.out] at hkc0
     have hkc : k ≤ cap := by have := hkc0.1; omega
     have hkc' : (k : Int) ≤ (cap : Int) := by omega
     clear hkc0
     clear hrs hiv hlm hgk HRS0 HTK0 hl1 hk hiv3 hpm3
     go_upto_region 10 with fail
     go_quiet (fail)
     have HRS : Hid (Rs w (wr.drewN nq) C Fb w.heap.size (w.heap.size + 1) bS n nh (.func (.func fk) fa #[]) vm (.slice (some ⟨tb, 0, none⟩) (k + 1) cap) (.slice ah hs0.length ch) ws cnt (T' ++ [P]) hs) := HRS.out.drewN nq
     clear uS u0 u1 u2 hpc
     generalize hVq : wr.drewN nq = V1 at *
     clear hVq
     go_upto_region 11 with fail
     go_cut [99] from 86 to 99 (fun _ wx => Rs w wx C Fb w.heap.size (w.heap.size + 1) bS n nh (.func (.func fk) fa #[]) vm (.slice (some ⟨tb, 0, none⟩) k cap) (.slice ah hs0.length ch) ws cnt T' hs)
     case first =>
      refine wp_region_noPanic ?_
      have wk1 : wrap64 ((k : Int) + 1 - 1) = (k : Int) := by unfold wrap64; omega
      have wk2 : IntKind.i64.wrap ((k : Int) + 1 - 1) = (k : Int) := by rw [IntKind.wrap_i64]; omega
      have wk3 : IntKind.i64.wrap (k : Int) = (k : Int) := by rw [IntKind.wrap_i64]; omega
      have wk4 : wrap64 (k : Int) = (k : Int) := by unfold wrap64; omega
      have HCE : Hid _ := fun (W : World) (hSw : W.heap[bS]? = some (.cells #[.pointer (some ⟨Fb, 0, none⟩)] 181 (0, 0))) => cell_of_row _ _ 0 _ _ _ hSw
      refine wp_region_held_drew (S := fun W => W.heap[bS]? = some (.cells #[.pointer (some ⟨Fb, 0, none⟩)] 181 (0, 0))) (by kernel_rfl) (by exact HRS.out.xS) (fun hHeld => ?_)
      have HR0 : Hid (Rs w V1.drew C Fb w.heap.size (w.heap.size + 1) bS n nh (.func (.func fk) fa #[]) vm (.slice (some ⟨tb, 0, none⟩) (k + 1) cap) (.slice ah hs0.length ch) ws cnt (T' ++ [P]) hs) := HRS.out.drewN 1
      generalize hV : V1.drew = V0 at *
      clear hV
      refine tk (v := ?_) 0 { dst := some 86, op := .load 181 (.tmp 9), type := 181, pos := "through.go:153", after := #[], guard := none } (by rfl) ?_ ?_
      case refine_2 => intro w hSw; (try dsimp only at hSw); have z0 := HCE.out _ hSw; go_simp; (try with_reducible rfl)
      simp only [Act.put, zS0, zS1, zS2]
      refine tk (v := ?_) 1 { dst := some 87, op := .load 181 (.tmp 9), type := 181, pos := "through.go:153", after := #[], guard := none } (by rfl) ?_ ?_
      case refine_2 => intro w hSw; (try dsimp only at hSw); have z0 := HCE.out _ hSw; go_simp; (try with_reducible rfl)
      simp only [Act.put, zS0, zS1, zS2]
      refine tk (v := ?_) 2 { dst := some 88, op := .nilCheck (.tmp 87), type := 0, pos := "through.go:153", after := #[⟨1, .data⟩], guard := none } (by rfl) ?_ ?_
      case refine_2 => intro w hSw; (try dsimp only at hSw); have z0 := HCE.out _ hSw; go_simp; (try with_reducible rfl)
      simp only [Act.put, zS0, zS1, zS2]
      refine tk (v := ?_) 3 { dst := some 89, op := .fieldAddr 183 (.tmp 88) 2, type := 0, pos := "through.go:153", after := #[⟨2, .data⟩], guard := none } (by rfl) ?_ ?_
      case refine_2 => intro w hSw; (try dsimp only at hSw); have z0 := HCE.out _ hSw; go_simp; (try with_reducible rfl)
      simp only [Act.put, zS0, zS1, zS2]
      refine tk (v := ?_) 5 { dst := some 91, op := .load 181 (.tmp 9), type := 181, pos := "through.go:153", after := #[], guard := none } (by rfl) ?_ ?_
      case refine_2 => intro w hSw; (try dsimp only at hSw); have z0 := HCE.out _ hSw; go_simp; (try with_reducible rfl)
      simp only [Act.put, zS0, zS1, zS2]
      refine tk (v := ?_) 6 { dst := some 92, op := .nilCheck (.tmp 91), type := 0, pos := "through.go:153", after := #[⟨5, .data⟩], guard := none } (by rfl) ?_ ?_
      case refine_2 => intro w hSw; (try dsimp only at hSw); have z0 := HCE.out _ hSw; go_simp; (try with_reducible rfl)
      simp only [Act.put, zS0, zS1, zS2]
      refine tk (v := ?_) 7 { dst := some 93, op := .fieldAddr 183 (.tmp 92) 2, type := 0, pos := "through.go:153", after := #[⟨6, .data⟩], guard := none } (by rfl) ?_ ?_
      case refine_2 => intro w hSw; (try dsimp only at hSw); have z0 := HCE.out _ hSw; go_simp; (try with_reducible rfl)
      simp only [Act.put, zS0, zS1, zS2]
      refine wpAnyH_ready (rs := [4, 8]) (by kernel_rfl) (by simp) ?_
      refine (AllReadyH.cons (o := { dst := some 90, op := .load 26 (.tmp 89), type := 26, pos := "through.go:153", after := #[⟨3, .data⟩], guard := none }) rfl (fun K hK => ?_) (AllReadyH.cons (o := { dst := some 94, op := .load 26 (.tmp 93), type := 26, pos := "through.go:153", after := #[⟨7, .data⟩], guard := none }) rfl (fun K hK => ?_) AllReadyH.nil))
      ·skip
       have cF := cell_of_row _ _ 2 _ _ _ HR0.out.sr.row
       go_simp
       refine hK.out _ _ ?_ (fun hHeld => ?_)
       ·exact HR0.out.xS
       clear hK K
       try simp only [Act.put, zS0, zS1, zS2]
       clear cF
       refine wpAnyH_ready (rs := [8]) (by kernel_rfl) (by simp) ?_
       refine (AllReadyH.cons (o := { dst := some 94, op := .load 26 (.tmp 93), type := 26, pos := "through.go:153", after := #[⟨7, .data⟩], guard := none }) rfl (fun K hK => ?_) AllReadyH.nil)
       have cF := cell_of_row _ _ 2 _ _ _ HR0.out.sr.row
       go_simp
       refine hK.out _ _ ?_ (fun hHeld => ?_)
       ·exact HR0.out.xS
       clear hK K
       try simp only [Act.put, zS0, zS1, zS2]
       clear cF
       refine tk (v := ?_) 9 { dst := some 95, op := .call { callee := .builtin .len, args := #[.tmp 94], argTypes := #[26] }, type := 3, pos := "through.go:153", after := #[⟨8, .data⟩], guard := none } (by rfl) ?_ ?_
       case refine_2 => intro w hSw; (try dsimp only at hSw); have z0 := HCE.out _ hSw; go_simp; (try with_reducible rfl)
       simp only [Act.put, zS0, zS1, zS2]
       refine tk (v := ?_) 10 { dst := some 96, op := .binOp .sub 3 (.tmp 95) (.const (Value.int IntKind.i64 1)) 3, type := 3, pos := "through.go:153", after := #[⟨9, .data⟩], guard := none } (by rfl) ?_ ?_
       case refine_2 => intro w hSw; (try dsimp only at hSw); have z0 := HCE.out _ hSw; go_simp; (try with_reducible rfl)
       simp only [Act.put, zS0, zS1, zS2]
       refine tk (v := ?_) 11 { dst := some 97, op := .slice 26 (.tmp 90) none (some (.tmp 96)) none, type := 26, pos := "through.go:153", after := #[⟨4, .data⟩, ⟨10, .data⟩], guard := none } (by rfl) ?_ ?_
       case refine_2 => intro w hSw; (try dsimp only at hSw); have z0 := HCE.out _ hSw; go_simp; (try with_reducible rfl)
       simp only [Act.put, zS0, zS1, zS2]
       refine tk (v := ?_) 12 { dst := some 98, op := .nilCheck (.tmp 86), type := 0, pos := "through.go:153", after := #[⟨0, .data⟩, ⟨0, .phase⟩, ⟨1, .phase⟩, ⟨2, .phase⟩, ⟨3, .phase⟩, ⟨4, .phase⟩, ⟨5, .phase⟩, ⟨6, .phase⟩, ⟨7, .phase⟩, ⟨8, .phase⟩, ⟨9, .phase⟩, ⟨10, .phase⟩, ⟨11, .phase⟩], guard := none } (by rfl) ?_ ?_
       case refine_2 => intro w hSw; (try dsimp only at hSw); have z0 := HCE.out _ hSw; go_simp; (try with_reducible rfl)
       simp only [Act.put, zS0, zS1, zS2]
       refine tk (v := ?_) 13 { dst := some 99, op := .fieldAddr 183 (.tmp 98) 2, type := 0, pos := "through.go:153", after := #[⟨12, .data⟩, ⟨0, .phase⟩, ⟨1, .phase⟩, ⟨2, .phase⟩, ⟨3, .phase⟩, ⟨4, .phase⟩, ⟨5, .phase⟩, ⟨6, .phase⟩, ⟨7, .phase⟩, ⟨8, .phase⟩, ⟨9, .phase⟩, ⟨10, .phase⟩, ⟨11, .phase⟩], guard := none } (by rfl) ?_ ?_
       case refine_2 => intro w hSw; (try dsimp only at hSw); have z0 := HCE.out _ hSw; go_simp; (try with_reducible rfl)
       simp only [Act.put, zS0, zS1, zS2]
       refine wpAnyH_ready (rs := [14]) (by kernel_rfl) (by simp) ?_
       refine (AllReadyH.cons (o := { dst := none, op := .store 26 (.tmp 99) (.tmp 97), type := 0, pos := "through.go:153", after := #[⟨13, .data⟩, ⟨11, .data⟩, ⟨0, .phase⟩, ⟨1, .phase⟩, ⟨2, .phase⟩, ⟨3, .phase⟩, ⟨4, .phase⟩, ⟨5, .phase⟩, ⟨6, .phase⟩, ⟨7, .phase⟩, ⟨8, .phase⟩, ⟨9, .phase⟩, ⟨10, .phase⟩, ⟨11, .phase⟩], guard := none }) rfl (fun K hK => ?_) AllReadyH.nil)
       have cF := cell_of_row _ _ 2 _ _ _ HR0.out.sr.row
       have fF := frozen_of_row _ _ 2 _ 183 HR0.out.sr.row
       go_simp
       have HR1 : Hid (Rs w (V0.setCell ⟨Fb, 2, none⟩ (.slice (some ⟨tb, 0, none⟩) k cap)) C Fb w.heap.size (w.heap.size + 1) bS n nh (.func (.func fk) fa #[]) vm (.slice (some ⟨tb, 0, none⟩) k cap) (.slice ah hs0.length ch) ws cnt T' hs) := by have := HR0.out.pop HTL.out; rw [HTK.out] at this; exact this
       refine hK.out _ _ ?_ (fun hHeld => ?_)
       ·exact HR1.out.xS
       clear hK K
       try simp only [Act.put, zS0, zS1, zS2]
       clear cF fF
       refine wpAnyH_done (by kernel_rfl) ?_ _
       go_wp2_with fail
       refine Met.intro ?_
       go_step
       go_meet
       case rel => exact HR1.out
      ·skip
       have cF := cell_of_row _ _ 2 _ _ _ HR0.out.sr.row
       go_simp
       refine hK.out _ _ ?_ (fun hHeld => ?_)
       ·exact HR0.out.xS
       clear hK K
       try simp only [Act.put, zS0, zS1, zS2]
       clear cF
       refine tk (v := ?_) 9 { dst := some 95, op := .call { callee := .builtin .len, args := #[.tmp 94], argTypes := #[26] }, type := 3, pos := "through.go:153", after := #[⟨8, .data⟩], guard := none } (by rfl) ?_ ?_
       case refine_2 => intro w hSw; (try dsimp only at hSw); have z0 := HCE.out _ hSw; go_simp; (try with_reducible rfl)
       simp only [Act.put, zS0, zS1, zS2]
       refine tk (v := ?_) 10 { dst := some 96, op := .binOp .sub 3 (.tmp 95) (.const (Value.int IntKind.i64 1)) 3, type := 3, pos := "through.go:153", after := #[⟨9, .data⟩], guard := none } (by rfl) ?_ ?_
       case refine_2 => intro w hSw; (try dsimp only at hSw); have z0 := HCE.out _ hSw; go_simp; (try with_reducible rfl)
       simp only [Act.put, zS0, zS1, zS2]
       refine wpAnyH_ready (rs := [4]) (by kernel_rfl) (by simp) ?_
       refine (AllReadyH.cons (o := { dst := some 90, op := .load 26 (.tmp 89), type := 26, pos := "through.go:153", after := #[⟨3, .data⟩], guard := none }) rfl (fun K hK => ?_) AllReadyH.nil)
       have cF := cell_of_row _ _ 2 _ _ _ HR0.out.sr.row
       go_simp
       refine hK.out _ _ ?_ (fun hHeld => ?_)
       ·exact HR0.out.xS
       clear hK K
       try simp only [Act.put, zS0, zS1, zS2]
       clear cF
       refine tk (v := ?_) 11 { dst := some 97, op := .slice 26 (.tmp 90) none (some (.tmp 96)) none, type := 26, pos := "through.go:153", after := #[⟨4, .data⟩, ⟨10, .data⟩], guard := none } (by rfl) ?_ ?_
       case refine_2 => intro w hSw; (try dsimp only at hSw); have z0 := HCE.out _ hSw; go_simp; (try with_reducible rfl)
       simp only [Act.put, zS0, zS1, zS2]
       refine tk (v := ?_) 12 { dst := some 98, op := .nilCheck (.tmp 86), type := 0, pos := "through.go:153", after := #[⟨0, .data⟩, ⟨0, .phase⟩, ⟨1, .phase⟩, ⟨2, .phase⟩, ⟨3, .phase⟩, ⟨4, .phase⟩, ⟨5, .phase⟩, ⟨6, .phase⟩, ⟨7, .phase⟩, ⟨8, .phase⟩, ⟨9, .phase⟩, ⟨10, .phase⟩, ⟨11, .phase⟩], guard := none } (by rfl) ?_ ?_
       case refine_2 => intro w hSw; (try dsimp only at hSw); have z0 := HCE.out _ hSw; go_simp; (try with_reducible rfl)
       simp only [Act.put, zS0, zS1, zS2]
       refine tk (v := ?_) 13 { dst := some 99, op := .fieldAddr 183 (.tmp 98) 2, type := 0, pos := "through.go:153", after := #[⟨12, .data⟩, ⟨0, .phase⟩, ⟨1, .phase⟩, ⟨2, .phase⟩, ⟨3, .phase⟩, ⟨4, .phase⟩, ⟨5, .phase⟩, ⟨6, .phase⟩, ⟨7, .phase⟩, ⟨8, .phase⟩, ⟨9, .phase⟩, ⟨10, .phase⟩, ⟨11, .phase⟩], guard := none } (by rfl) ?_ ?_
       case refine_2 => intro w hSw; (try dsimp only at hSw); have z0 := HCE.out _ hSw; go_simp; (try with_reducible rfl)
       simp only [Act.put, zS0, zS1, zS2]
       refine wpAnyH_ready (rs := [14]) (by kernel_rfl) (by simp) ?_
       refine (AllReadyH.cons (o := { dst := none, op := .store 26 (.tmp 99) (.tmp 97), type := 0, pos := "through.go:153", after := #[⟨13, .data⟩, ⟨11, .data⟩, ⟨0, .phase⟩, ⟨1, .phase⟩, ⟨2, .phase⟩, ⟨3, .phase⟩, ⟨4, .phase⟩, ⟨5, .phase⟩, ⟨6, .phase⟩, ⟨7, .phase⟩, ⟨8, .phase⟩, ⟨9, .phase⟩, ⟨10, .phase⟩, ⟨11, .phase⟩], guard := none }) rfl (fun K hK => ?_) AllReadyH.nil)
       have cF := cell_of_row _ _ 2 _ _ _ HR0.out.sr.row
       have fF := frozen_of_row _ _ 2 _ 183 HR0.out.sr.row
       go_simp
       have HR1 : Hid (Rs w (V0.setCell ⟨Fb, 2, none⟩ (.slice (some ⟨tb, 0, none⟩) k cap)) C Fb w.heap.size (w.heap.size + 1) bS n nh (.func (.func fk) fa #[]) vm (.slice (some ⟨tb, 0, none⟩) k cap) (.slice ah hs0.length ch) ws cnt T' hs) := by have := HR0.out.pop HTL.out; rw [HTK.out] at this; exact this
       refine hK.out _ _ ?_ (fun hHeld => ?_)
       ·exact HR1.out.xS
       clear hK K
       try simp only [Act.put, zS0, zS1, zS2]
       clear cF fF
       refine wpAnyH_done (by kernel_rfl) ?_ _
       go_wp2_with fail
       refine Met.intro ?_
       go_step
       go_meet
       case rel => exact HR1.out
     case rest =>
     clear HRS
     have HRS3 : Hid (Rs w wc C Fb w.heap.size (w.heap.size + 1) bS n nh (.func (.func fk) fa #[]) vm (.slice (some ⟨tb, 0, none⟩) k cap) (.slice ah hs0.length ch) ws cnt T' hs) := hcut
     clear hcut
     have hd := Nat.div_lt_of_lt_mul (show P < SB * SA by rw [Nat.mul_comm, ← HN.out]; exact hPn)
     have hm := Nat.mod_lt P h0
     have hqq : (P : Int).tdiv (SB : Int) = ((P / SB : Nat) : Int) := by simp [Int.tdiv]
     have hrr : (P : Int).tmod (SB : Int) = ((P % SB : Nat) : Int) := by simp [Int.tmod]
     have hq2 : (P : Int) / (SB : Int) = ((P / SB : Nat) : Int) := by simp
     have hr2 : (P : Int) % (SB : Int) = ((P % SB : Nat) : Int) := by simp
     have hn0 : ¬ SB = 0 := by omega
     have hn1 : ¬ (SB : Int) = 0 := by omega
     have hP16 : P ≤ 1600 := by omega
     have kz := cell_of_row _ _ 0 _ _ _ HRS3.out.xC
     have kc := cell_of_row _ _ 0 _ _ _ (HCP.out.on HRS3.out.below).row
     obtain ⟨p, hp⟩ : ∃ p, P / SB = p := ⟨_, rfl⟩
     obtain ⟨q, hq⟩ : ∃ q, P % SB = q := ⟨_, rfl⟩
     have HPQ : Hid (P / SB = p ∧ P % SB = q) := ⟨hp, hq⟩
     rw [hp] at hd hqq hq2
     rw [hq] at hm hrr hr2
     have HPA : Hid (p < SA) := hd
     have hqS : q < SB := hm
     have hp40 : p ≤ 40 := by omega
     clear hp hq hd hm
     go_upto_region 12 with fail
     go_quiet (fail)
     have HRS3 : Hid (Rs w (wc.drewN nq) C Fb w.heap.size (w.heap.size + 1) bS n nh (.func (.func fk) fa #[]) vm (.slice (some ⟨tb, 0, none⟩) k cap) (.slice ah hs0.length ch) ws cnt T' hs) := HRS3.out.drewN nq
     clear hqq hrr hq2 hr2 hn0 hn1 kz kc
     generalize hVq : wc.drewN nq = V3 at *
     clear hVq
     obtain ⟨ap, cp, hcp, hrp⟩ := HCP.out.first.2 p HPA.out
     have HRWP : Hid (Mv.Row w (.slice ap (F p).length cp) 5 (F p).length (acs (F p))) := hrp
     obtain ⟨np, hnp⟩ : ∃ np, (F p).length = np := ⟨_, rfl⟩
     have HNP : Hid ((F p).length = np) := hnp
     have hnp120 : np ≤ 120 := by rw [← hnp]; exact (HFA.out p HPA.out).1
     have k8 := (HRS3.out.below.cell (p := ⟨fb, p, none⟩) HCP.out.first.1).trans hcp
     rw [hnp] at k8
     have kz := cell_of_row _ _ 0 _ _ _ HRS3.out.xC
     have kc := cell_of_row _ _ 1 _ _ _ (HCP.out.on HRS3.out.below).row
     have hpS : (p : Int) < (SA : Int) := by have := HPA.out; omega
     obtain ⟨gk0, hgk0⟩ : ∃ gk0, msr n cnt T' = gk0 := ⟨_, rfl⟩
     have HMS3 : Hid (msr n cnt T' ≤ gk0) := Nat.le_of_eq hgk0
     have HGK2 : Hid (gk = gk0 + 1) := by show _ = _; rw [HGK.out, hgk0]
     clear HGK
     have HGK : Hid (gk = gk0 + 1) := HGK2.out
     have HDX3 : Hid (Dn al ws (((F p).take 0).flatMap (onX R SB P))) := fun e he => by simp at he
     clear HGK2 hgk0 hcp hrp hnp
     go_wp2
     go_loopw [120] (fun a wr => ∃ (x : Nat) (ws : List Nat) (cnt : Nat) (T : List Nat) (vt : Value) (hs : List Nat), a = .int .i64 x ∧ x ≤ np ∧ Rs w wr C Fb w.heap.size (w.heap.size + 1) bS n nh (.func (.func fk) fa #[]) vm vt (.slice ah hs0.length ch) ws cnt T hs ∧ Iv n SB m SA al (fun k k' => ∃ e ∈ arcsP F R SB k, e.2.1 = (k' : Int)) G (fun _k => _k = P) ws cnt T hs ∧ msr n cnt T ≤ gk0 ∧ (∀ k ∈ L, mem ws k = true) ∧ mem ws P = true ∧ Dn al ws (((F p).take x).flatMap (onX R SB P))) (fun a _ => np - (intOf a).toNat)
     case atStart => exact ⟨0, ws, cnt, T', _, hs, rfl, Nat.zero_le _, HRS3.out, HIV3.out, HMS3.out, HLM.out, HPM3.out, HDX3.out⟩
     case round =>
      clear k8 kz kc HPM3 HLM
      clear HRS3 HIV3 HMS3 HDX3
      obtain ⟨x, ws, cnt, T, vt, hs, rfl, hx, hr, hiv, hms, hlm, hpm, hdx⟩ := hrel
      have HRS4 : Hid (Rs w wr C Fb w.heap.size (w.heap.size + 1) bS n nh (.func (.func fk) fa #[]) vm vt (.slice ah hs0.length ch) ws cnt T hs) := hr
      have HIV : Hid (Iv n SB m SA al (fun k k' => ∃ e ∈ arcsP F R SB k, e.2.1 = (k' : Int)) G (fun _k => _k = P) ws cnt T hs) := hiv
      have HMS : Hid (msr n cnt T ≤ gk0) := hms
      have HLM : Hid (∀ k ∈ L, mem ws k = true) := hlm
      have HPM : Hid (mem ws P = true) := hpm
      have HDX : Hid (Dn al ws (((F p).take x).flatMap (onX R SB P))) := hdx
      by_cases hlt : x < np
      ·have hxl : x < (F p).length := by rw [HNP.out]; exact hlt
       obtain ⟨xb, xo, rfl, p0, p1, p2, p3, p4⟩ := row_at HRWP.out hr.below hxl
       obtain ⟨xt, xs, hxt, hxS, hxs, hxs6⟩ := (HFA.out p HPA.out).2 _ (List.getElem_mem hxl)
       obtain ⟨xF, xT, xI, xO, xW, ex⟩ : ∃ f t i1 o1 z, (F p)[x] = (f, t, i1, o1, z) := ⟨_, _, _, _, _, rfl⟩
       rw [ex] at p0 p1 p2 p3 p4 hxt hxs
       dsimp only at hxt hxs
       subst hxt hxs
       dsimp only at p0 p1 p2 p3 p4
       have HEX : Hid ((F p)[x] = (xF, (xt : Int), xI, (xs : Int), xW)) := ex
       have HXT : Hid (xt < SA) := hxS
       have hxt40 : xt ≤ 40 := by omega
       have hcn : cnt ≤ n := by rw [hiv.ct]; exact crd_le n ws
       have HRX : Hid (Rs w (wr.alloc (.cells #[.int .i64 xF, .int .i64 (xt : Int), .int .i64 xI, .int .i64 (xs : Int), .int .i64 xW] 64)) C Fb w.heap.size (w.heap.size + 1) bS n nh (.func (.func fk) fa #[]) vm vt (.slice ah hs0.length ch) ws cnt T hs) := hr.alloc _
       have hbx := heap_alloc_new wr (.cells #[.int .i64 xF, .int .i64 (xt : Int), .int .i64 xI, .int .i64 (xs : Int), .int .i64 xW] 64)
       have HIV0 := hiv
       clear hr hms hlm hpm hdx ex HRS4
       by_cases hx0 : xs = 0
       ·subst hx0
        have hP1 : xt * SB + q < n := by rw [HN.out]; exact pair_lt HXT.out hqS
        have HRX0 : Hid (Rs w (wr.alloc (.cells #[.int .i64 xF, .int .i64 (xt : Int), .int .i64 xI, .int .i64 0, .int .i64 xW] 64)) C Fb w.heap.size (w.heap.size + 1) bS n nh (.func (.func fk) fa #[]) vm vt (.slice ah hs0.length ch) ws cnt T hs) := HRX.out
        have hbx0 : (wr.alloc (.cells #[.int .i64 xF, .int .i64 (xt : Int), .int .i64 xI, .int .i64 0, .int .i64 xW] 64)).heap[wr.heap.size]? = some (.cells #[.int .i64 xF, .int .i64 (xt : Int), .int .i64 xI, .int .i64 0, .int .i64 xW] 64 (0, 0)) := hbx
        clear HRX hbx
        have HRX : Hid (Rs w (wr.alloc (.cells #[.int .i64 xF, .int .i64 (xt : Int), .int .i64 xI, .int .i64 0, .int .i64 xW] 64)) C Fb w.heap.size (w.heap.size + 1) bS n nh (.func (.func fk) fa #[]) vm vt (.slice ah hs0.length ch) ws cnt T hs) := HRX0.out
        have hbx := hbx0
        clear HRX0 hbx0
        have KM := meet_any w (wr.alloc (.cells #[.int .i64 xF, .int .i64 (xt : Int), .int .i64 xI, .int .i64 0, .int .i64 xW] 64)) C Fb w.heap.size (w.heap.size + 1) bS n nh SB cnt xt q (xt * SB + q) (.func (.func fk) fa #[]) vm vt (.slice ah hs0.length ch) ws T hs al (#[.int .i64 (SB : Int), .slice (some ⟨fb, 0, none⟩) SA SA, .slice (some ⟨gb, 0, none⟩) m gc, .slice (some ⟨nb, 0, none⟩) (SB * 61) (SB * 61)]) HRX.out (HAL.out.below HRX.out.below) (HCP.out.on HRX.out.below).row rfl rfl hxt40 hSB hP1 hn16 hcn HIV0.tl
        have d1 := cell_of_row _ _ 1 _ _ _ hbx
        have d3 := cell_of_row _ _ 3 _ _ _ hbx
        rw [show ((0 : Nat) : Int) = 0 from rfl] at p3
        clear hbx hiv HIV0
        go_wp2_with (go_at_call 93; (with_reducible refine KM.mono ?_); clear KM; rintro e w1 ⟨rfl, vt2, h1, h2⟩; have HR1 : Hid _ := h1; clear h1 h2 d1 d3)
        have hM := HIV.out.meet hP1
        have hMM := msr_meet HIV.out hP1
        go_roundw
        case rel => exact ⟨x + 1, _, _, _, vt2, hs, by go_num, hlt, HR1.out, hM.1, Nat.le_trans hMM HMS.out, fun k h => hM.2.2 k (HLM.out k h), hM.2.2 _ HPM.out, by rw [take_flat1 _ _ _ hxl, HEX.out]; exact (HDX.out.up hM.2.2).app (by unfold onX; rw [if_pos (show (xF, (xt : Int), xI, ((0 : Nat) : Int), xW).2.2.2.1 = 0 from rfl)]; exact Dn.one (P := xt * SB + q) (by simp [fA, HPQ.out.2]) hM.2.1)⟩
        case measure => simp [intOf]; omega
       ·have hxz : ((xs : Int) == 0) = false := by simp; omega
        have HXO : Hid (¬ (xs : Int) = 0) := by show ¬ _; omega
        obtain ⟨g, hgv⟩ : ∃ g, gs.getD (q * 61 + xs) 0 = g := ⟨_, rfl⟩
        have hgm : g < m := by rw [← hgv]; exact HCP.out.sem.lt _ (at_lt hqS hxs6)
        have HGV : Hid (G g = gr R q (xs : Int)) := by have := HCP.out.sem.val q xs hqS hxs6; rw [hgv] at this; exact this
        have KG := group_cp HCP.out HRX.out.below hSB hqS hxs6 hgv
        have d1 := cell_of_row _ _ 1 _ _ _ hbx
        have d3 := cell_of_row _ _ 3 _ _ _ hbx
        have kz := cell_of_row _ _ 0 _ _ _ HRX.out.xC
        clear hgv hiv
        go_upto_region 19 with (go_at_call 95; (with_reducible refine KG.mono ?_); clear KG; rintro e w1 ⟨rfl, hw1⟩; subst w1)
        clear p0 p1 p2 p3 p4 d1 d3 kz hxz
        generalize hVx : wr.alloc (.cells #[.int .i64 xF, .int .i64 (xt : Int), .int .i64 xI, .int .i64 (xs : Int), .int .i64 xW] 64) = V1 at *
        clear hVx
        generalize wr.heap.size = bx at *
        have hkn0 : xt * m + g < nh := by rw [HNH.out]; exact pair_lt HXT.out hgm
        have hk60 : xt * m + g ≤ 1000000 := Nat.le_trans (Nat.le_of_lt hkn0) (Nat.le_trans hnh2 (by decide))
        have hkl : (xt * m + g) / 64 < hs.length := by have := HRX.out.hw.2.2.1; exact Nat.div_lt_of_lt_mul (Nat.lt_of_lt_of_le hkn0 this)
        obtain ⟨TM, htm⟩ : ∃ TM, TM = xt * m := ⟨_, rfl⟩
        obtain ⟨kk, hkk⟩ : ∃ kk, kk = xt * m + g := ⟨_, rfl⟩
        obtain ⟨wm1, wm2⟩ := wrap_mul htm (Nat.le_trans (by rw [htm]; exact Nat.le_add_right _ _) hk60)
        obtain ⟨ws1', ws2'⟩ := wrap_sum (show kk = TM + g by rw [htm, hkk]) (by rw [hkk]; exact hk60)
        have HKK : Hid (kk = xt * m + g) := hkk
        have hkn : kk < nh := by rw [hkk]; exact hkn0
        have hk9 : kk < 1000000000 := Nat.lt_of_le_of_lt (by rw [hkk]; exact hk60) (by decide)
        clear hkk hkn0 hk60
        clear htm
        cases hmh : mem hs kk with
        | true =>
         have HMH : Hid (mem hs kk = true) := hmh
         clear hmh
         have HCE : Hid _ := fun (W : World) (hSw : W.heap[bx]? = some (.cells #[.int .i64 xF, .int .i64 (xt : Int), .int .i64 xI, .int .i64 (xs : Int), .int .i64 xW] 64 (0, 0)) ∧ W.heap[w.heap.size]? = some (.cells #[.pointer (some ⟨C, 0, none⟩)] 71 (0, 0)) ∧ W.heap[C]? = some (.cells #[.int .i64 (SB : Int), .slice (some ⟨fb, 0, none⟩) SA SA, .slice (some ⟨gb, 0, none⟩) m gc, .slice (some ⟨nb, 0, none⟩) (SB * 61) (SB * 61)] 129 (0, 0))) => (And.intro (cell_of_row _ _ 1 _ _ _ hSw.1) (And.intro (cell_of_row _ _ 0 _ _ _ hSw.2.1) (cell_of_row _ _ 2 _ _ _ hSw.2.2)))
         refine wp_region_held_drew (S := fun W => W.heap[bx]? = some (.cells #[.int .i64 xF, .int .i64 (xt : Int), .int .i64 xI, .int .i64 (xs : Int), .int .i64 xW] 64 (0, 0)) ∧ W.heap[w.heap.size]? = some (.cells #[.pointer (some ⟨C, 0, none⟩)] 71 (0, 0)) ∧ W.heap[C]? = some (.cells #[.int .i64 (SB : Int), .slice (some ⟨fb, 0, none⟩) SA SA, .slice (some ⟨gb, 0, none⟩) m gc, .slice (some ⟨nb, 0, none⟩) (SB * 61) (SB * 61)] 129 (0, 0))) (by kernel_rfl) (by exact ⟨hbx, HRX.out.xC, (HCP.out.on HRX.out.below).row⟩) (fun hHeld => ?_)
         have hS0 := hHeld
         have HR0 : Hid (Rs w V1.drew C Fb w.heap.size (w.heap.size + 1) bS n nh (.func (.func fk) fa #[]) vm vt (.slice ah hs0.length ch) ws cnt T hs) := HRX.out.drewN 1
         clear HRX hbx
         generalize hV : V1.drew = V0 at *
         clear hV
         refine tk (v := ?_) 0 { dst := some 137, op := .move (.tmp 10), type := 77, pos := "through.go:161", after := #[], guard := none } (by rfl) ?_ ?_
         case refine_2 => intro w hSw; (try dsimp only at hSw); obtain ⟨b1, z0, c2⟩ := HCE.out _ hSw; go_simp; (try with_reducible rfl)
         simp only [Act.put, zS0, zS1, zS2]
         refine tk (v := ?_) 1 { dst := some 138, op := .fieldAddr 64 (.tmp 18) 1, type := 0, pos := "through.go:161", after := #[], guard := none } (by rfl) ?_ ?_
         case refine_2 => intro w hSw; (try dsimp only at hSw); obtain ⟨b1, z0, c2⟩ := HCE.out _ hSw; go_simp; (try with_reducible rfl)
         simp only [Act.put, zS0, zS1, zS2]
         refine tk (v := ?_) 2 { dst := some 139, op := .load 3 (.tmp 138), type := 3, pos := "through.go:161", after := #[⟨1, .data⟩], guard := none } (by rfl) ?_ ?_
         case refine_2 => intro w hSw; (try dsimp only at hSw); obtain ⟨b1, z0, c2⟩ := HCE.out _ hSw; go_simp; (try with_reducible rfl)
         simp only [Act.put, zS0, zS1, zS2]
         refine tk (v := ?_) 3 { dst := some 140, op := .load 71 (.tmp 4), type := 71, pos := "through.go:161", after := #[], guard := none } (by rfl) ?_ ?_
         case refine_2 => intro w hSw; (try dsimp only at hSw); obtain ⟨b1, z0, c2⟩ := HCE.out _ hSw; go_simp; (try with_reducible rfl)
         simp only [Act.put, zS0, zS1, zS2]
         refine tk (v := ?_) 4 { dst := some 141, op := .nilCheck (.tmp 140), type := 0, pos := "through.go:161", after := #[⟨3, .data⟩], guard := none } (by rfl) ?_ ?_
         case refine_2 => intro w hSw; (try dsimp only at hSw); obtain ⟨b1, z0, c2⟩ := HCE.out _ hSw; go_simp; (try with_reducible rfl)
         simp only [Act.put, zS0, zS1, zS2]
         refine tk (v := ?_) 5 { dst := some 142, op := .fieldAddr 129 (.tmp 141) 2, type := 0, pos := "through.go:161", after := #[⟨4, .data⟩], guard := none } (by rfl) ?_ ?_
         case refine_2 => intro w hSw; (try dsimp only at hSw); obtain ⟨b1, z0, c2⟩ := HCE.out _ hSw; go_simp; (try with_reducible rfl)
         simp only [Act.put, zS0, zS1, zS2]
         refine tk (v := ?_) 6 { dst := some 143, op := .load 73 (.tmp 142), type := 73, pos := "through.go:161", after := #[⟨5, .data⟩], guard := none } (by rfl) ?_ ?_
         case refine_2 => intro w hSw; (try dsimp only at hSw); obtain ⟨b1, z0, c2⟩ := HCE.out _ hSw; go_simp; (try with_reducible rfl)
         simp only [Act.put, zS0, zS1, zS2]
         refine tk (v := ?_) 7 { dst := some 144, op := .call { callee := .builtin .len, args := #[.tmp 143], argTypes := #[73] }, type := 3, pos := "through.go:161", after := #[⟨6, .data⟩], guard := none } (by rfl) ?_ ?_
         case refine_2 => intro w hSw; (try dsimp only at hSw); obtain ⟨b1, z0, c2⟩ := HCE.out _ hSw; go_simp; (try with_reducible rfl)
         simp only [Act.put, zS0, zS1, zS2]
         refine tk (v := ?_) 8 { dst := some 145, op := .binOp .mul 3 (.tmp 139) (.tmp 144) 3, type := 3, pos := "through.go:161", after := #[⟨2, .data⟩, ⟨7, .data⟩], guard := none } (by rfl) ?_ ?_
         case refine_2 => intro w hSw; (try dsimp only at hSw); obtain ⟨b1, z0, c2⟩ := HCE.out _ hSw; go_simp; (try with_reducible rfl)
         simp only [Act.put, zS0, zS1, zS2]
         refine tk (v := ?_) 9 { dst := some 146, op := .move (.tmp 19), type := 3, pos := "through.go:161", after := #[], guard := none } (by rfl) ?_ ?_
         case refine_2 => intro w hSw; (try dsimp only at hSw); obtain ⟨b1, z0, c2⟩ := HCE.out _ hSw; go_simp; (try with_reducible rfl)
         simp only [Act.put, zS0, zS1, zS2]
         refine tk (v := ?_) 10 { dst := some 147, op := .binOp .add 3 (.tmp 145) (.tmp 146) 3, type := 3, pos := "through.go:161", after := #[⟨8, .data⟩, ⟨9, .data⟩], guard := none } (by rfl) ?_ ?_
         case refine_2 => intro w hSw; (try dsimp only at hSw); obtain ⟨b1, z0, c2⟩ := HCE.out _ hSw; go_simp; (try with_reducible rfl)
         simp only [Act.put, zS0, zS1, zS2]
         refine wpAnyH_ready (rs := [11]) (by kernel_rfl) (by simp) ?_
         refine (AllReadyH.cons (o := { dst := some 148, op := .call { callee := .value (.func 60), args := #[.tmp 137, .tmp 147], argTypes := #[77, 3] }, type := 4, pos := "through.go:161", after := #[⟨0, .data⟩, ⟨10, .data⟩], guard := none }) rfl (fun K hK => ?_) AllReadyH.nil)
         have KA := Set.add_any w.heap.size (.slice ah hs0.length ch) nh kk hs V0 HR0.out.hw hkn hk9
         rw [HMH.out] at KA
         simp only [Bool.not_true] at KA
         go_simp
         (with_reducible refine KA.mono ?_)
         clear KA
         rintro e1 V2 ⟨rfl, hset, hgr⟩
         dsimp only
         have HR2 : Hid (Rs w V2 C Fb w.heap.size (w.heap.size + 1) bS n nh (.func (.func fk) fa #[]) vm vt (.slice ah hs0.length ch) ws cnt T (put hs kk)) := HR0.out.half hset hgr
         have hbx2 := K64.half HR0.out hgr _ _ hS0.1
         have hS2 := And.intro hbx2 (And.intro HR2.out.xC ((HCP.out.on HR2.out.below).row))
         refine hK.out _ _ ?_ (fun hHeld => ?_)
         ·exact hS2
         clear hK K
         try simp only [Act.put, zS0, zS1, zS2]
         clear hset hgr hS2 HR0 hS0
         refine tk (v := ?_) 12 { dst := some 149, op := .unOp .not 4 (.tmp 148), type := 4, pos := "through.go:161", after := #[⟨11, .data⟩], guard := none } (by rfl) ?_ ?_
         case refine_2 => intro w hSw; (try dsimp only at hSw); obtain ⟨b1, z0, c2⟩ := HCE.out _ hSw; go_simp; (try with_reducible rfl)
         simp only [Act.put, zS0, zS1, zS2]
         refine wpAnyH_done (by kernel_rfl) ?_ _
         have HIV2 : Hid (Iv n SB m SA al (fun k k' => ∃ e ∈ arcsP F R SB k, e.2.1 = (k' : Int)) G (fun _k => _k = P) ws cnt T (put hs kk)) := by have := HIV.out.half hgm hkl (fun y hy k' he ha => HIV.out.hf xt g HXT.out hgm (by rw [← HKK.out]; exact HMH.out) y hy k' he ha); rw [← HKK.out] at this; exact this
         clear HIV0 hbx2
         go_wp2
         go_roundw
         case rel => exact ⟨x + 1, ws, cnt, T, vt, _, by go_num, hlt, HR2.out, HIV2.out, HMS.out, HLM.out, HPM.out, by rw [take_flat1 _ _ _ hxl, HEX.out]; exact HDX.out.app (by unfold onX; rw [if_neg HXO.out, HPQ.out.2, ← HGV.out]; exact fun e he k' h1 ha => by obtain ⟨y, hy, rfl⟩ := List.mem_map.1 he; exact HIV.out.hf xt g HXT.out hgm (by rw [← HKK.out]; exact HMH.out) y hy k' (by simp only [fX] at h1; exact h1) ha)⟩
         case measure => simp [intOf]; omega
        | false =>
         have HMH : Hid (mem hs kk = false) := hmh
         obtain ⟨ag, cg, hcg, hrg⟩ := HCP.out.grps.2 g hgm
         have HGL : Hid ((G g).length ≤ 120) := by show _ ≤ _; rw [HGV.out]; exact Nat.le_trans (List.length_filter_le _ _) (HRA.out q hqS).1
         have HGT : Hid (∀ y ∈ G g, ∃ t : Nat, y.2.1 = (t : Int) ∧ t < SB) := fun y hy => by rw [HGV.out] at hy; exact (HRA.out q hqS).2 y (mem_gr.1 hy).1
         clear hmh
         have HCE : Hid _ := fun (W : World) (hSw : W.heap[bx]? = some (.cells #[.int .i64 xF, .int .i64 (xt : Int), .int .i64 xI, .int .i64 (xs : Int), .int .i64 xW] 64 (0, 0)) ∧ W.heap[w.heap.size]? = some (.cells #[.pointer (some ⟨C, 0, none⟩)] 71 (0, 0)) ∧ W.heap[C]? = some (.cells #[.int .i64 (SB : Int), .slice (some ⟨fb, 0, none⟩) SA SA, .slice (some ⟨gb, 0, none⟩) m gc, .slice (some ⟨nb, 0, none⟩) (SB * 61) (SB * 61)] 129 (0, 0))) => (And.intro (cell_of_row _ _ 1 _ _ _ hSw.1) (And.intro (cell_of_row _ _ 0 _ _ _ hSw.2.1) (cell_of_row _ _ 2 _ _ _ hSw.2.2)))
         refine wp_region_held_drew (S := fun W => W.heap[bx]? = some (.cells #[.int .i64 xF, .int .i64 (xt : Int), .int .i64 xI, .int .i64 (xs : Int), .int .i64 xW] 64 (0, 0)) ∧ W.heap[w.heap.size]? = some (.cells #[.pointer (some ⟨C, 0, none⟩)] 71 (0, 0)) ∧ W.heap[C]? = some (.cells #[.int .i64 (SB : Int), .slice (some ⟨fb, 0, none⟩) SA SA, .slice (some ⟨gb, 0, none⟩) m gc, .slice (some ⟨nb, 0, none⟩) (SB * 61) (SB * 61)] 129 (0, 0))) (by kernel_rfl) (by exact ⟨hbx, HRX.out.xC, (HCP.out.on HRX.out.below).row⟩) (fun hHeld => ?_)
         have hS0 := hHeld
         have HR0 : Hid (Rs w V1.drew C Fb w.heap.size (w.heap.size + 1) bS n nh (.func (.func fk) fa #[]) vm vt (.slice ah hs0.length ch) ws cnt T hs) := HRX.out.drewN 1
         clear HRX hbx
         generalize hV : V1.drew = V0 at *
         clear hV
         refine tk (v := ?_) 0 { dst := some 137, op := .move (.tmp 10), type := 77, pos := "through.go:161", after := #[], guard := none } (by rfl) ?_ ?_
         case refine_2 => intro w hSw; (try dsimp only at hSw); obtain ⟨b1, z0, c2⟩ := HCE.out _ hSw; go_simp; (try with_reducible rfl)
         simp only [Act.put, zS0, zS1, zS2]
         refine tk (v := ?_) 1 { dst := some 138, op := .fieldAddr 64 (.tmp 18) 1, type := 0, pos := "through.go:161", after := #[], guard := none } (by rfl) ?_ ?_
         case refine_2 => intro w hSw; (try dsimp only at hSw); obtain ⟨b1, z0, c2⟩ := HCE.out _ hSw; go_simp; (try with_reducible rfl)
         simp only [Act.put, zS0, zS1, zS2]
         refine tk (v := ?_) 2 { dst := some 139, op := .load 3 (.tmp 138), type := 3, pos := "through.go:161", after := #[⟨1, .data⟩], guard := none } (by rfl) ?_ ?_
         case refine_2 => intro w hSw; (try dsimp only at hSw); obtain ⟨b1, z0, c2⟩ := HCE.out _ hSw; go_simp; (try with_reducible rfl)
         simp only [Act.put, zS0, zS1, zS2]
         refine tk (v := ?_) 3 { dst := some 140, op := .load 71 (.tmp 4), type := 71, pos := "through.go:161", after := #[], guard := none } (by rfl) ?_ ?_
         case refine_2 => intro w hSw; (try dsimp only at hSw); obtain ⟨b1, z0, c2⟩ := HCE.out _ hSw; go_simp; (try with_reducible rfl)
         simp only [Act.put, zS0, zS1, zS2]
         refine tk (v := ?_) 4 { dst := some 141, op := .nilCheck (.tmp 140), type := 0, pos := "through.go:161", after := #[⟨3, .data⟩], guard := none } (by rfl) ?_ ?_
         case refine_2 => intro w hSw; (try dsimp only at hSw); obtain ⟨b1, z0, c2⟩ := HCE.out _ hSw; go_simp; (try with_reducible rfl)
         simp only [Act.put, zS0, zS1, zS2]
         refine tk (v := ?_) 5 { dst := some 142, op := .fieldAddr 129 (.tmp 141) 2, type := 0, pos := "through.go:161", after := #[⟨4, .data⟩], guard := none } (by rfl) ?_ ?_
         case refine_2 => intro w hSw; (try dsimp only at hSw); obtain ⟨b1, z0, c2⟩ := HCE.out _ hSw; go_simp; (try with_reducible rfl)
         simp only [Act.put, zS0, zS1, zS2]
         refine tk (v := ?_) 6 { dst := some 143, op := .load 73 (.tmp 142), type := 73, pos := "through.go:161", after := #[⟨5, .data⟩], guard := none } (by rfl) ?_ ?_
         case refine_2 => intro w hSw; (try dsimp only at hSw); obtain ⟨b1, z0, c2⟩ := HCE.out _ hSw; go_simp; (try with_reducible rfl)
         simp only [Act.put, zS0, zS1, zS2]
         refine tk (v := ?_) 7 { dst := some 144, op := .call { callee := .builtin .len, args := #[.tmp 143], argTypes := #[73] }, type := 3, pos := "through.go:161", after := #[⟨6, .data⟩], guard := none } (by rfl) ?_ ?_
         case refine_2 => intro w hSw; (try dsimp only at hSw); obtain ⟨b1, z0, c2⟩ := HCE.out _ hSw; go_simp; (try with_reducible rfl)
         simp only [Act.put, zS0, zS1, zS2]
         refine tk (v := ?_) 8 { dst := some 145, op := .binOp .mul 3 (.tmp 139) (.tmp 144) 3, type := 3, pos := "through.go:161", after := #[⟨2, .data⟩, ⟨7, .data⟩], guard := none } (by rfl) ?_ ?_
         case refine_2 => intro w hSw; (try dsimp only at hSw); obtain ⟨b1, z0, c2⟩ := HCE.out _ hSw; go_simp; (try with_reducible rfl)
         simp only [Act.put, zS0, zS1, zS2]
         refine tk (v := ?_) 9 { dst := some 146, op := .move (.tmp 19), type := 3, pos := "through.go:161", after := #[], guard := none } (by rfl) ?_ ?_
         case refine_2 => intro w hSw; (try dsimp only at hSw); obtain ⟨b1, z0, c2⟩ := HCE.out _ hSw; go_simp; (try with_reducible rfl)
         simp only [Act.put, zS0, zS1, zS2]
         refine tk (v := ?_) 10 { dst := some 147, op := .binOp .add 3 (.tmp 145) (.tmp 146) 3, type := 3, pos := "through.go:161", after := #[⟨8, .data⟩, ⟨9, .data⟩], guard := none } (by rfl) ?_ ?_
         case refine_2 => intro w hSw; (try dsimp only at hSw); obtain ⟨b1, z0, c2⟩ := HCE.out _ hSw; go_simp; (try with_reducible rfl)
         simp only [Act.put, zS0, zS1, zS2]
         refine wpAnyH_ready (rs := [11]) (by kernel_rfl) (by simp) ?_
         refine (AllReadyH.cons (o := { dst := some 148, op := .call { callee := .value (.func 60), args := #[.tmp 137, .tmp 147], argTypes := #[77, 3] }, type := 4, pos := "through.go:161", after := #[⟨0, .data⟩, ⟨10, .data⟩], guard := none }) rfl (fun K hK => ?_) AllReadyH.nil)
         have KA := Set.add_any w.heap.size (.slice ah hs0.length ch) nh kk hs V0 HR0.out.hw hkn hk9
         rw [HMH.out] at KA
         simp only [Bool.not_false] at KA
         go_simp
         (with_reducible refine KA.mono ?_)
         clear KA
         rintro e1 V2 ⟨rfl, hset, hgr⟩
         dsimp only
         have HR2 : Hid (Rs w V2 C Fb w.heap.size (w.heap.size + 1) bS n nh (.func (.func fk) fa #[]) vm vt (.slice ah hs0.length ch) ws cnt T (put hs kk)) := HR0.out.half hset hgr
         have hbx2 := K64.half HR0.out hgr _ _ hS0.1
         have hS2 := And.intro hbx2 (And.intro HR2.out.xC ((HCP.out.on HR2.out.below).row))
         refine hK.out _ _ ?_ (fun hHeld => ?_)
         ·exact hS2
         clear hK K
         try simp only [Act.put, zS0, zS1, zS2]
         clear hset hgr hS2 HR0 hS0
         refine tk (v := ?_) 12 { dst := some 149, op := .unOp .not 4 (.tmp 148), type := 4, pos := "through.go:161", after := #[⟨11, .data⟩], guard := none } (by rfl) ?_ ?_
         case refine_2 => intro w hSw; (try dsimp only at hSw); obtain ⟨b1, z0, c2⟩ := HCE.out _ hSw; go_simp; (try with_reducible rfl)
         simp only [Act.put, zS0, zS1, zS2]
         refine wpAnyH_done (by kernel_rfl) ?_ _
         clear HIV0
         have HRW6 : Hid (Mv.Row w (.slice ag (G g).length cg) 5 (G g).length (acs (G g))) := hrg
         obtain ⟨ng, hng⟩ : ∃ ng, (G g).length = ng := ⟨_, rfl⟩
         have HNG : Hid ((G g).length = ng) := hng
         have hg120 : ng ≤ 120 := by rw [← hng]; exact HGL.out
         have k8 := (HR2.out.below.cell (p := ⟨gb, g, none⟩) HCP.out.grps.1).trans hcg
         rw [hng] at k8
         have kz := cell_of_row _ _ 0 _ _ _ HR2.out.xC
         have kc := cell_of_row _ _ 2 _ _ _ (HCP.out.on HR2.out.below).row
         have HUP : Hid (∀ k, mem ws k = true → mem ws k = true) := fun _ h => h
         have HBX2 : Hid (V2.heap[bx]? = some (.cells #[.int .i64 xF, .int .i64 (xt : Int), .int .i64 xI, .int .i64 (xs : Int), .int .i64 xW] 64 (0, 0))) := hbx2
         clear hrg hcg hng hbx2
         go_wp2
         go_loopw [158] (fun a wr => ∃ (y : Nat) (ws1 : List Nat) (cnt1 : Nat) (T1 : List Nat) (vt1 : Value), a = .int .i64 y ∧ y ≤ ng ∧ Rs w wr C Fb w.heap.size (w.heap.size + 1) bS n nh (.func (.func fk) fa #[]) vm vt1 (.slice ah hs0.length ch) ws1 cnt1 T1 (put hs kk) ∧ wr.heap[bx]? = some (.cells #[.int .i64 xF, .int .i64 (xt : Int), .int .i64 xI, .int .i64 (xs : Int), .int .i64 xW] 64 (0, 0)) ∧ Iv n SB m SA al (fun k k' => ∃ e ∈ arcsP F R SB k, e.2.1 = (k' : Int)) G (fun _k => _k = P) ws1 cnt1 T1 hs ∧ msr n cnt1 T1 ≤ gk0 ∧ (∀ k, mem ws k = true → mem ws1 k = true) ∧ Dn al ws1 (((G g).take y).map (fX SB P (xF, (xt : Int), xI, (xs : Int), xW)))) (fun a _ => ng - (intOf a).toNat)
         case atStart => exact ⟨0, ws, cnt, T, vt, rfl, Nat.zero_le _, HR2.out, HBX2.out, HIV.out, HMS.out, HUP.out, fun e he => (by simp at he)⟩
         case round =>
          clear HR2 HBX2 HUP k8 kz kc
          obtain ⟨y, ws1, cnt1, T1, vt1, rfl, hy, hr, hbx, hiv, hms, hup, hdn⟩ := hrel
          have HR : Hid (Rs w wr C Fb w.heap.size (w.heap.size + 1) bS n nh (.func (.func fk) fa #[]) vm vt1 (.slice ah hs0.length ch) ws1 cnt1 T1 (put hs kk)) := hr
          have HIV1 : Hid (Iv n SB m SA al (fun k k' => ∃ e ∈ arcsP F R SB k, e.2.1 = (k' : Int)) G (fun _k => _k = P) ws1 cnt1 T1 hs) := hiv
          have HMS1 : Hid (msr n cnt1 T1 ≤ gk0) := hms
          have HUP : Hid (∀ k, mem ws k = true → mem ws1 k = true) := hup
          have HDN1 : Hid (Dn al ws1 (((G g).take y).map (fX SB P (xF, (xt : Int), xI, (xs : Int), xW)))) := hdn
          by_cases hlt : y < ng
          ·have hyl : y < (G g).length := by rw [HNG.out]; exact hlt
           obtain ⟨yb, yo, rfl, p0, p1, p2, p3, p4⟩ := row_at HRW6.out hr.below hyl
           obtain ⟨yt, hyt, hyS⟩ := HGT.out _ (List.getElem_mem hyl)
           obtain ⟨yF, yT, yI, yO, yW, ey⟩ : ∃ f t i1 o1 x, (G g)[y] = (f, t, i1, o1, x) := ⟨_, _, _, _, _, rfl⟩
           rw [ey] at p0 p1 p2 p3 p4 hyt
           dsimp only at hyt
           subst hyt
           dsimp only at p0 p1 p2 p3 p4
           have HEY : Hid ((G g)[y] = (yF, (yt : Int), yI, yO, yW)) := ey
           have hP1 : xt * SB + yt < n := by rw [HN.out]; exact pair_lt HXT.out hyS
           have hcn1 : cnt1 ≤ n := by rw [hiv.ct]; exact crd_le n ws1
           have KM := meet_any w (wr.alloc (.cells #[.int .i64 yF, .int .i64 (yt : Int), .int .i64 yI, .int .i64 yO, .int .i64 yW] 64)) C Fb w.heap.size (w.heap.size + 1) bS n nh SB cnt1 xt yt (xt * SB + yt) (.func (.func fk) fa #[]) vm vt1 (.slice ah hs0.length ch) ws1 T1 (put hs kk) al (#[.int .i64 (SB : Int), .slice (some ⟨fb, 0, none⟩) SA SA, .slice (some ⟨gb, 0, none⟩) m gc, .slice (some ⟨nb, 0, none⟩) (SB * 61) (SB * 61)]) (hr.alloc _) (HAL.out.below (hr.alloc (.cells #[.int .i64 yF, .int .i64 (yt : Int), .int .i64 yI, .int .i64 yO, .int .i64 yW] 64)).below) (HCP.out.on (hr.alloc (.cells #[.int .i64 yF, .int .i64 (yt : Int), .int .i64 yI, .int .i64 yO, .int .i64 yW] 64)).below).row rfl rfl hxt40 hSB hP1 hn16 hcn1 hiv.tl
           have hbx1 := (heap_alloc_old wr (.cells #[.int .i64 yF, .int .i64 (yt : Int), .int .i64 yI, .int .i64 yO, .int .i64 yW] 64) (lt_at hbx)).trans hbx
           have hby := heap_alloc_new wr (.cells #[.int .i64 yF, .int .i64 (yt : Int), .int .i64 yI, .int .i64 yO, .int .i64 yW] 64)
           have d1 := cell_of_row _ _ 1 _ _ _ hbx1
           have d2 := cell_of_row _ _ 1 _ _ _ hby
           clear hr hiv hms hup hdn ey hbx hby
           go_wp2_with (go_at_call 93; (with_reducible refine KM.mono ?_); clear KM; rintro e w1 ⟨rfl, vt2, h1, h2⟩; have HR1 : Hid _ := h1; have hbx2 := h2 _ _ hbx1; clear h1 h2 hbx1 d1 d2)
           have hM := HIV1.out.meet hP1
           have hMM := msr_meet HIV1.out hP1
           go_roundw
           case rel => exact ⟨y + 1, _, _, _, vt2, by go_num, hlt, HR1.out, hbx2, hM.1, Nat.le_trans hMM HMS1.out, fun k h => hM.2.2 k (HUP.out k h), by rw [take_map1 _ _ _ hyl, HEY.out]; exact (HDN1.out.up hM.2.2).app (Dn.one (P := xt * SB + yt) (by simp [fX]) hM.2.1)⟩
           case measure => simp [intOf]; omega
          ·obtain rfl : y = ng := by omega
           have HD2 : Hid (Dn al ws1 ((G g).map (fX SB P (xF, (xt : Int), xI, (xs : Int), xW)))) := by have := HDN1.out; rw [← HNG.out, List.take_length] at this; exact this
           have HIV2 : Hid (Iv n SB m SA al (fun k k' => ∃ e ∈ arcsP F R SB k, e.2.1 = (k' : Int)) G (fun _k => _k = P) ws1 cnt1 T1 (put hs kk)) := by have := HIV1.out.half hgm hkl (fun y' hy' k' he ha => HD2.out _ (List.mem_map.2 ⟨y', hy', rfl⟩) k' (by simp only [fX]; exact he) ha); rw [← HKK.out] at this; exact this
           clear hr hiv hms hup hdn hbx
           go_wp2
           go_roundw
           case rel => exact ⟨x + 1, ws1, cnt1, T1, vt1, _, by go_num, ‹x < np›, HR.out, HIV2.out, HMS1.out, fun k h => HUP.out _ (HLM.out k h), HUP.out _ HPM.out, by rw [take_flat1 _ _ _ ‹x < (F p).length›, HEX.out]; exact (HDX.out.up HUP.out).app (by unfold onX; rw [if_neg HXO.out, HPQ.out.2, ← HGV.out]; exact HD2.out)⟩
           case measure => simp [intOf]; omega
      ·obtain rfl : x = np := by omega
       have HDX2 : Hid (Dn al ws ((F p).flatMap (onX R SB P))) := by have := HDX.out; rw [← HNP.out, List.take_length] at this; exact this
       clear HDX
       have HDX : Hid (Dn al ws ((F p).flatMap (onX R SB P))) := HDX2.out
       clear HDX2 hr hiv hms hlm hpm hdx
       obtain ⟨g0, hg0v⟩ : ∃ g0, gs.getD (q * 61 + 0) 0 = g0 := ⟨_, rfl⟩
       have HGZ : Hid (gs.getD (q * 61 + 0) 0 = g0) := hg0v
       have HG0 : Hid (g0 < m ∧ G g0 = gr R q 0) := ⟨by rw [← hg0v]; exact HCP.out.sem.lt _ (at_lt hqS (Nat.zero_le 60)), by have := HCP.out.sem.val q 0 hqS (Nat.zero_le 60); rw [hg0v] at this; exact this⟩
       have HGL0 : Hid ((gr R q 0).length ≤ 120) := Nat.le_trans (List.length_filter_le _ _) (HRA.out q hqS).1
       have HGT0 : Hid (∀ y ∈ G g0, ∃ t : Nat, y.2.1 = (t : Int) ∧ t < SB) := fun y hy => by rw [HG0.out.2] at hy; exact (HRA.out q hqS).2 y (mem_gr.1 hy).1
       clear hg0v
       obtain ⟨a0, c0', hc0, hr0⟩ := HCP.out.grps.2 g0 HG0.out.1
       have HRW8 : Hid (Mv.Row w (.slice a0 (G g0).length c0') 5 (G g0).length (acs (G g0))) := hr0
       obtain ⟨n0, hn0e⟩ : ∃ n0, (G g0).length = n0 := ⟨_, rfl⟩
       have HNG : Hid ((G g0).length = n0) := hn0e
       have hg120 : n0 ≤ 120 := by rw [← hn0e, HG0.out.2]; exact HGL0.out
       have k8 := (HRS4.out.below.cell (p := ⟨gb, g0, none⟩) HCP.out.grps.1).trans hc0
       rw [hn0e] at k8
       have kz := cell_of_row _ _ 0 _ _ _ HRS4.out.xC
       have kc := cell_of_row _ _ 2 _ _ _ (HCP.out.on HRS4.out.below).row
       have KG := fun (d : Nat) => group_cp HCP.out (below_drewN HRS4.out.below d) hSB hqS (Nat.zero_le 60) (show gs.getD (q * 61 + 0) 0 = g0 from HGZ.out)
       rw [show ((0 : Nat) : Int) = 0 from rfl] at KG
       have hg0m := HG0.out.1
       clear hc0 hr0 hn0e
       go_upto_region 26 with fail
       go_quiet (first | (go_at_call 95; exact Calls.quiet_of_same (KG _)))
       have HRS5 : Hid (Rs w (wr.drewN nq) C Fb w.heap.size (w.heap.size + 1) bS n nh (.func (.func fk) fa #[]) vm vt (.slice ah hs0.length ch) ws cnt T hs) := HRS4.out.drewN nq
       clear HRS4 k8 kz kc KG
       generalize hVq : wr.drewN nq = V5 at *
       clear hVq
       go_wp2
       go_loopw [180] (fun a wr => ∃ (y : Nat) (ws1 : List Nat) (cnt1 : Nat) (T1 : List Nat) (vt1 : Value), a = .int .i64 y ∧ y ≤ n0 ∧ Rs w wr C Fb w.heap.size (w.heap.size + 1) bS n nh (.func (.func fk) fa #[]) vm vt1 (.slice ah hs0.length ch) ws1 cnt1 T1 hs ∧ Iv n SB m SA al (fun k k' => ∃ e ∈ arcsP F R SB k, e.2.1 = (k' : Int)) G (fun _k => _k = P) ws1 cnt1 T1 hs ∧ msr n cnt1 T1 ≤ gk0 ∧ (∀ k, mem ws k = true → mem ws1 k = true) ∧ Dn al ws1 (((G g0).take y).map (fB SB P))) (fun a _ => n0 - (intOf a).toNat)
       case atStart => exact ⟨0, ws, cnt, T, vt, rfl, Nat.zero_le _, HRS5.out, HIV.out, HMS.out, fun _ h => h, fun e he => (by simp at he)⟩
       case round =>
        clear HRS5
        obtain ⟨y, ws1, cnt1, T1, vt1, rfl, hy, hr, hiv, hms, hup, hdn⟩ := hrel
        have HR : Hid (Rs w wr C Fb w.heap.size (w.heap.size + 1) bS n nh (.func (.func fk) fa #[]) vm vt1 (.slice ah hs0.length ch) ws1 cnt1 T1 hs) := hr
        have HIV1 : Hid (Iv n SB m SA al (fun k k' => ∃ e ∈ arcsP F R SB k, e.2.1 = (k' : Int)) G (fun _k => _k = P) ws1 cnt1 T1 hs) := hiv
        have HMS1 : Hid (msr n cnt1 T1 ≤ gk0) := hms
        have HUP : Hid (∀ k, mem ws k = true → mem ws1 k = true) := hup
        have HDN1 : Hid (Dn al ws1 (((G g0).take y).map (fB SB P))) := hdn
        by_cases hlt : y < n0
        ·have hyl : y < (G g0).length := by rw [HNG.out]; exact hlt
         obtain ⟨yb, yo, rfl, p0, p1, p2, p3, p4⟩ := row_at HRW8.out hr.below hyl
         obtain ⟨yt, hyt, hyS⟩ := HGT0.out _ (List.getElem_mem hyl)
         obtain ⟨yF, yT, yI, yO, yW, ey⟩ : ∃ f t i1 o1 x, (G g0)[y] = (f, t, i1, o1, x) := ⟨_, _, _, _, _, rfl⟩
         rw [ey] at p0 p1 p2 p3 p4 hyt
         dsimp only at hyt
         subst hyt
         dsimp only at p0 p1 p2 p3 p4
         have HEY : Hid ((G g0)[y] = (yF, (yt : Int), yI, yO, yW)) := ey
         have hP1 : p * SB + yt < n := by rw [HN.out]; exact pair_lt HPA.out hyS
         have hcn1 : cnt1 ≤ n := by rw [hiv.ct]; exact crd_le n ws1
         have KM := meet_any w (wr.alloc (.cells #[.int .i64 yF, .int .i64 (yt : Int), .int .i64 yI, .int .i64 yO, .int .i64 yW] 64)) C Fb w.heap.size (w.heap.size + 1) bS n nh SB cnt1 p yt (p * SB + yt) (.func (.func fk) fa #[]) vm vt1 (.slice ah hs0.length ch) ws1 T1 hs al (#[.int .i64 (SB : Int), .slice (some ⟨fb, 0, none⟩) SA SA, .slice (some ⟨gb, 0, none⟩) m gc, .slice (some ⟨nb, 0, none⟩) (SB * 61) (SB * 61)]) (hr.alloc _) (HAL.out.below (hr.alloc (.cells #[.int .i64 yF, .int .i64 (yt : Int), .int .i64 yI, .int .i64 yO, .int .i64 yW] 64)).below) (HCP.out.on (hr.alloc (.cells #[.int .i64 yF, .int .i64 (yt : Int), .int .i64 yI, .int .i64 yO, .int .i64 yW] 64)).below).row rfl rfl hp40 hSB hP1 hn16 hcn1 hiv.tl
         have d2 := cell_of_row _ _ 1 _ _ _ (heap_alloc_new wr (.cells #[.int .i64 yF, .int .i64 (yt : Int), .int .i64 yI, .int .i64 yO, .int .i64 yW] 64))
         clear hr hiv hms hup hdn ey
         go_wp2_with (go_at_call 93; (with_reducible refine KM.mono ?_); clear KM; rintro e w1 ⟨rfl, vt2, h1, h2⟩; have HR1 : Hid _ := h1; clear h1 h2 d2)
         have hM := HIV1.out.meet hP1
         have hMM := msr_meet HIV1.out hP1
         go_roundw
         case rel => exact ⟨y + 1, _, _, _, vt2, by go_num, hlt, HR1.out, hM.1, Nat.le_trans hMM HMS1.out, fun k h => hM.2.2 k (HUP.out k h), by rw [take_map1 _ _ _ hyl, HEY.out]; exact (HDN1.out.up hM.2.2).app (Dn.one (P := p * SB + yt) (by simp [fB, HPQ.out.1]) hM.2.1)⟩
         case measure => simp [intOf]; omega
        ·obtain rfl : y = n0 := by omega
         have HD2 : Hid (Dn al ws1 ((G g0).map (fB SB P))) := by have := HDN1.out; rw [← HNG.out, List.take_length] at this; exact this
         have HIV2 : Hid (Iv n SB m SA al (fun k k' => ∃ e ∈ arcsP F R SB k, e.2.1 = (k' : Int)) G (fun _ => False) ws1 cnt1 T1 hs) := HIV1.out.done (fun k' ⟨e, he, h1⟩ ha => by
          unfold arcsP at he
          rw [HPQ.out.1, HPQ.out.2, ← HG0.out.2] at he
          exact ((HDX.out.up HUP.out).app HD2.out) e he k' h1 ha)
         clear hr hiv hms hup hdn
         go_wp2
         go_roundg (msr n cnt1 T1)
         case measure => have := HMS1.out; have := HGK.out; omega
         case rel => exact ⟨ws1, cnt1, T1, vt1, hs, trivial, HR.out, HIV2.out, fun k h => HUP.out _ (HLM.out k h), rfl⟩
end Go.Proofs.YtfjocafepigijaaDoor.Cu
