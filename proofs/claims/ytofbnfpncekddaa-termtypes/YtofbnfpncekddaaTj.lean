/- typeCopy. Condition: there are at most 1000 types in it. -/
import Derived.Test.YtofbnfpncekddaaZy
import Derived.Deep.CutRange
namespace Go.Proofs.Ytofbnfpncekddaa.Te
open Go.RowKit Zz

/-- what is copied so far -/
structure Cp (w : World) (d : Nat) (k n : Int) (ks : List Ty) (j : Nat) (wr : World) : Prop where
  bel : Below w.heap.size w wr
  hi : w.heap.size + 3 ≤ wr.heap.size
  row : ∃ x m xs, wr.heap[w.heap.size + 2]? = some (.cells #[.int .i64 k, .int .i64 n, .slice x j m] 24 (0, 0)) ∧ wr.ownsRow (w.heap.size + 3) 24 3 (.slice x j m) j xs ∧ RowOf (fun g => w.heap.size + 3 ≤ g ∧ some g ≠ (Value.slice x j m).ownBlock) wr d ks j xs
  res : wr.heap[w.heap.size + 1]? = some (.cells #[.int .i64 0, .int .i64 0, .slice none 0 0] 24 (0, 0))
theorem Cp.below {w : World} {d : Nat} {k n : Int} {ks : List Ty} {j : Nat} {wr w' : World} (h : Cp w d k n ks j wr) (hb : Below wr.heap.size wr w') : Cp w d k n ks j w' := by
  obtain ⟨h1, h2, ⟨x, m, xs, h3, h4, h5⟩, h6⟩ := h
  exact ⟨h1.trans (hb.mono h1.size), Nat.le_trans h2 hb.size, ⟨x, m, xs, (hb.block _ (by omega)).trans h3, own_below h4 hb, h5.keep hb.size (fun g hg hP => ⟨hP, hb.block g hg⟩)⟩, (hb.block _ (by omega)).trans h6⟩
theorem slice_of1 {w : World} {base e size : Nat} {v : Value} {n : Nat} {xs : List Value} (h : w.ownsRow base e size v (n + 1) xs) : ∃ g k, v = .slice (some ⟨g, 0, none⟩) (n + 1) k ∧ base ≤ g := by
  rcases h.2 with ⟨_, h'⟩ | ⟨g, cap, cur, h, hg, _⟩
  · omega
  · exact ⟨g, cap, h, hg⟩
theorem Cp.push {w : World} {d : Nat} {k n : Int} {ks : List Ty} {j : Nat} {w5 W6 : World} {x : Option Addr} {m : Nat} {xs : List Value} {B : Nat} (hbel : Below w.heap.size w w5) (hB0 : w.heap.size + 3 ≤ B) (hB5 : B ≤ w5.heap.size)
    (hbox : w5.heap[w.heap.size + 2]? = some (.cells #[.int .i64 k, .int .i64 n, .slice x j m] 24 (0, 0))) (hres : w5.heap[w.heap.size + 1]? = some (.cells #[.int .i64 0, .int .i64 0, .slice none 0 0] 24 (0, 0)))
    (hxB : ∀ g, (Value.slice x j m).ownBlock = some g → w.heap.size + 3 ≤ g ∧ g < B) (hl : xs.length = j * 3) (hrow : RowOf (fun g => w.heap.size + 3 ≤ g ∧ some g ≠ (Value.slice x j m).ownBlock) w5 d ks j xs) (hj : j < ks.length) {a2 : Option Addr} {c2 : Nat} (ht : TyP (fun g => B ≤ g) w5 d ks[j] a2 c2) {g6 c6 : Nat} {o : Obj}
    (ho6 : W6.ownsRow (w.heap.size + 3) 24 3 (.slice (some ⟨g6, 0, none⟩) (j + 1) c6) (j + 1) (xs ++ tyc ks[j] a2 c2)) (hg6 : (w5.alloc o).grownBy W6 (Value.slice x j m).ownBlock) (hat : some g6 = (Value.slice x j m).ownBlock ∨ some g6 = some (w5.alloc o).heap.size) :
    Cp w d k n ks (j + 1) (W6.setCell ⟨w.heap.size + 2, 2, none⟩ (.slice (some ⟨g6, 0, none⟩) (j + 1) c6)) := by
  have hs5 : (w5.alloc o).heap.size = w5.heap.size + 1 := by simp
  have hba : Below w5.heap.size w5 (w5.alloc o) := (Below.refl _ w5).alloc (Nat.le_refl _) o
  have hs6 := hg6.size
  have k6 : ∀ g, g < w5.heap.size → some g ≠ (Value.slice x j m).ownBlock → W6.heap[g]? = w5.heap[g]? := fun g hl hne => (hg6.block g (by omega) hne).trans (hba.block g hl)
  have hg6b : w.heap.size + 3 ≤ g6 := (ho6.lt g6 rfl).1
  have kk : ∀ g, g < w5.heap.size → w.heap.size + 3 ≤ g → some g ≠ (Value.slice x j m).ownBlock → (W6.setCell ⟨w.heap.size + 2, 2, none⟩ (.slice (some ⟨g6, 0, none⟩) (j + 1) c6)).heap[g]? = w5.heap[g]? := fun g h1 h2 h3 => (heap_setCell_other _ _ _ _ (by show g ≠ w.heap.size + 2; omega)).trans (k6 g h1 h3)
  have hne : ∀ g, g < w5.heap.size → some g ≠ (Value.slice x j m).ownBlock → some g ≠ some g6 := fun g h1 h2 e => by
    rcases hat with h' | h'
    · exact h2 (e.trans h')
    · rw [h'] at e
      simp only [Option.some.injEq] at e
      omega
  have lowne : ∀ g, g < w.heap.size + 3 → some g ≠ (Value.slice x j m).ownBlock := fun g hg e => by
    have := (hxB g e.symm).1
    omega
  have hbel6 : Below w.heap.size w W6 := (hbel.alloc hbel.size o).grown hg6 (by have := hbel.size; omega) (fun q hq => by have := (hxB q hq).1; omega)
  have hbox6 : W6.heap[w.heap.size + 2]? = some (.cells #[.int .i64 k, .int .i64 n, .slice x j m] 24 (0, 0)) := (k6 _ (by omega) (lowne _ (by omega))).trans hbox
  refine ⟨hbel6.setCell (p := ⟨w.heap.size + 2, 2, none⟩) (by show w.heap.size ≤ w.heap.size + 2; omega) _, by simp; omega, ⟨some ⟨g6, 0, none⟩, c6, xs ++ tyc ks[j] a2 c2, ?_, ?_, ?_⟩, ?_⟩
  · rw [heap_setCell_same _ _ 2 _ 24 _ hbox6]
    simp
  · exact own_keep ho6 (fun g _ _ hg _ => heap_setCell_other _ _ _ _ (by show g ≠ w.heap.size + 2; omega))
  · have r1 := hrow.keep (Q := fun g => w.heap.size + 3 ≤ g ∧ some g ≠ some g6) (w' := W6.setCell ⟨w.heap.size + 2, 2, none⟩ (.slice (some ⟨g6, 0, none⟩) (j + 1) c6)) (by simp; omega) (fun g hg hP => ⟨⟨hP.1, hne g hg hP.2⟩, kk g hg hP.1 hP.2⟩)
    have t1 := ht.keep (Q := fun g => w.heap.size + 3 ≤ g ∧ some g ≠ some g6) (w' := W6.setCell ⟨w.heap.size + 2, 2, none⟩ (.slice (some ⟨g6, 0, none⟩) (j + 1) c6)) (by simp; omega) (fun g hg hP => by
      have e : some g ≠ (Value.slice x j m).ownBlock := fun e => by
        have := (hxB g e.symm).2
        have hP' : B ≤ g := hP
        omega
      have hP' : B ≤ g := hP
      exact ⟨⟨by omega, hne g hg e⟩, kk g hg (by omega) e⟩)
    exact r1.push hl hj t1
  · exact (heap_setCell_other _ _ _ _ (by show w.heap.size + 1 ≠ w.heap.size + 2; omega)).trans ((k6 _ (by omega) (lowne _ (by omega))).trans hres)
theorem size24 : (Try.prog.info? 24).map (·.size) = some 3 := by kernel_rfl
theorem ko3 (w : World) (b : Nat) (u v x : Value) (g : Nat) (hg : g ≠ b) : (((w.setCell ⟨b, 0, none⟩ u).setCell ⟨b, 1, none⟩ v).setCell ⟨b, 2, none⟩ x).heap[g]? = w.heap[g]? := by
  rw [heap_setCell_other _ _ _ _ hg, heap_setCell_other _ _ _ _ hg, heap_setCell_other _ _ _ _ hg]
theorem laid_box {w : World} {b : Nat} {u v x : Value} (h : w.heap[b]? = some (.cells #[u, v, x] 24 (0, 0))) (k n : Int) (a : Option Addr) (l m : Nat) : (((w.setCell ⟨b, 0, none⟩ (.int .i64 k)).setCell ⟨b, 1, none⟩ (.int .i64 n)).setCell ⟨b, 2, none⟩ (.slice a l m)).heap[b]? = some (.cells #[.int .i64 k, .int .i64 n, .slice a l m] 24 (0, 0)) := by
  have h1 := heap_setCell_same w b 0 _ 24 (.int .i64 k) h
  have h2 := heap_setCell_same _ b 1 _ 24 (.int .i64 n) h1
  have h3 := heap_setCell_same _ b 2 _ 24 (.slice a l m) h2
  rw [h3]
  simp
set_option maxHeartbeats 4000000 in
theorem copy_any : ∀ (d : Nat) (t : Ty) (a : Option Addr) (c : Nat) (w : World), TyAt w d t a c → sz t ≤ 1000 → Calls Try.prog 14 #[vty t a c] w fun e w' => ∃ a' c', e = .returned (vty t a' c') ∧ TyP (fun g => w.heap.size ≤ g) w' d t a' c' ∧ Below w.heap.size w w' := by
  intro d
  induction d with
  | zero => intro t a c w h; exact h.elim
  | succ d ih =>
    intro t a c w h hsz
    have hlen := len_lt_sz t
    have hks := fun j (hj : j < t.kids.length) => kid_sz (t := t) hj
    have hB64 := h.few.2
    obtain ⟨k, n, ks⟩ := t
    unfold vty
    dsimp only at hlen hks ⊢
    have HT : Hid (TyAt w (d + 1) ⟨k, n, ks⟩ a c) := h
    have HK : Hid (∀ j (hj : j < ks.length), sz ks[j] ≤ 1000) := fun j hj => by have := hks j hj; omega
    have HB : Hid (i64B k ∧ i64B n) := hB64
    have hl : ks.length < 1000 := by omega
    obtain ⟨i24, hi24, hz240, hz241, hz242⟩ := info_parts info24
    clear h hsz hks hB64 hlen
    go_enter Try.func14, Try.ntmps14
    go_wp2
    rw [show w.heap.size + 1 + 1 = w.heap.size + 2 from rfl]
    obtain ⟨W0, hW0⟩ : ∃ W0, ((w.alloc (.cells #[.int .i64 k, .int .i64 n, .slice a ks.length c] 24)).alloc (.cells #[.int .i64 0, .int .i64 0, .slice none 0 0] 24)).alloc (.cells #[.int .i64 k, .int .i64 n, .slice none 0 0] 24) = W0 := ⟨_, rfl⟩
    rw [hW0]
    have HC : Hid (Cp w d k n ks 0 W0) := by
      show Cp w d k n ks 0 W0
      have hb2 := two_boxes w (.cells #[.int .i64 k, .int .i64 n, .slice a ks.length c] 24) (.cells #[.int .i64 0, .int .i64 0, .slice none 0 0] 24)
      have hb3 : Below ((w.alloc (.cells #[.int .i64 k, .int .i64 n, .slice a ks.length c] 24)).alloc (.cells #[.int .i64 0, .int .i64 0, .slice none 0 0] 24)).heap.size ((w.alloc (.cells #[.int .i64 k, .int .i64 n, .slice a ks.length c] 24)).alloc (.cells #[.int .i64 0, .int .i64 0, .slice none 0 0] 24)) W0 := hW0 ▸ (Below.refl _ _).alloc (Nat.le_refl _) _
      have hn3 := heap_alloc_new ((w.alloc (.cells #[.int .i64 k, .int .i64 n, .slice a ks.length c] 24)).alloc (.cells #[.int .i64 0, .int .i64 0, .slice none 0 0] 24)) (.cells #[.int .i64 k, .int .i64 n, .slice none 0 0] 24)
      rw [hW0, hb2.2.2.1] at hn3
      rw [hb2.2.2.1] at hb3
      refine ⟨hb2.2.2.2.trans (hb3.mono (by omega)), by rw [← hW0]; simp, ⟨none, 0, [], hn3, ⟨by simp, .inl ⟨rfl, rfl⟩⟩, fun i _ h => by omega⟩, (hb3.block _ (by omega)).trans hb2.2.1⟩
    clear hW0
    go_loopw [5, 14] (fun _ iv wr => ∃ j : Nat, iv = .int .i64 (j : Int) ∧ j ≤ ks.length ∧ Cp w d k n ks j wr) (fun _ iv _ => ks.length - (intOf iv).toNat)
    case atStart => exact ⟨0, rfl, by omega, HC.out⟩
    case round =>
      clear HC
      obtain ⟨j, rfl, hj, hC⟩ := hrel
      have HC : Hid (Cp w d k n ks j wr) := hC
      by_cases hjl : j < ks.length
      · have hjl' : (j : Int) < (ks.length : Int) := by omega
        obtain ⟨g, off, a', c', rfl, hg, c0, c1, c2, ht⟩ := (HT.out.below hC.bel).kid hjl
        dsimp only at c0 c1 c2 ht
        have HTJ : Hid (TyAt wr d ks[j] a' c') := ht
        clear ht hC
        go_upto_region 5 with fail
        obtain ⟨Wb, hWb⟩ : ∃ Wb, wr.alloc (.cells #[.int .i64 ks[j].kind, .int .i64 ks[j].n, .slice a' ks[j].kids.length c'] 24) = Wb := ⟨_, rfl⟩
        have hbb : Below wr.heap.size wr Wb := hWb ▸ (Below.refl _ wr).alloc (Nat.le_refl _) _
        have hbx : Wb.heap[wr.heap.size]? = some (.cells #[.int .i64 ks[j].kind, .int .i64 ks[j].n, .slice a' ks[j].kids.length c'] 24 (0, 0)) := hWb ▸ heap_alloc_new _ _
        have hsb : wr.heap.size < Wb.heap.size := hWb ▸ (by simp)
        rw [hWb]
        obtain ⟨B, hB⟩ : ∃ B, wr.heap.size = B := ⟨_, rfl⟩
        have K14 := ih ks[j] a' c' Wb.drew ((HTJ.out.below hbb).below (Below.refl _ _).drew) (HK.out j hjl)
        rw [hB] at hbx hsb ⊢
        have z0 := cell_of_row _ _ 0 _ _ _ hbx
        have z1 := cell_of_row _ _ 1 _ _ _ hbx
        have z2 := cell_of_row _ _ 2 _ _ _ hbx
        obtain ⟨p1, p2, ⟨x, m, xs, p3, p4, p5⟩, p6⟩ := HC.out
        have q1 := p1.trans (hbb.mono p1.size)
        have q3 := (hbb.block _ (by omega)).trans p3
        have q4 := own_below p4 hbb
        have q5 := p5.keep (Q := fun g => w.heap.size + 3 ≤ g ∧ some g ≠ (Value.slice x j m).ownBlock) hbb.size (fun g hg hP => ⟨hP, hbb.block g hg⟩)
        have q6 := (hbb.block _ (by omega)).trans p6
        have HXB : Hid (∀ g, (Value.slice x j m).ownBlock = some g → g < B) := fun g hg => by have := (p4.lt g hg).2; omega
        clear p1 p2 p3 p4 p5 p6
        have y2 := cell_of_row _ _ 2 _ _ _ q3
        have hxl : xs.length = j * 3 := q4.1
        have hB3 : w.heap.size + 2 < B := by have := HC.out.hi; omega
        have hfz := frozen_of_row _ _ 2 _ 24 q3
        unfold vty at K14
        have Q1 : Hid (Below w.heap.size w Wb) := q1
        have Q4 : Hid (Wb.ownsRow (w.heap.size + 3) 24 3 (.slice x j m) j xs) := q4
        have Q5 : Hid (RowOf (fun g => w.heap.size + 3 ≤ g ∧ some g ≠ (Value.slice x j m).ownBlock) Wb d ks j xs) := q5
        have Q6 : Hid (Wb.heap[w.heap.size + 1]? = some (.cells #[.int .i64 0, .int .i64 0, .slice none 0 0] 24 (0, 0))) := q6
        have Q3 : Hid (Wb.heap[w.heap.size + 2]? = some (.cells #[.int .i64 k, .int .i64 n, .slice x j m] 24 (0, 0))) := q3
        clear q1 q3 q4 q5 q6 hWb hbb hB c0 c1 c2 HTJ HC
        refine region_z (S := fun W => W.cell? ⟨w.heap.size + 2, 2, none⟩ = some (.slice x j m) ∧ W.cell? ⟨B, 0, none⟩ = some (.int .i64 ks[j].kind) ∧ W.cell? ⟨B, 1, none⟩ = some (.int .i64 ks[j].n) ∧ W.cell? ⟨B, 2, none⟩ = some (.slice a' ks[j].kids.length c')) 7 (by kernel_rfl) (by exact ⟨y2, z0, z1, z2⟩) (fun hHeld => ?_)
        refine take_z (z := 7) (i := 0) (oi := { dst := some 18, op := Op.fieldAddr 24 (Operand.tmp 3) 2, type := 0, pos := "types.go:60", after := #[], guard := none }) (v := ?_) (by kernel_rfl) (by decide) rfl (by kernel_rfl) (by kernel_rfl) (by kernel_rfl) (fun _ _ _ h => h) (Or.inl ⟨by rfl, ?_⟩) (by assumption) ?_
        case refine_2 => intro w hSw; (try dsimp only at hSw); obtain ⟨hA, hB, hC, hD⟩ := hSw; go_simp; (try with_reducible rfl)
        simp only [Act.put, List.setIfInBounds_toArray, List.set_cons_zero, List.set_cons_succ]
        refine take_z (z := 7) (i := 1) (oi := { dst := some 19, op := Op.load 22 (Operand.tmp 18), type := 22, pos := "types.go:60", after := #[{ on := 0, ground := Ground.data }], guard := none }) (v := ?_) (by kernel_rfl) (by decide) rfl (by kernel_rfl) (by kernel_rfl) (by kernel_rfl) (fun _ _ _ h => h) (Or.inl ⟨by rfl, ?_⟩) (by assumption) ?_
        case refine_2 => intro w hSw; (try dsimp only at hSw); obtain ⟨hA, hB, hC, hD⟩ := hSw; go_simp; (try with_reducible rfl)
        simp only [Act.put, List.setIfInBounds_toArray, List.set_cons_zero, List.set_cons_succ]
        refine take_z (z := 7) (i := 2) (oi := { dst := some 20, op := Op.load 24 (Operand.tmp 5), type := 24, pos := "types.go:60", after := #[], guard := none }) (v := ?_) (by kernel_rfl) (by decide) rfl (by kernel_rfl) (by kernel_rfl) (by kernel_rfl) (fun _ _ _ h => h) (Or.inl ⟨by rfl, ?_⟩) (by assumption) ?_
        case refine_2 => intro w hSw; (try dsimp only at hSw); obtain ⟨hA, hB, hC, hD⟩ := hSw; go_simp; (try with_reducible rfl)
        simp only [Act.put, List.setIfInBounds_toArray, List.set_cons_zero, List.set_cons_succ]
        refine ready_z (rs := [3]) (by kernel_rfl) (by simp) ?_
        refine (AllZ.cons (o := { dst := some 21, op := Op.call { callee := Callee.value (Operand.func 14), args := #[Operand.tmp 20], argTypes := #[24] }, type := 24, pos := "types.go:60", after := #[{ on := 2, ground := Ground.data }], guard := none }) rfl (fun K hK => ?_) AllZ.nil)
        go_simp
        (with_reducible refine K14.mono ?_)
        rintro e w5 ⟨a2, c2, rfl, ht5, hb5⟩
        clear K14
        dsimp only
        have hb5' : Below Wb.heap.size Wb w5 := (Below.refl _ Wb).drew.trans hb5
        have s5 := hb5'.size
        have hcc : w5.cell? ⟨w.heap.size + 2, 2, none⟩ = some (.slice x j m) ∧ w5.cell? ⟨B, 0, none⟩ = some (.int .i64 ks[j].kind) ∧ w5.cell? ⟨B, 1, none⟩ = some (.int .i64 ks[j].n) ∧ w5.cell? ⟨B, 2, none⟩ = some (.slice a' ks[j].kids.length c') := ⟨(hb5'.cell (p := ⟨w.heap.size + 2, 2, none⟩) (by show w.heap.size + 2 < Wb.heap.size; omega)).trans y2, (hb5'.cell (p := ⟨B, 0, none⟩) hsb).trans z0, (hb5'.cell (p := ⟨B, 1, none⟩) hsb).trans z1, (hb5'.cell (p := ⟨B, 2, none⟩) hsb).trans z2⟩
        have ow5 := own_below Q4.out hb5'
        have HT5 : Hid (TyP (fun g => Wb.heap.size ≤ g) w5 d ks[j] a2 c2) := ht5
        clear ht5 hb5
        refine hK.out _ _ ?_ (fun hHeld => ?_)
        · exact hcc
        clear hK K
        try simp only [Act.put, List.setIfInBounds_toArray, List.set_cons_zero, List.set_cons_succ]
        refine ready_z (rs := [4]) (by kernel_rfl) (by simp) ?_
        refine (AllZ.cons (o := { dst := some 22, op := Op.buildSlice 22 1 #[(0, Operand.tmp 21)], type := 22, pos := "types.go:60", after := #[{ on := 3, ground := Ground.data }], guard := none }) rfl (fun K hK => ?_) AllZ.nil)
        go_simp
        refine hK.out _ _ ?_ (fun hHeld => ?_)
        · exact ⟨(((Below.refl _ w5).alloc (Nat.le_refl _) _).cell (p := ⟨w.heap.size + 2, 2, none⟩) (by show w.heap.size + 2 < w5.heap.size; omega)).trans hcc.1, (((Below.refl _ w5).alloc (Nat.le_refl _) _).cell (p := ⟨B, 0, none⟩) (by show B < w5.heap.size; omega)).trans hcc.2.1, (((Below.refl _ w5).alloc (Nat.le_refl _) _).cell (p := ⟨B, 1, none⟩) (by show B < w5.heap.size; omega)).trans hcc.2.2.1, (((Below.refl _ w5).alloc (Nat.le_refl _) _).cell (p := ⟨B, 2, none⟩) (by show B < w5.heap.size; omega)).trans hcc.2.2.2⟩
        clear hK K
        try simp only [Act.put, List.setIfInBounds_toArray, List.set_cons_zero, List.set_cons_succ]
        refine ready_z (rs := [5]) (by kernel_rfl) (by simp) ?_
        refine (AllZ.cons (o := { dst := some 23, op := Op.call { callee := Callee.builtin Builtin.append, args := #[Operand.tmp 19, Operand.tmp 22], argTypes := #[22, 22] }, type := 22, pos := "types.go:60", after := #[{ on := 1, ground := Ground.data }, { on := 4, ground := Ground.data }, { on := 3, ground := Ground.chain }], guard := none }) rfl (fun K hK => ?_) AllZ.nil)
        refine step_append_at rfl (.tmp 19) (.tmp 22) 22 rfl (w.heap.size + 3) 24 i24 (.agg #[.int .i64 0, .int .i64 0, .slice none 0 0]) 3 40 Try.underlying22 hi24 hz240 hz241 hz242 rfl (by decide) (.slice x j m) _ _ rfl (ow5.alloc _) ⟨_, 0, none⟩ 1 1 [.int .i64 ks[j].kind, .int .i64 ks[j].n, .slice a2 ks[j].kids.length c2] rfl rfl (cell_one _ _ rfl _ _ _ _ _) (tyc_one ks[j] a2 c2) (by unfold maxLen; omega) (by omega) (by simp; omega) ?_
        intro v6 W6 ho6 hg6 hat6
        obtain ⟨g6, c6, rfl, hg6b⟩ := slice_of1 ho6
        have hx6 : ∀ g, (Value.slice x j m).ownBlock = some g → w.heap.size + 3 ≤ g ∧ g < Wb.heap.size := fun g hg => Q4.out.lt g hg
        have HCP : Hid _ := Cp.push (Q1.out.trans (hb5'.mono Q1.out.size)) (by omega) s5 ((hb5'.block _ (by omega)).trans Q3.out) ((hb5'.block _ (by omega)).trans Q6.out) hx6 hxl (Q5.out.keep s5 (fun g hg hP => ⟨hP, hb5'.block g hg⟩)) hjl HT5.out ho6 hg6 hat6
        have hb6 : ∀ b q, b < w.heap.size + 3 → W6.cell? ⟨b, q, none⟩ = w5.cell? ⟨b, q, none⟩ := fun b q hb => cell_same ((hg6.block b (by simp; omega) (fun e => by have := (hx6 b e.symm).1; omega)).trans (((Below.refl _ w5).alloc (Nat.le_refl _) _).block b (by omega)))
        have cY6 := (hb6 (w.heap.size + 2) 2 (by omega)).trans hcc.1
        have hB6 : ∀ q, W6.cell? ⟨B, q, none⟩ = w5.cell? ⟨B, q, none⟩ := fun q => cell_same ((hg6.block B (by simp; omega) (fun e => by have := HXB.out B e.symm; omega)).trans (((Below.refl _ w5).alloc (Nat.le_refl _) _).block B (by omega)))
        have HS6 : Hid (W6.cell? ⟨w.heap.size + 2, 2, none⟩ = some (.slice x j m) ∧ W6.cell? ⟨B, 0, none⟩ = some (.int .i64 ks[j].kind) ∧ W6.cell? ⟨B, 1, none⟩ = some (.int .i64 ks[j].n) ∧ W6.cell? ⟨B, 2, none⟩ = some (.slice a' ks[j].kids.length c')) := ⟨cY6, (hB6 0).trans hcc.2.1, (hB6 1).trans hcc.2.2.1, (hB6 2).trans hcc.2.2.2⟩
        have fz6 : W6.frozen? ⟨w.heap.size + 2, 2, none⟩ = false := by
          unfold World.frozen?
          rw [(hg6.block (w.heap.size + 2) (by simp; omega) (fun e => by have := (hx6 _ e.symm).1; omega)).trans ((((Below.refl _ w5).alloc (Nat.le_refl _) _).block _ (by omega)).trans ((hb5'.block _ (by omega)).trans Q3.out))]
          rfl
        refine hK.out _ _ ?_ (fun hHeld => ?_)
        · exact HS6.out
        clear hK K
        try simp only [Act.put, List.setIfInBounds_toArray, List.set_cons_zero, List.set_cons_succ]
        refine take_z (z := 7) (i := 6) (oi := { dst := some 24, op := Op.fieldAddr 24 (Operand.tmp 3) 2, type := 0, pos := "types.go:60", after := #[{ on := 0, ground := Ground.phase }, { on := 1, ground := Ground.phase }, { on := 2, ground := Ground.phase }, { on := 3, ground := Ground.phase }, { on := 4, ground := Ground.phase }, { on := 5, ground := Ground.phase }], guard := none }) (v := ?_) (by kernel_rfl) (by decide) rfl (by kernel_rfl) (by kernel_rfl) (by kernel_rfl) (fun _ _ _ h => h) (Or.inl ⟨by rfl, ?_⟩) (by assumption) ?_
        case refine_2 => intro w hSw; (try dsimp only at hSw); obtain ⟨hA, hB, hC, hD⟩ := hSw; go_simp; (try with_reducible rfl)
        simp only [Act.put, List.setIfInBounds_toArray, List.set_cons_zero, List.set_cons_succ]
        refine ready_z (rs := [7]) (by kernel_rfl) (by simp) ?_
        refine (AllZ.last (o := { dst := none, op := Op.store 22 (Operand.tmp 24) (Operand.tmp 23), type := 0, pos := "types.go:60", after := #[{ on := 6, ground := Ground.data }, { on := 5, ground := Ground.data }, { on := 5, ground := Ground.chain }, { on := 0, ground := Ground.phase }, { on := 1, ground := Ground.phase }, { on := 2, ground := Ground.phase }, { on := 3, ground := Ground.phase }, { on := 4, ground := Ground.phase }, { on := 5, ground := Ground.phase }], guard := none }) rfl (fun K hK => ?_) AllZ.nil)
        go_simp
        refine hK.out _ _ ?_
        clear hK K
        try simp only [Act.put, List.setIfInBounds_toArray, List.set_cons_zero, List.set_cons_succ]
        refine done_z (by kernel_rfl) ?_ _
        go_wp2_with fail
        go_roundw
        case rel => exact ⟨j + 1, by go_num, by omega, HCP.out⟩
        case measure => simp [intOf]; omega
      · have hjl' : ¬ (j : Int) < (ks.length : Int) := by omega
        have ej : j = ks.length := by omega
        subst ej
        obtain ⟨q1, q2, ⟨x, m, xs, q3, q4, q5⟩, q6⟩ := hC
        have y0 := cell_of_row _ _ 0 _ _ _ q3
        have y1 := cell_of_row _ _ 1 _ _ _ q3
        have y2 := cell_of_row _ _ 2 _ _ _ q3
        have HF : Hid (TyP (fun g => w.heap.size + 3 ≤ g) wr (d + 1) ⟨k, n, ks⟩ x m) := (q5.keep (Q := fun g => w.heap.size + 3 ≤ g) (Nat.le_refl _) (fun g _ hP => ⟨hP.1, rfl⟩)).all q4 HB.out.1 HB.out.2 (by omega) (fun g _ hg => hg)
        have HF3 : Hid (TyP (fun g => w.heap.size ≤ g) (((wr.setCell ⟨w.heap.size + 1, 0, none⟩ (.int .i64 k)).setCell ⟨w.heap.size + 1, 1, none⟩ (.int .i64 n)).setCell ⟨w.heap.size + 1, 2, none⟩ (.slice x ks.length m)) (d + 1) ⟨k, n, ks⟩ x m) := HF.out.keep (by simp) (fun g _ hP => ⟨by have hP' : w.heap.size + 3 ≤ g := hP; omega, ko3 wr (w.heap.size + 1) (.int .i64 k) (.int .i64 n) (.slice x ks.length m) g (by have hP' : w.heap.size + 3 ≤ g := hP; omega)⟩)
        have f0 := frozen_of_row _ _ 0 _ 24 q6
        have f1 := frozen_of_row _ _ 1 _ 24 q6
        have f2 := frozen_of_row _ _ 2 _ 24 q6
        have r0 := cell_of_row _ _ 0 _ _ _ q6
        have r1 := cell_of_row _ _ 1 _ _ _ q6
        have r2 := cell_of_row _ _ 2 _ _ _ q6
        clear q3 q4 q5 HC
        go_wp2
        have hl3 := laid_box q6 k n x ks.length m
        refine bodyPost_ret (results_cell_row rfl _ _ (w.heap.size + 1) 24 _ (0, 0) _ rfl hl3 Try.underlying24 rfl size24) rfl ⟨x, m, rfl, ?_, ?_⟩
        · exact HF3.out
        · exact ((q1.setCell (p := ⟨w.heap.size + 1, 0, none⟩) (by show w.heap.size ≤ w.heap.size + 1; omega) _).setCell (p := ⟨w.heap.size + 1, 1, none⟩) (by show w.heap.size ≤ w.heap.size + 1; omega) _).setCell (p := ⟨w.heap.size + 1, 2, none⟩) (by show w.heap.size ≤ w.heap.size + 1; omega) _
end Go.Proofs.Ytofbnfpncekddaa.Te
