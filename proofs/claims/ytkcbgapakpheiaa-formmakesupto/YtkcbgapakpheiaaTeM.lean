/- What tabled's lists are, in plain words and in memory. No conditions. -/
import Derived.Test.YtkcbgapakpheiaaCnM
import Derived.Test.YtkcbgapakpheiaaFnM
import Derived.Test.YtkcbgapakpheiaaRg
namespace Go.Proofs.Ytkcbgapakpheiaa.Td
open Go.RowKit Go.Shelf Sd Md Sc Aq Ls Lx Ly Lz Fo Mk Rf Tk Tk1 Rd Rf2 Fo2 Al2 Tk2 Tb Tc Cl

theorem cells_stem (h : List Ch) (s : St) (i : Nat) (l : List VCe) : ∀ (k : Nat) (x : Nat × Nat × List Int), x ∈ cellsX h s i k l → x.1 = i := by
  induction l with
  | nil => intro k x hx; cases hx
  | cons c l ih =>
    intro k x hx
    unfold cellsX at hx
    rcases List.mem_append.1 hx with hx | hx
    · split at hx
      · simp only [List.mem_singleton] at hx
        rw [hx]
      · cases hx
    · exact ih _ x hx
theorem stems_ge (h : List Ch) (ces : List VCe) (l : List VSt) : ∀ (j : Nat) (x : Nat × Nat × List Int), x ∈ stemsX h ces j l → j ≤ x.1 := by
  induction l with
  | nil => intro j x hx; cases hx
  | cons c l ih =>
    intro j x hx
    unfold stemsX at hx
    rcases List.mem_append.1 hx with hx | hx
    · exact Nat.le_of_eq (cells_stem _ _ _ _ _ x hx).symm
    · have := ih _ x hx
      omega
theorem stems_filter (h : List Ch) (ces : List VCe) (i : Nat) (l : List VSt) : ∀ (j : Nat) (_ : j ≤ i) (hl : i - j < l.length), (stemsX h ces j l).filter (fun x => x.1 == i) = cellsX h (l[i - j]).2 i 0 ces := by
  induction l with
  | nil => intro j _ hl; simp at hl
  | cons c l ih =>
    intro j hj hl
    unfold stemsX
    rw [List.filter_append]
    by_cases e : i = j
    · subst e
      have e1 : (cellsX h c.2 i 0 ces).filter (fun x => x.1 == i) = cellsX h c.2 i 0 ces := by
        rw [List.filter_eq_self]
        intro x hx
        simpa using cells_stem _ _ _ _ _ x hx
      have e2 : (stemsX h ces (i + 1) l).filter (fun x => x.1 == i) = [] := by
        rw [List.filter_eq_nil_iff]
        intro x hx
        have := stems_ge _ _ _ _ x hx
        simp
        omega
      rw [e1, e2, List.append_nil]
      simp
    · have e1 : (cellsX h c.2 j 0 ces).filter (fun x => x.1 == i) = [] := by
        rw [List.filter_eq_nil_iff]
        intro x hx
        have := cells_stem _ _ _ _ _ x hx
        simp
        omega
      have hs : i - j = (i - (j + 1)) + 1 := by omega
      have hl' : i - (j + 1) < l.length := by simp only [List.length_cons] at hl; omega
      rw [e1, List.nil_append, ih (j + 1) (by omega) hl']
      congr 2
      simp only [hs, List.getElem_cons_succ]
theorem told_row (y : VX) (i : Nat) (hi : i < y.sts.length) : ((toldX y).filter (fun x => x.1 == i)).map (fun x => x.2.2) = (cellsX (chs y.xs) (y.sts[i]).2 i 0 y.ces).map (fun x => x.2.2) := by
  unfold toldX
  rw [stems_filter (chs y.xs) y.ces i y.sts 0 (Nat.zero_le _) (by simpa using hi)]
  simp

def DOwn (u7 u8 : Value) : Nat → Prop := fun q => u7.ownBlock = some q ∨ u8.ownBlock = some q
structure DI (nV : Nat) (u7 u8 : Value) (pre : List El) (A : World) : Prop where
  r7 : A.ownsRow (nV + 2) 40 2 u7 pre.length (pre.flatMap rdE)
  r8 : A.ownsRow (nV + 2) 27 1 u8 pre.length (pre.map Prod.snd)
  each : ∀ x, x ∈ pre → IsI A x.2 x.1.2.2 ∧ (x.1.2.2 ≠ [] → Away (DOwn u7 u8) x.2)
theorem DI.below {nV : Nat} {u7 u8 : Value} {pre : List El} {A B : World} (h : DI nV u7 u8 pre A) (hb : Below A.heap.size A B) : DI nV u7 u8 pre B :=
  ⟨own_below h.r7 hb, own_below h.r8 hb, fun x hx => ⟨(h.each x hx).1.below (Nat.le_refl _) hb, (h.each x hx).2⟩⟩
theorem DI.cg {nV : Nat} {u7 u8 : Value} {pre : List El} {A : World} (h : DI nV u7 u8 pre A) : CG A nV u7 u8 u7 pre.length (pre.flatMap rdE) u8 pre.length (pre.map Prod.snd) A :=
  ⟨rfl, rfl, rfl, Nat.le_refl _, fun _ _ _ _ => rfl, h.r7, h.r8, fun _ h => .inl h, fun _ h => .inl h⟩
theorem DI.away {nV : Nat} {u7 u8 : Value} {pre : List El} {A : World} (h : DI nV u7 u8 pre A) {v : Value} {n : Nat} (hf : Fresh n v) (hn : A.heap.size ≤ n) : Away (DOwn u7 u8) v := by
  rintro b o s len cap e (ho | ho)
  · have := (own_ge h.r7 ho).2
    have := hf b o s len cap e
    omega
  · have := (own_ge h.r8 ho).2
    have := hf b o s len cap e
    omega
theorem dend {nV : Nat} {u7 u8 : Value} {pre : List El} (x : El) {A w7 : World} {vr vm : Value} (h : DI nV u7 u8 pre A) (hB : nV + 2 ≤ A.heap.size) (hI : IsI A x.2 x.1.2.2) (haw : Away (DOwn u7 u8) x.2)
    (hg : CG A nV u7 u8 vr (pre.length + 1) (pre.flatMap rdE ++ [.int .i64 x.1.1, .int .i64 x.1.2.1]) vm (pre.length + 1) (pre.map Prod.snd ++ [x.2]) w7) : DI nV vr vm (pre ++ [x]) w7 ∧ Below (nV + 2) A w7 := by
  have K : Kept (DOwn u7 u8) (DOwn vr vm) A w7 := by
    refine ⟨hg.os, hg.tape, hg.output, hg.size, fun q hq hno => ?_⟩
    simp only [DOwn, not_or] at hno ⊢
    refine ⟨⟨fun e => ?_, fun e => ?_⟩, hg.keep q hq hno.1 hno.2⟩
    · rcases hg.own7 q e with e' | e'
      · exact hno.1 e'
      · omega
    · rcases hg.own8 q e with e' | e'
      · exact hno.2 e'
      · omega
  refine ⟨⟨?_, ?_, ?_⟩, hg.os, hg.tape, hg.output, hg.size, fun q hq => hg.keep q (by omega) (fun e => by have := (own_ge h.r7 e).1; omega) (fun e => by have := (own_ge h.r8 e).1; omega)⟩
  · rw [List.length_append, List.flatMap_append]
    simpa [rdE] using hg.row7
  · rw [List.length_append, List.map_append]
    simpa using hg.row8
  · intro z hz
    rcases List.mem_append.1 hz with hz | hz
    · exact isI_kept (h.each z hz).1 (h.each z hz).2 K
    · simp only [List.mem_singleton] at hz
      subst hz
      exact isI_kept hI (fun _ => haw) K
end Go.Proofs.Ytkcbgapakpheiaa.Td
/- The document's tabled: true, of a right lexicon, at what Table and Clash must be. No conditions beyond how all lies. -/
namespace Go.Proofs.Ytkcbgapakpheiaa.Te
open Go.RowKit Go.Shelf Sd Md Sc Aq Ls Lx Ly Lz Fo Mk Rf Tk Tk1 Rd Rf2 Fo2 Al2 Tk2 Tb Tc Cl Cm Cn Td

set_option maxHeartbeats 8000000 in
set_option maxRecDepth 100000 in
theorem tabled_any (y : VX) (tv : Value) (T : List VT) (w : World) (h : IsX w y) (hck : checkX y.lex = 0) (hT : IsT w tv T) (hTab : Tabled y T) :
    Calls Try.prog 15 #[y.val, tv, rv (clA (clashL (toldX y))), rv (clB (clashL (toldX y))), .bool (clashL (toldX y)).isSome] w fun e w' => e = .returned (.bool true) ∧ Below w.heap.size w w' := by
  have hb1 : ∀ (W : World) (o : Obj), Below W.heap.size W (W.alloc o) := fun W o => (Below.refl _ _).alloc (Nat.le_refl _) _
  have hb3 : ∀ o1 o2 o3, Below w.heap.size w (((w.alloc o1).alloc o2).alloc o3) := fun o1 o2 o3 => (((Below.refl _ w).alloc (Nat.le_refl _) o1).alloc (by simp) o2).alloc (by simp; omega) o3
  have c7 := fun W (hW : Below w.heap.size w W) (i j : Nat) => Fs.fits_any y i j W (h.below hW)
  have c8 := fun W (hW : Below w.heap.size w W) (i j : Nat) hi hj => Fn.form_new y i j W (h.below hW) hck hi hj
  have hTl : (toldX y).length ≤ 800 := Nat.le_trans (toldX_len y) (Nat.mul_le_mul (many_of hck).1 (many_of hck).2)
  have hfb := Rg.fit_bool y
  have hrow := told_row y
  obtain ⟨hTl2, hTr⟩ := hTab
  obtain ⟨tl, hdef⟩ : ∃ z, toldX y = z := ⟨_, rfl⟩
  rw [hdef] at hTl hrow hTr ⊢
  obtain ⟨LC, hLC⟩ : ∃ z, clashL tl = z := ⟨_, rfl⟩
  rw [hLC]
  have HLC : Hid (clashL tl = LC) := hLC
  obtain ⟨⟨A1, A2⟩, hA⟩ : ∃ p, clA LC = p := ⟨_, rfl⟩
  obtain ⟨⟨B1, B2⟩, hB⟩ : ∃ p, clB LC = p := ⟨_, rfl⟩
  obtain ⟨IS, hIS⟩ : ∃ p, LC.isSome = p := ⟨_, rfl⟩
  rw [hA, hB, hIS]
  have HAB : Hid (clA LC = (A1, A2) ∧ clB LC = (B1, B2) ∧ LC.isSome = IS) := ⟨hA, hB, hIS⟩
  clear hLC hA hB hIS
  obtain ⟨k, vs, vc, vh, sts, ces, xs⟩ := y
  have hS := h.s
  have hCe := h.c
  dsimp only at hS hCe c7 c8 hfb hrow hTl2
  have hdef0 : stemsX (chs xs) ces 0 sts = tl := hdef
  obtain ⟨aS, cs, hv, _, hmS⟩ := IsR.len hS
  subst hv
  obtain ⟨aC, cc, hv, _, hmC⟩ := IsR.len hCe
  subst hv
  obtain ⟨aT, cT, hv, _, hmT⟩ := IsR.len hT
  rw [hTl2] at hv
  subst hv
  simp only [VX.val, rv] at c7 c8 ⊢
  clear h hck hdef hS hCe
  have HM : Hid (sts.length ≤ 140737488355328 ∧ ces.length ≤ 140737488355328 ∧ tl.length ≤ 800) := ⟨hmS, hmC, hTl⟩
  have HT : Hid (IsT w (.slice aT sts.length cT) T) := hT
  have HTL : Hid (T.length = sts.length) := hTl2
  have d0 : ((sts.length : Int) != (sts.length : Int)) = false := by simp
  clear hmS hmC hmT hT hTl hTl2
  obtain ⟨i40, hi40, hz400, hz401, hz402⟩ := info_parts info40
  obtain ⟨i27, hi27, hz270, hz271, hz272⟩ := info_parts info27
  have bx0 := fun o2 o3 => ((Bx4.new w k (.slice aS sts.length cs) (.slice aC ces.length cc) vh).below (hb1 _ o2)).below (hb1 _ o3)
  have g1 := (bx0 (.cells #[.int .i64 A1, .int .i64 A2] 40) (.cells #[.int .i64 B1, .int .i64 B2] 40)).g1
  go_enter Try.func15, Try.ntmps15
  go_wp2
  obtain ⟨W1, hW1⟩ : ∃ W, ((w.alloc (.cells #[.int .i64 k, .slice aS sts.length cs, .slice aC ces.length cc, vh] 26)).alloc (.cells #[.int .i64 A1, .int .i64 A2] 40)).alloc (.cells #[.int .i64 B1, .int .i64 B2] 40) = W := ⟨_, rfl⟩
  have b1 := bx0 (.cells #[.int .i64 A1, .int .i64 A2] 40) (.cells #[.int .i64 B1, .int .i64 B2] 40)
  have BW : Below w.heap.size w W1 := by rw [← hW1]; exact hb3 _ _ _
  have s1 : w.heap.size + 3 ≤ W1.heap.size := by rw [← hW1]; simp
  have ea : W1.heap[w.heap.size + 1]? = some (.cells #[.int .i64 A1, .int .i64 A2] 40 (0, 0)) := by
    have := World.alloc_heap_new (w.alloc (.cells #[.int .i64 k, .slice aS sts.length cs, .slice aC ces.length cc, vh] 26)) (.cells #[.int .i64 A1, .int .i64 A2] 40)
    rw [World.size_alloc] at this
    rw [← hW1]
    exact ((al _ _).block _ (by simp)).trans this
  have eb : W1.heap[w.heap.size + 1 + 1]? = some (.cells #[.int .i64 B1, .int .i64 B2] 40 (0, 0)) := by
    have := World.alloc_heap_new ((w.alloc (.cells #[.int .i64 k, .slice aS sts.length cs, .slice aC ces.length cc, vh] 26)).alloc (.cells #[.int .i64 A1, .int .i64 A2] 40)) (.cells #[.int .i64 B1, .int .i64 B2] 40)
    rw [World.size_alloc, World.size_alloc] at this
    rw [← hW1]
    exact this
  rw [hW1] at b1 ⊢
  clear hW1 bx0 g1 d0
  go_loopw [11, 12, 13] (fun v1 v2 i wr => ∃ (n : Nat) (acc : List El), i = .int .i64 n ∧ n ≤ sts.length ∧ DI (w.heap.size + 1) v1 v2 acc wr ∧ Below (w.heap.size + 3) W1 wr ∧ Hid (acc.map Prod.fst ++ stemsX (chs xs) ces n (sts.drop n) = tl)) (fun _ _ i _ => sts.length - (intOf i).toNat)
  case atStart => exact ⟨0, [], rfl, Nat.zero_le _, ⟨World.ownsRow_nil _ _ _ _, World.ownsRow_nil _ _ _ _, (fun x hx => by cases hx)⟩, Below.refl _ _, hdef0⟩
  case round =>
    obtain ⟨n, acc, rfl, hn, hD, hbw, hall⟩ := hrel
    have hmm := HM.out
    have sr := hbw.size
    have q1 : wr.cell? ⟨w.heap.size, 1, none⟩ = some (.slice aS sts.length cs) := (hbw.cell (p := ⟨w.heap.size, 1, none⟩) (by dsimp only; omega)).trans b1.g1
    by_cases hlt : n < sts.length
    · have hlti : (n : Int) < (sts.length : Int) := by omega
      have hat := stemsX_at (chs xs) ces n sts hlt
      have HALL : Hid (acc.map Prod.fst ++ cellsX (chs xs) (sts[n]).2 n 0 (ces.drop 0) ++ stemsX (chs xs) ces (n + 1) (sts.drop (n + 1)) = tl) := by
        show _ = _
        rw [← hall.out, hat, List.append_assoc]
      obtain ⟨bT, oT, rfl⟩ : ∃ b o, aT = some ⟨b, o, none⟩ := by
        have h1 := HT.out
        rw [← HTL.out] at h1
        exact row_some h1 (by have := HTL.out; omega)
      have TR : ∀ W, Below w.heap.size w W → ∃ (R : List VF) (rv : Value), T[n]? = some (rv, R) ∧ W.cell? ⟨bT, oT + n, none⟩ = some rv ∧ IsV W rv R := by
        intro W hW
        have h1 := HT.out
        rw [← HTL.out] at h1
        have hnT : n < T.length := by have := HTL.out; omega
        obtain ⟨_, hcl, hq⟩ := row_cells (f := vtc) (k := 1) (fun _ => rfl) (IsR.below vtQ_up h1 hW) n hnT
        have k1 := hcl 0 _ (by omega) rfl
        rw [Nat.mul_one, Nat.add_zero] at k1
        exact ⟨(T[n]).2, (T[n]).1, List.getElem?_eq_getElem hnT, k1, hq⟩
      obtain ⟨R, rv0, hTn, hcT, hVR⟩ := TR wr (BW.trans (hbw.mono (by omega)))
      have hRf := hTr n _ hTn
      rw [hrow n hlt] at hRf
      dsimp only at hRf
      have TW : ∀ W, Below w.heap.size w W → W.cell? ⟨bT, oT + n, none⟩ = some rv0 ∧ IsV W rv0 R := by
        intro W hW
        obtain ⟨R', rv', hT', hc', hV'⟩ := TR W hW
        rw [hTn] at hT'
        simp only [Option.some.injEq, Prod.mk.injEq] at hT'
        obtain ⟨rfl, rfl⟩ := hT'
        exact ⟨hc', hV'⟩
      obtain ⟨FI, hFI⟩ : ∃ z, (cellsX (chs xs) (sts[n]).2 n 0 ces).map (fun x => x.2.2) = z := ⟨_, rfl⟩
      rw [hFI] at hRf
      have hRl : R.length = FI.length := by rw [← hRf, List.length_map]
      have hFl : FI.length ≤ 800 := by
        have := congrArg List.length HALL.out
        rw [List.drop_zero] at this
        rw [← hFI, List.length_map]
        simp only [List.length_append] at this
        omega
      obtain ⟨ar, cr, hv, _, _⟩ := IsR.len hVR
      subst hv
      have HFI : Hid (FI = (cellsX (chs xs) (sts[n]).2 n 0 (ces.drop 0)).map (fun x => x.2.2)) := hFI.symm
      have HRF : Hid (R.map Prod.snd = FI) := hRf
      clear hall hat hdef0 TR hFI hRf hTn hTr hrow hVR hcT
      go_wp2
      go_loopw [11, 12, 14, 15] (fun v1 v2 at_ i wr => ∃ (m p : Nat) (acc : List El), at_ = .int .i64 p ∧ i = .int .i64 m ∧ m ≤ ces.length ∧ p ≤ FI.length ∧ DI (w.heap.size + 1) v1 v2 acc wr ∧ Below (w.heap.size + 3) W1 wr ∧ Hid (acc.map Prod.fst ++ cellsX (chs xs) (sts[n]).2 n m (ces.drop m) ++ stemsX (chs xs) ces (n + 1) (sts.drop (n + 1)) = tl) ∧ Hid (FI.drop p = (cellsX (chs xs) (sts[n]).2 n m (ces.drop m)).map (fun x => x.2.2))) (fun _ _ _ i _ => ces.length - (intOf i).toNat)
      case atStart => exact ⟨0, 0, acc, rfl, rfl, Nat.zero_le _, Nat.zero_le _, hD, hbw, HALL, HFI⟩
      case round =>
        clear hD hbw HALL HFI q1 sr
        obtain ⟨m, p, acc, rfl, rfl, hm, hp, hD, hbw, hall, hfi⟩ := hrel
        have sr := hbw.size
        have xr : Bx4 w.heap.size k (.slice aS sts.length cs) (.slice aC ces.length cc) vh wr := ⟨by omega, (hbw.cell (p := ⟨w.heap.size, 0, none⟩) (by dsimp only; omega)).trans b1.g0, (hbw.cell (p := ⟨w.heap.size, 1, none⟩) (by dsimp only; omega)).trans b1.g1, (hbw.cell (p := ⟨w.heap.size, 2, none⟩) (by dsimp only; omega)).trans b1.g2, (hbw.cell (p := ⟨w.heap.size, 3, none⟩) (by dsimp only; omega)).trans b1.g3⟩
        have BQ : Below w.heap.size w wr := BW.trans (hbw.mono (by omega))
        have g0 := xr.g0
        have g1 := xr.g1
        have g2 := xr.g2
        have g3 := xr.g3
        by_cases hltm : m < ces.length
        · have hltmi : (m : Int) < (ces.length : Int) := by omega
          have hcat := cellsX_at (chs xs) (sts[n]).2 n m ces hltm
          have d7 := c7 wr BQ n m
          rw [hfb n m hlt hltm] at d7
          have hlen : acc.length ≤ 800 := by
            have := congrArg List.length hall.out
            simp only [List.length_append, List.length_map] at this
            omega
          by_cases hcl : (sts[n]).2.cls = (ces[m]).2.cls
          · rw [if_pos hcl] at hcat
            rw [show ((sts[n]).2.cls == (ces[m]).2.cls) = true by simpa using hcl] at d7
            have d8 := fun W hW => c8 W hW n m hlt hltm
            obtain ⟨fm, hfm⟩ : ∃ z, formX (chs xs) (sts[n]).2 (ces[m]).2 = z := ⟨_, rfl⟩
            rw [hfm] at hcat d8
            have hfi2 := hfi.out
            rw [hcat, List.map_append] at hfi2
            have hpl : p < FI.length := by
              have := congrArg List.length hfi2
              simp only [List.length_drop, List.length_append, List.map_cons, List.map_nil, List.length_cons, List.length_nil] at this
              omega
            rw [List.drop_eq_getElem_cons hpl] at hfi2
            simp only [List.map_cons, List.map_nil, List.cons_append, List.nil_append, List.cons.injEq] at hfi2
            obtain ⟨hfp, hfr⟩ := hfi2
            have hpR : p < R.length := by omega
            have hpRi : (p : Int) < (R.length : Int) := by omega
            have hRp : (R[p]).2 = fm := by
              rw [← hfp]
              have : (R.map Prod.snd)[p]? = FI[p]? := by rw [HRF.out]
              rw [List.getElem?_map, List.getElem?_eq_getElem hpR, List.getElem?_eq_getElem hpl] at this
              simpa using this
            obtain ⟨br, orr, rfl⟩ := row_some (TW wr BQ).2 (by omega)
            obtain ⟨ra, hra⟩ : ∃ z, (R[p]).1 = z := ⟨_, rfl⟩
            have TP : ∀ W, Below w.heap.size w W → W.cell? ⟨bT, oT + n, none⟩ = some (.slice (some ⟨br, orr, none⟩) R.length cr) ∧ W.cell? ⟨br, orr + p, none⟩ = some ra ∧ IsI W ra fm := by
              intro W hW
              obtain ⟨h1, h2⟩ := TW W hW
              obtain ⟨_, hcl', hq⟩ := row_cells (f := vfc) (k := 1) (fun _ => rfl) h2 p hpR
              have k1 := hcl' 0 _ (by omega) rfl
              rw [Nat.mul_one, Nat.add_zero, hra] at k1
              refine ⟨h1, k1, ?_⟩
              have hq' : IsI W (R[p]).1 (R[p]).2 := hq
              rw [hra, hRp] at hq'
              exact hq'
            have HN : Hid ((acc.map Prod.fst ++ [(n, m, fm)]) ++ cellsX (chs xs) (sts[n]).2 n (m + 1) (ces.drop (m + 1)) ++ stemsX (chs xs) ces (n + 1) (sts.drop (n + 1)) = tl) := by
              show _ = _
              have := hall.out
              rw [hcat] at this
              simpa [List.append_assoc] using this
            have HFR : Hid (FI.drop (p + 1) = (cellsX (chs xs) (sts[n]).2 n (m + 1) (ces.drop (m + 1))).map (fun x => x.2.2)) := hfr
            have hpge : decide ((R.length : Int) ≤ (p : Int)) = false := decide_eq_false (by omega)
            clear hall hfi hcat hfm hcl hfb c7 c8 hfp hfr hRp hra TW
            go_wp2_with (first
              | (go_at_call 7; refine d7.mono ?_; rintro e w2 ⟨rfl, hb2⟩; have x2 := xr.below hb2; have p0 := x2.g0; have p1 := x2.g1; have p2 := x2.g2; have p3 := x2.g3; have BQ2 := BQ.trans (hb2.mono BQ.size))
              | (go_at_call 8; refine (d8 _ BQ2).mono ?_; rintro e w3 ⟨v8, rfl, hI8, hF8, hb3⟩; have BQ3 := BQ2.trans (hb3.mono BQ2.size); obtain ⟨t1, t2, t3⟩ := TP w3 BQ3; obtain ⟨a8, c8', rfl, _, _⟩ := hI8.len)
              | (go_at_call 11; refine (Sm.same_any _ _ fm _ t3 hI8).mono ?_; rintro e w4 ⟨rfl, hw4⟩; have hb4 : Below w3.heap.size w3 w4 := (by obtain ⟨q, rfl⟩ := hw4; exact below_drewN' (Below.refl _ _) q); clear hw4; have hbr4 := hb2.trans ((hb3.mono hb2.size).trans (hb4.mono (Nat.le_trans hb2.size hb3.size))); have D4 := hD.below hbr4; have s4 := hbr4.size; have hI4 := hI8.below (Nat.le_refl _) hb4; have haw := hD.away hF8 hb2.size; have cgA := D4.cg.alloc (.cells #[.int .i64 n, .int .i64 m] 40))
              | (at_builtin; refine wpList_append_lies _ rfl (.tmp 70) (.tmp 74) 43 rfl (w.heap.size + 1 + 2) 40 i40 (.agg #[.int .i64 0, .int .i64 0]) 2 16 Try.underlying43 hi40 hz400 hz401 hz402 rfl (by decide) _ acc.length _ rfl cgA.row7 ⟨w4.heap.size, 0, none⟩ 1 1 [.int .i64 n, .int .i64 m] rfl rfl (World.news_of_block (World.alloc_heap_new w4 _)) (by simp [Value.oneCell']) (by decide) (by unfold maxLen; omega) (by omega) (by simp; omega) _ rfl ?_; intro g7 c7' w7 hown7 hgrow7 hat7 _; have cgB := cgA.app7 hown7 hgrow7 hat7; have cgC := cgB.alloc (.cells #[.slice a8 fm.length c8'] 27); have s7 := cgB.size)
              | (at_builtin; refine wpList_append_lies _ rfl (.tmp 76) (.tmp 78) 64 rfl (w.heap.size + 1 + 2) 27 i27 (.slice none 0 0) 1 24 Try.underlying64 hi27 hz270 hz271 hz272 rfl (by decide) _ acc.length _ rfl cgC.row8 ⟨w7.heap.size, 0, none⟩ 1 1 [.slice a8 fm.length c8'] rfl rfl (World.news_of_block (World.alloc_heap_new w7 _)) (by simp [Value.oneCell']) (by decide) (by unfold maxLen; omega) (by omega) (by simp; omega) _ rfl ?_; intro g8 c8'' w9 hown9 hgrow9 hat9 _; have cgD := cgC.app8 hown9 hgrow9 hat9))
            obtain ⟨D9, B9⟩ := dend ((n, m, fm), .slice a8 fm.length c8') D4 (by omega) hI4 haw cgD
            have hB5 : Below (w.heap.size + 3) wr w9 := (hbr4.mono (by omega)).trans (B9.mono (by omega))
            go_roundw
            case rel => exact ⟨m + 1, p + 1, acc ++ [((n, m, fm), .slice a8 fm.length c8')], by go_num, by go_num, by omega, by omega, D9, hbw.trans hB5, by simpa using HN, HFR⟩
            case measure => simp [intOf]; omega
          · rw [if_neg hcl] at hcat
            rw [show ((sts[n]).2.cls == (ces[m]).2.cls) = false by simpa using hcl] at d7
            have HN : Hid (acc.map Prod.fst ++ cellsX (chs xs) (sts[n]).2 n (m + 1) (ces.drop (m + 1)) ++ stemsX (chs xs) ces (n + 1) (sts.drop (n + 1)) = tl) := by
              show _ = _
              have := hall.out
              rw [hcat] at this
              simpa using this
            have HFR : Hid (FI.drop p = (cellsX (chs xs) (sts[n]).2 n (m + 1) (ces.drop (m + 1))).map (fun x => x.2.2)) := by
              show _ = _
              have := hfi.out
              rw [hcat] at this
              simpa using this
            clear hall hfi hcat hcl hfb c7 c8
            go_wp2_with (go_at_call 7; refine d7.mono ?_; rintro e w2 ⟨rfl, hb2⟩; have D2 := hD.below hb2; have s4 := hb2.size)
            go_roundw
            case rel => exact ⟨m + 1, p, acc, rfl, by go_num, by omega, hp, D2, hbw.trans (hb2.mono (by omega)), HN, HFR⟩
            case measure => simp [intOf]; omega
        · have e : m = ces.length := by omega
          subst e
          have hpl : p = FI.length := by
            have := congrArg List.length hfi.out
            rw [List.drop_length] at this
            simp [cellsX] at this
            omega
          have HN : Hid (acc.map Prod.fst ++ stemsX (chs xs) ces (n + 1) (sts.drop (n + 1)) = tl) := by
            show _ = _
            have := hall.out
            rw [List.drop_length] at this
            simpa [cellsX] using this
          have hpr : p = R.length := by omega
          subst hpr
          obtain ⟨t1, _⟩ := TW wr BQ
          have dR : ((R.length : Int) != (R.length : Int)) = false := by simp
          clear hall hfi hfb c7 c8
          go_wp2
          go_roundw
          case rel => exact ⟨n + 1, acc, by go_num, by omega, hD, hbw, HN⟩
          case measure => simp [intOf]; omega
    · have e : n = sts.length := by omega
      subst e
      have hacc : acc.map Prod.fst = tl := by
        have := hall.out
        rw [List.drop_length] at this
        simpa [stemsX] using this
      have hLl : tl.length = acc.length := by rw [← hacc, List.length_map]
      have HLi : Hid (∀ i (hi : i < acc.length), tl[i]? = some (acc[i]).1) := by
        intro i hi
        rw [← hacc, List.getElem?_map, List.getElem?_eq_getElem hi]
        rfl
      obtain ⟨Z, hZ⟩ : ∃ Z : World, Z = wr := ⟨_, rfl⟩
      subst hZ
      have HN8 : Hid (acc.length ≤ 800 ∧ tl.length = acc.length) := ⟨by omega, hLl⟩
      have hR8 := fun (W : World) (hW : Below Z.heap.size Z W) => (show IsR one8 1 el8 W _ acc from ⟨by rw [flat8]; exact row_of_own (hD.below hW).r8 (by omega), fun x hx => ((hD.below hW).each x hx).1⟩)
      have hR7 := fun (W : World) (hW : Below Z.heap.size Z W) => (show IsR rdE 2 (fun _ _ => True) W _ acc from ⟨row_of_own (hD.below hW).r7 (by omega), fun _ _ => trivial⟩)
      obtain ⟨a8, c8', hv8, _, _⟩ := (hR8 Z (Below.refl _ _)).len
      subst hv8
      obtain ⟨a7, c7', hv7, _, _⟩ := (hR7 Z (Below.refl _ _)).len
      subst hv7
      have BWr : Below w.heap.size w Z := BW.trans (hbw.mono (by omega))
      have fa : Z.heap[w.heap.size + 1]? = some (.cells #[.int .i64 A1, .int .i64 A2] 40 (0, 0)) := (hbw.block _ (by omega)).trans ea
      have fb : Z.heap[w.heap.size + 1 + 1]? = some (.cells #[.int .i64 B1, .int .i64 B2] 40 (0, 0)) := (hbw.block _ (by omega)).trans eb
      have CA : Hid (∀ W, Below Z.heap.size Z W → (W.cell? ⟨w.heap.size + 1, 0, none⟩ = some (.int .i64 A1) ∧ W.cell? ⟨w.heap.size + 1, 1, none⟩ = some (.int .i64 A2)) ∧ W.cell? ⟨w.heap.size + 1 + 1, 0, none⟩ = some (.int .i64 B1) ∧ W.cell? ⟨w.heap.size + 1 + 1, 1, none⟩ = some (.int .i64 B2)) := by
        intro W hW
        obtain ⟨h1, h2, _, _⟩ := two_of ((hW.block _ (Array.getElem?_eq_some_iff.1 fa).1).trans fa)
        obtain ⟨h3, h4, _, _⟩ := two_of ((hW.block _ (Array.getElem?_eq_some_iff.1 fb).1).trans fb)
        exact ⟨⟨h1, h2⟩, h3, h4⟩
      have HR8 : Hid (∀ W, Below Z.heap.size Z W → IsR one8 1 el8 W (.slice a8 acc.length c8') acc) := hR8
      have HR7 : Hid (∀ W, Below Z.heap.size Z W → IsR rdE 2 (fun _ _ => True) W (.slice a7 acc.length c7') acc) := hR7
      clear hall hacc hdef0 hfb c7 c8 hrow hTr hLl hD hmm hR8 hR7 fa fb ea eb hbw sr
      go_wp2
      go_loopw [17] (fun i w' => ∃ n : Nat, i = .int .i64 n ∧ n ≤ acc.length ∧ Below Z.heap.size Z w' ∧ Hid (LC = clashL (tl.drop n))) (fun i _ => acc.length - (intOf i).toNat)
      case atStart => exact ⟨0, rfl, Nat.zero_le _, Below.refl _ _, HLC.out.symm⟩
      case round =>
        obtain ⟨n, rfl, hnl, hbT, hcl⟩ := hrel
        have h800 := HN8.out.1
        by_cases hlt : n < acc.length
        · have hlti : (n : Int) < (acc.length : Int) := by omega
          have hltL : n < tl.length := by have := HN8.out; omega
          obtain ⟨b8, o8, rfl⟩ := row_some (HR8.out Z (Below.refl _ _)) (by omega)
          have hx0 := (List.getElem?_eq_some_iff.1 (HLi.out n hlt)).2
          have hcat := clash_at (L := tl) (i := n) hltL
          rw [hx0] at hcat
          obtain ⟨⟨⟨i1, m1, f1⟩, v1⟩, hx1⟩ : ∃ x, acc[n] = x := ⟨_, rfl⟩
          rw [hx1] at hcat
          have E8 : Hid (∀ W, Below Z.heap.size Z W → W.cell? ⟨b8, o8 + n, none⟩ = some v1 ∧ IsI W v1 f1) := by
            intro W hW
            obtain ⟨_, hc8, hI8⟩ := row_cells (f := one8) (k := 1) (fun _ => rfl) (HR8.out W hW) n hlt
            have k8 := hc8 0 _ (by omega) rfl
            rw [Nat.mul_one, Nat.add_zero] at k8
            rw [hx1] at k8 hI8
            exact ⟨k8, hI8⟩
          dsimp only at hcat
          have HCA : Hid (LC = match (tl.drop (n + 1)).find? (fun z => z.2.2 == f1) with
              | some z => some ((i1, m1), (z.1, z.2.1))
              | none => clashL (tl.drop (n + 1))) := hcl.out.trans hcat
          have HX1 : Hid (acc[n] = ((i1, m1, f1), v1)) := hx1
          clear hcat hcl hx0 hx1 hltL
          go_wp2
          go_loopw [18] (fun i w' => ∃ m : Nat, i = .int .i64 m ∧ n + 1 ≤ m ∧ m ≤ acc.length ∧ Below Z.heap.size Z w' ∧ Hid ((tl.drop (n + 1)).find? (fun z => z.2.2 == f1) = (tl.drop m).find? (fun z => z.2.2 == f1))) (fun i _ => acc.length - (intOf i).toNat)
          case atStart => exact ⟨n + 1, by go_num, Nat.le_refl _, by omega, hbT, rfl⟩
          case round =>
            clear hbT
            obtain ⟨m, rfl, hm1, hml, hbT, hfi⟩ := hrel
            by_cases hltm : m < acc.length
            · have hltmi : (m : Int) < (acc.length : Int) := by omega
              have hltL : m < tl.length := by have := HN8.out; omega
              have hx0 := (List.getElem?_eq_some_iff.1 (HLi.out m hltm)).2
              have hfat := find_at (L := tl) (k := m) (fun z => z.2.2 == f1) hltL
              rw [hx0] at hfat
              obtain ⟨⟨⟨i2, m2, f2⟩, v2⟩, hx2⟩ : ∃ x, acc[m] = x := ⟨_, rfl⟩
              rw [hx2] at hfat
              have E9 : ∀ W, Below Z.heap.size Z W → W.cell? ⟨b8, o8 + m, none⟩ = some v2 ∧ IsI W v2 f2 := by
                intro W hW
                obtain ⟨_, hc8, hI8⟩ := row_cells (f := one8) (k := 1) (fun _ => rfl) (HR8.out W hW) m hltm
                have k8 := hc8 0 _ (by omega) rfl
                rw [Nat.mul_one, Nat.add_zero] at k8
                rw [hx2] at k8 hI8
                exact ⟨k8, hI8⟩
              dsimp only at hfat
              have HF : Hid ((tl.drop (n + 1)).find? (fun z => z.2.2 == f1) = if (f2 == f1) = true then some (i2, m2, f2) else (tl.drop (m + 1)).find? (fun z => z.2.2 == f1)) := hfi.out.trans hfat
              have HX2 : Hid (acc[m] = ((i2, m2, f2), v2)) := hx2
              have BD : Below Z.heap.size Z wr.drew := hbT.drew
              obtain ⟨j1, I1⟩ := E8.out _ BD
              obtain ⟨j2, I2⟩ := E9 _ BD
              have c11 := Sn.same_all v1 v2 f1 f2 wr.drew I1 I2
              clear hfat hfi hx2 hx0 hltL I1 I2 E9
              have k1 : wr.cell? ⟨b8, o8 + n, none⟩ = some v1 := j1
              have k2 : wr.cell? ⟨b8, o8 + m, none⟩ = some v2 := j2
              have KP : ∀ w2 : World, (∃ q, w2 = wr.drew.drewN q) → w2.cell? ⟨b8, o8 + n, none⟩ = some v1 ∧ w2.cell? ⟨b8, o8 + m, none⟩ = some v2 := by
                rintro w2 ⟨q, rfl⟩
                exact ⟨j1, j2⟩
              by_cases he : f1 = f2
              · have HV : LC = some ((i1, m1), (i2, m2)) := by
                  rw [HCA.out, HF.out, he, if_pos (by simp)]
                obtain ⟨g1', g2', g3'⟩ := HAB.out
                rw [HV] at g1' g2' g3'
                simp only [clA, clB, Option.map_some, Option.getD_some, Option.isSome_some, Prod.mk.injEq] at g1' g2' g3'
                obtain ⟨rfl, rfl⟩ := g1'
                obtain ⟨rfl, rfl⟩ := g2'
                subst g3'
                rw [show (f1 == f2) = true by simpa using he] at c11
                clear he HF HCA HV
                obtain ⟨b7, o7, rfl⟩ := row_some (HR7.out Z (Below.refl _ _)) (by omega)
                have E7 : ∀ W, Below Z.heap.size Z W → (W.cell? ⟨b7, o7 + n * 2, none⟩ = some (.int .i64 i1) ∧ W.cell? ⟨b7, o7 + n * 2 + 1, none⟩ = some (.int .i64 m1)) ∧ W.cell? ⟨b7, o7 + m * 2, none⟩ = some (.int .i64 i2) ∧ W.cell? ⟨b7, o7 + m * 2 + 1, none⟩ = some (.int .i64 m2) := by
                  intro W hW
                  obtain ⟨_, hc7n, _⟩ := row_cells (f := rdE) (k := 2) (fun _ => rfl) (HR7.out W hW) n hlt
                  obtain ⟨_, hc7m, _⟩ := row_cells (f := rdE) (k := 2) (fun _ => rfl) (HR7.out W hW) m hltm
                  rw [HX1.out] at hc7n
                  rw [HX2.out] at hc7m
                  have r1 := hc7n 0 _ (by omega) rfl
                  have r2 := hc7n 1 _ (by omega) rfl
                  have r3 := hc7m 0 _ (by omega) rfl
                  have r4 := hc7m 1 _ (by omega) rfl
                  rw [Nat.add_zero] at r1 r3
                  exact ⟨⟨r1, r2⟩, r3, r4⟩
                go_wp2
                go_region_held3 (fun w2 => w2.cell? ⟨b8, o8 + n, none⟩ = some v1 ∧ w2.cell? ⟨b8, o8 + m, none⟩ = some v2) (first | exact ⟨j1, j2⟩ | assumption | go_keep)
                  (first
                    | (go_at_call 11; refine c11.mono ?_; rintro e w6 ⟨rfl, hw6⟩; have HK := KP _ hw6; have hb6 : Below wr.drew.heap.size wr.drew w6 := (by obtain ⟨q, rfl⟩ := hw6; exact below_drewN' (Below.refl _ _) q); clear hw6))
                have B6 : Below Z.heap.size Z w6 := BD.trans (hb6.mono BD.size)
                obtain ⟨⟨ca1, ca2⟩, cb1, cb2⟩ := CA.out _ B6
                obtain ⟨⟨r1, r2⟩, r3, r4⟩ := E7 _ B6
                clear KP HK c11 j1 j2 k1 k2 E7
                go_wp2
                go_quiet (fail)
                go_wp2
                go_ret
                exact ⟨rfl, below_drewN' (BWr.trans (B6.mono BWr.size)) _⟩
              · have he1 : (f1 == f2) = false := by simpa using he
                have he2 : ¬ (f2 == f1) = true := by simpa using fun e => he (e.symm)
                rw [he1] at c11
                have HN2 : Hid ((tl.drop (n + 1)).find? (fun z => z.2.2 == f1) = (tl.drop (m + 1)).find? (fun z => z.2.2 == f1)) := by
                  show _ = _
                  rw [HF.out, if_neg he2]
                clear he he1 he2 HF
                go_wp2
                go_region_held3 (fun w2 => w2.cell? ⟨b8, o8 + n, none⟩ = some v1 ∧ w2.cell? ⟨b8, o8 + m, none⟩ = some v2) (first | exact ⟨j1, j2⟩ | assumption | go_keep)
                  (first
                    | (go_at_call 11; refine c11.mono ?_; rintro e w6 ⟨rfl, hw6⟩; have HK := KP _ hw6; have hb6 : Below wr.drew.heap.size wr.drew w6 := (by obtain ⟨q, rfl⟩ := hw6; exact below_drewN' (Below.refl _ _) q); clear hw6))
                have B6 : Below Z.heap.size Z w6 := BD.trans (hb6.mono BD.size)
                clear KP HK c11 j1 j2 k1 k2
                go_wp2
                go_roundw
                case rel => exact ⟨m + 1, by go_num, by omega, by omega, B6, HN2⟩
                case measure => simp [intOf]; omega
            · have e : m = acc.length := by omega
              subst e
              have HC2 : Hid (LC = clashL (tl.drop (n + 1))) := by
                show _ = _
                rw [HCA.out, hfi.out, List.drop_of_length_le (by have := HN8.out; omega)]
                rfl
              clear HCA hfi
              go_wp2
              go_roundw
              case rel => exact ⟨n + 1, by go_num, by omega, hbT, HC2⟩
              case measure => simp [intOf]; omega
        · have e : n = acc.length := by omega
          subst e
          have HC0 : LC = none := by
            rw [hcl.out, List.drop_of_length_le (by have := HN8.out; omega)]
            rfl
          obtain ⟨g1', g2', g3'⟩ := HAB.out
          rw [HC0] at g1' g2' g3'
          simp only [clA, clB, Option.map_none, Option.getD_none, Option.isSome_none, Prod.mk.injEq] at g1' g2' g3'
          obtain ⟨rfl, rfl⟩ := g1'
          obtain ⟨rfl, rfl⟩ := g2'
          subst g3'
          clear hcl HC0
          have hbA : ∀ o, Below Z.heap.size Z (wr.alloc o) := fun o => hbT.trans ((hb1 wr o).mono hbT.size)
          have ca1 := fun o => (CA.out _ (hbA o)).1.1
          have ca2 := fun o => (CA.out _ (hbA o)).1.2
          have cb1 := fun o => (CA.out _ (hbA o)).2.1
          have cb2 := fun o => (CA.out _ (hbA o)).2.2
          go_wp2
          go_ret
          exact ⟨rfl, BWr.trans ((hbA _).mono BWr.size)⟩
end Go.Proofs.Ytkcbgapakpheiaa.Te
