/- The program's told: what it hands on, by stem, then by cell. Condition: the parts are short. -/
import Derived.Test.YtkcbgapakpheiaaMk
import Derived.Test.YtkcbgapakpheiaaRf2M
import Derived.Shelf.Abstract
import Derived.Shelf.RegionOpen
import Derived.OwnWalkIn
import Derived.TacticsInMore
import Derived.LoopNIn
import Derived.LoopIn
namespace Go.Proofs.Ytkcbgapakpheiaa.Tk
open Go.RowKit Go.Shelf Sd Md Sc Aq Ls Lx Ly Lz Fo Mk Rf
attribute [local go_sem] Oper.semAt_some

abbrev El := (Nat × Nat × List Int) × Value
def encs (x : El) : Array Value := #[.agg #[.int .i64 x.1.1, .int .i64 x.1.2.1], x.2]
def cellsX (h : List Ch) (s : St) (i : Nat) : Nat → List VCe → List (Nat × Nat × List Int)
  | _, [] => []
  | k, c :: cs => (if s.cls = c.2.cls then [(i, k, formX h s c.2)] else []) ++ cellsX h s i (k + 1) cs
def stemsX (h : List Ch) (ces : List VCe) : Nat → List VSt → List (Nat × Nat × List Int)
  | _, [] => []
  | i, s :: ss => cellsX h s.2 i 0 ces ++ stemsX h ces (i + 1) ss
def toldX (y : VX) : List (Nat × Nat × List Int) := stemsX (chs y.xs) y.ces 0 y.sts
def Lie (y : VX) (pre : List El) (x : El) (A : World) : Prop := IsI A x.2 x.1.2.2 ∧ pre.map Prod.fst ++ [x.1] <+: toldX y
theorem cellsX_at (h : List Ch) (s : St) (i k : Nat) (l : List VCe) (hk : k < l.length) : cellsX h s i k (l.drop k) = (if s.cls = (l[k]).2.cls then [(i, k, formX h s (l[k]).2)] else []) ++ cellsX h s i (k + 1) (l.drop (k + 1)) := by
  rw [List.drop_eq_getElem_cons hk]
  rfl
theorem stemsX_at (h : List Ch) (ces : List VCe) (i : Nat) (l : List VSt) (hi : i < l.length) : stemsX h ces i (l.drop i) = cellsX h (l[i]).2 i 0 (ces.drop 0) ++ stemsX h ces (i + 1) (l.drop (i + 1)) := by
  rw [List.drop_eq_getElem_cons hi]
  rfl

set_option maxHeartbeats 4000000 in
set_option maxRecDepth 100000 in
theorem told_any (y : VX) (w : World) : CallsIn Fence.wide 3 Try.prog 24 #[y.val] w fun e w' => e = .returned (.func (.func 45) #[] #[.pointer (some ⟨w.heap.size, 0, none⟩)]) ∧ w' = w.alloc (.cells #[.int .i64 y.k, y.vs, y.vc, y.vh] 26) := by
  obtain ⟨k, vs, vc, vh, sts, ces, xs⟩ := y
  simp only [VX.val]
  refine callsIn_wide.2 ?_
  go_enter Try.func24, Try.ntmps24
  go_wp2
  go_ret
  exact ⟨rfl, rfl⟩
end Go.Proofs.Ytkcbgapakpheiaa.Tk
/- The program's told, its inner function: it hands on all readings, by stem, then by cell. Condition: the parts are short. -/
namespace Go.Proofs.Ytkcbgapakpheiaa.Tk1
open Go.RowKit Go.Shelf Sd Md Sc Aq Ls Lx Ly Lz Fo Mk Rf Tk
attribute [local go_sem] Oper.semAt_some

theorem Bx4.of_block {B : Nat} {k : Int} {vs vc vh : Value} {A C : World} (h : Bx4 B k vs vc vh A) (e : C.heap[B]? = A.heap[B]?) (hs : A.heap.size ≤ C.heap.size) : Bx4 B k vs vc vh C :=
  ⟨Nat.lt_of_lt_of_le h.lt hs, (World.cell?_of_block (a := ⟨B, 0, none⟩) e).trans h.g0, (World.cell?_of_block (a := ⟨B, 1, none⟩) e).trans h.g1, (World.cell?_of_block (a := ⟨B, 2, none⟩) e).trans h.g2, (World.cell?_of_block (a := ⟨B, 3, none⟩) e).trans h.g3⟩

set_option maxHeartbeats 4000000 in
set_option maxRecDepth 100000 in
theorem told1_tells (y : VX) (w0 w : World) (B n : Nat) (hn : 1 ≤ n) (hX : IsX w0 y) (hw : Below w0.heap.size w0 w) (hBx : Bx4 B y.k y.vs y.vc y.vh w)
    (hls : ∀ s, s ∈ y.sts → s.2.form.length ≤ 8) (hlc : ∀ c, c ∈ y.ces → c.2.bef.length ≤ 4 ∧ c.2.beh.length ≤ 3) :
    Tells Fence.wide n Try.prog 45 #[.pointer (some ⟨B, 0, none⟩)] encs (Lie y) (fun k => k < w0.heap.size ∨ k = B) (fun xs => xs.map Prod.fst = toldX y) w := by
  intro l J O₀ W hW hJ hO hY h0
  have hfo := fun W' (hW' : Below w0.heap.size w0 W') a b (ha : stQ W' a) (hb : ceQ W' b) hl => formOf_any y a b W' ((hX.below hW').h) ha hb hl
  have BW : Below w0.heap.size w0 W := hw.trans (hW.mono hw.size)
  have bW := hBx.below hW
  obtain ⟨tl, htl⟩ : ∃ tl, toldX y = tl := ⟨_, rfl⟩
  have hLie : ∀ pre x A, IsI A x.2 x.1.2.2 → pre.map Prod.fst ++ [x.1] <+: tl → Lie y pre x A := fun pre x A h1 h2 => ⟨h1, by rw [htl]; exact h2⟩
  obtain ⟨k, vs, vc, vh, sts, ces, xs⟩ := y
  have hS := hX.s
  have hCe := hX.c
  dsimp only at hS hCe hls hlc
  obtain ⟨aS, cs, hv, _, hmS⟩ := IsR.len hS
  subst hv
  obtain ⟨aC, cc, hv, _, hmC⟩ := IsR.len hCe
  subst hv
  simp only [VX.val] at hfo
  dsimp only at bW hfo
  have hst : stemsX (chs xs) ces 0 sts = tl := htl
  rw [htl]
  clear hBx hX htl
  have p1 := bW.g1
  show CallsIn Fence.wide n Try.prog 45 #[.func (.yield l) #[] #[], .pointer (some ⟨B, 0, none⟩)] W _
  refine callsIn_of_wp Try.func45 rfl trivial ?_ rfl
  simp only [Try.ntmps45, List.size_toArray, List.length_cons, List.length_nil, Nat.reduceAdd, Nat.reduceSub, Array.replicate_succ, Array.replicate_zero, List.push_toArray, List.append_toArray, List.nil_append, List.cons_append]
  gi_wp2
  gi_loopw [10] (fun i wr => ∃ (j : Nat) (pre : List El) (O : Nat → Prop), i = .int .i64 j ∧ j ≤ sts.length ∧ J pre O wr ∧ Below w0.heap.size w0 wr ∧ Bx4 B k (.slice aS sts.length cs) (.slice aC ces.length cc) vh wr ∧ pre.map Prod.fst ++ stemsX (chs xs) ces j (sts.drop j) = tl)
    (fun i _ => sts.length - (intOf i).toNat)
  case atStart => exact ⟨0, [], O₀, rfl, Nat.zero_le _, h0, BW, bW, hst⟩
  case round =>
    obtain ⟨j, pre, O, rfl, hj, hJs, hBr, hbr, hrest⟩ := hrel
    by_cases hlt : j < sts.length
    · obtain ⟨bS, oS, rfl⟩ := row_some hS (by omega)
      have hjs := hls _ (List.getElem_mem hlt)
      have hat := stemsX_at (chs xs) ces j sts hlt
      have RS := fun W' (hW' : Below w0.heap.size w0 W') => row_cells (f := stc) (k := 2) (fun _ => rfl) (IsR.below stQ_up hS hW') j hlt
      obtain ⟨a, ha⟩ : ∃ a, sts[j] = a := ⟨_, rfl⟩
      rw [ha] at RS hjs hat
      obtain ⟨vf, st⟩ := a
      dsimp only at hjs hat
      have r1 : ∀ W', Below w0.heap.size w0 W' → W'.cell? ⟨bS, oS + j * 2, none⟩ = some vf ∧ W'.cell? ⟨bS, oS + j * 2 + 1, none⟩ = some (.int .i64 st.cls) ∧ stQ W' (vf, st) := fun W' hW' => ⟨(RS W' hW').2.1 0 _ (by omega) rfl, (RS W' hW').2.1 1 _ (by omega) rfl, (RS W' hW').2.2⟩
      clear RS ha
      obtain ⟨af, cf, hv, _, _⟩ := IsI.len (r1 wr hBr).2.2
      dsimp only at hv
      subst hv
      obtain ⟨q0, q1, _⟩ := r1 wr hBr
      have p2 := hbr.g2
      have p2' : ∀ o, (wr.alloc o).cell? ⟨B, 2, none⟩ = some (.slice aC ces.length cc) := fun o => (Below.cell ((Below.refl _ wr).alloc (Nat.le_refl _) o) hbr.lt).trans p2
      gi_wp2
      obtain ⟨W1, hW1⟩ : ∃ W1, wr.alloc (.cells #[.slice af st.form.length cf, .int .i64 st.cls] 51) = W1 := ⟨_, rfl⟩
      have b1 : Below wr.heap.size wr W1 := by rw [← hW1]; exact (Below.refl _ _).alloc (Nat.le_refl _) _
      have c0 : W1.cell? ⟨wr.heap.size, 0, none⟩ = some (.slice af st.form.length cf) := by rw [← hW1]; simp
      have c1 : W1.cell? ⟨wr.heap.size, 1, none⟩ = some (.int .i64 st.cls) := by rw [← hW1]; simp
      have hno : ¬ O wr.heap.size := fun h => absurd (hO _ _ _ _ hJs h).2 (by omega)
      have i1 : J pre O W1 := hJ _ _ _ _ hJs b1
      have i2 : Below w0.heap.size w0 W1 := hBr.trans (b1.mono hBr.size)
      have i3 := hbr.below b1
      have hBs : w0.heap.size ≤ wr.heap.size := hBr.size
      rw [hW1]
      clear hW1 b1 p2 p2' q0 q1
      generalize wr.heap.size = Bs at *
      rw [hat, ← List.append_assoc] at hrest
      obtain ⟨rst, hrst⟩ : ∃ rst, stemsX (chs xs) ces (j + 1) (sts.drop (j + 1)) = rst := ⟨_, rfl⟩
      rw [hrst] at hrest
      gi_loopw [18] (fun i wr => ∃ (m : Nat) (pre : List El) (O : Nat → Prop), i = .int .i64 m ∧ m ≤ ces.length ∧ J pre O wr ∧ Below w0.heap.size w0 wr ∧ Bx4 B k (.slice (some ⟨bS, oS, none⟩) sts.length cs) (.slice aC ces.length cc) vh wr ∧ (wr.cell? ⟨Bs, 0, none⟩ = some (.slice af st.form.length cf) ∧ wr.cell? ⟨Bs, 1, none⟩ = some (.int .i64 st.cls) ∧ ¬ O Bs) ∧ pre.map Prod.fst ++ cellsX (chs xs) st j m (ces.drop m) ++ rst = tl)
        (fun i _ => ces.length - (intOf i).toNat)
      case atStart => exact ⟨0, pre, O, rfl, Nat.zero_le _, i1, i2, i3, ⟨c0, c1, hno⟩, hrest⟩
      case round =>
        clear i1 i2 i3 c0 c1 hno hJs hBr hbr hrest
        obtain ⟨m, pre, O, rfl, hm, hJs, hBr, hbr, ⟨c0, c1, hno⟩, hrest⟩ := hrel
        by_cases hltm : m < ces.length
        · obtain ⟨bC, oC, rfl⟩ := row_some hCe (by omega)
          have hmc := hlc _ (List.getElem_mem hltm)
          have hcat := cellsX_at (chs xs) st j m ces hltm
          have RC := fun W' (hW' : Below w0.heap.size w0 W') => row_cells (f := cec) (k := 3) (fun _ => rfl) (IsR.below ceQ_up hCe hW') m hltm
          obtain ⟨b, hb⟩ : ∃ b, ces[m] = b := ⟨_, rfl⟩
          rw [hb] at RC hmc hcat
          obtain ⟨⟨vb, ve⟩, ce⟩ := b
          dsimp only at hmc hcat
          have r2 : ∀ W', Below w0.heap.size w0 W' → W'.cell? ⟨bC, oC + m * 3, none⟩ = some (.int .i64 ce.cls) ∧ W'.cell? ⟨bC, oC + m * 3 + 1, none⟩ = some vb ∧ W'.cell? ⟨bC, oC + m * 3 + 2, none⟩ = some ve ∧ ceQ W' ((vb, ve), ce) := fun W' hW' => ⟨(RC W' hW').2.1 0 _ (by omega) rfl, (RC W' hW').2.1 1 _ (by omega) rfl, (RC W' hW').2.1 2 _ (by omega) rfl, (RC W' hW').2.2⟩
          clear RC hb
          obtain ⟨ab, cb, hv, _, _⟩ := IsI.len (r2 wr hBr).2.2.2.1
          dsimp only at hv
          subst hv
          obtain ⟨ae, ce', hv, _, _⟩ := IsI.len (r2 wr hBr).2.2.2.2
          dsimp only at hv
          subst hv
          have c18 := fun W' hW' => hfo W' hW' (.slice af st.form.length cf, st) ((.slice ab ce.bef.length cb, .slice ae ce.beh.length ce'), ce) (r1 W' hW').2.2 (r2 W' hW').2.2.2 (by dsimp only; omega)
          dsimp only at c18
          obtain ⟨z0, z1, z2, _⟩ := r2 wr hBr
          have hba : ∀ o, Below wr.heap.size wr (wr.alloc o) := fun o => (Below.refl _ wr).alloc (Nat.le_refl _) o
          have hlB : Bs < wr.heap.size := World.block_lt_of_cell? _ _ c0
          have y0 : ∀ o, (wr.alloc o).cell? ⟨Bs, 0, none⟩ = some (.slice af st.form.length cf) := fun o => ((hba o).cell hlB).trans c0
          have y1 : ∀ o, (wr.alloc o).cell? ⟨Bs, 1, none⟩ = some (.int .i64 st.cls) := fun o => ((hba o).cell hlB).trans c1
          have x0 : ∀ o, (wr.alloc o).cell? ⟨B, 0, none⟩ = some (.int .i64 k) := fun o => ((hba o).cell hbr.lt).trans hbr.g0
          have x1 : ∀ o, (wr.alloc o).cell? ⟨B, 1, none⟩ = some (.slice (some ⟨bS, oS, none⟩) sts.length cs) := fun o => ((hba o).cell hbr.lt).trans hbr.g1
          have x2 : ∀ o, (wr.alloc o).cell? ⟨B, 2, none⟩ = some (.slice (some ⟨bC, oC, none⟩) ces.length cc) := fun o => ((hba o).cell hbr.lt).trans hbr.g2
          have x3 : ∀ o, (wr.alloc o).cell? ⟨B, 3, none⟩ = some vh := fun o => ((hba o).cell hbr.lt).trans hbr.g3
          by_cases hcl : st.cls = ce.cls
          · rw [hcat, if_pos hcl] at hrest
            have hpre : pre.map Prod.fst ++ [(j, m, formX (chs xs) st ce)] <+: tl := ⟨cellsX (chs xs) st j (m + 1) (ces.drop (m + 1)) ++ rst, by rw [← hrest]; simp⟩
            have hbq : Below w0.heap.size w0 (wr.alloc (.cells #[.int .i64 ce.cls, .slice ab ce.bef.length cb, .slice ae ce.beh.length ce'] 53)) := hBr.trans ((hba _).mono hBr.size)
            have c18' := c18 _ hbq
            obtain ⟨res, hres⟩ : ∃ z, formX (chs xs) st ce = z := ⟨_, rfl⟩
            rw [hres] at c18' hpre hrest
            have hY' := fun A v (hA : J pre O A) (hv : IsI A v res) => hY pre O ((j, m, res), v) A hA (hLie _ _ _ hv hpre)
            clear c18 hfo hY hLie hres
            have y1' := y1
            rw [hcl] at c18' y1
            have HC : Hid (st.cls = ce.cls) := hcl
            clear hcl
            gi_wp2
            refine ⟨trivial, (callsIn_wide.2 c18').mono ?_⟩
            rintro e w3 ⟨v3, rfl, hI3, hb3⟩
            have hb3' : Below wr.heap.size wr w3 := (hba _).trans (hb3.mono (hba _).size)
            have B3 : Below w0.heap.size w0 w3 := hBr.trans (hb3'.mono hBr.size)
            have e3 := hbr.below hb3'
            have k0 : w3.cell? ⟨Bs, 0, none⟩ = some (.slice af st.form.length cf) := (hb3'.cell hlB).trans c0
            have k1 : w3.cell? ⟨Bs, 1, none⟩ = some (.int .i64 st.cls) := (hb3'.cell hlB).trans c1
            have hlB3 : Bs < w3.heap.size := Nat.lt_of_lt_of_le hlB hb3'.size
            have hJ3 := hJ _ _ _ _ hJs hb3'
            obtain ⟨fn, tmps, assign, body, hy, hR⟩ := hY' w3 v3 hJ3 hI3
            dsimp only [encs] at hy
            clear hY' c18' y0 y1 y1' x0 x1 x2 x3
            gi_wp2
            refine hR.mono ?_
            rintro e W4 ⟨rfl, O', hJ4, hk4⟩
            gi_wp2
            go_roundw
            case rel =>
              have hBk := hk4.block B e3.lt (fun h => (hO _ _ _ _ hJ3 h).1 (.inr rfl))
              have hBsk := hk4.block Bs hlB3 hno
              exact ⟨m + 1, pre ++ [((j, m, res), v3)], O', by simp, by omega, hJ4, hk4.below B3 B3.size (fun q hq h => (hO _ _ _ _ hJ3 h).1 (.inl hq)), Bx4.of_block e3 hBk.2 hk4.size, ⟨(World.cell?_of_block (a := ⟨Bs, 0, none⟩) hBsk.2).trans k0, (World.cell?_of_block (a := ⟨Bs, 1, none⟩) hBsk.2).trans k1, hBsk.1⟩, by rw [← hrest]; simp⟩
            case measure => simp [intOf]; omega
          · have dc : (st.cls == ce.cls) = false := by simpa using hcl
            rw [hcat, if_neg hcl, List.nil_append] at hrest
            clear hfo c18 hY
            gi_wp2
            refine ⟨trivial, ?_⟩
            gi_wp2
            refine ⟨fun _ h => (by cases h), ?_⟩
            gi_wp2
            go_roundw
            case rel => exact ⟨m + 1, pre, O, by simp, by omega, hJ _ _ _ _ hJs (hba _), hBr.trans ((hba _).mono hBr.size), hbr.below (hba _), ⟨y0 _, y1 _, hno⟩, hrest⟩
            case measure => simp [intOf]; omega
        · obtain rfl : m = ces.length := by omega
          gi_wp2
          go_roundw
          case rel => exact ⟨j + 1, pre, O, by simp, by omega, hJs, hBr, hbr, by rw [hrst, ← hrest]; simp [cellsX]⟩
          case measure => simp [intOf]; omega
    · obtain rfl : j = sts.length := by omega
      gi_wp2
      go_end0
      refine ⟨⟨_, rfl⟩, pre, O, ?_, hJs⟩
      rw [← hrest]
      simp [stemsX]
end Go.Proofs.Ytkcbgapakpheiaa.Tk1
