/- The program's Make: what the document says. No conditions beyond how the lexicon lies. -/
import Derived.Test.YtkcbgapakpheiaaFo2M
import Derived.Deep.QuietTactic
import Derived.BigQuiet
import Derived.Deep.RegionHeld3
namespace Go.Proofs.Ytkcbgapakpheiaa.Mk
open Go.RowKit Go.Shelf Sd Md Sc Aq Ls Lx Ly Lz Fo

theorem row_cells {α : Type} {f : α → List Value} {k : Nat} (hk : ∀ a, (f a).length = k) {Q : World → α → Prop} {w : World} {b off cap : Nat} {l : List α} (h : IsR f k Q w (.slice (some ⟨b, off, none⟩) l.length cap) l) (i : Nat) (hi : i < l.length) :
    b < w.heap.size ∧ (∀ j u, j < k → (f l[i])[j]? = some u → w.cell? ⟨b, off + i * k + j, none⟩ = some u) ∧ Q w l[i] := by
  rcases h.shape with ⟨a, c, _, e⟩ | ⟨b', o', c', hv, hlt, _, _, _, hc⟩
  · rw [e] at hi
    simp at hi
  · simp only [Value.slice.injEq, Option.some.injEq, Addr.mk.injEq, and_true, true_and] at hv
    obtain ⟨⟨rfl, rfl⟩, rfl⟩ := hv
    refine ⟨hlt, fun j u hj hu => ?_, h.2 _ (List.getElem_mem hi)⟩
    rw [Nat.add_assoc]
    exact hc _ _ ((fm_at f k hk l i hi j hj).trans hu)
theorem row_some {α : Type} {f : α → List Value} {k : Nat} {Q : World → α → Prop} {w : World} {a : Option Addr} {cap : Nat} {l : List α} (h : IsR f k Q w (.slice a l.length cap) l) (hl : 0 < l.length) : ∃ b off, a = some ⟨b, off, none⟩ := by
  rcases h.shape with ⟨_, _, _, e⟩ | ⟨b', o', c', hv, _⟩
  · rw [e] at hl
    simp at hl
  · simp only [Value.slice.injEq] at hv
    exact ⟨b', o', hv.1⟩

/-- which stem and cell fit -/
def fitX (y : VX) (s c : Int) : Option (VSt × VCe) :=
  if s < 0 ∨ (y.sts.length : Int) ≤ s ∨ c < 0 ∨ (y.ces.length : Int) ≤ c then none
  else match y.sts[s.toNat]?, y.ces[c.toNat]? with
    | some a, some b => if a.2.cls = b.2.cls then some (a, b) else none
    | _, _ => none
def makeE (y : VX) (s c : Int) : Int := if checkX y.lex = 0 then (if (fitX y s c).isSome then 0 else 5) else checkX y.lex
def makeR (y : VX) (s c : Int) : List Int := if checkX y.lex = 0 then (match fitX y s c with | some (a, b) => formX (chs y.xs) a.2 b.2 | none => []) else []

theorem lens_of {y : VX} (h : checkX y.lex = 0) : (∀ s, s ∈ y.sts → s.2.form.length ≤ 8) ∧ (∀ c, c ∈ y.ces → c.2.bef.length ≤ 4 ∧ c.2.beh.length ≤ 3) := by
  unfold checkX at h
  split at h
  · omega
  · split at h
    · omega
    · rename_i h1 h2
      simp only [Lex.longB, VX.lex, Bool.or_eq_true, not_or, List.any_eq_true, not_exists, not_and, List.mem_map] at h2
      refine ⟨fun s hs => ?_, fun c hc => ?_⟩
      · have := h2.1 s.2 ⟨s, hs, rfl⟩
        simp only [stLong, Bool.or_eq_true, decide_eq_true_eq, not_or] at this
        omega
      · have := h2.2 c.2 ⟨c, hc, rfl⟩
        simp only [ceLong, Bool.or_eq_true, decide_eq_true_eq, not_or] at this
        omega

/-- the lexicon's box -/
structure Bx4 (B : Nat) (k : Int) (vs vc vh : Value) (W : World) : Prop where
  lt : B < W.heap.size
  g0 : W.cell? ⟨B, 0, none⟩ = some (.int .i64 k)
  g1 : W.cell? ⟨B, 1, none⟩ = some vs
  g2 : W.cell? ⟨B, 2, none⟩ = some vc
  g3 : W.cell? ⟨B, 3, none⟩ = some vh
theorem Bx4.new (w : World) (k : Int) (vs vc vh : Value) : Bx4 w.heap.size k vs vc vh (w.alloc (.cells #[.int .i64 k, vs, vc, vh] 26)) := ⟨by simp, by simp, by simp, by simp, by simp⟩
theorem Bx4.below {B : Nat} {k : Int} {vs vc vh : Value} {W W' : World} (h : Bx4 B k vs vc vh W) (hb : Below W.heap.size W W') : Bx4 B k vs vc vh W' :=
  ⟨Nat.lt_of_lt_of_le h.lt hb.size, (hb.cell h.lt).trans h.g0, (hb.cell h.lt).trans h.g1, (hb.cell h.lt).trans h.g2, (hb.cell h.lt).trans h.g3⟩

set_option maxHeartbeats 4000000 in
set_option maxRecDepth 100000 in
theorem make_any (y : VX) (s c : Int) (w : World) (h : IsX w y) :
    Calls Try.prog 5 #[y.val, .int .i64 s, .int .i64 c] w fun e w' => ∃ v, e = .returned (.tuple #[v, .int .i64 (makeE y s c)]) ∧ IsI w' v (makeR y s c) ∧ Below w.heap.size w w' := by
  have hb : ∀ o, Below w.heap.size w (w.alloc o) := fun o => (Below.refl _ _).alloc (Nat.le_refl _) _
  have c10 := fun o => Xb.check_any y (w.alloc o) (h.below (hb o))
  by_cases hck : checkX y.lex = 0
  · have hlens := lens_of hck
    rw [show makeE y s c = if (fitX y s c).isSome then 0 else 5 from if_pos hck, show makeR y s c = (match fitX y s c with | some (a, b) => formX (chs y.xs) a.2 b.2 | none => []) from if_pos hck]
    rw [hck] at c10
    have hfo := fun W (hW : Below w.heap.size w W) a b (ha : stQ W a) (hb : ceQ W b) hl => formOf_any y a b W ((h.below hW).h) ha hb hl
    obtain ⟨k, vs, vc, vh, sts, ces, xs⟩ := y
    dsimp only at hlens
    have hS := h.s
    have hCe := h.c
    dsimp only at hS hCe
    obtain ⟨aS, cs, hv, _, _⟩ := IsR.len hS
    subst hv
    obtain ⟨aC, cc, hv, _, _⟩ := IsR.len hCe
    subst hv
    simp only [VX.val] at c10 hfo ⊢
    have bx0 := Bx4.new w k (.slice aS sts.length cs) (.slice aC ces.length cc) vh
    clear h hck
    by_cases h1 : s < 0
    · rw [show fitX ⟨k, .slice aS sts.length cs, .slice aC ces.length cc, vh, sts, ces, xs⟩ s c = none from if_pos (.inl h1)]
      clear hfo hS hCe
      go_enter Try.func5, Try.ntmps5
      go_wp2_with (go_at_call 10; refine (c10 _).mono ?_; rintro e w1 ⟨rfl, hb1⟩; have B1 := (hb _).trans (hb1.mono (hb _).size); have x1 := bx0.below hb1; have p1 := x1.g1; have p2 := x1.g2)
      go_quiet (fail)
      go_wp2
      go_ret2
      exact ⟨_, rfl, isI_nil _, below_drewN' B1 _⟩
    have d1 : decide (s < 0) = false := decide_eq_false h1
    by_cases h2 : (sts.length : Int) ≤ s
    · rw [show fitX ⟨k, .slice aS sts.length cs, .slice aC ces.length cc, vh, sts, ces, xs⟩ s c = none from if_pos (.inr (.inl h2))]
      clear hfo hS hCe
      go_enter Try.func5, Try.ntmps5
      go_wp2_with (go_at_call 10; refine (c10 _).mono ?_; rintro e w1 ⟨rfl, hb1⟩; have B1 := (hb _).trans (hb1.mono (hb _).size); have x1 := bx0.below hb1; have p1 := x1.g1; have p2 := x1.g2)
      go_quiet (fail)
      go_wp2
      go_ret2
      exact ⟨_, rfl, isI_nil _, below_drewN' B1 _⟩
    have d2 : decide ((sts.length : Int) ≤ s) = false := decide_eq_false h2
    by_cases h3 : c < 0
    · rw [show fitX ⟨k, .slice aS sts.length cs, .slice aC ces.length cc, vh, sts, ces, xs⟩ s c = none from if_pos (.inr (.inr (.inl h3)))]
      clear hfo hS hCe
      go_enter Try.func5, Try.ntmps5
      go_wp2_with (go_at_call 10; refine (c10 _).mono ?_; rintro e w1 ⟨rfl, hb1⟩; have B1 := (hb _).trans (hb1.mono (hb _).size); have x1 := bx0.below hb1; have p1 := x1.g1; have p2 := x1.g2)
      go_quiet (fail)
      go_wp2
      go_ret2
      exact ⟨_, rfl, isI_nil _, below_drewN' B1 _⟩
    have d3 : decide (c < 0) = false := decide_eq_false h3
    by_cases h4 : (ces.length : Int) ≤ c
    · rw [show fitX ⟨k, .slice aS sts.length cs, .slice aC ces.length cc, vh, sts, ces, xs⟩ s c = none from if_pos (.inr (.inr (.inr h4)))]
      clear hfo hS hCe
      go_enter Try.func5, Try.ntmps5
      go_wp2_with (go_at_call 10; refine (c10 _).mono ?_; rintro e w1 ⟨rfl, hb1⟩; have B1 := (hb _).trans (hb1.mono (hb _).size); have x1 := bx0.below hb1; have p1 := x1.g1; have p2 := x1.g2)
      go_quiet (fail)
      go_wp2
      go_ret2
      exact ⟨_, rfl, isI_nil _, below_drewN' B1 _⟩
    have d4 : decide ((ces.length : Int) ≤ c) = false := decide_eq_false h4
    obtain ⟨i, rfl⟩ : ∃ i : Nat, s = i := ⟨s.toNat, by omega⟩
    obtain ⟨j, rfl⟩ : ∃ j : Nat, c = j := ⟨c.toNat, by omega⟩
    have hi : i < sts.length := by omega
    have hj : j < ces.length := by omega
    have hfit : fitX ⟨k, .slice aS sts.length cs, .slice aC ces.length cc, vh, sts, ces, xs⟩ (i : Int) (j : Int) = if (sts[i]).2.cls = (ces[j]).2.cls then some (sts[i], ces[j]) else none := by
      unfold fitX
      dsimp only
      rw [if_neg (by omega), Int.toNat_natCast, Int.toNat_natCast, List.getElem?_eq_getElem hi, List.getElem?_eq_getElem hj]
    rw [hfit]
    clear hfit
    obtain ⟨bS, oS, rfl⟩ := row_some hS (by omega)
    obtain ⟨bC, oC, rfl⟩ := row_some hCe (by omega)
    have hls := hlens.1 _ (List.getElem_mem hi)
    have hlc := hlens.2 _ (List.getElem_mem hj)
    have RS := fun W (hW : Below w.heap.size w W) => row_cells (f := stc) (k := 2) (fun _ => rfl) (IsR.below stQ_up hS hW) i hi
    have RC := fun W (hW : Below w.heap.size w W) => row_cells (f := cec) (k := 3) (fun _ => rfl) (IsR.below ceQ_up hCe hW) j hj
    obtain ⟨a, ha⟩ : ∃ a, sts[i] = a := ⟨_, rfl⟩
    obtain ⟨b, hbb⟩ : ∃ b, ces[j] = b := ⟨_, rfl⟩
    rw [ha] at RS hls ⊢
    rw [hbb] at RC hlc ⊢
    obtain ⟨vf, st⟩ := a
    obtain ⟨⟨vb, ve⟩, ce⟩ := b
    dsimp only at hls hlc ⊢
    have r1 : ∀ W, Below w.heap.size w W → W.cell? ⟨bS, oS + i * 2, none⟩ = some vf ∧ W.cell? ⟨bS, oS + i * 2 + 1, none⟩ = some (.int .i64 st.cls) ∧ stQ W (vf, st) := fun W hW => ⟨(RS W hW).2.1 0 _ (by omega) rfl, (RS W hW).2.1 1 _ (by omega) rfl, (RS W hW).2.2⟩
    have r2 : ∀ W, Below w.heap.size w W → W.cell? ⟨bC, oC + j * 3, none⟩ = some (.int .i64 ce.cls) ∧ W.cell? ⟨bC, oC + j * 3 + 1, none⟩ = some vb ∧ W.cell? ⟨bC, oC + j * 3 + 2, none⟩ = some ve ∧ ceQ W ((vb, ve), ce) := fun W hW => ⟨(RC W hW).2.1 0 _ (by omega) rfl, (RC W hW).2.1 1 _ (by omega) rfl, (RC W hW).2.1 2 _ (by omega) rfl, (RC W hW).2.2⟩
    clear RS RC ha hbb hS hCe
    by_cases hcl : st.cls = ce.cls
    · rw [if_pos hcl]
      dsimp only
      have c18 := fun W hW => hfo W hW (vf, st) ((vb, ve), ce) (r1 W hW).2.2 (r2 W hW).2.2.2 (by dsimp only; omega)
      dsimp only at c18
      simp only [hcl] at c18
      have r1c : ∀ W, Below w.heap.size w W → W.cell? ⟨bS, oS + i * 2, none⟩ = some vf ∧ W.cell? ⟨bS, oS + i * 2 + 1, none⟩ = some (.int .i64 ce.cls) := fun W hW => ⟨(r1 W hW).1, by rw [← hcl]; exact (r1 W hW).2.1⟩
      obtain ⟨res, hres⟩ : ∃ z, formX (chs xs) st ce = z := ⟨_, rfl⟩
      rw [hres] at c18 ⊢
      clear hfo hres r1 hcl
      go_enter Try.func5, Try.ntmps5
      go_wp2_with (go_at_call 10; refine (c10 _).mono ?_; rintro e w1 ⟨rfl, hb1⟩; have B1 := (hb _).trans (hb1.mono (hb _).size); have x1 := bx0.below hb1; have p1 := x1.g1; have p2 := x1.g2; obtain ⟨q0, q1⟩ := r1c _ B1; obtain ⟨z0, z1, z2, _⟩ := r2 _ B1)
      go_quiet (fail)
      go_wp2
      obtain ⟨W1, hW1⟩ : ∃ W1, w1.drewN nq = W1 := ⟨_, rfl⟩
      have BW : Below w.heap.size w W1 := by rw [← hW1]; exact below_drewN' B1 _
      have y1 : Bx4 w.heap.size k (.slice (some ⟨bS, oS, none⟩) sts.length cs) (.slice (some ⟨bC, oC, none⟩) ces.length cc) vh W1 := by rw [← hW1]; exact x1.below (below_drewN' (Below.refl _ _) _)
      rw [hW1]
      clear hW1 p1 p2 q0 q1 z0 z1 z2 hb1 B1 x1 c10
      obtain ⟨_, y10, y11, y12, y13⟩ := y1
      obtain ⟨q0, q1⟩ := r1c _ BW
      obtain ⟨z0, z1, z2, _⟩ := r2 _ BW
      have BD : Below w.heap.size w W1.drew := BW.drew
      have KP : ∀ w2 : World, Below W1.drew.heap.size W1.drew w2 → w2.cell? ⟨w.heap.size, 0, none⟩ = some (.int .i64 k) ∧ w2.cell? ⟨w.heap.size, 1, none⟩ = some (.slice (some ⟨bS, oS, none⟩) sts.length cs) ∧ w2.cell? ⟨w.heap.size, 2, none⟩ = some (.slice (some ⟨bC, oC, none⟩) ces.length cc) ∧ w2.cell? ⟨w.heap.size, 3, none⟩ = some vh ∧ w2.cell? ⟨bS, oS + i * 2, none⟩ = some vf ∧ w2.cell? ⟨bS, oS + i * 2 + 1, none⟩ = some (.int .i64 ce.cls) ∧ w2.cell? ⟨bC, oC + j * 3, none⟩ = some (.int .i64 ce.cls) ∧ w2.cell? ⟨bC, oC + j * 3 + 1, none⟩ = some vb ∧ w2.cell? ⟨bC, oC + j * 3 + 2, none⟩ = some ve := by
        intro w2 hb2
        exact ⟨(hb2.cell (World.block_lt_of_cell? _ _ y10)).trans y10, (hb2.cell (World.block_lt_of_cell? _ _ y11)).trans y11, (hb2.cell (World.block_lt_of_cell? _ _ y12)).trans y12, (hb2.cell (World.block_lt_of_cell? _ _ y13)).trans y13, (hb2.cell (World.block_lt_of_cell? _ _ q0)).trans q0, (hb2.cell (World.block_lt_of_cell? _ _ q1)).trans q1, (hb2.cell (World.block_lt_of_cell? _ _ z0)).trans z0, (hb2.cell (World.block_lt_of_cell? _ _ z1)).trans z1, (hb2.cell (World.block_lt_of_cell? _ _ z2)).trans z2⟩
      go_region_held3 (fun w2 => w2.cell? ⟨w.heap.size, 0, none⟩ = some (.int .i64 k) ∧ w2.cell? ⟨w.heap.size, 1, none⟩ = some (.slice (some ⟨bS, oS, none⟩) sts.length cs) ∧ w2.cell? ⟨w.heap.size, 2, none⟩ = some (.slice (some ⟨bC, oC, none⟩) ces.length cc) ∧ w2.cell? ⟨w.heap.size, 3, none⟩ = some vh ∧ w2.cell? ⟨bS, oS + i * 2, none⟩ = some vf ∧ w2.cell? ⟨bS, oS + i * 2 + 1, none⟩ = some (.int .i64 ce.cls) ∧ w2.cell? ⟨bC, oC + j * 3, none⟩ = some (.int .i64 ce.cls) ∧ w2.cell? ⟨bC, oC + j * 3 + 1, none⟩ = some vb ∧ w2.cell? ⟨bC, oC + j * 3 + 2, none⟩ = some ve) (first | exact KP _ (Below.refl _ _) | assumption | go_keep)
        (first
          | (go_at_call 18; refine (c18 _ BD).mono ?_; rintro e w3 ⟨v3, rfl, hI3, hbe3⟩; have HK := KP _ hbe3))
      all_goals go_wp2
      all_goals go_ret2
      all_goals exact ⟨_, rfl, hI3, BD.trans (hbe3.mono BD.size)⟩
    · rw [if_neg hcl]
      have dc : (st.cls == ce.cls) = false := by simpa using hcl
      have dc2 : (st.cls != ce.cls) = true := by simpa using hcl
      clear hfo
      go_enter Try.func5, Try.ntmps5
      go_wp2_with (go_at_call 10; refine (c10 _).mono ?_; rintro e w1 ⟨rfl, hb1⟩; have B1 := (hb _).trans (hb1.mono (hb _).size); have x1 := bx0.below hb1; have p1 := x1.g1; have p2 := x1.g2; obtain ⟨q0, q1, _⟩ := r1 _ B1; obtain ⟨z0, z1, z2, _⟩ := r2 _ B1)
      go_quiet (fail)
      go_wp2
      go_ret2
      exact ⟨_, rfl, isI_nil _, below_drewN' B1 _⟩
  · have hne : (checkX y.lex == 0) = false := by simpa using hck
    rw [show makeE y s c = checkX y.lex from if_neg hck, show makeR y s c = [] from if_neg hck]
    generalize checkX y.lex = r at c10 hne ⊢
    obtain ⟨k, vs, vc, vh, sts, ces, xs⟩ := y
    simp only [VX.val] at c10 ⊢
    clear h hck
    go_enter Try.func5, Try.ntmps5
    go_wp2_with (go_at_call 10; refine (c10 _).mono ?_; rintro e w1 ⟨rfl, hb1⟩)
    go_ret2
    exact ⟨_, rfl, isI_nil _, (hb _).trans (hb1.mono (hb _).size)⟩
end Go.Proofs.Ytkcbgapakpheiaa.Mk
