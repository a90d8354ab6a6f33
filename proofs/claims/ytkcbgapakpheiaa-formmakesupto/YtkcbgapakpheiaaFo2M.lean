/- The program's formOf: what All makes of what stands before, the stem and what stands behind. Condition: together they have at most 1000 symbols. -/
import Derived.Test.YtkcbgapakpheiaaXb
import Derived.Test.YtkcbgapakpheiaaCi
import Derived.Test.YtkcbgapakpheiaaAl2M
import Derived.Deep.RegionHeld3
namespace Go.Proofs.Ytkcbgapakpheiaa.Fo
open Go.RowKit Go.Shelf Sd Md Sc Aq Ls Lx Ly Lz

theorem newcs (W : World) (cs : Array Value) (t n j : Nat) (h : W.heap.size = n) : (W.alloc (.cells cs t)).cell? ⟨n, j, none⟩ = cs[j]? := by
  subst h
  simp
def formX (l : List Ch) (s : St) (c : Ce) : List Int := allR l (c.bef ++ s.form ++ c.beh)

set_option maxHeartbeats 4000000 in
set_option maxRecDepth 100000 in
theorem formOf_any (y : VX) (s : VSt) (c : VCe) (w : World) (h : IsL w y.vh y.xs) (hs : stQ w s) (hc : ceQ w c) (hl : c.2.bef.length + s.2.form.length + c.2.beh.length ≤ 1000) :
    Calls Try.prog 18 #[y.val, .agg #[s.1, .int .i64 s.2.cls], .agg #[.int .i64 c.2.cls, c.1.1, c.1.2]] w fun e w' => ∃ v, e = .returned v ∧ IsI w' v (formX (chs y.xs) s.2 c.2) ∧ Below w.heap.size w w' := by
  obtain ⟨k, vs, vc, vh, sts, ces, xs⟩ := y
  obtain ⟨vf, st⟩ := s
  obtain ⟨⟨vb, ve⟩, ce⟩ := c
  have hf : IsI w vf st.form := hs
  have hbf : IsI w vb ce.bef := hc.1
  have hbe : IsI w ve ce.beh := hc.2
  dsimp only at h hl
  simp only [VX.val]
  have c28 := fun W (hW : Below w.heap.size w W) v t (ht : IsI W v t) => Al.all_any vh v xs t W (h.below (Nat.le_refl _) hW) ht
  have c29 : ∀ (W : World) (B : Nat), Below w.heap.size w W → B < W.heap.size → W.cell? ⟨B, 0, none⟩ = some vb → W.cell? ⟨B, 1, none⟩ = some vf → W.cell? ⟨B, 2, none⟩ = some ve → Calls Try.prog 29 #[.slice (some ⟨B, 0, none⟩) 3 3] W fun e w' => ∃ v, e = .returned v ∧ IsI w' v (ce.bef ++ st.form ++ ce.beh) ∧ Below W.heap.size W w' :=
    fun W B hW hB h0 h1 h2 => Ci.concat_any B vb vf ve ce.bef st.form ce.beh W hB h0 h1 h2 (hbf.below (Nat.le_refl _) hW) (hf.below (Nat.le_refl _) hW) (hbe.below (Nat.le_refl _) hW) hl
  unfold formX
  generalize hres : allR (chs xs) (ce.bef ++ st.form ++ ce.beh) = res
  obtain ⟨af, cf, hv, _, _⟩ := hf.len
  subst hv
  obtain ⟨ab, cb, hv, _, _⟩ := hbf.len
  subst hv
  obtain ⟨ae, ce', hv, _, _⟩ := hbe.len
  subst hv
  have hb1 : ∀ (W : World) (o : Obj), Below W.heap.size W (W.alloc o) := fun W o => (Below.refl _ _).alloc (Nat.le_refl _) _
  have hb3 : ∀ o1 o2 o3, Below w.heap.size w (((w.alloc o1).alloc o2).alloc o3) := fun o1 o2 o3 => (((Below.refl _ w).alloc (Nat.le_refl _) o1).alloc (by simp) o2).alloc (by simp; omega) o3
  go_enter Try.func18, Try.ntmps18
  go_wp2
  obtain ⟨W, hW⟩ : ∃ W, (((w.alloc (.cells #[.int .i64 k, vs, vc, vh] 26)).alloc (.cells #[.slice af st.form.length cf, .int .i64 st.cls] 51)).alloc (.cells #[.int .i64 ce.cls, .slice ab ce.bef.length cb, .slice ae ce.beh.length ce'] 53)) = W := ⟨_, rfl⟩
  have B0 : Below w.heap.size w W := by rw [← hW]; exact hb3 _ _ _
  have e3 : W.cell? ⟨w.heap.size, 3, none⟩ = some vh := by
    rw [← hW, (hb1 _ _).cell (by simp; omega), (hb1 _ _).cell (by simp)]
    simp
  have e0 : W.cell? ⟨w.heap.size + 1, 0, none⟩ = some (.slice af st.form.length cf) := by
    rw [← hW, (hb1 _ _).cell (by simp)]
    simp
  have e1 : W.cell? ⟨w.heap.size + 1 + 1, 1, none⟩ = some (.slice ab ce.bef.length cb) := by
    rw [← hW]
    exact newcs _ _ 53 _ 1 (by rw [World.size_alloc, World.size_alloc])
  have e2 : W.cell? ⟨w.heap.size + 1 + 1, 2, none⟩ = some (.slice ae ce.beh.length ce') := by
    rw [← hW]
    exact newcs _ _ 53 _ 2 (by rw [World.size_alloc, World.size_alloc])
  have hsz : W.heap.size = w.heap.size + 3 := by rw [← hW]; simp
  rw [hW]
  clear hW hb3
  have HSZ : Hid (W.heap.size = w.heap.size + 3) := hsz
  clear hsz
  have BW : ∀ o, Below w.heap.size w (W.alloc o).drew := fun o => (B0.alloc B0.size o).drew
  have BX : ∀ o, Below W.heap.size W (W.alloc o).drew := fun o => ((Below.refl _ _).alloc (Nat.le_refl _) o).drew
  have KP : ∀ (o : Obj) (w1 : World), Below (W.alloc o).drew.heap.size (W.alloc o).drew w1 → Below w.heap.size w w1 ∧ w1.cell? ⟨w.heap.size, 3, none⟩ = some vh ∧ w1.cell? ⟨w.heap.size + 1, 0, none⟩ = some (.slice af st.form.length cf) ∧ w1.cell? ⟨w.heap.size + 1 + 1, 1, none⟩ = some (.slice ab ce.bef.length cb) ∧ w1.cell? ⟨w.heap.size + 1 + 1, 2, none⟩ = some (.slice ae ce.beh.length ce') := by
    intro o w1 hb
    have bx := (BX o).trans (hb.mono (BX o).size)
    have hz := HSZ.out
    exact ⟨(BW o).trans (hb.mono (BW o).size), (bx.cell (by show w.heap.size < _; omega)).trans e3, (bx.cell (by show w.heap.size + 1 < _; omega)).trans e0, (bx.cell (by show w.heap.size + 1 + 1 < _; omega)).trans e1, (bx.cell (by show w.heap.size + 1 + 1 < _; omega)).trans e2⟩
  clear hb1 hf hbf hbe hs hc hl h
  go_region_held3 (fun w' => w'.cell? ⟨w.heap.size, 3, none⟩ = some vh ∧ w'.cell? ⟨w.heap.size + 1, 0, none⟩ = some (.slice af st.form.length cf) ∧ w'.cell? ⟨w.heap.size + 1 + 1, 1, none⟩ = some (.slice ab ce.bef.length cb) ∧ w'.cell? ⟨w.heap.size + 1 + 1, 2, none⟩ = some (.slice ae ce.beh.length ce')) (first | (refine ⟨?_, ?_, ?_, ?_⟩ <;> assumption) | go_keep)
    (first
      | (go_at_call 29; refine (c29 _ _ (BW _) (by simp) (by simp) (by simp) (by simp)).mono ?_; rintro e w1 ⟨v1, rfl, hI1, hbe1⟩; obtain ⟨B1, f3, f0, f1, f2⟩ := KP _ _ hbe1)
      | (go_at_call 28; refine (c28 _ B1 _ _ hI1).mono ?_; rintro e w2 ⟨v2, rfl, hI2, hbe2⟩; have f3' := (hbe2.cell (p := ⟨w.heap.size, 3, none⟩) (World.block_lt_of_cell? _ _ f3)).trans f3; have f0' := (hbe2.cell (p := ⟨w.heap.size + 1, 0, none⟩) (World.block_lt_of_cell? _ _ f0)).trans f0; have f1' := (hbe2.cell (p := ⟨w.heap.size + 1 + 1, 1, none⟩) (World.block_lt_of_cell? _ _ f1)).trans f1; have f2' := (hbe2.cell (p := ⟨w.heap.size + 1 + 1, 2, none⟩) (World.block_lt_of_cell? _ _ f2)).trans f2))
  all_goals go_wp2
  all_goals go_ret
  all_goals exact ⟨_, rfl, by rw [← hres]; exact hI2, B1.trans (hbe2.mono B1.size)⟩
end Go.Proofs.Ytkcbgapakpheiaa.Fo
/- The program's formOf: what it hands back is new. Condition: together the parts have at most 1000 symbols. -/
namespace Go.Proofs.Ytkcbgapakpheiaa.Fo2
open Go.RowKit Go.Shelf Sd Md Sc Aq Ls Lx Ly Lz Fo Al2

set_option maxHeartbeats 4000000 in
set_option maxRecDepth 100000 in
theorem formOf_new (y : VX) (s : VSt) (c : VCe) (w : World) (h : IsL w y.vh y.xs) (hs : stQ w s) (hc : ceQ w c) (hl : c.2.bef.length + s.2.form.length + c.2.beh.length ≤ 1000) :
    Calls Try.prog 18 #[y.val, .agg #[s.1, .int .i64 s.2.cls], .agg #[.int .i64 c.2.cls, c.1.1, c.1.2]] w fun e w' => ∃ v, e = .returned v ∧ IsI w' v (formX (chs y.xs) s.2 c.2) ∧ Fresh w.heap.size v ∧ Below w.heap.size w w' := by
  obtain ⟨k, vs, vc, vh, sts, ces, xs⟩ := y
  obtain ⟨vf, st⟩ := s
  obtain ⟨⟨vb, ve⟩, ce⟩ := c
  have hf : IsI w vf st.form := hs
  have hbf : IsI w vb ce.bef := hc.1
  have hbe : IsI w ve ce.beh := hc.2
  dsimp only at h hl
  simp only [VX.val]
  have c28 := fun W (hW : Below w.heap.size w W) v t (ht : IsI W v t) => all_new vh v xs t W (h.below (Nat.le_refl _) hW) ht
  have c29 : ∀ (W : World) (B : Nat), Below w.heap.size w W → B < W.heap.size → W.cell? ⟨B, 0, none⟩ = some vb → W.cell? ⟨B, 1, none⟩ = some vf → W.cell? ⟨B, 2, none⟩ = some ve → Calls Try.prog 29 #[.slice (some ⟨B, 0, none⟩) 3 3] W fun e w' => ∃ v, e = .returned v ∧ IsI w' v (ce.bef ++ st.form ++ ce.beh) ∧ Below W.heap.size W w' :=
    fun W B hW hB h0 h1 h2 => Ci.concat_any B vb vf ve ce.bef st.form ce.beh W hB h0 h1 h2 (hbf.below (Nat.le_refl _) hW) (hf.below (Nat.le_refl _) hW) (hbe.below (Nat.le_refl _) hW) hl
  unfold formX
  generalize hres : allR (chs xs) (ce.bef ++ st.form ++ ce.beh) = res
  obtain ⟨af, cf, hv, _, _⟩ := hf.len
  subst hv
  obtain ⟨ab, cb, hv, _, _⟩ := hbf.len
  subst hv
  obtain ⟨ae, ce', hv, _, _⟩ := hbe.len
  subst hv
  have hb1 : ∀ (W : World) (o : Obj), Below W.heap.size W (W.alloc o) := fun W o => (Below.refl _ _).alloc (Nat.le_refl _) _
  have hb3 : ∀ o1 o2 o3, Below w.heap.size w (((w.alloc o1).alloc o2).alloc o3) := fun o1 o2 o3 => (((Below.refl _ w).alloc (Nat.le_refl _) o1).alloc (by simp) o2).alloc (by simp; omega) o3
  go_enter Try.func18, Try.ntmps18
  go_wp2
  obtain ⟨W, hW⟩ : ∃ W, (((w.alloc (.cells #[.int .i64 k, vs, vc, vh] 26)).alloc (.cells #[.slice af st.form.length cf, .int .i64 st.cls] 51)).alloc (.cells #[.int .i64 ce.cls, .slice ab ce.bef.length cb, .slice ae ce.beh.length ce'] 53)) = W := ⟨_, rfl⟩
  have B0 : Below w.heap.size w W := by rw [← hW]; exact hb3 _ _ _
  have e3 : W.cell? ⟨w.heap.size, 3, none⟩ = some vh := by
    rw [← hW, (hb1 _ _).cell (by simp; omega), (hb1 _ _).cell (by simp)]
    simp
  have e0 : W.cell? ⟨w.heap.size + 1, 0, none⟩ = some (.slice af st.form.length cf) := by
    rw [← hW, (hb1 _ _).cell (by simp)]
    simp
  have e1 : W.cell? ⟨w.heap.size + 1 + 1, 1, none⟩ = some (.slice ab ce.bef.length cb) := by
    rw [← hW]
    exact newcs _ _ 53 _ 1 (by rw [World.size_alloc, World.size_alloc])
  have e2 : W.cell? ⟨w.heap.size + 1 + 1, 2, none⟩ = some (.slice ae ce.beh.length ce') := by
    rw [← hW]
    exact newcs _ _ 53 _ 2 (by rw [World.size_alloc, World.size_alloc])
  have hsz : W.heap.size = w.heap.size + 3 := by rw [← hW]; simp
  rw [hW]
  clear hW hb3
  have HSZ : Hid (W.heap.size = w.heap.size + 3) := hsz
  clear hsz
  have BW : ∀ o, Below w.heap.size w (W.alloc o).drew := fun o => (B0.alloc B0.size o).drew
  have BX : ∀ o, Below W.heap.size W (W.alloc o).drew := fun o => ((Below.refl _ _).alloc (Nat.le_refl _) o).drew
  have KP : ∀ (o : Obj) (w1 : World), Below (W.alloc o).drew.heap.size (W.alloc o).drew w1 → Below w.heap.size w w1 ∧ w1.cell? ⟨w.heap.size, 3, none⟩ = some vh ∧ w1.cell? ⟨w.heap.size + 1, 0, none⟩ = some (.slice af st.form.length cf) ∧ w1.cell? ⟨w.heap.size + 1 + 1, 1, none⟩ = some (.slice ab ce.bef.length cb) ∧ w1.cell? ⟨w.heap.size + 1 + 1, 2, none⟩ = some (.slice ae ce.beh.length ce') := by
    intro o w1 hb
    have bx := (BX o).trans (hb.mono (BX o).size)
    have hz := HSZ.out
    exact ⟨(BW o).trans (hb.mono (BW o).size), (bx.cell (by show w.heap.size < _; omega)).trans e3, (bx.cell (by show w.heap.size + 1 < _; omega)).trans e0, (bx.cell (by show w.heap.size + 1 + 1 < _; omega)).trans e1, (bx.cell (by show w.heap.size + 1 + 1 < _; omega)).trans e2⟩
  clear hb1 hf hbf hbe hs hc hl h
  go_region_held3 (fun w' => w'.cell? ⟨w.heap.size, 3, none⟩ = some vh ∧ w'.cell? ⟨w.heap.size + 1, 0, none⟩ = some (.slice af st.form.length cf) ∧ w'.cell? ⟨w.heap.size + 1 + 1, 1, none⟩ = some (.slice ab ce.bef.length cb) ∧ w'.cell? ⟨w.heap.size + 1 + 1, 2, none⟩ = some (.slice ae ce.beh.length ce')) (first | (refine ⟨?_, ?_, ?_, ?_⟩ <;> assumption) | go_keep)
    (first
      | (go_at_call 29; refine (c29 _ _ (BW _) (by simp) (by simp) (by simp) (by simp)).mono ?_; rintro e w1 ⟨v1, rfl, hI1, hbe1⟩; obtain ⟨B1, f3, f0, f1, f2⟩ := KP _ _ hbe1)
      | (go_at_call 28; refine (c28 _ B1 _ _ hI1).mono ?_; rintro e w2 ⟨v2, rfl, hI2, hF2, hbe2⟩; have f3' := (hbe2.cell (p := ⟨w.heap.size, 3, none⟩) (World.block_lt_of_cell? _ _ f3)).trans f3; have f0' := (hbe2.cell (p := ⟨w.heap.size + 1, 0, none⟩) (World.block_lt_of_cell? _ _ f0)).trans f0; have f1' := (hbe2.cell (p := ⟨w.heap.size + 1 + 1, 1, none⟩) (World.block_lt_of_cell? _ _ f1)).trans f1; have f2' := (hbe2.cell (p := ⟨w.heap.size + 1 + 1, 2, none⟩) (World.block_lt_of_cell? _ _ f2)).trans f2))
  all_goals go_wp2
  all_goals go_ret
  all_goals exact ⟨_, rfl, by rw [← hres]; exact hI2, hF2.mono B1.size, B1.trans (hbe2.mono B1.size)⟩
end Go.Proofs.Ytkcbgapakpheiaa.Fo2
