/- fill (40): a place of the tables is filled. Conditions: at most 12 words, scores of no great size; the tables lie apart from the scores. -/
import Derived.Test.YtpolnkdbebjpnaaNc
import Derived.Test.YtpolnkdbebjpnaaZz
namespace Go.Proofs.Ytpolnkdbebjpnaa.Hd
open Go.RowKit Zz

/-- what lies about while a place is filled -/
structure Fw (w W : World) (q1 q2 q3 p8 p a b : Nat) (B : Int) (P : Nat) (C : Nat → Int) : Prop where
  fv : Fv W q1 q2 q3 p a b C
  b8 : W.heap[p8]? = some (.cells #[.int .i64 B, .int .i64 (P : Int)] 52 (0, 0))
  kp : Kp (fun k => k = p) w W
  n8 : p8 ≠ p
  n1 : q1 ≠ p
  n2 : q2 ≠ p
  n3 : q3 ≠ p
theorem Fv.kept {W W' : World} {q1 q2 q3 p a b : Nat} {C : Nat → Int} (h : Fv W q1 q2 q3 p a b C) (hk : Kp (fun _ => False) W W') : Fv W' q1 q2 q3 p a b C :=
  ⟨(Kp.cell hk (World.block_lt_of_cell? _ _ h.c1) id).trans h.c1, (Kp.cell hk (World.block_lt_of_cell? _ _ h.c2) id).trans h.c2, (Kp.cell hk (World.block_lt_of_cell? _ _ h.c3) id).trans h.c3, h.pz.kept hk id⟩
section
variable {w W W' : World} {q1 q2 q3 p8 p a b : Nat} {B : Int} {P : Nat} {C : Nat → Int}
theorem Fw.laid (h : Fw w W q1 q2 q3 p8 p a b B P C) (hk : Kp (fun _ => False) W W') : Fw w W' q1 q2 q3 p8 p a b B P C :=
  ⟨h.fv.kept hk, (hk.block _ (lt_at h.b8) id).trans h.b8, kp_then h.kp hk (fun _ _ e => e.elim), h.n8, h.n1, h.n2, h.n3⟩
theorem Fw.set (h : Fw w W q1 q2 q3 p8 p a b B P C) (f e a' b' : Nat) (x y : Int) (hi : inT f e a' b') : Fw w ((W.setCell ⟨p, ix f e a' b', none⟩ (.int .i64 x)).setCell ⟨p, ix f e a' b' + 1, none⟩ (.int .i64 y)) q1 q2 q3 p8 p a b B P (up2 C f e a' b' x y) := by
  have k1 : Kp (fun k => k = p) W (W.setCell ⟨p, ix f e a' b', none⟩ (.int .i64 x)) := (Kp.refl _ W).setCell _ _ _ (fun _ => rfl)
  have k2 : Kp (fun k => k = p) W ((W.setCell ⟨p, ix f e a' b', none⟩ (.int .i64 x)).setCell ⟨p, ix f e a' b' + 1, none⟩ (.int .i64 y)) := k1.setCell _ _ _ (fun _ => rfl)
  exact ⟨⟨(Kp.cell k2 (World.block_lt_of_cell? _ _ h.fv.c1) h.n1).trans h.fv.c1, (Kp.cell k2 (World.block_lt_of_cell? _ _ h.fv.c2) h.n2).trans h.fv.c2, (Kp.cell k2 (World.block_lt_of_cell? _ _ h.fv.c3) h.n3).trans h.fv.c3, h.fv.pz.set2 f e a' b' x y hi⟩, (k2.block _ (lt_at h.b8) h.n8).trans h.b8, kp_then h.kp k2 (fun _ _ e => e), h.n8, h.n1, h.n2, h.n3⟩
/-- what lies apart from the tables -/
theorem Fw.off (h : Fw w W q1 q2 q3 p8 p a b B P C) (hk : Kp (fun k => k = p) W W') : W'.cell? ⟨q1, 0, none⟩ = some (.pointer (some ⟨p, 0, none⟩)) ∧ W'.cell? ⟨q2, 0, none⟩ = some (.int .i64 (a : Int)) ∧ W'.cell? ⟨q3, 0, none⟩ = some (.int .i64 (b : Int)) ∧ W'.heap[p8]? = some (.cells #[.int .i64 B, .int .i64 (P : Int)] 52 (0, 0)) ∧ Kp (fun k => k = p) w W' :=
  ⟨(Kp.cell hk (World.block_lt_of_cell? _ _ h.fv.c1) h.n1).trans h.fv.c1, (Kp.cell hk (World.block_lt_of_cell? _ _ h.fv.c2) h.n2).trans h.fv.c2, (Kp.cell hk (World.block_lt_of_cell? _ _ h.fv.c3) h.n3).trans h.fv.c3, (hk.block _ (lt_at h.b8) h.n8).trans h.b8, kp_then h.kp hk (fun _ _ e => e)⟩
end
theorem fw_start (w w1 : World) (p a b : Nat) (C : Nat → Int) (hP : Pz w p C) (W0 : World) (hW0 : ((w.alloc (.cells #[.pointer (some ⟨p, 0, none⟩)] 71)).alloc (.cells #[.int .i64 (a : Int)] 3)).alloc (.cells #[.int .i64 (b : Int)] 3) = W0) :
    Fv W0 w.heap.size (w.heap.size + 1) (w.heap.size + 1 + 1) p a b C ∧ Below w.heap.size w W0 ∧ (Below W0.heap.size W0 w1 → ∀ (B : Int) (P : Nat), Fw w (w1.alloc (.cells #[.int .i64 B, .int .i64 (P : Int)] 52)) w.heap.size (w.heap.size + 1) (w.heap.size + 1 + 1) w1.heap.size p a b B P C) := by
  have s1 : (w.alloc (.cells #[.pointer (some ⟨p, 0, none⟩)] 71)).heap.size = w.heap.size + 1 := by simp
  have s2 : ((w.alloc (.cells #[.pointer (some ⟨p, 0, none⟩)] 71)).alloc (.cells #[.int .i64 (a : Int)] 3)).heap.size = w.heap.size + 1 + 1 := by simp
  have s3 : W0.heap.size = w.heap.size + 1 + 1 + 1 := by rw [← hW0]; simp
  have hpl := hP.lt
  have hb : Below w.heap.size w W0 := by
    rw [← hW0]
    exact (((Below.refl w.heap.size w).alloc (Nat.le_refl _) _).alloc (by omega) _).alloc (by omega) _
  have hf : Fv W0 w.heap.size (w.heap.size + 1) (w.heap.size + 1 + 1) p a b C := by
    refine ⟨cell_of_row _ _ 0 #[.pointer (some ⟨p, 0, none⟩)] 71 (0, 0) ?_, cell_of_row _ _ 0 #[.int .i64 (a : Int)] 3 (0, 0) ?_, cell_of_row _ _ 0 #[.int .i64 (b : Int)] 3 (0, 0) ?_, hP.below hb⟩
    · rw [← hW0, heap_alloc_old _ _ (by omega), heap_alloc_old _ _ (by omega)]; exact heap_alloc_new _ _
    · rw [← hW0, heap_alloc_old _ _ (by omega), ← s1]; exact heap_alloc_new _ _
    · rw [← hW0, ← s2]; exact heap_alloc_new _ _
  refine ⟨hf, hb, fun hb1 B P => ?_⟩
  have hb2 : Below W0.heap.size W0 (w1.alloc (.cells #[.int .i64 B, .int .i64 (P : Int)] 52)) := hb1.alloc hb1.size _
  have hs := hb1.size
  exact ⟨hf.below hb2, heap_alloc_new _ _, kp_below (hb.trans (hb2.mono (by omega))) _, by omega, by omega, by omega, by omega⟩
/-- end 0 is right still when end 1 is written -/
theorem ok0_up {s : Nat → Nat → Int} {C C' : Nat → Int} {a b : Nat} (h : Ok0 s C a b) (hab : a < b) (hb : b < 13) (ho : ∀ f e a' b', inT f e a' b' → ¬ (e = 1 ∧ a' = a ∧ b' = b) → C' (ix f e a' b') = C (ix f e a' b') ∧ C' (ix f e a' b' + 1) = C (ix f e a' b' + 1)) (_ha : 1 ≤ a) : Ok0 s C' a b := by
  obtain ⟨⟨P, p1, p2, p3, p4⟩, h2, ⟨c, c1, c2, c3, c4⟩, h4⟩ := h
  have e1 := ho 0 0 a b ⟨by decide, by decide, by omega, hb⟩ (by omega)
  have e2 := ho 1 0 a b ⟨by decide, by decide, by omega, hb⟩ (by omega)
  have g1 : ∀ p, a ≤ p → p < b → C' (ix 1 0 a p) = C (ix 1 0 a p) ∧ C' (ix 1 1 (p + 1) b) = C (ix 1 1 (p + 1) b) := fun p k1 k2 => ⟨(ho 1 0 a p ⟨by decide, by decide, by omega, by omega⟩ (by omega)).1, (ho 1 1 (p + 1) b ⟨by decide, by decide, by omega, hb⟩ (by omega)).1⟩
  have g2 : ∀ c, a < c → c ≤ b → C' (ix 0 0 a c) = C (ix 0 0 a c) ∧ C' (ix 1 0 c b) = C (ix 1 0 c b) := fun c k1 k2 => ⟨(ho 0 0 a c ⟨by decide, by decide, by omega, by omega⟩ (by omega)).1, (ho 1 0 c b ⟨by decide, by decide, by omega, hb⟩ (by omega)).1⟩
  refine ⟨⟨P, p1, p2, by rw [e1.2, p3], by rw [e1.1, p4, (g1 P p1 p2).1, (g1 P p1 p2).2]⟩, fun p k1 k2 => ?_, ⟨c, c1, c2, by rw [e2.2, c3], by rw [e2.1, c4, (g2 c c1 c2).1, (g2 c c1 c2).2]⟩, fun c k1 k2 => ?_⟩
  · rw [e1.1, (g1 p k1 k2).1, (g1 p k1 k2).2]; exact h2 p k1 k2
  · rw [e2.1, (g2 c k1 k2).1, (g2 c k1 k2).2]; exact h4 c k1 k2
theorem wrap_small {x : Int} (h : -1000000000 ≤ x ∧ x ≤ 1000000000) : IntKind.i64.wrap x = x := by rw [IntKind.wrap_i64]; omega
set_option maxHeartbeats 8000000 in
set_option maxRecDepth 100000 in
theorem fill_any (n q so cap p a b : Nat) (ra : Nat → Option Addr) (rc : Nat → Nat) (s : Nat → Nat → Int) (C : Nat → Int) (w : World) (hS : ∀ W, Kp (fun k => k = p) w W → Sc W q so n ra rc s) (hP : Pz w p C) (hbd : Bd C) (hn : n ≤ 12) (hab : a < b) (hb : b ≤ n)
    (hs : ∀ h x, h ≤ n → 1 ≤ x → x ≤ n → -1000000 ≤ s h x ∧ s h x ≤ 1000000) :
    Calls Try.prog 40 #[.pointer (some ⟨p, 0, none⟩), .slice (some ⟨q, so, none⟩) (n + 1) cap, .int .i64 (a : Int), .int .i64 (b : Int)] w fun e w' => e = .returned (.tuple #[]) ∧ ∃ C', Pz w' p C' ∧ Kp (fun k => k = p) w w' ∧ Ft s a b C C' := by
  have HS : Hid (∀ W, Kp (fun k => k = p) w W → Sc W q so n ra rc s) := hS
  have HN : Hid (n ≤ 12 ∧ a < b ∧ b ≤ n) := ⟨hn, hab, hb⟩
  have HBD : Hid (Bd C ∧ ∀ h x, h ≤ n → 1 ≤ x → x ≤ n → -1000000 ≤ s h x ∧ s h x ≤ 1000000) := ⟨hbd, hs⟩
  obtain ⟨m1, hm1⟩ : ∃ m, n + 1 = m := ⟨_, rfl⟩
  obtain ⟨b', hb'⟩ : ∃ y, b = y + 1 := ⟨b - 1, by omega⟩
  obtain ⟨a1, ha1⟩ : ∃ y, a + 1 = y := ⟨_, rfl⟩
  have HM : Hid (n + 1 = m1 ∧ b = b' + 1 ∧ a + 1 = a1) := ⟨hm1, hb', ha1⟩
  obtain ⟨W0, hW0⟩ : ∃ W0, ((w.alloc (.cells #[.pointer (some ⟨p, 0, none⟩)] 71)).alloc (.cells #[.int .i64 (a : Int)] 3)).alloc (.cells #[.int .i64 (b : Int)] 3) = W0 := ⟨_, rfl⟩
  rw [hm1]
  clear hm1 hs hS hb' ha1
  go_enter Try.func40, Try.ntmps40
  go_upto_region 1 with fail
  try rw [hW0]
  have hb' := HM.out.2.1
  have ha1 := HM.out.2.2
  obtain ⟨q1, hq1⟩ : ∃ q, w.heap.size = q := ⟨_, rfl⟩
  obtain ⟨q2, hq2⟩ : ∃ q, w.heap.size + 1 = q := ⟨_, rfl⟩
  obtain ⟨q3, hq3⟩ : ∃ q, w.heap.size + 1 + 1 = q := ⟨_, rfl⟩
  have HF0 : Hid (Fv W0 q1 q2 q3 p a b C) := by rw [← hq3, ← hq2, ← hq1]; exact (fw_start w w p a b C hP W0 hW0).1
  have HF1 : Hid (∀ w1, Below W0.heap.size W0 w1 → ∀ (B : Int) (P : Nat), Fw w (w1.alloc (.cells #[.int .i64 B, .int .i64 (P : Int)] 52)) q1 q2 q3 w1.heap.size p a b B P C) := by rw [← hq3, ← hq2, ← hq1]; exact fun w1 => (fw_start w w1 p a b C hP W0 hW0).2.2
  have K1 := high_1 (fun x => C (ix 1 0 a x) + C (ix 1 1 (x + 1) b)) a b' q1 q2 q3 W0 (by omega) (by omega) (fun x h1 h2 W hW => fill1_any x W (HF0.out.below hW) hbd.cs (by omega) (by omega) h1 (by omega))
  have wb : wrap64 ((b : Int) - 1) = (b' : Int) := by unfold wrap64; omega
  have z1 := HF0.out.c2
  have z2 := HF0.out.c3
  rw [hq3, hq2, hq1]
  clear hq1 hq2 hq3 hW0 hab hb hbd hb' ha1 hP hn
  go_upto_region 2 with (go_at_call 51; (with_reducible refine K1.mono ?_); clear K1; rintro e w1 ⟨P, rfl, hP1, hP2, hPm, hb1⟩; have HP : Hid (a ≤ P ∧ P < b ∧ ∀ p, a ≤ p → p ≤ b - 1 → C (ix 1 0 a p) + C (ix 1 1 (p + 1) b) ≤ C (ix 1 0 a P) + C (ix 1 1 (P + 1) b)) := (by have h := HM.out.2.1; exact ⟨hP1, by omega, fun p k1 k2 => hPm p k1 (by omega)⟩); have HW1 : Hid _ := HF1.out w1 hb1; clear hP1 hP2 hPm hb1)
  clear z1 z2 wb HF0 HF1
  obtain ⟨B, hB⟩ : ∃ B, C (ix 1 0 a P) + C (ix 1 1 (P + 1) b) = B := ⟨_, rfl⟩
  have HB : Hid (C (ix 1 0 a P) + C (ix 1 1 (P + 1) b) = B) := hB
  try dsimp only
  rw [hB]
  clear hB
  obtain ⟨p8, hp8⟩ : ∃ q, w1.heap.size = q := ⟨_, rfl⟩
  obtain ⟨W1, hW1⟩ : ∃ W, w1.alloc (.cells #[.int .i64 B, .int .i64 (P : Int)] 52) = W := ⟨_, rfl⟩
  have HE1 : Hid (Fw w W1 q1 q2 q3 p8 p a b B P C) := by rw [← hp8, ← hW1]; exact HW1.out B P
  rw [hW1, hp8]
  clear hW1 hp8 HW1
  have hn12 : n ≤ 12 := HN.out.1
  have hai : (a : Int) < 13 := by have := HN.out; omega
  have hbi : (b : Int) < 13 := by have := HN.out; omega
  have ham : (a : Int) < (m1 : Int) := by have := HN.out; have := HM.out; omega
  have hbm : (b : Int) < (m1 : Int) := by have := HN.out; have := HM.out; omega
  have hbn : (b' : Int) < (n : Int) := by have := HN.out; have := HM.out; omega
  have wb : IntKind.i64.wrap ((b : Int) - 1) = (b' : Int) := by rw [IntKind.wrap_i64]; have := HM.out; have := HN.out; omega
  have wa : IntKind.i64.wrap ((a : Int) + 1) = (a1 : Int) := by rw [IntKind.wrap_i64]; have := HM.out; have := HN.out; omega
  obtain ⟨rb, ro, e1, _, _⟩ := (HS.out W1 HE1.out.kp).num a (by have := HN.out; omega) (by have := HN.out; omega)
  obtain ⟨qc, hqc⟩ : ∃ y, rc a = y := ⟨_, rfl⟩
  obtain ⟨y, hy⟩ : ∃ y, s a b = y := ⟨_, rfl⟩
  have HY : Hid (s a b = y ∧ -1000000 ≤ y ∧ y ≤ 1000000) := by
    have h1 := HBD.out.2 a b (by have := HN.out; omega) (by have := HN.out; omega) (by have := HN.out; omega)
    rw [hy] at h1
    exact ⟨hy, h1⟩
  have HBX : Hid (∀ W, Kp (fun k => k = p) W1 W → W.cell? ⟨q1, 0, none⟩ = some (.pointer (some ⟨p, 0, none⟩)) ∧ W.cell? ⟨q2, 0, none⟩ = some (.int .i64 (a : Int)) ∧ W.cell? ⟨q3, 0, none⟩ = some (.int .i64 (b : Int)) ∧ W.cell? ⟨p8, 0, none⟩ = some (.int .i64 B) ∧ W.cell? ⟨p8, 1, none⟩ = some (.int .i64 (P : Int)) ∧ W.cell? ⟨q, so + a, none⟩ = some (.slice (some ⟨rb, ro, none⟩) n qc) ∧ W.cell? ⟨rb, ro + b', none⟩ = some (.int .i64 y)) := fun W hW => by
    have hf := HE1.out.off hW
    have hsc := HS.out W hf.2.2.2.2
    have h1 := hsc.row a (by have := HN.out; omega)
    obtain ⟨rb2, ro2, f1, _, hcc⟩ := hsc.num a (by have := HN.out; omega) (by have := HN.out; omega)
    rw [e1] at f1 h1
    cases f1
    rw [hqc] at h1
    have h2 := hcc b' (by have := HN.out; have := HM.out; omega)
    rw [show b' + 1 = b by have := HM.out; omega, hy] at h2
    exact ⟨hf.1, hf.2.1, hf.2.2.1, cell_of_row _ _ 0 _ _ _ hf.2.2.2.1, cell_of_row _ _ 1 _ _ _ hf.2.2.2.1, h1, h2⟩
  have wy : IntKind.i64.wrap (B + y) = B + y := by
    have h1 := (HBD.out.1 1 0 a P ⟨by decide, by decide, by have := HN.out; omega, by have := HN.out; have := HP.out; omega⟩).1
    have h2 := (HBD.out.1 1 1 (P + 1) b ⟨by decide, by decide, by have := HN.out; have := HP.out; omega, by have := HN.out; omega⟩).1
    have h3 := HB.out
    have h4 := HN.out
    have h5 := HP.out
    have h6 := HY.out
    exact wrap_small (by omega)
  clear e1 hqc hy
  have HCE : Hid _ := fun (W : World) (hSw : Kp (fun k => k = p) W1 W) => (And.intro ((HBX.out W hSw).1) (And.intro ((HBX.out W hSw).2.1) (And.intro ((HBX.out W hSw).2.2.1) (And.intro ((HBX.out W hSw).2.2.2.1) (And.intro ((HBX.out W hSw).2.2.2.2.1) (And.intro ((HBX.out W hSw).2.2.2.2.2.1) ((HBX.out W hSw).2.2.2.2.2.2)))))))
  refine wp_region_held_drew (S := fun W => Kp (fun k => k = p) W1 W) (by kernel_rfl) (by exact (Kp.refl _ W1).drewN 1) (fun hHeld => ?_)
  have hS0 : Kp (fun _ => False) W1 W1.drew := (Kp.refl _ _).drewN 1
  generalize hV : W1.drew = V2 at *
  clear hV
  refine wpAnyH_take (i := 0) (oi := { dst := some 14, op := Op.load 71 (Operand.tmp 4), type := 71, pos := "flat.go:41", after := #[], guard := none }) (v := ?_) rfl (by kernel_rfl) (by kernel_rfl) (by kernel_rfl) (fun _ _ _ h => h) (Or.inl ⟨by rfl, ?_⟩) (by assumption) ?_
  case refine_2 => intro w hSw; (try dsimp only at hSw); obtain ⟨z0, z1, z2, z3, z4, z5, z6⟩ := HCE.out _ hSw; go_simp; (try with_reducible rfl)
  simp only [Act.put, List.setIfInBounds_toArray, List.set_cons_zero, List.set_cons_succ]
  refine wpAnyH_take (i := 1) (oi := { dst := some 15, op := Op.load 3 (Operand.tmp 6), type := 3, pos := "flat.go:41", after := #[], guard := none }) (v := ?_) rfl (by kernel_rfl) (by kernel_rfl) (by kernel_rfl) (fun _ _ _ h => h) (Or.inl ⟨by rfl, ?_⟩) (by assumption) ?_
  case refine_2 => intro w hSw; (try dsimp only at hSw); obtain ⟨z0, z1, z2, z3, z4, z5, z6⟩ := HCE.out _ hSw; go_simp; (try with_reducible rfl)
  simp only [Act.put, List.setIfInBounds_toArray, List.set_cons_zero, List.set_cons_succ]
  refine wpAnyH_take (i := 2) (oi := { dst := some 16, op := Op.load 3 (Operand.tmp 7), type := 3, pos := "flat.go:41", after := #[], guard := none }) (v := ?_) rfl (by kernel_rfl) (by kernel_rfl) (by kernel_rfl) (fun _ _ _ h => h) (Or.inl ⟨by rfl, ?_⟩) (by assumption) ?_
  case refine_2 => intro w hSw; (try dsimp only at hSw); obtain ⟨z0, z1, z2, z3, z4, z5, z6⟩ := HCE.out _ hSw; go_simp; (try with_reducible rfl)
  simp only [Act.put, List.setIfInBounds_toArray, List.set_cons_zero, List.set_cons_succ]
  refine wpAnyH_take (i := 3) (oi := { dst := some 17, op := Op.fieldAddr 52 (Operand.tmp 8) 0, type := 0, pos := "flat.go:41", after := #[], guard := none }) (v := ?_) rfl (by kernel_rfl) (by kernel_rfl) (by kernel_rfl) (fun _ _ _ h => h) (Or.inl ⟨by rfl, ?_⟩) (by assumption) ?_
  case refine_2 => intro w hSw; (try dsimp only at hSw); obtain ⟨z0, z1, z2, z3, z4, z5, z6⟩ := HCE.out _ hSw; go_simp; (try with_reducible rfl)
  simp only [Act.put, List.setIfInBounds_toArray, List.set_cons_zero, List.set_cons_succ]
  refine wpAnyH_take (i := 4) (oi := { dst := some 18, op := Op.load 3 (Operand.tmp 17), type := 3, pos := "flat.go:41", after := #[{ on := 3, ground := Ground.data }], guard := none }) (v := ?_) rfl (by kernel_rfl) (by kernel_rfl) (by kernel_rfl) (fun _ _ _ h => h) (Or.inl ⟨by rfl, ?_⟩) (by assumption) ?_
  case refine_2 => intro w hSw; (try dsimp only at hSw); obtain ⟨z0, z1, z2, z3, z4, z5, z6⟩ := HCE.out _ hSw; go_simp; (try with_reducible rfl)
  simp only [Act.put, List.setIfInBounds_toArray, List.set_cons_zero, List.set_cons_succ]
  refine wpAnyH_take (i := 5) (oi := { dst := some 19, op := Op.move (Operand.tmp 1), type := 22, pos := "flat.go:41", after := #[], guard := none }) (v := ?_) rfl (by kernel_rfl) (by kernel_rfl) (by kernel_rfl) (fun _ _ _ h => h) (Or.inl ⟨by rfl, ?_⟩) (by assumption) ?_
  case refine_2 => intro w hSw; (try dsimp only at hSw); obtain ⟨z0, z1, z2, z3, z4, z5, z6⟩ := HCE.out _ hSw; go_simp; (try with_reducible rfl)
  simp only [Act.put, List.setIfInBounds_toArray, List.set_cons_zero, List.set_cons_succ]
  refine wpAnyH_take (i := 6) (oi := { dst := some 20, op := Op.load 3 (Operand.tmp 6), type := 3, pos := "flat.go:41", after := #[], guard := none }) (v := ?_) rfl (by kernel_rfl) (by kernel_rfl) (by kernel_rfl) (fun _ _ _ h => h) (Or.inl ⟨by rfl, ?_⟩) (by assumption) ?_
  case refine_2 => intro w hSw; (try dsimp only at hSw); obtain ⟨z0, z1, z2, z3, z4, z5, z6⟩ := HCE.out _ hSw; go_simp; (try with_reducible rfl)
  simp only [Act.put, List.setIfInBounds_toArray, List.set_cons_zero, List.set_cons_succ]
  refine wpAnyH_take (i := 7) (oi := { dst := some 21, op := Op.indexAddr 22 (Operand.tmp 19) (Operand.tmp 20), type := 0, pos := "flat.go:41", after := #[{ on := 5, ground := Ground.data }, { on := 6, ground := Ground.data }], guard := none }) (v := ?_) rfl (by kernel_rfl) (by kernel_rfl) (by kernel_rfl) (fun _ _ _ h => h) (Or.inl ⟨by rfl, ?_⟩) (by assumption) ?_
  case refine_2 => intro w hSw; (try dsimp only at hSw); obtain ⟨z0, z1, z2, z3, z4, z5, z6⟩ := HCE.out _ hSw; go_simp; (try with_reducible rfl)
  simp only [Act.put, List.setIfInBounds_toArray, List.set_cons_zero, List.set_cons_succ]
  refine wpAnyH_take (i := 8) (oi := { dst := some 22, op := Op.load 26 (Operand.tmp 21), type := 26, pos := "flat.go:41", after := #[{ on := 7, ground := Ground.data }], guard := none }) (v := ?_) rfl (by kernel_rfl) (by kernel_rfl) (by kernel_rfl) (fun _ _ _ h => h) (Or.inl ⟨by rfl, ?_⟩) (by assumption) ?_
  case refine_2 => intro w hSw; (try dsimp only at hSw); obtain ⟨z0, z1, z2, z3, z4, z5, z6⟩ := HCE.out _ hSw; go_simp; (try with_reducible rfl)
  simp only [Act.put, List.setIfInBounds_toArray, List.set_cons_zero, List.set_cons_succ]
  refine wpAnyH_take (i := 9) (oi := { dst := some 23, op := Op.load 3 (Operand.tmp 7), type := 3, pos := "flat.go:41", after := #[], guard := none }) (v := ?_) rfl (by kernel_rfl) (by kernel_rfl) (by kernel_rfl) (fun _ _ _ h => h) (Or.inl ⟨by rfl, ?_⟩) (by assumption) ?_
  case refine_2 => intro w hSw; (try dsimp only at hSw); obtain ⟨z0, z1, z2, z3, z4, z5, z6⟩ := HCE.out _ hSw; go_simp; (try with_reducible rfl)
  simp only [Act.put, List.setIfInBounds_toArray, List.set_cons_zero, List.set_cons_succ]
  refine wpAnyH_take (i := 10) (oi := { dst := some 24, op := Op.binOp BinOp.sub 3 (Operand.tmp 23) (Operand.const (Value.int IntKind.i64 1)) 3, type := 3, pos := "flat.go:41", after := #[{ on := 9, ground := Ground.data }], guard := none }) (v := ?_) rfl (by kernel_rfl) (by kernel_rfl) (by kernel_rfl) (fun _ _ _ h => h) (Or.inl ⟨by rfl, ?_⟩) (by assumption) ?_
  case refine_2 => intro w hSw; (try dsimp only at hSw); obtain ⟨z0, z1, z2, z3, z4, z5, z6⟩ := HCE.out _ hSw; go_simp; (try with_reducible rfl)
  simp only [Act.put, List.setIfInBounds_toArray, List.set_cons_zero, List.set_cons_succ]
  refine wpAnyH_take (i := 11) (oi := { dst := some 25, op := Op.indexAddr 26 (Operand.tmp 22) (Operand.tmp 24), type := 0, pos := "flat.go:41", after := #[{ on := 8, ground := Ground.data }, { on := 10, ground := Ground.data }], guard := none }) (v := ?_) rfl (by kernel_rfl) (by kernel_rfl) (by kernel_rfl) (fun _ _ _ h => h) (Or.inl ⟨by rfl, ?_⟩) (by assumption) ?_
  case refine_2 => intro w hSw; (try dsimp only at hSw); obtain ⟨z0, z1, z2, z3, z4, z5, z6⟩ := HCE.out _ hSw; go_simp; (try with_reducible rfl)
  simp only [Act.put, List.setIfInBounds_toArray, List.set_cons_zero, List.set_cons_succ]
  refine wpAnyH_take (i := 12) (oi := { dst := some 26, op := Op.load 3 (Operand.tmp 25), type := 3, pos := "flat.go:41", after := #[{ on := 11, ground := Ground.data }], guard := none }) (v := ?_) rfl (by kernel_rfl) (by kernel_rfl) (by kernel_rfl) (fun _ _ _ h => h) (Or.inl ⟨by rfl, ?_⟩) (by assumption) ?_
  case refine_2 => intro w hSw; (try dsimp only at hSw); obtain ⟨z0, z1, z2, z3, z4, z5, z6⟩ := HCE.out _ hSw; go_simp; (try with_reducible rfl)
  simp only [Act.put, List.setIfInBounds_toArray, List.set_cons_zero, List.set_cons_succ]
  refine wpAnyH_take (i := 13) (oi := { dst := some 27, op := Op.binOp BinOp.add 3 (Operand.tmp 18) (Operand.tmp 26) 3, type := 3, pos := "flat.go:41", after := #[{ on := 4, ground := Ground.data }, { on := 12, ground := Ground.data }], guard := none }) (v := ?_) rfl (by kernel_rfl) (by kernel_rfl) (by kernel_rfl) (fun _ _ _ h => h) (Or.inl ⟨by rfl, ?_⟩) (by assumption) ?_
  case refine_2 => intro w hSw; (try dsimp only at hSw); obtain ⟨z0, z1, z2, z3, z4, z5, z6⟩ := HCE.out _ hSw; go_simp; (try with_reducible rfl)
  simp only [Act.put, List.setIfInBounds_toArray, List.set_cons_zero, List.set_cons_succ]
  refine wpAnyH_take (i := 14) (oi := { dst := some 28, op := Op.fieldAddr 52 (Operand.tmp 8) 1, type := 0, pos := "flat.go:41", after := #[], guard := none }) (v := ?_) rfl (by kernel_rfl) (by kernel_rfl) (by kernel_rfl) (fun _ _ _ h => h) (Or.inl ⟨by rfl, ?_⟩) (by assumption) ?_
  case refine_2 => intro w hSw; (try dsimp only at hSw); obtain ⟨z0, z1, z2, z3, z4, z5, z6⟩ := HCE.out _ hSw; go_simp; (try with_reducible rfl)
  simp only [Act.put, List.setIfInBounds_toArray, List.set_cons_zero, List.set_cons_succ]
  refine wpAnyH_take (i := 15) (oi := { dst := some 29, op := Op.load 3 (Operand.tmp 28), type := 3, pos := "flat.go:41", after := #[{ on := 14, ground := Ground.data }], guard := none }) (v := ?_) rfl (by kernel_rfl) (by kernel_rfl) (by kernel_rfl) (fun _ _ _ h => h) (Or.inl ⟨by rfl, ?_⟩) (by assumption) ?_
  case refine_2 => intro w hSw; (try dsimp only at hSw); obtain ⟨z0, z1, z2, z3, z4, z5, z6⟩ := HCE.out _ hSw; go_simp; (try with_reducible rfl)
  simp only [Act.put, List.setIfInBounds_toArray, List.set_cons_zero, List.set_cons_succ]
  refine wpAnyH_take (i := 16) (oi := { dst := some 30, op := Op.build 52 #[(0, Operand.tmp 27), (1, Operand.tmp 29)], type := 52, pos := "flat.go:41", after := #[{ on := 13, ground := Ground.data }, { on := 15, ground := Ground.data }], guard := none }) (v := ?_) rfl (by kernel_rfl) (by kernel_rfl) (by kernel_rfl) (fun _ _ _ h => h) (Or.inl ⟨by rfl, ?_⟩) (by assumption) ?_
  case refine_2 => intro w hSw; (try dsimp only at hSw); obtain ⟨z0, z1, z2, z3, z4, z5, z6⟩ := HCE.out _ hSw; go_simp; (try with_reducible rfl)
  simp only [Act.put, List.setIfInBounds_toArray, List.set_cons_zero, List.set_cons_succ]
  refine wpAnyH_take (i := 17) (oi := { dst := some 31, op := Op.nilCheck (Operand.tmp 14), type := 0, pos := "flat.go:41", after := #[{ on := 0, ground := Ground.data }], guard := none }) (v := ?_) rfl (by kernel_rfl) (by kernel_rfl) (by kernel_rfl) (fun _ _ _ h => h) (Or.inl ⟨by rfl, ?_⟩) (by assumption) ?_
  case refine_2 => intro w hSw; (try dsimp only at hSw); obtain ⟨z0, z1, z2, z3, z4, z5, z6⟩ := HCE.out _ hSw; go_simp; (try with_reducible rfl)
  simp only [Act.put, List.setIfInBounds_toArray, List.set_cons_zero, List.set_cons_succ]
  refine wpAnyH_take (i := 18) (oi := { dst := some 32, op := Op.fieldAddr 58 (Operand.tmp 31) 0, type := 0, pos := "flat.go:41", after := #[{ on := 17, ground := Ground.data }], guard := none }) (v := ?_) rfl (by kernel_rfl) (by kernel_rfl) (by kernel_rfl) (fun _ _ _ h => h) (Or.inl ⟨by rfl, ?_⟩) (by assumption) ?_
  case refine_2 => intro w hSw; (try dsimp only at hSw); obtain ⟨z0, z1, z2, z3, z4, z5, z6⟩ := HCE.out _ hSw; go_simp; (try with_reducible rfl)
  simp only [Act.put, List.setIfInBounds_toArray, List.set_cons_zero, List.set_cons_succ]
  refine wpAnyH_take (i := 19) (oi := { dst := some 33, op := Op.indexAddr 56 (Operand.tmp 32) (Operand.const (Value.int IntKind.i64 0)), type := 0, pos := "flat.go:41", after := #[{ on := 18, ground := Ground.data }], guard := none }) (v := ?_) rfl (by kernel_rfl) (by kernel_rfl) (by kernel_rfl) (fun _ _ _ h => h) (Or.inl ⟨by rfl, ?_⟩) (by assumption) ?_
  case refine_2 => intro w hSw; (try dsimp only at hSw); obtain ⟨z0, z1, z2, z3, z4, z5, z6⟩ := HCE.out _ hSw; go_simp; (try with_reducible rfl)
  simp only [Act.put, List.setIfInBounds_toArray, List.set_cons_zero, List.set_cons_succ]
  refine wpAnyH_take (i := 20) (oi := { dst := some 34, op := Op.indexAddr 55 (Operand.tmp 33) (Operand.tmp 15), type := 0, pos := "flat.go:41", after := #[{ on := 19, ground := Ground.data }, { on := 1, ground := Ground.data }], guard := none }) (v := ?_) rfl (by kernel_rfl) (by kernel_rfl) (by kernel_rfl) (fun _ _ _ h => h) (Or.inl ⟨by rfl, ?_⟩) (by assumption) ?_
  case refine_2 => intro w hSw; (try dsimp only at hSw); obtain ⟨z0, z1, z2, z3, z4, z5, z6⟩ := HCE.out _ hSw; go_simp; (try with_reducible rfl)
  simp only [Act.put, List.setIfInBounds_toArray, List.set_cons_zero, List.set_cons_succ]
  refine wpAnyH_take (i := 21) (oi := { dst := some 35, op := Op.indexAddr 53 (Operand.tmp 34) (Operand.tmp 16), type := 0, pos := "flat.go:41", after := #[{ on := 20, ground := Ground.data }, { on := 2, ground := Ground.data }, { on := 0, ground := Ground.phase }, { on := 1, ground := Ground.phase }, { on := 2, ground := Ground.phase }, { on := 3, ground := Ground.phase }, { on := 4, ground := Ground.phase }, { on := 5, ground := Ground.phase }, { on := 6, ground := Ground.phase }, { on := 7, ground := Ground.phase }, { on := 8, ground := Ground.phase }, { on := 9, ground := Ground.phase }, { on := 10, ground := Ground.phase }, { on := 11, ground := Ground.phase }, { on := 12, ground := Ground.phase }, { on := 13, ground := Ground.phase }, { on := 14, ground := Ground.phase }, { on := 15, ground := Ground.phase }, { on := 16, ground := Ground.phase }], guard := none }) (v := ?_) rfl (by kernel_rfl) (by kernel_rfl) (by kernel_rfl) (fun _ _ _ h => h) (Or.inl ⟨by rfl, ?_⟩) (by assumption) ?_
  case refine_2 => intro w hSw; (try dsimp only at hSw); obtain ⟨z0, z1, z2, z3, z4, z5, z6⟩ := HCE.out _ hSw; go_simp; (try with_reducible rfl)
  simp only [Act.put, List.setIfInBounds_toArray, List.set_cons_zero, List.set_cons_succ]
  refine wpAnyH_ready (rs := [22]) (by kernel_rfl) (by simp) ?_
  refine (AllReadyH.cons (o := { dst := none, op := Op.store 52 (Operand.tmp 35) (Operand.tmp 30), type := 0, pos := "flat.go:41", after := #[{ on := 21, ground := Ground.data }, { on := 16, ground := Ground.data }, { on := 0, ground := Ground.phase }, { on := 1, ground := Ground.phase }, { on := 2, ground := Ground.phase }, { on := 3, ground := Ground.phase }, { on := 4, ground := Ground.phase }, { on := 5, ground := Ground.phase }, { on := 6, ground := Ground.phase }, { on := 7, ground := Ground.phase }, { on := 8, ground := Ground.phase }, { on := 9, ground := Ground.phase }, { on := 10, ground := Ground.phase }, { on := 11, ground := Ground.phase }, { on := 12, ground := Ground.phase }, { on := 13, ground := Ground.phase }, { on := 14, ground := Ground.phase }, { on := 15, ground := Ground.phase }, { on := 16, ground := Ground.phase }], guard := none }) rfl (fun K hK => ?_) AllReadyH.nil)
  have HV : Hid (Fw w V2 q1 q2 q3 p8 p a b B P C) := HE1.out.laid hS0
  have hL : ix 0 0 a b = a * 26 + b * 2 := by unfold ix; omega
  have hl := @ix_lt 0 0 a b (by decide) (by decide) (by have := HN.out; omega) (by have := HN.out; omega)
  have y0 := HV.out.fv.pz.cell (i := ix 0 0 a b) (by omega)
  have y1 := HV.out.fv.pz.cell (i := ix 0 0 a b + 1) hl
  have f0 := HV.out.fv.pz.froz (ix 0 0 a b)
  have f1 := HV.out.fv.pz.froz (ix 0 0 a b + 1)
  obtain ⟨v0, hv0⟩ : ∃ v, C (ix 0 0 a b) = v := ⟨_, rfl⟩
  obtain ⟨v1, hv1⟩ : ∃ v, C (ix 0 0 a b + 1) = v := ⟨_, rfl⟩
  have HN2 : Hid _ := HV.out.set 0 0 a b (B + y) (P : Int) ⟨by decide, by decide, by have := HN.out; omega, by have := HN.out; omega⟩
  have hk1 : Kp (fun k => k = p) V2 (V2.setCell ⟨p, a * 26 + b * 2, none⟩ (.int .i64 (B + y))) := (Kp.refl _ _).setCell _ _ _ (fun _ => rfl)
  have hS2 : Kp (fun k => k = p) W1 ((V2.setCell ⟨p, a * 26 + b * 2, none⟩ (.int .i64 (B + y))).setCell ⟨p, a * 26 + b * 2 + 1, none⟩ (.int .i64 (P : Int))) := kp_then (hS0.mono (Y := fun k => k = p) (fun _ _ e => e.elim)) (hk1.setCell _ _ _ (fun _ => rfl)) (fun _ _ e => e)
  rw [hv0] at y0
  rw [hv1] at y1
  rw [hL] at y0 y1 f0 f1 HN2
  clear hl hv0 hv1
  go_simp
  clear y0 y1 f0 f1 v0 v1
  refine hK.out _ _ ?_ (fun hHeld => ?_)
  · exact hS2
  clear hK K
  try simp only [Act.put, List.setIfInBounds_toArray, List.set_cons_zero, List.set_cons_succ]
  refine wpAnyH_done (by kernel_rfl) ?_ _
  generalize (V2.setCell ⟨p, a * 26 + b * 2, none⟩ (.int .i64 (B + y))).setCell ⟨p, a * 26 + b * 2 + 1, none⟩ (.int .i64 (P : Int)) = W2 at *
  obtain ⟨C1, hC1⟩ : ∃ D, up2 C 0 0 a b (B + y) (P : Int) = D := ⟨_, rfl⟩
  have HW2 : Hid (Fw w W2 q1 q2 q3 p8 p a b B P C1 ∧ C1 = up2 C 0 0 a b (B + y) (P : Int)) := ⟨hC1 ▸ HN2.out, hC1.symm⟩
  clear hC1 HN2 HV hL hS0 hS2 hk1 wy HBX HCE
  go_upto_region 3 with fail
  have HBX : Hid (∀ W, Kp (fun k => k = p) W2 W → W.cell? ⟨q1, 0, none⟩ = some (.pointer (some ⟨p, 0, none⟩)) ∧ W.cell? ⟨q2, 0, none⟩ = some (.int .i64 (a : Int)) ∧ W.cell? ⟨q3, 0, none⟩ = some (.int .i64 (b : Int))) := fun W hW => by
    have hf := HW2.out.1.off hW
    exact ⟨hf.1, hf.2.1, hf.2.2.1⟩
  have HBD1 : Hid (Bd C1) := by rw [HW2.out.2, ← HB.out]; exact bow_bd HBD.out.1 (by decide) HN.out.2.1 (by have := HN.out; omega) HP.out.1 HP.out.2.1 HY.out.2
  have HCE : Hid _ := fun (W : World) (hSw : Kp (fun k => k = p) W2 W) => (And.intro ((HBX.out W hSw).1) (And.intro ((HBX.out W hSw).2.1) ((HBX.out W hSw).2.2)))
  refine wp_region_held_drew (S := fun W => Kp (fun k => k = p) W2 W) (by kernel_rfl) (by exact (Kp.refl _ W2).drewN 1) (fun hHeld => ?_)
  have hS0 : Kp (fun _ => False) W2 W2.drew := (Kp.refl _ _).drewN 1
  generalize hV : W2.drew = V3 at *
  clear hV
  refine wpAnyH_take (i := 0) (oi := { dst := some 36, op := Op.load 71 (Operand.tmp 4), type := 71, pos := "flat.go:42", after := #[], guard := none }) (v := ?_) rfl (by kernel_rfl) (by kernel_rfl) (by kernel_rfl) (fun _ _ _ h => h) (Or.inl ⟨by rfl, ?_⟩) (by assumption) ?_
  case refine_2 => intro w hSw; (try dsimp only at hSw); obtain ⟨z0, z1, z2⟩ := HCE.out _ hSw; go_simp; (try with_reducible rfl)
  simp only [Act.put, List.setIfInBounds_toArray, List.set_cons_zero, List.set_cons_succ]
  refine wpAnyH_take (i := 1) (oi := { dst := some 37, op := Op.load 3 (Operand.tmp 6), type := 3, pos := "flat.go:42", after := #[], guard := none }) (v := ?_) rfl (by kernel_rfl) (by kernel_rfl) (by kernel_rfl) (fun _ _ _ h => h) (Or.inl ⟨by rfl, ?_⟩) (by assumption) ?_
  case refine_2 => intro w hSw; (try dsimp only at hSw); obtain ⟨z0, z1, z2⟩ := HCE.out _ hSw; go_simp; (try with_reducible rfl)
  simp only [Act.put, List.setIfInBounds_toArray, List.set_cons_zero, List.set_cons_succ]
  refine wpAnyH_take (i := 2) (oi := { dst := some 38, op := Op.load 3 (Operand.tmp 7), type := 3, pos := "flat.go:42", after := #[], guard := none }) (v := ?_) rfl (by kernel_rfl) (by kernel_rfl) (by kernel_rfl) (fun _ _ _ h => h) (Or.inl ⟨by rfl, ?_⟩) (by assumption) ?_
  case refine_2 => intro w hSw; (try dsimp only at hSw); obtain ⟨z0, z1, z2⟩ := HCE.out _ hSw; go_simp; (try with_reducible rfl)
  simp only [Act.put, List.setIfInBounds_toArray, List.set_cons_zero, List.set_cons_succ]
  refine wpAnyH_take (i := 3) (oi := { dst := some 39, op := Op.load 3 (Operand.tmp 6), type := 3, pos := "flat.go:42", after := #[], guard := none }) (v := ?_) rfl (by kernel_rfl) (by kernel_rfl) (by kernel_rfl) (fun _ _ _ h => h) (Or.inl ⟨by rfl, ?_⟩) (by assumption) ?_
  case refine_2 => intro w hSw; (try dsimp only at hSw); obtain ⟨z0, z1, z2⟩ := HCE.out _ hSw; go_simp; (try with_reducible rfl)
  simp only [Act.put, List.setIfInBounds_toArray, List.set_cons_zero, List.set_cons_succ]
  refine wpAnyH_take (i := 4) (oi := { dst := some 40, op := Op.binOp BinOp.add 3 (Operand.tmp 39) (Operand.const (Value.int IntKind.i64 1)) 3, type := 3, pos := "flat.go:42", after := #[{ on := 3, ground := Ground.data }], guard := none }) (v := ?_) rfl (by kernel_rfl) (by kernel_rfl) (by kernel_rfl) (fun _ _ _ h => h) (Or.inl ⟨by rfl, ?_⟩) (by assumption) ?_
  case refine_2 => intro w hSw; (try dsimp only at hSw); obtain ⟨z0, z1, z2⟩ := HCE.out _ hSw; go_simp; (try with_reducible rfl)
  simp only [Act.put, List.setIfInBounds_toArray, List.set_cons_zero, List.set_cons_succ]
  refine wpAnyH_take (i := 5) (oi := { dst := some 41, op := Op.load 3 (Operand.tmp 7), type := 3, pos := "flat.go:42", after := #[], guard := none }) (v := ?_) rfl (by kernel_rfl) (by kernel_rfl) (by kernel_rfl) (fun _ _ _ h => h) (Or.inl ⟨by rfl, ?_⟩) (by assumption) ?_
  case refine_2 => intro w hSw; (try dsimp only at hSw); obtain ⟨z0, z1, z2⟩ := HCE.out _ hSw; go_simp; (try with_reducible rfl)
  simp only [Act.put, List.setIfInBounds_toArray, List.set_cons_zero, List.set_cons_succ]
  refine wpAnyH_take (i := 6) (oi := { dst := some 42, op := Op.makeFunc (Fn.func 53) #[] #[Operand.tmp 4, Operand.tmp 6, Operand.tmp 7], type := 69, pos := "flat.go:42", after := #[], guard := none }) (v := ?_) rfl (by kernel_rfl) (by kernel_rfl) (by kernel_rfl) (fun _ _ _ h => h) (Or.inl ⟨by rfl, ?_⟩) (by assumption) ?_
  case refine_2 => intro w hSw; (try dsimp only at hSw); obtain ⟨z0, z1, z2⟩ := HCE.out _ hSw; go_simp; (try with_reducible rfl)
  simp only [Act.put, List.setIfInBounds_toArray, List.set_cons_zero, List.set_cons_succ]
  refine wpAnyH_take (i := 8) (oi := { dst := some 44, op := Op.nilCheck (Operand.tmp 36), type := 0, pos := "flat.go:42", after := #[{ on := 0, ground := Ground.data }], guard := none }) (v := ?_) rfl (by kernel_rfl) (by kernel_rfl) (by kernel_rfl) (fun _ _ _ h => h) (Or.inl ⟨by rfl, ?_⟩) (by assumption) ?_
  case refine_2 => intro w hSw; (try dsimp only at hSw); obtain ⟨z0, z1, z2⟩ := HCE.out _ hSw; go_simp; (try with_reducible rfl)
  simp only [Act.put, List.setIfInBounds_toArray, List.set_cons_zero, List.set_cons_succ]
  refine wpAnyH_take (i := 9) (oi := { dst := some 45, op := Op.fieldAddr 58 (Operand.tmp 44) 1, type := 0, pos := "flat.go:42", after := #[{ on := 8, ground := Ground.data }], guard := none }) (v := ?_) rfl (by kernel_rfl) (by kernel_rfl) (by kernel_rfl) (fun _ _ _ h => h) (Or.inl ⟨by rfl, ?_⟩) (by assumption) ?_
  case refine_2 => intro w hSw; (try dsimp only at hSw); obtain ⟨z0, z1, z2⟩ := HCE.out _ hSw; go_simp; (try with_reducible rfl)
  simp only [Act.put, List.setIfInBounds_toArray, List.set_cons_zero, List.set_cons_succ]
  refine wpAnyH_take (i := 10) (oi := { dst := some 46, op := Op.indexAddr 56 (Operand.tmp 45) (Operand.const (Value.int IntKind.i64 0)), type := 0, pos := "flat.go:42", after := #[{ on := 9, ground := Ground.data }], guard := none }) (v := ?_) rfl (by kernel_rfl) (by kernel_rfl) (by kernel_rfl) (fun _ _ _ h => h) (Or.inl ⟨by rfl, ?_⟩) (by assumption) ?_
  case refine_2 => intro w hSw; (try dsimp only at hSw); obtain ⟨z0, z1, z2⟩ := HCE.out _ hSw; go_simp; (try with_reducible rfl)
  simp only [Act.put, List.setIfInBounds_toArray, List.set_cons_zero, List.set_cons_succ]
  refine wpAnyH_take (i := 11) (oi := { dst := some 47, op := Op.indexAddr 55 (Operand.tmp 46) (Operand.tmp 37), type := 0, pos := "flat.go:42", after := #[{ on := 10, ground := Ground.data }, { on := 1, ground := Ground.data }], guard := none }) (v := ?_) rfl (by kernel_rfl) (by kernel_rfl) (by kernel_rfl) (fun _ _ _ h => h) (Or.inl ⟨by rfl, ?_⟩) (by assumption) ?_
  case refine_2 => intro w hSw; (try dsimp only at hSw); obtain ⟨z0, z1, z2⟩ := HCE.out _ hSw; go_simp; (try with_reducible rfl)
  simp only [Act.put, List.setIfInBounds_toArray, List.set_cons_zero, List.set_cons_succ]
  refine wpAnyH_ready (rs := [7]) (by kernel_rfl) (by simp) ?_
  refine (AllReadyH.cons (o := { dst := some 43, op := Op.call { callee := Callee.value (Operand.func 51), args := #[Operand.tmp 40, Operand.tmp 41, Operand.tmp 42], argTypes := #[3, 3, 69] }, type := 52, pos := "flat.go:42", after := #[{ on := 4, ground := Ground.data }, { on := 5, ground := Ground.data }, { on := 6, ground := Ground.data }], guard := none }) rfl (fun K hK => ?_) AllReadyH.nil)
  have K2 := high_2 (fun x => C1 (ix 0 0 a x) + C1 (ix 1 0 x b)) a1 b q1 q2 q3 V3 (by have := HN.out; have := HM.out; omega) (by have := HN.out; have := HM.out; omega) (fun x h1 h2 W hW => fill2_any x W ((HW2.out.1.laid hS0).fv.below hW) HBD1.out.cs (by have := HN.out; omega) (by have := HN.out; omega) (by have := HM.out; omega) (by have := HM.out; omega))
  go_simp
  (with_reducible refine K2.mono ?_)
  clear K2
  rintro e3 w3 ⟨c, rfl, hc1, hc2, hcm, hb3⟩
  dsimp only
  obtain ⟨gx, hgx⟩ : ∃ g, C1 (ix 0 0 a c) + C1 (ix 1 0 c b) = g := ⟨_, rfl⟩
  rw [hgx]
  have HC : Hid (a1 ≤ c ∧ c ≤ b ∧ (∀ x, a1 ≤ x → x ≤ b → C1 (ix 0 0 a x) + C1 (ix 1 0 x b) ≤ C1 (ix 0 0 a c) + C1 (ix 1 0 c b)) ∧ C1 (ix 0 0 a c) + C1 (ix 1 0 c b) = gx) := ⟨hc1, hc2, hcm, hgx⟩
  have hS1 : Kp (fun _ => False) W2 w3 := kp_then hS0 (kp_below hb3 (fun _ => False)) (fun _ _ e => e)
  clear hc1 hc2 hcm hb3 hgx
  refine hK.out _ _ ?_ (fun hHeld => ?_)
  · first | exact hS2 | exact hS1.mono (fun _ _ e => e.elim)
  clear hK K
  try simp only [Act.put, List.setIfInBounds_toArray, List.set_cons_zero, List.set_cons_succ]
  refine wpAnyH_take (i := 12) (oi := { dst := some 48, op := Op.indexAddr 53 (Operand.tmp 47) (Operand.tmp 38), type := 0, pos := "flat.go:42", after := #[{ on := 11, ground := Ground.data }, { on := 2, ground := Ground.data }, { on := 0, ground := Ground.phase }, { on := 1, ground := Ground.phase }, { on := 2, ground := Ground.phase }, { on := 3, ground := Ground.phase }, { on := 4, ground := Ground.phase }, { on := 5, ground := Ground.phase }, { on := 6, ground := Ground.phase }, { on := 7, ground := Ground.phase }], guard := none }) (v := ?_) rfl (by kernel_rfl) (by kernel_rfl) (by kernel_rfl) (fun _ _ _ h => h) (Or.inl ⟨by rfl, ?_⟩) (by assumption) ?_
  case refine_2 => intro w hSw; (try dsimp only at hSw); obtain ⟨z0, z1, z2⟩ := HCE.out _ hSw; go_simp; (try with_reducible rfl)
  simp only [Act.put, List.setIfInBounds_toArray, List.set_cons_zero, List.set_cons_succ]
  refine wpAnyH_ready (rs := [13]) (by kernel_rfl) (by simp) ?_
  refine (AllReadyH.cons (o := { dst := none, op := Op.store 52 (Operand.tmp 48) (Operand.tmp 43), type := 0, pos := "flat.go:42", after := #[{ on := 12, ground := Ground.data }, { on := 7, ground := Ground.data }, { on := 7, ground := Ground.chain }, { on := 0, ground := Ground.phase }, { on := 1, ground := Ground.phase }, { on := 2, ground := Ground.phase }, { on := 3, ground := Ground.phase }, { on := 4, ground := Ground.phase }, { on := 5, ground := Ground.phase }, { on := 6, ground := Ground.phase }, { on := 7, ground := Ground.phase }], guard := none }) rfl (fun K hK => ?_) AllReadyH.nil)
  have HV : Hid (Fw w w3 q1 q2 q3 p8 p a b B P C1) := HW2.out.1.laid hS1
  have hL : ix 1 0 a b = 676 + a * 26 + b * 2 := by unfold ix; omega
  have hl := @ix_lt 1 0 a b (by decide) (by decide) (by have := HN.out; omega) (by have := HN.out; omega)
  have y0 := HV.out.fv.pz.cell (i := ix 1 0 a b) (by omega)
  have y1 := HV.out.fv.pz.cell (i := ix 1 0 a b + 1) hl
  have f0 := HV.out.fv.pz.froz (ix 1 0 a b)
  have f1 := HV.out.fv.pz.froz (ix 1 0 a b + 1)
  obtain ⟨v0, hv0⟩ : ∃ v, C1 (ix 1 0 a b) = v := ⟨_, rfl⟩
  obtain ⟨v1, hv1⟩ : ∃ v, C1 (ix 1 0 a b + 1) = v := ⟨_, rfl⟩
  have HN2 : Hid _ := HV.out.set 1 0 a b gx (c : Int) ⟨by decide, by decide, by have := HN.out; omega, by have := HN.out; omega⟩
  have hk1 : Kp (fun k => k = p) w3 (w3.setCell ⟨p, 676 + a * 26 + b * 2, none⟩ (.int .i64 gx)) := (Kp.refl _ _).setCell _ _ _ (fun _ => rfl)
  have hS2 : Kp (fun k => k = p) W2 ((w3.setCell ⟨p, 676 + a * 26 + b * 2, none⟩ (.int .i64 gx)).setCell ⟨p, 676 + a * 26 + b * 2 + 1, none⟩ (.int .i64 (c : Int))) := kp_then (hS1.mono (Y := fun k => k = p) (fun _ _ e => e.elim)) (hk1.setCell _ _ _ (fun _ => rfl)) (fun _ _ e => e)
  rw [hv0] at y0
  rw [hv1] at y1
  rw [hL] at y0 y1 f0 f1 HN2
  clear hl hv0 hv1
  go_simp
  clear y0 y1 f0 f1 v0 v1
  refine hK.out _ _ ?_ (fun hHeld => ?_)
  · first | exact hS2 | exact hS1.mono (fun _ _ e => e.elim)
  clear hK K
  try simp only [Act.put, List.setIfInBounds_toArray, List.set_cons_zero, List.set_cons_succ]
  refine wpAnyH_done (by kernel_rfl) ?_ _
  generalize (w3.setCell ⟨p, 676 + a * 26 + b * 2, none⟩ (.int .i64 gx)).setCell ⟨p, 676 + a * 26 + b * 2 + 1, none⟩ (.int .i64 (c : Int)) = W5 at *
  obtain ⟨C2, hC2⟩ : ∃ D, up2 C1 1 0 a b gx (c : Int) = D := ⟨_, rfl⟩
  have HW5 : Hid (Fw w W5 q1 q2 q3 p8 p a b B P C2 ∧ C2 = up2 C1 1 0 a b gx (c : Int)) := ⟨hC2 ▸ HN2.out, hC2.symm⟩
  clear hC2 HN2 HV hL hS0 hS1 hS2 hk1 HBX HCE
  have HD2 : Hid ((∀ f e a' b', inT f e a' b' → ¬ (e = 0 ∧ a' = a ∧ b' = b) → C2 (ix f e a' b') = C (ix f e a' b') ∧ C2 (ix f e a' b' + 1) = C (ix f e a' b' + 1)) ∧ Ok0 s C2 a b ∧ Bd C2) := fill0 HBD.out.1 HN.out.2.1 (by have := HN.out; omega) HP.out.1 HP.out.2.1 HP.out.2.2 (by rw [HW2.out.2, HB.out, HY.out.1]) (by have := HC.out; have := HM.out; omega) HC.out.2.1 (fun x h1 h2 => HC.out.2.2.1 x (by have := HM.out; omega) h2) (by rw [HY.out.1]; exact HY.out.2) (by rw [HC.out.2.2.2]; exact HW5.out.2)
  have HE5 : Hid (Fw w W5 q1 q2 q3 p8 p a b B P C2) := HW5.out.1
  clear HW5 HW2 HC HY HBD1 HE1
  have zq := HE5.out.fv.c2
  by_cases ha0 : a = 0
  · have HA0 : Hid (a = 0) := ha0
    have q0 : ((a : Int) == 0) = true := by simp; omega
    have q0' : (a : Int) = 0 := by omega
    clear ha0
    go_wp2
    first | go_end0 | refine bodyPost_ret (results_none rfl _ _ _) rfl ?_
    refine ⟨rfl, C2, HE5.out.fv.pz, HE5.out.kp, fun f e a' b' h h2 => HD2.out.1 f e a' b' h (by omega), HD2.out.2.1, fun h => absurd h (by have := HA0.out; omega), HD2.out.2.2⟩
  · have q0 : ((a : Int) == 0) = false := by simp; omega
    have q0' : ¬ (a : Int) = 0 := by omega
    obtain ⟨a', ha'⟩ : ∃ y, a = y + 1 := ⟨a - 1, by omega⟩
    have HA : Hid (a = a' + 1) := ha'
    clear ha0
    have han : (a' : Int) < (n : Int) := by have := HN.out; omega
    have wa' : IntKind.i64.wrap ((a : Int) - 1) = (a' : Int) := by rw [IntKind.wrap_i64]; have := HN.out; omega
    clear ha'
    go_upto_region 5 with fail
    clear zq
    have HQQ : Hid (∀ p, a ≤ p → p < b → C2 (ix 1 0 a p) = C (ix 1 0 a p) ∧ C2 (ix 1 1 (p + 1) b) = C (ix 1 1 (p + 1) b)) := fun p h1 h2 => ⟨(HD2.out.1 1 0 a p ⟨by decide, by decide, by have := HN.out; omega, by have := HN.out; omega⟩ (by omega)).1, (HD2.out.1 1 1 (p + 1) b ⟨by decide, by decide, by have := HN.out; omega, by have := HN.out; omega⟩ (by omega)).1⟩
    obtain ⟨rb, ro, e1, _, _⟩ := (HS.out W5 HE5.out.kp).num b (by have := HN.out; omega) (by have := HN.out; omega)
    obtain ⟨qc, hqc⟩ : ∃ y, rc b = y := ⟨_, rfl⟩
    obtain ⟨y, hy⟩ : ∃ y, s b a = y := ⟨_, rfl⟩
    have HY : Hid (s b a = y ∧ -1000000 ≤ y ∧ y ≤ 1000000) := by
      have h1 := HBD.out.2 b a (by have := HN.out; omega) (by have := HN.out; omega) (by have := HN.out; omega)
      rw [hy] at h1
      exact ⟨hy, h1⟩
    have HBX : Hid (∀ W, Kp (fun k => k = p) W5 W → W.cell? ⟨q1, 0, none⟩ = some (.pointer (some ⟨p, 0, none⟩)) ∧ W.cell? ⟨q2, 0, none⟩ = some (.int .i64 (a : Int)) ∧ W.cell? ⟨q3, 0, none⟩ = some (.int .i64 (b : Int)) ∧ W.cell? ⟨p8, 0, none⟩ = some (.int .i64 B) ∧ W.cell? ⟨p8, 1, none⟩ = some (.int .i64 (P : Int)) ∧ W.cell? ⟨q, so + b, none⟩ = some (.slice (some ⟨rb, ro, none⟩) n qc) ∧ W.cell? ⟨rb, ro + a', none⟩ = some (.int .i64 y)) := fun W hW => by
      have hf := HE5.out.off hW
      have hsc := HS.out W hf.2.2.2.2
      have h1 := hsc.row b (by have := HN.out; omega)
      obtain ⟨rb2, ro2, f1, _, hcc⟩ := hsc.num b (by have := HN.out; omega) (by have := HN.out; omega)
      rw [e1] at f1 h1
      cases f1
      rw [hqc] at h1
      have h2 := hcc a' (by have := HN.out; have := HM.out; have := HA.out; omega)
      rw [show a' + 1 = a by have := HM.out; have := HA.out; omega, hy] at h2
      exact ⟨hf.1, hf.2.1, hf.2.2.1, cell_of_row _ _ 0 _ _ _ hf.2.2.2.1, cell_of_row _ _ 1 _ _ _ hf.2.2.2.1, h1, h2⟩
    have wy : IntKind.i64.wrap (B + y) = B + y := by
      have h1 := (HBD.out.1 1 0 a P ⟨by decide, by decide, by have := HN.out; omega, by have := HN.out; have := HP.out; omega⟩).1
      have h2 := (HBD.out.1 1 1 (P + 1) b ⟨by decide, by decide, by have := HN.out; have := HP.out; omega, by have := HN.out; omega⟩).1
      have h3 := HB.out
      have h4 := HN.out
      have h5 := HP.out
      have h6 := HY.out
      exact wrap_small (by omega)
    clear e1 hqc hy
    have HCE : Hid _ := fun (W : World) (hSw : Kp (fun k => k = p) W5 W) => (And.intro ((HBX.out W hSw).1) (And.intro ((HBX.out W hSw).2.1) (And.intro ((HBX.out W hSw).2.2.1) (And.intro ((HBX.out W hSw).2.2.2.1) (And.intro ((HBX.out W hSw).2.2.2.2.1) (And.intro ((HBX.out W hSw).2.2.2.2.2.1) ((HBX.out W hSw).2.2.2.2.2.2)))))))
    refine wp_region_held_drew (S := fun W => Kp (fun k => k = p) W5 W) (by kernel_rfl) (by exact (Kp.refl _ W5).drewN 1) (fun hHeld => ?_)
    have hS0 : Kp (fun _ => False) W5 W5.drew := (Kp.refl _ _).drewN 1
    generalize hV : W5.drew = V5 at *
    clear hV
    refine wpAnyH_take (i := 0) (oi := { dst := some 51, op := Op.load 71 (Operand.tmp 4), type := 71, pos := "flat.go:48", after := #[], guard := none }) (v := ?_) rfl (by kernel_rfl) (by kernel_rfl) (by kernel_rfl) (fun _ _ _ h => h) (Or.inl ⟨by rfl, ?_⟩) (by assumption) ?_
    case refine_2 => intro w hSw; (try dsimp only at hSw); obtain ⟨z0, z1, z2, z3, z4, z5, z6⟩ := HCE.out _ hSw; go_simp; (try with_reducible rfl)
    simp only [Act.put, List.setIfInBounds_toArray, List.set_cons_zero, List.set_cons_succ]
    refine wpAnyH_take (i := 1) (oi := { dst := some 52, op := Op.load 3 (Operand.tmp 6), type := 3, pos := "flat.go:48", after := #[], guard := none }) (v := ?_) rfl (by kernel_rfl) (by kernel_rfl) (by kernel_rfl) (fun _ _ _ h => h) (Or.inl ⟨by rfl, ?_⟩) (by assumption) ?_
    case refine_2 => intro w hSw; (try dsimp only at hSw); obtain ⟨z0, z1, z2, z3, z4, z5, z6⟩ := HCE.out _ hSw; go_simp; (try with_reducible rfl)
    simp only [Act.put, List.setIfInBounds_toArray, List.set_cons_zero, List.set_cons_succ]
    refine wpAnyH_take (i := 2) (oi := { dst := some 53, op := Op.load 3 (Operand.tmp 7), type := 3, pos := "flat.go:48", after := #[], guard := none }) (v := ?_) rfl (by kernel_rfl) (by kernel_rfl) (by kernel_rfl) (fun _ _ _ h => h) (Or.inl ⟨by rfl, ?_⟩) (by assumption) ?_
    case refine_2 => intro w hSw; (try dsimp only at hSw); obtain ⟨z0, z1, z2, z3, z4, z5, z6⟩ := HCE.out _ hSw; go_simp; (try with_reducible rfl)
    simp only [Act.put, List.setIfInBounds_toArray, List.set_cons_zero, List.set_cons_succ]
    refine wpAnyH_take (i := 3) (oi := { dst := some 54, op := Op.fieldAddr 52 (Operand.tmp 8) 0, type := 0, pos := "flat.go:48", after := #[], guard := none }) (v := ?_) rfl (by kernel_rfl) (by kernel_rfl) (by kernel_rfl) (fun _ _ _ h => h) (Or.inl ⟨by rfl, ?_⟩) (by assumption) ?_
    case refine_2 => intro w hSw; (try dsimp only at hSw); obtain ⟨z0, z1, z2, z3, z4, z5, z6⟩ := HCE.out _ hSw; go_simp; (try with_reducible rfl)
    simp only [Act.put, List.setIfInBounds_toArray, List.set_cons_zero, List.set_cons_succ]
    refine wpAnyH_take (i := 4) (oi := { dst := some 55, op := Op.load 3 (Operand.tmp 54), type := 3, pos := "flat.go:48", after := #[{ on := 3, ground := Ground.data }], guard := none }) (v := ?_) rfl (by kernel_rfl) (by kernel_rfl) (by kernel_rfl) (fun _ _ _ h => h) (Or.inl ⟨by rfl, ?_⟩) (by assumption) ?_
    case refine_2 => intro w hSw; (try dsimp only at hSw); obtain ⟨z0, z1, z2, z3, z4, z5, z6⟩ := HCE.out _ hSw; go_simp; (try with_reducible rfl)
    simp only [Act.put, List.setIfInBounds_toArray, List.set_cons_zero, List.set_cons_succ]
    refine wpAnyH_take (i := 5) (oi := { dst := some 56, op := Op.move (Operand.tmp 1), type := 22, pos := "flat.go:48", after := #[], guard := none }) (v := ?_) rfl (by kernel_rfl) (by kernel_rfl) (by kernel_rfl) (fun _ _ _ h => h) (Or.inl ⟨by rfl, ?_⟩) (by assumption) ?_
    case refine_2 => intro w hSw; (try dsimp only at hSw); obtain ⟨z0, z1, z2, z3, z4, z5, z6⟩ := HCE.out _ hSw; go_simp; (try with_reducible rfl)
    simp only [Act.put, List.setIfInBounds_toArray, List.set_cons_zero, List.set_cons_succ]
    refine wpAnyH_take (i := 6) (oi := { dst := some 57, op := Op.load 3 (Operand.tmp 7), type := 3, pos := "flat.go:48", after := #[], guard := none }) (v := ?_) rfl (by kernel_rfl) (by kernel_rfl) (by kernel_rfl) (fun _ _ _ h => h) (Or.inl ⟨by rfl, ?_⟩) (by assumption) ?_
    case refine_2 => intro w hSw; (try dsimp only at hSw); obtain ⟨z0, z1, z2, z3, z4, z5, z6⟩ := HCE.out _ hSw; go_simp; (try with_reducible rfl)
    simp only [Act.put, List.setIfInBounds_toArray, List.set_cons_zero, List.set_cons_succ]
    refine wpAnyH_take (i := 7) (oi := { dst := some 58, op := Op.indexAddr 22 (Operand.tmp 56) (Operand.tmp 57), type := 0, pos := "flat.go:48", after := #[{ on := 5, ground := Ground.data }, { on := 6, ground := Ground.data }], guard := none }) (v := ?_) rfl (by kernel_rfl) (by kernel_rfl) (by kernel_rfl) (fun _ _ _ h => h) (Or.inl ⟨by rfl, ?_⟩) (by assumption) ?_
    case refine_2 => intro w hSw; (try dsimp only at hSw); obtain ⟨z0, z1, z2, z3, z4, z5, z6⟩ := HCE.out _ hSw; go_simp; (try with_reducible rfl)
    simp only [Act.put, List.setIfInBounds_toArray, List.set_cons_zero, List.set_cons_succ]
    refine wpAnyH_take (i := 8) (oi := { dst := some 59, op := Op.load 26 (Operand.tmp 58), type := 26, pos := "flat.go:48", after := #[{ on := 7, ground := Ground.data }], guard := none }) (v := ?_) rfl (by kernel_rfl) (by kernel_rfl) (by kernel_rfl) (fun _ _ _ h => h) (Or.inl ⟨by rfl, ?_⟩) (by assumption) ?_
    case refine_2 => intro w hSw; (try dsimp only at hSw); obtain ⟨z0, z1, z2, z3, z4, z5, z6⟩ := HCE.out _ hSw; go_simp; (try with_reducible rfl)
    simp only [Act.put, List.setIfInBounds_toArray, List.set_cons_zero, List.set_cons_succ]
    refine wpAnyH_take (i := 9) (oi := { dst := some 60, op := Op.load 3 (Operand.tmp 6), type := 3, pos := "flat.go:48", after := #[], guard := none }) (v := ?_) rfl (by kernel_rfl) (by kernel_rfl) (by kernel_rfl) (fun _ _ _ h => h) (Or.inl ⟨by rfl, ?_⟩) (by assumption) ?_
    case refine_2 => intro w hSw; (try dsimp only at hSw); obtain ⟨z0, z1, z2, z3, z4, z5, z6⟩ := HCE.out _ hSw; go_simp; (try with_reducible rfl)
    simp only [Act.put, List.setIfInBounds_toArray, List.set_cons_zero, List.set_cons_succ]
    refine wpAnyH_take (i := 10) (oi := { dst := some 61, op := Op.binOp BinOp.sub 3 (Operand.tmp 60) (Operand.const (Value.int IntKind.i64 1)) 3, type := 3, pos := "flat.go:48", after := #[{ on := 9, ground := Ground.data }], guard := none }) (v := ?_) rfl (by kernel_rfl) (by kernel_rfl) (by kernel_rfl) (fun _ _ _ h => h) (Or.inl ⟨by rfl, ?_⟩) (by assumption) ?_
    case refine_2 => intro w hSw; (try dsimp only at hSw); obtain ⟨z0, z1, z2, z3, z4, z5, z6⟩ := HCE.out _ hSw; go_simp; (try with_reducible rfl)
    simp only [Act.put, List.setIfInBounds_toArray, List.set_cons_zero, List.set_cons_succ]
    refine wpAnyH_take (i := 11) (oi := { dst := some 62, op := Op.indexAddr 26 (Operand.tmp 59) (Operand.tmp 61), type := 0, pos := "flat.go:48", after := #[{ on := 8, ground := Ground.data }, { on := 10, ground := Ground.data }], guard := none }) (v := ?_) rfl (by kernel_rfl) (by kernel_rfl) (by kernel_rfl) (fun _ _ _ h => h) (Or.inl ⟨by rfl, ?_⟩) (by assumption) ?_
    case refine_2 => intro w hSw; (try dsimp only at hSw); obtain ⟨z0, z1, z2, z3, z4, z5, z6⟩ := HCE.out _ hSw; go_simp; (try with_reducible rfl)
    simp only [Act.put, List.setIfInBounds_toArray, List.set_cons_zero, List.set_cons_succ]
    refine wpAnyH_take (i := 12) (oi := { dst := some 63, op := Op.load 3 (Operand.tmp 62), type := 3, pos := "flat.go:48", after := #[{ on := 11, ground := Ground.data }], guard := none }) (v := ?_) rfl (by kernel_rfl) (by kernel_rfl) (by kernel_rfl) (fun _ _ _ h => h) (Or.inl ⟨by rfl, ?_⟩) (by assumption) ?_
    case refine_2 => intro w hSw; (try dsimp only at hSw); obtain ⟨z0, z1, z2, z3, z4, z5, z6⟩ := HCE.out _ hSw; go_simp; (try with_reducible rfl)
    simp only [Act.put, List.setIfInBounds_toArray, List.set_cons_zero, List.set_cons_succ]
    refine wpAnyH_take (i := 13) (oi := { dst := some 64, op := Op.binOp BinOp.add 3 (Operand.tmp 55) (Operand.tmp 63) 3, type := 3, pos := "flat.go:48", after := #[{ on := 4, ground := Ground.data }, { on := 12, ground := Ground.data }], guard := none }) (v := ?_) rfl (by kernel_rfl) (by kernel_rfl) (by kernel_rfl) (fun _ _ _ h => h) (Or.inl ⟨by rfl, ?_⟩) (by assumption) ?_
    case refine_2 => intro w hSw; (try dsimp only at hSw); obtain ⟨z0, z1, z2, z3, z4, z5, z6⟩ := HCE.out _ hSw; go_simp; (try with_reducible rfl)
    simp only [Act.put, List.setIfInBounds_toArray, List.set_cons_zero, List.set_cons_succ]
    refine wpAnyH_take (i := 14) (oi := { dst := some 65, op := Op.fieldAddr 52 (Operand.tmp 8) 1, type := 0, pos := "flat.go:48", after := #[], guard := none }) (v := ?_) rfl (by kernel_rfl) (by kernel_rfl) (by kernel_rfl) (fun _ _ _ h => h) (Or.inl ⟨by rfl, ?_⟩) (by assumption) ?_
    case refine_2 => intro w hSw; (try dsimp only at hSw); obtain ⟨z0, z1, z2, z3, z4, z5, z6⟩ := HCE.out _ hSw; go_simp; (try with_reducible rfl)
    simp only [Act.put, List.setIfInBounds_toArray, List.set_cons_zero, List.set_cons_succ]
    refine wpAnyH_take (i := 15) (oi := { dst := some 66, op := Op.load 3 (Operand.tmp 65), type := 3, pos := "flat.go:48", after := #[{ on := 14, ground := Ground.data }], guard := none }) (v := ?_) rfl (by kernel_rfl) (by kernel_rfl) (by kernel_rfl) (fun _ _ _ h => h) (Or.inl ⟨by rfl, ?_⟩) (by assumption) ?_
    case refine_2 => intro w hSw; (try dsimp only at hSw); obtain ⟨z0, z1, z2, z3, z4, z5, z6⟩ := HCE.out _ hSw; go_simp; (try with_reducible rfl)
    simp only [Act.put, List.setIfInBounds_toArray, List.set_cons_zero, List.set_cons_succ]
    refine wpAnyH_take (i := 16) (oi := { dst := some 67, op := Op.build 52 #[(0, Operand.tmp 64), (1, Operand.tmp 66)], type := 52, pos := "flat.go:48", after := #[{ on := 13, ground := Ground.data }, { on := 15, ground := Ground.data }], guard := none }) (v := ?_) rfl (by kernel_rfl) (by kernel_rfl) (by kernel_rfl) (fun _ _ _ h => h) (Or.inl ⟨by rfl, ?_⟩) (by assumption) ?_
    case refine_2 => intro w hSw; (try dsimp only at hSw); obtain ⟨z0, z1, z2, z3, z4, z5, z6⟩ := HCE.out _ hSw; go_simp; (try with_reducible rfl)
    simp only [Act.put, List.setIfInBounds_toArray, List.set_cons_zero, List.set_cons_succ]
    refine wpAnyH_take (i := 17) (oi := { dst := some 68, op := Op.nilCheck (Operand.tmp 51), type := 0, pos := "flat.go:48", after := #[{ on := 0, ground := Ground.data }], guard := none }) (v := ?_) rfl (by kernel_rfl) (by kernel_rfl) (by kernel_rfl) (fun _ _ _ h => h) (Or.inl ⟨by rfl, ?_⟩) (by assumption) ?_
    case refine_2 => intro w hSw; (try dsimp only at hSw); obtain ⟨z0, z1, z2, z3, z4, z5, z6⟩ := HCE.out _ hSw; go_simp; (try with_reducible rfl)
    simp only [Act.put, List.setIfInBounds_toArray, List.set_cons_zero, List.set_cons_succ]
    refine wpAnyH_take (i := 18) (oi := { dst := some 69, op := Op.fieldAddr 58 (Operand.tmp 68) 0, type := 0, pos := "flat.go:48", after := #[{ on := 17, ground := Ground.data }], guard := none }) (v := ?_) rfl (by kernel_rfl) (by kernel_rfl) (by kernel_rfl) (fun _ _ _ h => h) (Or.inl ⟨by rfl, ?_⟩) (by assumption) ?_
    case refine_2 => intro w hSw; (try dsimp only at hSw); obtain ⟨z0, z1, z2, z3, z4, z5, z6⟩ := HCE.out _ hSw; go_simp; (try with_reducible rfl)
    simp only [Act.put, List.setIfInBounds_toArray, List.set_cons_zero, List.set_cons_succ]
    refine wpAnyH_take (i := 19) (oi := { dst := some 70, op := Op.indexAddr 56 (Operand.tmp 69) (Operand.const (Value.int IntKind.i64 1)), type := 0, pos := "flat.go:48", after := #[{ on := 18, ground := Ground.data }], guard := none }) (v := ?_) rfl (by kernel_rfl) (by kernel_rfl) (by kernel_rfl) (fun _ _ _ h => h) (Or.inl ⟨by rfl, ?_⟩) (by assumption) ?_
    case refine_2 => intro w hSw; (try dsimp only at hSw); obtain ⟨z0, z1, z2, z3, z4, z5, z6⟩ := HCE.out _ hSw; go_simp; (try with_reducible rfl)
    simp only [Act.put, List.setIfInBounds_toArray, List.set_cons_zero, List.set_cons_succ]
    refine wpAnyH_take (i := 20) (oi := { dst := some 71, op := Op.indexAddr 55 (Operand.tmp 70) (Operand.tmp 52), type := 0, pos := "flat.go:48", after := #[{ on := 19, ground := Ground.data }, { on := 1, ground := Ground.data }], guard := none }) (v := ?_) rfl (by kernel_rfl) (by kernel_rfl) (by kernel_rfl) (fun _ _ _ h => h) (Or.inl ⟨by rfl, ?_⟩) (by assumption) ?_
    case refine_2 => intro w hSw; (try dsimp only at hSw); obtain ⟨z0, z1, z2, z3, z4, z5, z6⟩ := HCE.out _ hSw; go_simp; (try with_reducible rfl)
    simp only [Act.put, List.setIfInBounds_toArray, List.set_cons_zero, List.set_cons_succ]
    refine wpAnyH_take (i := 21) (oi := { dst := some 72, op := Op.indexAddr 53 (Operand.tmp 71) (Operand.tmp 53), type := 0, pos := "flat.go:48", after := #[{ on := 20, ground := Ground.data }, { on := 2, ground := Ground.data }, { on := 0, ground := Ground.phase }, { on := 1, ground := Ground.phase }, { on := 2, ground := Ground.phase }, { on := 3, ground := Ground.phase }, { on := 4, ground := Ground.phase }, { on := 5, ground := Ground.phase }, { on := 6, ground := Ground.phase }, { on := 7, ground := Ground.phase }, { on := 8, ground := Ground.phase }, { on := 9, ground := Ground.phase }, { on := 10, ground := Ground.phase }, { on := 11, ground := Ground.phase }, { on := 12, ground := Ground.phase }, { on := 13, ground := Ground.phase }, { on := 14, ground := Ground.phase }, { on := 15, ground := Ground.phase }, { on := 16, ground := Ground.phase }], guard := none }) (v := ?_) rfl (by kernel_rfl) (by kernel_rfl) (by kernel_rfl) (fun _ _ _ h => h) (Or.inl ⟨by rfl, ?_⟩) (by assumption) ?_
    case refine_2 => intro w hSw; (try dsimp only at hSw); obtain ⟨z0, z1, z2, z3, z4, z5, z6⟩ := HCE.out _ hSw; go_simp; (try with_reducible rfl)
    simp only [Act.put, List.setIfInBounds_toArray, List.set_cons_zero, List.set_cons_succ]
    refine wpAnyH_ready (rs := [22]) (by kernel_rfl) (by simp) ?_
    refine (AllReadyH.cons (o := { dst := none, op := Op.store 52 (Operand.tmp 72) (Operand.tmp 67), type := 0, pos := "flat.go:48", after := #[{ on := 21, ground := Ground.data }, { on := 16, ground := Ground.data }, { on := 0, ground := Ground.phase }, { on := 1, ground := Ground.phase }, { on := 2, ground := Ground.phase }, { on := 3, ground := Ground.phase }, { on := 4, ground := Ground.phase }, { on := 5, ground := Ground.phase }, { on := 6, ground := Ground.phase }, { on := 7, ground := Ground.phase }, { on := 8, ground := Ground.phase }, { on := 9, ground := Ground.phase }, { on := 10, ground := Ground.phase }, { on := 11, ground := Ground.phase }, { on := 12, ground := Ground.phase }, { on := 13, ground := Ground.phase }, { on := 14, ground := Ground.phase }, { on := 15, ground := Ground.phase }, { on := 16, ground := Ground.phase }], guard := none }) rfl (fun K hK => ?_) AllReadyH.nil)
    have HV : Hid (Fw w V5 q1 q2 q3 p8 p a b B P C2) := HE5.out.laid hS0
    have hL : ix 0 1 a b = 338 + a * 26 + b * 2 := by unfold ix; omega
    have hl := @ix_lt 0 1 a b (by decide) (by decide) (by have := HN.out; omega) (by have := HN.out; omega)
    have y0 := HV.out.fv.pz.cell (i := ix 0 1 a b) (by omega)
    have y1 := HV.out.fv.pz.cell (i := ix 0 1 a b + 1) hl
    have f0 := HV.out.fv.pz.froz (ix 0 1 a b)
    have f1 := HV.out.fv.pz.froz (ix 0 1 a b + 1)
    obtain ⟨v0, hv0⟩ : ∃ v, C2 (ix 0 1 a b) = v := ⟨_, rfl⟩
    obtain ⟨v1, hv1⟩ : ∃ v, C2 (ix 0 1 a b + 1) = v := ⟨_, rfl⟩
    have HN2 : Hid _ := HV.out.set 0 1 a b (B + y) (P : Int) ⟨by decide, by decide, by have := HN.out; omega, by have := HN.out; omega⟩
    have hk1 : Kp (fun k => k = p) V5 (V5.setCell ⟨p, 338 + a * 26 + b * 2, none⟩ (.int .i64 (B + y))) := (Kp.refl _ _).setCell _ _ _ (fun _ => rfl)
    have hS2 : Kp (fun k => k = p) W5 ((V5.setCell ⟨p, 338 + a * 26 + b * 2, none⟩ (.int .i64 (B + y))).setCell ⟨p, 338 + a * 26 + b * 2 + 1, none⟩ (.int .i64 (P : Int))) := kp_then (hS0.mono (Y := fun k => k = p) (fun _ _ e => e.elim)) (hk1.setCell _ _ _ (fun _ => rfl)) (fun _ _ e => e)
    rw [hv0] at y0
    rw [hv1] at y1
    rw [hL] at y0 y1 f0 f1 HN2
    clear hl hv0 hv1
    go_simp
    clear y0 y1 f0 f1 v0 v1
    refine hK.out _ _ ?_ (fun hHeld => ?_)
    · exact hS2
    clear hK K
    try simp only [Act.put, List.setIfInBounds_toArray, List.set_cons_zero, List.set_cons_succ]
    refine wpAnyH_done (by kernel_rfl) ?_ _
    generalize (V5.setCell ⟨p, 338 + a * 26 + b * 2, none⟩ (.int .i64 (B + y))).setCell ⟨p, 338 + a * 26 + b * 2 + 1, none⟩ (.int .i64 (P : Int)) = W6 at *
    obtain ⟨C3, hC3⟩ : ∃ D, up2 C2 0 1 a b (B + y) (P : Int) = D := ⟨_, rfl⟩
    have HW6 : Hid (Fw w W6 q1 q2 q3 p8 p a b B P C3 ∧ C3 = up2 C2 0 1 a b (B + y) (P : Int)) := ⟨hC3 ▸ HN2.out, hC3.symm⟩
    clear hC3 HN2 HV hL hS0 hS2 hk1 wy HBX HCE
    go_upto_region 6 with fail
    have HBX : Hid (∀ W, Kp (fun k => k = p) W6 W → W.cell? ⟨q1, 0, none⟩ = some (.pointer (some ⟨p, 0, none⟩)) ∧ W.cell? ⟨q2, 0, none⟩ = some (.int .i64 (a : Int)) ∧ W.cell? ⟨q3, 0, none⟩ = some (.int .i64 (b : Int))) := fun W hW => by
      have hf := HW6.out.1.off hW
      exact ⟨hf.1, hf.2.1, hf.2.2.1⟩
    have HBD1 : Hid (Bd C3) := by rw [HW6.out.2]; have h := bow_bd HD2.out.2.2 (e := 1) (P := P) (y := y) (by decide) HN.out.2.1 (by have := HN.out; omega) HP.out.1 HP.out.2.1 HY.out.2; rw [(HQQ.out P HP.out.1 HP.out.2.1).1, (HQQ.out P HP.out.1 HP.out.2.1).2, HB.out] at h; exact h
    have HCE : Hid _ := fun (W : World) (hSw : Kp (fun k => k = p) W6 W) => (And.intro ((HBX.out W hSw).1) (And.intro ((HBX.out W hSw).2.1) ((HBX.out W hSw).2.2)))
    refine wp_region_held_drew (S := fun W => Kp (fun k => k = p) W6 W) (by kernel_rfl) (by exact (Kp.refl _ W6).drewN 1) (fun hHeld => ?_)
    have hS0 : Kp (fun _ => False) W6 W6.drew := (Kp.refl _ _).drewN 1
    generalize hV : W6.drew = V6 at *
    clear hV
    refine wpAnyH_take (i := 0) (oi := { dst := some 73, op := Op.load 71 (Operand.tmp 4), type := 71, pos := "flat.go:49", after := #[], guard := none }) (v := ?_) rfl (by kernel_rfl) (by kernel_rfl) (by kernel_rfl) (fun _ _ _ h => h) (Or.inl ⟨by rfl, ?_⟩) (by assumption) ?_
    case refine_2 => intro w hSw; (try dsimp only at hSw); obtain ⟨z0, z1, z2⟩ := HCE.out _ hSw; go_simp; (try with_reducible rfl)
    simp only [Act.put, List.setIfInBounds_toArray, List.set_cons_zero, List.set_cons_succ]
    refine wpAnyH_take (i := 1) (oi := { dst := some 74, op := Op.load 3 (Operand.tmp 6), type := 3, pos := "flat.go:49", after := #[], guard := none }) (v := ?_) rfl (by kernel_rfl) (by kernel_rfl) (by kernel_rfl) (fun _ _ _ h => h) (Or.inl ⟨by rfl, ?_⟩) (by assumption) ?_
    case refine_2 => intro w hSw; (try dsimp only at hSw); obtain ⟨z0, z1, z2⟩ := HCE.out _ hSw; go_simp; (try with_reducible rfl)
    simp only [Act.put, List.setIfInBounds_toArray, List.set_cons_zero, List.set_cons_succ]
    refine wpAnyH_take (i := 2) (oi := { dst := some 75, op := Op.load 3 (Operand.tmp 7), type := 3, pos := "flat.go:49", after := #[], guard := none }) (v := ?_) rfl (by kernel_rfl) (by kernel_rfl) (by kernel_rfl) (fun _ _ _ h => h) (Or.inl ⟨by rfl, ?_⟩) (by assumption) ?_
    case refine_2 => intro w hSw; (try dsimp only at hSw); obtain ⟨z0, z1, z2⟩ := HCE.out _ hSw; go_simp; (try with_reducible rfl)
    simp only [Act.put, List.setIfInBounds_toArray, List.set_cons_zero, List.set_cons_succ]
    refine wpAnyH_take (i := 3) (oi := { dst := some 76, op := Op.load 3 (Operand.tmp 6), type := 3, pos := "flat.go:49", after := #[], guard := none }) (v := ?_) rfl (by kernel_rfl) (by kernel_rfl) (by kernel_rfl) (fun _ _ _ h => h) (Or.inl ⟨by rfl, ?_⟩) (by assumption) ?_
    case refine_2 => intro w hSw; (try dsimp only at hSw); obtain ⟨z0, z1, z2⟩ := HCE.out _ hSw; go_simp; (try with_reducible rfl)
    simp only [Act.put, List.setIfInBounds_toArray, List.set_cons_zero, List.set_cons_succ]
    refine wpAnyH_take (i := 4) (oi := { dst := some 77, op := Op.load 3 (Operand.tmp 7), type := 3, pos := "flat.go:49", after := #[], guard := none }) (v := ?_) rfl (by kernel_rfl) (by kernel_rfl) (by kernel_rfl) (fun _ _ _ h => h) (Or.inl ⟨by rfl, ?_⟩) (by assumption) ?_
    case refine_2 => intro w hSw; (try dsimp only at hSw); obtain ⟨z0, z1, z2⟩ := HCE.out _ hSw; go_simp; (try with_reducible rfl)
    simp only [Act.put, List.setIfInBounds_toArray, List.set_cons_zero, List.set_cons_succ]
    refine wpAnyH_take (i := 5) (oi := { dst := some 78, op := Op.binOp BinOp.sub 3 (Operand.tmp 77) (Operand.const (Value.int IntKind.i64 1)) 3, type := 3, pos := "flat.go:49", after := #[{ on := 4, ground := Ground.data }], guard := none }) (v := ?_) rfl (by kernel_rfl) (by kernel_rfl) (by kernel_rfl) (fun _ _ _ h => h) (Or.inl ⟨by rfl, ?_⟩) (by assumption) ?_
    case refine_2 => intro w hSw; (try dsimp only at hSw); obtain ⟨z0, z1, z2⟩ := HCE.out _ hSw; go_simp; (try with_reducible rfl)
    simp only [Act.put, List.setIfInBounds_toArray, List.set_cons_zero, List.set_cons_succ]
    refine wpAnyH_take (i := 6) (oi := { dst := some 79, op := Op.makeFunc (Fn.func 54) #[] #[Operand.tmp 4, Operand.tmp 6, Operand.tmp 7], type := 69, pos := "flat.go:49", after := #[], guard := none }) (v := ?_) rfl (by kernel_rfl) (by kernel_rfl) (by kernel_rfl) (fun _ _ _ h => h) (Or.inl ⟨by rfl, ?_⟩) (by assumption) ?_
    case refine_2 => intro w hSw; (try dsimp only at hSw); obtain ⟨z0, z1, z2⟩ := HCE.out _ hSw; go_simp; (try with_reducible rfl)
    simp only [Act.put, List.setIfInBounds_toArray, List.set_cons_zero, List.set_cons_succ]
    refine wpAnyH_take (i := 8) (oi := { dst := some 81, op := Op.nilCheck (Operand.tmp 73), type := 0, pos := "flat.go:49", after := #[{ on := 0, ground := Ground.data }], guard := none }) (v := ?_) rfl (by kernel_rfl) (by kernel_rfl) (by kernel_rfl) (fun _ _ _ h => h) (Or.inl ⟨by rfl, ?_⟩) (by assumption) ?_
    case refine_2 => intro w hSw; (try dsimp only at hSw); obtain ⟨z0, z1, z2⟩ := HCE.out _ hSw; go_simp; (try with_reducible rfl)
    simp only [Act.put, List.setIfInBounds_toArray, List.set_cons_zero, List.set_cons_succ]
    refine wpAnyH_take (i := 9) (oi := { dst := some 82, op := Op.fieldAddr 58 (Operand.tmp 81) 1, type := 0, pos := "flat.go:49", after := #[{ on := 8, ground := Ground.data }], guard := none }) (v := ?_) rfl (by kernel_rfl) (by kernel_rfl) (by kernel_rfl) (fun _ _ _ h => h) (Or.inl ⟨by rfl, ?_⟩) (by assumption) ?_
    case refine_2 => intro w hSw; (try dsimp only at hSw); obtain ⟨z0, z1, z2⟩ := HCE.out _ hSw; go_simp; (try with_reducible rfl)
    simp only [Act.put, List.setIfInBounds_toArray, List.set_cons_zero, List.set_cons_succ]
    refine wpAnyH_take (i := 10) (oi := { dst := some 83, op := Op.indexAddr 56 (Operand.tmp 82) (Operand.const (Value.int IntKind.i64 1)), type := 0, pos := "flat.go:49", after := #[{ on := 9, ground := Ground.data }], guard := none }) (v := ?_) rfl (by kernel_rfl) (by kernel_rfl) (by kernel_rfl) (fun _ _ _ h => h) (Or.inl ⟨by rfl, ?_⟩) (by assumption) ?_
    case refine_2 => intro w hSw; (try dsimp only at hSw); obtain ⟨z0, z1, z2⟩ := HCE.out _ hSw; go_simp; (try with_reducible rfl)
    simp only [Act.put, List.setIfInBounds_toArray, List.set_cons_zero, List.set_cons_succ]
    refine wpAnyH_take (i := 11) (oi := { dst := some 84, op := Op.indexAddr 55 (Operand.tmp 83) (Operand.tmp 74), type := 0, pos := "flat.go:49", after := #[{ on := 10, ground := Ground.data }, { on := 1, ground := Ground.data }], guard := none }) (v := ?_) rfl (by kernel_rfl) (by kernel_rfl) (by kernel_rfl) (fun _ _ _ h => h) (Or.inl ⟨by rfl, ?_⟩) (by assumption) ?_
    case refine_2 => intro w hSw; (try dsimp only at hSw); obtain ⟨z0, z1, z2⟩ := HCE.out _ hSw; go_simp; (try with_reducible rfl)
    simp only [Act.put, List.setIfInBounds_toArray, List.set_cons_zero, List.set_cons_succ]
    refine wpAnyH_ready (rs := [7]) (by kernel_rfl) (by simp) ?_
    refine (AllReadyH.cons (o := { dst := some 80, op := Op.call { callee := Callee.value (Operand.func 51), args := #[Operand.tmp 76, Operand.tmp 78, Operand.tmp 79], argTypes := #[3, 3, 69] }, type := 52, pos := "flat.go:49", after := #[{ on := 3, ground := Ground.data }, { on := 5, ground := Ground.data }, { on := 6, ground := Ground.data }], guard := none }) rfl (fun K hK => ?_) AllReadyH.nil)
    have K2 := high_3 (fun x => C3 (ix 1 1 a x) + C3 (ix 0 1 x b)) a b' q1 q2 q3 V6 (by have := HN.out; have := HM.out; omega) (by have := HN.out; have := HM.out; omega) (fun x h1 h2 W hW => fill3_any x W ((HW6.out.1.laid hS0).fv.below hW) HBD1.out.cs (by have := HN.out; omega) (by have := HN.out; omega) (by have := HM.out; omega) (by have := HM.out; omega))
    go_simp
    (with_reducible refine K2.mono ?_)
    clear K2
    rintro e3 w3 ⟨c, rfl, hc1, hc2, hcm, hb3⟩
    dsimp only
    obtain ⟨gx, hgx⟩ : ∃ g, C3 (ix 1 1 a c) + C3 (ix 0 1 c b) = g := ⟨_, rfl⟩
    rw [hgx]
    have HC : Hid (a ≤ c ∧ c ≤ b' ∧ (∀ x, a ≤ x → x ≤ b' → C3 (ix 1 1 a x) + C3 (ix 0 1 x b) ≤ C3 (ix 1 1 a c) + C3 (ix 0 1 c b)) ∧ C3 (ix 1 1 a c) + C3 (ix 0 1 c b) = gx) := ⟨hc1, hc2, hcm, hgx⟩
    have hS1 : Kp (fun _ => False) W6 w3 := kp_then hS0 (kp_below hb3 (fun _ => False)) (fun _ _ e => e)
    clear hc1 hc2 hcm hb3 hgx
    refine hK.out _ _ ?_ (fun hHeld => ?_)
    · first | exact hS2 | exact hS1.mono (fun _ _ e => e.elim)
    clear hK K
    try simp only [Act.put, List.setIfInBounds_toArray, List.set_cons_zero, List.set_cons_succ]
    refine wpAnyH_take (i := 12) (oi := { dst := some 85, op := Op.indexAddr 53 (Operand.tmp 84) (Operand.tmp 75), type := 0, pos := "flat.go:49", after := #[{ on := 11, ground := Ground.data }, { on := 2, ground := Ground.data }, { on := 0, ground := Ground.phase }, { on := 1, ground := Ground.phase }, { on := 2, ground := Ground.phase }, { on := 3, ground := Ground.phase }, { on := 4, ground := Ground.phase }, { on := 5, ground := Ground.phase }, { on := 6, ground := Ground.phase }, { on := 7, ground := Ground.phase }], guard := none }) (v := ?_) rfl (by kernel_rfl) (by kernel_rfl) (by kernel_rfl) (fun _ _ _ h => h) (Or.inl ⟨by rfl, ?_⟩) (by assumption) ?_
    case refine_2 => intro w hSw; (try dsimp only at hSw); obtain ⟨z0, z1, z2⟩ := HCE.out _ hSw; go_simp; (try with_reducible rfl)
    simp only [Act.put, List.setIfInBounds_toArray, List.set_cons_zero, List.set_cons_succ]
    refine wpAnyH_ready (rs := [13]) (by kernel_rfl) (by simp) ?_
    refine (AllReadyH.cons (o := { dst := none, op := Op.store 52 (Operand.tmp 85) (Operand.tmp 80), type := 0, pos := "flat.go:49", after := #[{ on := 12, ground := Ground.data }, { on := 7, ground := Ground.data }, { on := 7, ground := Ground.chain }, { on := 0, ground := Ground.phase }, { on := 1, ground := Ground.phase }, { on := 2, ground := Ground.phase }, { on := 3, ground := Ground.phase }, { on := 4, ground := Ground.phase }, { on := 5, ground := Ground.phase }, { on := 6, ground := Ground.phase }, { on := 7, ground := Ground.phase }], guard := none }) rfl (fun K hK => ?_) AllReadyH.nil)
    have HV : Hid (Fw w w3 q1 q2 q3 p8 p a b B P C3) := HW6.out.1.laid hS1
    have hL : ix 1 1 a b = 1014 + a * 26 + b * 2 := by unfold ix; omega
    have hl := @ix_lt 1 1 a b (by decide) (by decide) (by have := HN.out; omega) (by have := HN.out; omega)
    have y0 := HV.out.fv.pz.cell (i := ix 1 1 a b) (by omega)
    have y1 := HV.out.fv.pz.cell (i := ix 1 1 a b + 1) hl
    have f0 := HV.out.fv.pz.froz (ix 1 1 a b)
    have f1 := HV.out.fv.pz.froz (ix 1 1 a b + 1)
    obtain ⟨v0, hv0⟩ : ∃ v, C3 (ix 1 1 a b) = v := ⟨_, rfl⟩
    obtain ⟨v1, hv1⟩ : ∃ v, C3 (ix 1 1 a b + 1) = v := ⟨_, rfl⟩
    have HN2 : Hid _ := HV.out.set 1 1 a b gx (c : Int) ⟨by decide, by decide, by have := HN.out; omega, by have := HN.out; omega⟩
    have hk1 : Kp (fun k => k = p) w3 (w3.setCell ⟨p, 1014 + a * 26 + b * 2, none⟩ (.int .i64 gx)) := (Kp.refl _ _).setCell _ _ _ (fun _ => rfl)
    have hS2 : Kp (fun k => k = p) W6 ((w3.setCell ⟨p, 1014 + a * 26 + b * 2, none⟩ (.int .i64 gx)).setCell ⟨p, 1014 + a * 26 + b * 2 + 1, none⟩ (.int .i64 (c : Int))) := kp_then (hS1.mono (Y := fun k => k = p) (fun _ _ e => e.elim)) (hk1.setCell _ _ _ (fun _ => rfl)) (fun _ _ e => e)
    rw [hv0] at y0
    rw [hv1] at y1
    rw [hL] at y0 y1 f0 f1 HN2
    clear hl hv0 hv1
    go_simp
    clear y0 y1 f0 f1 v0 v1
    refine hK.out _ _ ?_ (fun hHeld => ?_)
    · first | exact hS2 | exact hS1.mono (fun _ _ e => e.elim)
    clear hK K
    try simp only [Act.put, List.setIfInBounds_toArray, List.set_cons_zero, List.set_cons_succ]
    refine wpAnyH_done (by kernel_rfl) ?_ _
    generalize (w3.setCell ⟨p, 1014 + a * 26 + b * 2, none⟩ (.int .i64 gx)).setCell ⟨p, 1014 + a * 26 + b * 2 + 1, none⟩ (.int .i64 (c : Int)) = W8 at *
    obtain ⟨C4, hC4⟩ : ∃ D, up2 C3 1 1 a b gx (c : Int) = D := ⟨_, rfl⟩
    have HW8 : Hid (Fw w W8 q1 q2 q3 p8 p a b B P C4 ∧ C4 = up2 C3 1 1 a b gx (c : Int)) := ⟨hC4 ▸ HN2.out, hC4.symm⟩
    clear hC4 HN2 HV hL hS0 hS1 hS2 hk1 HBX HCE
    have HD4 : Hid ((∀ f e a' b', inT f e a' b' → ¬ (e = 1 ∧ a' = a ∧ b' = b) → C4 (ix f e a' b') = C2 (ix f e a' b') ∧ C4 (ix f e a' b' + 1) = C2 (ix f e a' b' + 1)) ∧ Ok1 s C4 a b ∧ Bd C4) := fill1 HD2.out.2.2 HN.out.2.1 (by have := HN.out; omega) HP.out.1 HP.out.2.1 (fun p h1 h2 => by rw [(HQQ.out p h1 (by have := HN.out; omega)).1, (HQQ.out p h1 (by have := HN.out; omega)).2, (HQQ.out P HP.out.1 HP.out.2.1).1, (HQQ.out P HP.out.1 HP.out.2.1).2]; exact HP.out.2.2 p h1 h2) (by rw [HW6.out.2, (HQQ.out P HP.out.1 HP.out.2.1).1, (HQQ.out P HP.out.1 HP.out.2.1).2, HB.out, HY.out.1]) HC.out.1 (by have := HC.out; have := HM.out; omega) (fun x h1 h2 => HC.out.2.2.1 x h1 (by have := HM.out; omega)) (by rw [HY.out.1]; exact HY.out.2) (by rw [HC.out.2.2.2]; exact HW8.out.2)
    go_wp2
    first | go_end0 | refine bodyPost_ret (results_none rfl _ _ _) rfl ?_
    have hn := HN.out
    have hE : Eqv C2 C4 a b ∨ True := .inr trivial
    refine ⟨rfl, C4, HW8.out.1.fv.pz, HW8.out.1.kp, fun f e a' b' h h2 => ?_, ?_, fun _ => HD4.out.2.1, HD4.out.2.2⟩
    · rw [(HD4.out.1 f e a' b' h (by omega)).1, (HD4.out.1 f e a' b' h (by omega)).2]
      exact HD2.out.1 f e a' b' h (by omega)
    · exact ok0_up HD2.out.2.1 hn.2.1 (by omega) (fun f e a' b' h h2 => HD4.out.1 f e a' b' h h2) (by have := HA.out; omega)
end Go.Proofs.Ytpolnkdbebjpnaa.Hd
