/- The program's Check of a change, way by way, over what its callees answer. No conditions beyond those. -/
import Derived.Test.YtkcbgapakpheiaaCc
import Derived.Test.YtkcbgapakpheiaaIe
import Derived.Laws.EntriesVeiled
namespace Go.Proofs.Ytkcbgapakpheiaa.Ck
open Go.RowKit Go.Shelf Sd Md Sc Sp Tl Ie Cc

theorem two0 {w w3 : World} (hb : Below w.heap.size w w3) {p : Addr} {u : Value} (hp : p.block < w.heap.size) (hc : w.cell? p = some u) : w3.cell? p = some u := (hb.cell hp).trans hc
theorem two_cell {w w3 : World} (hb : Below w.heap.size w w3) {p : Addr} {u : Value} (hp : p.block < w.heap.size) (hc : w.cell? p = some u) : ∀ o1 o2, ((w3.alloc o1).alloc o2).cell? p = some u := by
  intro o1 o2
  have h1 : Below w.heap.size w ((w3.alloc o1).alloc o2) := (hb.alloc hb.size o1).alloc (by have := hb.size; simp; omega) o2
  exact (h1.cell hp).trans hc
theorem _root_.Go.Proofs.Ytkcbgapakpheiaa.Md.IsS.form {w : World} {v : Value} {l : List VS} (h : IsS w v l) : ∃ a n c, v = .slice a n c := by
  obtain ⟨a, cap, hv, _⟩ := h.len
  exact ⟨a, _, cap, hv⟩

/-- what lies where, behind the first steps -/
structure Ctx (w : World) (k : Int) (vf vt vl vr vs : Value) (l : List VS) (K : Nat) (W : World) : Prop where
  b : Below w.heap.size w W
  lt : w.heap.size < W.heap.size
  g0 : W.cell? ⟨w.heap.size, 0, none⟩ = some (.int .i64 k)
  g1 : W.cell? ⟨w.heap.size, 1, none⟩ = some vf
  g2 : W.cell? ⟨w.heap.size, 2, none⟩ = some vt
  g3 : W.cell? ⟨w.heap.size, 3, none⟩ = some vl
  g4 : W.cell? ⟨w.heap.size, 4, none⟩ = some vr
  kl : K < W.heap.size
  ck : W.cell? ⟨K, 0, none⟩ = some (.int .i64 k)
  cl : K + 1 < W.heap.size
  cc : W.cell? ⟨K + 1, 0, none⟩ = some (.func (.func 57) #[] #[.pointer (some ⟨K, 0, none⟩)])
  s : IsS W vs l
theorem Ctx.below {w : World} {k : Int} {vf vt vl vr vs : Value} {l : List VS} {K : Nat} {W W' : World} (h : Ctx w k vf vt vl vr vs l K W) (hb : Below W.heap.size W W') : Ctx w k vf vt vl vr vs l K W' :=
  ⟨h.b.trans (hb.mono h.b.size), Nat.lt_of_lt_of_le h.lt hb.size, (hb.cell h.lt).trans h.g0, (hb.cell h.lt).trans h.g1, (hb.cell h.lt).trans h.g2, (hb.cell h.lt).trans h.g3, (hb.cell h.lt).trans h.g4,
    Nat.lt_of_lt_of_le h.kl hb.size, (hb.cell h.kl).trans h.ck, Nat.lt_of_lt_of_le h.cl hb.size, (hb.cell h.cl).trans h.cc, h.s.below (Nat.le_refl _) hb⟩
theorem ctx5 {w W2 w3 : World} {k : Int} {vf vt vl vr vs : Value} {l : List VS} (hb : Below w.heap.size w W2) (hb3 : Below W2.heap.size W2 w3) (hlt : w.heap.size < W2.heap.size) (hs : IsS w3 vs l)
    (g0 : ∀ o1 o2, ((w3.alloc o1).alloc o2).cell? ⟨w.heap.size, 0, none⟩ = some (.int .i64 k)) (g1 : ∀ o1 o2, ((w3.alloc o1).alloc o2).cell? ⟨w.heap.size, 1, none⟩ = some vf) (g2 : ∀ o1 o2, ((w3.alloc o1).alloc o2).cell? ⟨w.heap.size, 2, none⟩ = some vt)
    (g3 : ∀ o1 o2, ((w3.alloc o1).alloc o2).cell? ⟨w.heap.size, 3, none⟩ = some vl) (g4 : ∀ o1 o2, ((w3.alloc o1).alloc o2).cell? ⟨w.heap.size, 4, none⟩ = some vr) :
    Ctx w k vf vt vl vr vs l w3.heap.size ((w3.alloc (.cells #[.int .i64 k] 3)).alloc (.cells #[.func (.func 57) #[] #[.pointer (some ⟨w3.heap.size, 0, none⟩)]] 66)) := by
  have b3 : Below w3.heap.size w3 ((w3.alloc (.cells #[.int .i64 k] 3)).alloc (.cells #[.func (.func 57) #[] #[.pointer (some ⟨w3.heap.size, 0, none⟩)]] 66)) := ((Below.refl _ _).alloc (Nat.le_refl _) _).alloc (by simp) _
  have e1 := hb.size
  have e2 := hb3.size
  exact ⟨(hb.trans (hb3.mono e1)).trans (b3.mono (by omega)), by simp; omega, g0 _ _, g1 _ _, g2 _ _, g3 _ _, g4 _ _, by simp; omega, by simp, by simp, by simp, hs.below (Nat.le_refl _) b3⟩

set_option maxHeartbeats 4000000 in
theorem few (k : Int) (vf vt : Value) (al ar : Option Addr) (nl cl nr cr : Nat) (ls rs : List VS) (w : World) (hk : k < 1)
    (con17 : ∀ (W : World) (B : Nat), Below w.heap.size w W → B < W.heap.size → W.cell? ⟨B, 0, none⟩ = some (.slice al nl cl) → W.cell? ⟨B, 1, none⟩ = some (.slice ar nr cr) → Calls Try.prog 38 #[.slice (some ⟨B, 0, none⟩) 2 2] W fun e w' => ∃ v, e = .returned v ∧ IsS w' v (ls ++ rs) ∧ Below W.heap.size W w') :
    Calls Try.prog 23 #[.agg #[.int .i64 k, vf, vt, .slice al nl cl, .slice ar nr cr]] w fun e w' => e = .returned (.int .i64 7) ∧ Below w.heap.size w w' := by
  have hb2 : ∀ o1 o2, Below w.heap.size w ((w.alloc o1).alloc o2) := fun o1 o2 => ((Below.refl _ w).alloc (Nat.le_refl _) o1).alloc (by simp) o2
  go_enter Try.func23, Try.ntmps23
  go_wp2_with (first
      | (go_at_call 38; refine (con17 _ _ (hb2 _ _) (by simp) (by simp) (by simp)).mono ?_; rintro e w3 ⟨vs, rfl, hvs, hb3⟩; obtain ⟨a3, n3, c3, rfl⟩ := hvs.form; have y0 := two0 (u := .int .i64 k) (p := ⟨w.heap.size, 0, none⟩) hb3 (by simp; omega) (by simp); have z0 := two_cell (u := (.int .i64 k)) (p := ⟨w.heap.size, 0, none⟩) hb3 (by simp; omega) (by simp); have z1 := two_cell (u := vf) (p := ⟨w.heap.size, 1, none⟩) hb3 (by simp; omega) (by simp); have z2 := two_cell (u := vt) (p := ⟨w.heap.size, 2, none⟩) hb3 (by simp; omega) (by simp); have z3 := two_cell (u := (.slice al nl cl)) (p := ⟨w.heap.size, 3, none⟩) hb3 (by simp; omega) (by simp); have z4 := two_cell (u := (.slice ar nr cr)) (p := ⟨w.heap.size, 4, none⟩) hb3 (by simp; omega) (by simp); have h5 := ctx5 (w := w) (k := k) (vf := vf) (vt := vt) (hb2 _ _) hb3 (by simp; omega) hvs z0 z1 z2 z3 z4)
      | (go_at_call 39; refine (outside_any _ _).mono ?_; rintro e w4 ⟨rfl, rfl⟩)
      | (go_at_call 40; refine (con19 _ h5.b).mono ?_; rintro e w6 ⟨rfl, hb6⟩; have h6 := h5.below hb6; have p60 := h6.g0; have p61 := h6.g1; have p62 := h6.g2; have p63 := h6.g3; have p64 := h6.g4; have pk6 := h6.ck; have pc6 := h6.cc)
      | (go_at_call 41; with_reducible refine (con20a _ _ h6.s).mono ?_; rintro e w7 ⟨rfl, hb7⟩; have h7 := h6.below hb7; have p70 := h7.g0; have p71 := h7.g1; have p72 := h7.g2; have p73 := h7.g3; have p74 := h7.g4; have pk7 := h7.ck; have pc7 := h7.cc)
      | (go_at_call 26; with_reducible refine (con22f _ _ h7.b h7.kl h7.ck).mono ?_; rintro e w8 ⟨rfl, hb8⟩; have h8 := h7.below hb8; have p80 := h8.g0; have p81 := h8.g1; have p82 := h8.g2; have p83 := h8.g3; have p84 := h8.g4; have pk8 := h8.ck; have pc8 := h8.cc)
      | (go_at_call 26; with_reducible refine (con22t _ _ h8.b h8.kl h8.ck).mono ?_; rintro e w9 ⟨rfl, hb9⟩; have h9 := h8.below hb9; have p90 := h9.g0; have p91 := h9.g1; have p92 := h9.g2; have p93 := h9.g3; have p94 := h9.g4; have pk9 := h9.ck; have pc9 := h9.cc)
      | (go_at_call 41; with_reducible refine (con20b _ _ _ h9.s h9.kl h9.ck h9.cl h9.cc).mono ?_; rintro e w10 ⟨rfl, hb10⟩; have h10 := h9.below hb10; have p100 := h10.g0; have p101 := h10.g1; have p102 := h10.g2; have p103 := h10.g3; have p104 := h10.g4; have pk10 := h10.ck; have pc10 := h10.cc)
      | (go_at_call 44; refine (con24 _ h10.b).mono ?_; rintro e w11 ⟨rfl, hb11⟩; have h11 := h10.below hb11))
  go_ret
  exact ⟨rfl, h5.b⟩
set_option maxHeartbeats 4000000 in
theorem many (k : Int) (vf vt : Value) (al ar : Option Addr) (nl cl nr cr : Nat) (ls rs : List VS) (w : World) (hk1 : ¬ k < 1) (hk : 4 < k)
    (con17 : ∀ (W : World) (B : Nat), Below w.heap.size w W → B < W.heap.size → W.cell? ⟨B, 0, none⟩ = some (.slice al nl cl) → W.cell? ⟨B, 1, none⟩ = some (.slice ar nr cr) → Calls Try.prog 38 #[.slice (some ⟨B, 0, none⟩) 2 2] W fun e w' => ∃ v, e = .returned v ∧ IsS w' v (ls ++ rs) ∧ Below W.heap.size W w') :
    Calls Try.prog 23 #[.agg #[.int .i64 k, vf, vt, .slice al nl cl, .slice ar nr cr]] w fun e w' => e = .returned (.int .i64 7) ∧ Below w.heap.size w w' := by
  have hb2 : ∀ o1 o2, Below w.heap.size w ((w.alloc o1).alloc o2) := fun o1 o2 => ((Below.refl _ w).alloc (Nat.le_refl _) o1).alloc (by simp) o2
  have d1 : decide (k < 1) = false := decide_eq_false hk1
  go_enter Try.func23, Try.ntmps23
  go_wp2_with (first
      | (go_at_call 38; refine (con17 _ _ (hb2 _ _) (by simp) (by simp) (by simp)).mono ?_; rintro e w3 ⟨vs, rfl, hvs, hb3⟩; obtain ⟨a3, n3, c3, rfl⟩ := hvs.form; have y0 := two0 (u := .int .i64 k) (p := ⟨w.heap.size, 0, none⟩) hb3 (by simp; omega) (by simp); have z0 := two_cell (u := (.int .i64 k)) (p := ⟨w.heap.size, 0, none⟩) hb3 (by simp; omega) (by simp); have z1 := two_cell (u := vf) (p := ⟨w.heap.size, 1, none⟩) hb3 (by simp; omega) (by simp); have z2 := two_cell (u := vt) (p := ⟨w.heap.size, 2, none⟩) hb3 (by simp; omega) (by simp); have z3 := two_cell (u := (.slice al nl cl)) (p := ⟨w.heap.size, 3, none⟩) hb3 (by simp; omega) (by simp); have z4 := two_cell (u := (.slice ar nr cr)) (p := ⟨w.heap.size, 4, none⟩) hb3 (by simp; omega) (by simp); have h5 := ctx5 (w := w) (k := k) (vf := vf) (vt := vt) (hb2 _ _) hb3 (by simp; omega) hvs z0 z1 z2 z3 z4)
      | (go_at_call 39; refine (outside_any _ _).mono ?_; rintro e w4 ⟨rfl, rfl⟩)
      | (go_at_call 40; refine (con19 _ h5.b).mono ?_; rintro e w6 ⟨rfl, hb6⟩; have h6 := h5.below hb6; have p60 := h6.g0; have p61 := h6.g1; have p62 := h6.g2; have p63 := h6.g3; have p64 := h6.g4; have pk6 := h6.ck; have pc6 := h6.cc)
      | (go_at_call 41; with_reducible refine (con20a _ _ h6.s).mono ?_; rintro e w7 ⟨rfl, hb7⟩; have h7 := h6.below hb7; have p70 := h7.g0; have p71 := h7.g1; have p72 := h7.g2; have p73 := h7.g3; have p74 := h7.g4; have pk7 := h7.ck; have pc7 := h7.cc)
      | (go_at_call 26; with_reducible refine (con22f _ _ h7.b h7.kl h7.ck).mono ?_; rintro e w8 ⟨rfl, hb8⟩; have h8 := h7.below hb8; have p80 := h8.g0; have p81 := h8.g1; have p82 := h8.g2; have p83 := h8.g3; have p84 := h8.g4; have pk8 := h8.ck; have pc8 := h8.cc)
      | (go_at_call 26; with_reducible refine (con22t _ _ h8.b h8.kl h8.ck).mono ?_; rintro e w9 ⟨rfl, hb9⟩; have h9 := h8.below hb9; have p90 := h9.g0; have p91 := h9.g1; have p92 := h9.g2; have p93 := h9.g3; have p94 := h9.g4; have pk9 := h9.ck; have pc9 := h9.cc)
      | (go_at_call 41; with_reducible refine (con20b _ _ _ h9.s h9.kl h9.ck h9.cl h9.cc).mono ?_; rintro e w10 ⟨rfl, hb10⟩; have h10 := h9.below hb10; have p100 := h10.g0; have p101 := h10.g1; have p102 := h10.g2; have p103 := h10.g3; have p104 := h10.g4; have pk10 := h10.ck; have pc10 := h10.cc)
      | (go_at_call 44; refine (con24 _ h10.b).mono ?_; rintro e w11 ⟨rfl, hb11⟩; have h11 := h10.below hb11))
  go_ret
  exact ⟨rfl, h5.b⟩
set_option maxHeartbeats 4000000 in
theorem long (k : Int) (vf vt : Value) (al ar : Option Addr) (nl cl nr cr : Nat) (ls rs : List VS) (w : World) (hk1 : ¬ k < 1) (hk2 : ¬ 4 < k)
    (con17 : ∀ (W : World) (B : Nat), Below w.heap.size w W → B < W.heap.size → W.cell? ⟨B, 0, none⟩ = some (.slice al nl cl) → W.cell? ⟨B, 1, none⟩ = some (.slice ar nr cr) → Calls Try.prog 38 #[.slice (some ⟨B, 0, none⟩) 2 2] W fun e w' => ∃ v, e = .returned v ∧ IsS w' v (ls ++ rs) ∧ Below W.heap.size W w')
    (con19 : ∀ W : World, Below w.heap.size w W → Calls Try.prog 40 #[.agg #[.int .i64 k, vf, vt, .slice al nl cl, .slice ar nr cr]] W fun e w' => e = .returned (.bool true) ∧ Below W.heap.size W w') :
    Calls Try.prog 23 #[.agg #[.int .i64 k, vf, vt, .slice al nl cl, .slice ar nr cr]] w fun e w' => e = .returned (.int .i64 2) ∧ Below w.heap.size w w' := by
  have hb2 : ∀ o1 o2, Below w.heap.size w ((w.alloc o1).alloc o2) := fun o1 o2 => ((Below.refl _ w).alloc (Nat.le_refl _) o1).alloc (by simp) o2
  have d1 : decide (k < 1) = false := decide_eq_false hk1
  have d2 : decide (4 < k) = false := decide_eq_false hk2
  go_enter Try.func23, Try.ntmps23
  go_wp2_with (first
      | (go_at_call 38; refine (con17 _ _ (hb2 _ _) (by simp) (by simp) (by simp)).mono ?_; rintro e w3 ⟨vs, rfl, hvs, hb3⟩; obtain ⟨a3, n3, c3, rfl⟩ := hvs.form; have y0 := two0 (u := .int .i64 k) (p := ⟨w.heap.size, 0, none⟩) hb3 (by simp; omega) (by simp); have z0 := two_cell (u := (.int .i64 k)) (p := ⟨w.heap.size, 0, none⟩) hb3 (by simp; omega) (by simp); have z1 := two_cell (u := vf) (p := ⟨w.heap.size, 1, none⟩) hb3 (by simp; omega) (by simp); have z2 := two_cell (u := vt) (p := ⟨w.heap.size, 2, none⟩) hb3 (by simp; omega) (by simp); have z3 := two_cell (u := (.slice al nl cl)) (p := ⟨w.heap.size, 3, none⟩) hb3 (by simp; omega) (by simp); have z4 := two_cell (u := (.slice ar nr cr)) (p := ⟨w.heap.size, 4, none⟩) hb3 (by simp; omega) (by simp); have h5 := ctx5 (w := w) (k := k) (vf := vf) (vt := vt) (hb2 _ _) hb3 (by simp; omega) hvs z0 z1 z2 z3 z4)
      | (go_at_call 39; refine (outside_any _ _).mono ?_; rintro e w4 ⟨rfl, rfl⟩)
      | (go_at_call 40; refine (con19 _ h5.b).mono ?_; rintro e w6 ⟨rfl, hb6⟩; have h6 := h5.below hb6; have p60 := h6.g0; have p61 := h6.g1; have p62 := h6.g2; have p63 := h6.g3; have p64 := h6.g4; have pk6 := h6.ck; have pc6 := h6.cc)
      | (go_at_call 41; with_reducible refine (con20a _ _ h6.s).mono ?_; rintro e w7 ⟨rfl, hb7⟩; have h7 := h6.below hb7; have p70 := h7.g0; have p71 := h7.g1; have p72 := h7.g2; have p73 := h7.g3; have p74 := h7.g4; have pk7 := h7.ck; have pc7 := h7.cc)
      | (go_at_call 26; with_reducible refine (con22f _ _ h7.b h7.kl h7.ck).mono ?_; rintro e w8 ⟨rfl, hb8⟩; have h8 := h7.below hb8; have p80 := h8.g0; have p81 := h8.g1; have p82 := h8.g2; have p83 := h8.g3; have p84 := h8.g4; have pk8 := h8.ck; have pc8 := h8.cc)
      | (go_at_call 26; with_reducible refine (con22t _ _ h8.b h8.kl h8.ck).mono ?_; rintro e w9 ⟨rfl, hb9⟩; have h9 := h8.below hb9; have p90 := h9.g0; have p91 := h9.g1; have p92 := h9.g2; have p93 := h9.g3; have p94 := h9.g4; have pk9 := h9.ck; have pc9 := h9.cc)
      | (go_at_call 41; with_reducible refine (con20b _ _ _ h9.s h9.kl h9.ck h9.cl h9.cc).mono ?_; rintro e w10 ⟨rfl, hb10⟩; have h10 := h9.below hb10; have p100 := h10.g0; have p101 := h10.g1; have p102 := h10.g2; have p103 := h10.g3; have p104 := h10.g4; have pk10 := h10.ck; have pc10 := h10.cc)
      | (go_at_call 44; refine (con24 _ h10.b).mono ?_; rintro e w11 ⟨rfl, hb11⟩; have h11 := h10.below hb11))
  go_ret
  exact ⟨rfl, h6.b⟩
set_option maxHeartbeats 4000000 in
theorem wideS (k : Int) (vf vt : Value) (al ar : Option Addr) (nl cl nr cr : Nat) (ls rs : List VS) (w : World) (hk1 : ¬ k < 1) (hk2 : ¬ 4 < k)
    (con17 : ∀ (W : World) (B : Nat), Below w.heap.size w W → B < W.heap.size → W.cell? ⟨B, 0, none⟩ = some (.slice al nl cl) → W.cell? ⟨B, 1, none⟩ = some (.slice ar nr cr) → Calls Try.prog 38 #[.slice (some ⟨B, 0, none⟩) 2 2] W fun e w' => ∃ v, e = .returned v ∧ IsS w' v (ls ++ rs) ∧ Below W.heap.size W w')
    (con19 : ∀ W : World, Below w.heap.size w W → Calls Try.prog 40 #[.agg #[.int .i64 k, vf, vt, .slice al nl cl, .slice ar nr cr]] W fun e w' => e = .returned (.bool false) ∧ Below W.heap.size W w')
    (con20a : ∀ (W : World) (v : Value), IsS W v (ls ++ rs) → Calls Try.prog 41 #[v, .func (.func 42) #[] #[]] W fun e w' => e = .returned (.bool true) ∧ Below W.heap.size W w') :
    Calls Try.prog 23 #[.agg #[.int .i64 k, vf, vt, .slice al nl cl, .slice ar nr cr]] w fun e w' => e = .returned (.int .i64 2) ∧ Below w.heap.size w w' := by
  have hb2 : ∀ o1 o2, Below w.heap.size w ((w.alloc o1).alloc o2) := fun o1 o2 => ((Below.refl _ w).alloc (Nat.le_refl _) o1).alloc (by simp) o2
  have d1 : decide (k < 1) = false := decide_eq_false hk1
  have d2 : decide (4 < k) = false := decide_eq_false hk2
  go_enter Try.func23, Try.ntmps23
  go_wp2_with (first
      | (go_at_call 38; refine (con17 _ _ (hb2 _ _) (by simp) (by simp) (by simp)).mono ?_; rintro e w3 ⟨vs, rfl, hvs, hb3⟩; obtain ⟨a3, n3, c3, rfl⟩ := hvs.form; have y0 := two0 (u := .int .i64 k) (p := ⟨w.heap.size, 0, none⟩) hb3 (by simp; omega) (by simp); have z0 := two_cell (u := (.int .i64 k)) (p := ⟨w.heap.size, 0, none⟩) hb3 (by simp; omega) (by simp); have z1 := two_cell (u := vf) (p := ⟨w.heap.size, 1, none⟩) hb3 (by simp; omega) (by simp); have z2 := two_cell (u := vt) (p := ⟨w.heap.size, 2, none⟩) hb3 (by simp; omega) (by simp); have z3 := two_cell (u := (.slice al nl cl)) (p := ⟨w.heap.size, 3, none⟩) hb3 (by simp; omega) (by simp); have z4 := two_cell (u := (.slice ar nr cr)) (p := ⟨w.heap.size, 4, none⟩) hb3 (by simp; omega) (by simp); have h5 := ctx5 (w := w) (k := k) (vf := vf) (vt := vt) (hb2 _ _) hb3 (by simp; omega) hvs z0 z1 z2 z3 z4)
      | (go_at_call 39; refine (outside_any _ _).mono ?_; rintro e w4 ⟨rfl, rfl⟩)
      | (go_at_call 40; refine (con19 _ h5.b).mono ?_; rintro e w6 ⟨rfl, hb6⟩; have h6 := h5.below hb6; have p60 := h6.g0; have p61 := h6.g1; have p62 := h6.g2; have p63 := h6.g3; have p64 := h6.g4; have pk6 := h6.ck; have pc6 := h6.cc)
      | (go_at_call 41; with_reducible refine (con20a _ _ h6.s).mono ?_; rintro e w7 ⟨rfl, hb7⟩; have h7 := h6.below hb7; have p70 := h7.g0; have p71 := h7.g1; have p72 := h7.g2; have p73 := h7.g3; have p74 := h7.g4; have pk7 := h7.ck; have pc7 := h7.cc)
      | (go_at_call 26; with_reducible refine (con22f _ _ h7.b h7.kl h7.ck).mono ?_; rintro e w8 ⟨rfl, hb8⟩; have h8 := h7.below hb8; have p80 := h8.g0; have p81 := h8.g1; have p82 := h8.g2; have p83 := h8.g3; have p84 := h8.g4; have pk8 := h8.ck; have pc8 := h8.cc)
      | (go_at_call 26; with_reducible refine (con22t _ _ h8.b h8.kl h8.ck).mono ?_; rintro e w9 ⟨rfl, hb9⟩; have h9 := h8.below hb9; have p90 := h9.g0; have p91 := h9.g1; have p92 := h9.g2; have p93 := h9.g3; have p94 := h9.g4; have pk9 := h9.ck; have pc9 := h9.cc)
      | (go_at_call 41; with_reducible refine (con20b _ _ _ h9.s h9.kl h9.ck h9.cl h9.cc).mono ?_; rintro e w10 ⟨rfl, hb10⟩; have h10 := h9.below hb10; have p100 := h10.g0; have p101 := h10.g1; have p102 := h10.g2; have p103 := h10.g3; have p104 := h10.g4; have pk10 := h10.ck; have pc10 := h10.cc)
      | (go_at_call 44; refine (con24 _ h10.b).mono ?_; rintro e w11 ⟨rfl, hb11⟩; have h11 := h10.below hb11))
  go_ret
  exact ⟨rfl, h7.b⟩
set_option maxHeartbeats 4000000 in
theorem farF (k : Int) (vf vt : Value) (al ar : Option Addr) (nl cl nr cr : Nat) (ls rs : List VS) (w : World) (hk1 : ¬ k < 1) (hk2 : ¬ 4 < k)
    (con17 : ∀ (W : World) (B : Nat), Below w.heap.size w W → B < W.heap.size → W.cell? ⟨B, 0, none⟩ = some (.slice al nl cl) → W.cell? ⟨B, 1, none⟩ = some (.slice ar nr cr) → Calls Try.prog 38 #[.slice (some ⟨B, 0, none⟩) 2 2] W fun e w' => ∃ v, e = .returned v ∧ IsS w' v (ls ++ rs) ∧ Below W.heap.size W w')
    (con19 : ∀ W : World, Below w.heap.size w W → Calls Try.prog 40 #[.agg #[.int .i64 k, vf, vt, .slice al nl cl, .slice ar nr cr]] W fun e w' => e = .returned (.bool false) ∧ Below W.heap.size W w')
    (con20a : ∀ (W : World) (v : Value), IsS W v (ls ++ rs) → Calls Try.prog 41 #[v, .func (.func 42) #[] #[]] W fun e w' => e = .returned (.bool false) ∧ Below W.heap.size W w')
    (con22f : ∀ (W : World) (K : Nat), Below w.heap.size w W → K < W.heap.size → W.cell? ⟨K, 0, none⟩ = some (.int .i64 k) → Calls Try.prog 26 #[vf, .func (.func 57) #[] #[.pointer (some ⟨K, 0, none⟩)]] W fun e w' => e = .returned (.bool true) ∧ Below W.heap.size W w') :
    Calls Try.prog 23 #[.agg #[.int .i64 k, vf, vt, .slice al nl cl, .slice ar nr cr]] w fun e w' => e = .returned (.int .i64 3) ∧ Below w.heap.size w w' := by
  have hb2 : ∀ o1 o2, Below w.heap.size w ((w.alloc o1).alloc o2) := fun o1 o2 => ((Below.refl _ w).alloc (Nat.le_refl _) o1).alloc (by simp) o2
  have d1 : decide (k < 1) = false := decide_eq_false hk1
  have d2 : decide (4 < k) = false := decide_eq_false hk2
  go_enter Try.func23, Try.ntmps23
  go_wp2_with (first
      | (go_at_call 38; refine (con17 _ _ (hb2 _ _) (by simp) (by simp) (by simp)).mono ?_; rintro e w3 ⟨vs, rfl, hvs, hb3⟩; obtain ⟨a3, n3, c3, rfl⟩ := hvs.form; have y0 := two0 (u := .int .i64 k) (p := ⟨w.heap.size, 0, none⟩) hb3 (by simp; omega) (by simp); have z0 := two_cell (u := (.int .i64 k)) (p := ⟨w.heap.size, 0, none⟩) hb3 (by simp; omega) (by simp); have z1 := two_cell (u := vf) (p := ⟨w.heap.size, 1, none⟩) hb3 (by simp; omega) (by simp); have z2 := two_cell (u := vt) (p := ⟨w.heap.size, 2, none⟩) hb3 (by simp; omega) (by simp); have z3 := two_cell (u := (.slice al nl cl)) (p := ⟨w.heap.size, 3, none⟩) hb3 (by simp; omega) (by simp); have z4 := two_cell (u := (.slice ar nr cr)) (p := ⟨w.heap.size, 4, none⟩) hb3 (by simp; omega) (by simp); have h5 := ctx5 (w := w) (k := k) (vf := vf) (vt := vt) (hb2 _ _) hb3 (by simp; omega) hvs z0 z1 z2 z3 z4)
      | (go_at_call 39; refine (outside_any _ _).mono ?_; rintro e w4 ⟨rfl, rfl⟩)
      | (go_at_call 40; refine (con19 _ h5.b).mono ?_; rintro e w6 ⟨rfl, hb6⟩; have h6 := h5.below hb6; have p60 := h6.g0; have p61 := h6.g1; have p62 := h6.g2; have p63 := h6.g3; have p64 := h6.g4; have pk6 := h6.ck; have pc6 := h6.cc)
      | (go_at_call 41; with_reducible refine (con20a _ _ h6.s).mono ?_; rintro e w7 ⟨rfl, hb7⟩; have h7 := h6.below hb7; have p70 := h7.g0; have p71 := h7.g1; have p72 := h7.g2; have p73 := h7.g3; have p74 := h7.g4; have pk7 := h7.ck; have pc7 := h7.cc)
      | (go_at_call 26; with_reducible refine (con22f _ _ h7.b h7.kl h7.ck).mono ?_; rintro e w8 ⟨rfl, hb8⟩; have h8 := h7.below hb8; have p80 := h8.g0; have p81 := h8.g1; have p82 := h8.g2; have p83 := h8.g3; have p84 := h8.g4; have pk8 := h8.ck; have pc8 := h8.cc)
      | (go_at_call 26; with_reducible refine (con22t _ _ h8.b h8.kl h8.ck).mono ?_; rintro e w9 ⟨rfl, hb9⟩; have h9 := h8.below hb9; have p90 := h9.g0; have p91 := h9.g1; have p92 := h9.g2; have p93 := h9.g3; have p94 := h9.g4; have pk9 := h9.ck; have pc9 := h9.cc)
      | (go_at_call 41; with_reducible refine (con20b _ _ _ h9.s h9.kl h9.ck h9.cl h9.cc).mono ?_; rintro e w10 ⟨rfl, hb10⟩; have h10 := h9.below hb10; have p100 := h10.g0; have p101 := h10.g1; have p102 := h10.g2; have p103 := h10.g3; have p104 := h10.g4; have pk10 := h10.ck; have pc10 := h10.cc)
      | (go_at_call 44; refine (con24 _ h10.b).mono ?_; rintro e w11 ⟨rfl, hb11⟩; have h11 := h10.below hb11))
  go_ret
  exact ⟨rfl, h8.b⟩
set_option maxHeartbeats 4000000 in
theorem farT (k : Int) (vf vt : Value) (al ar : Option Addr) (nl cl nr cr : Nat) (ls rs : List VS) (w : World) (hk1 : ¬ k < 1) (hk2 : ¬ 4 < k)
    (con17 : ∀ (W : World) (B : Nat), Below w.heap.size w W → B < W.heap.size → W.cell? ⟨B, 0, none⟩ = some (.slice al nl cl) → W.cell? ⟨B, 1, none⟩ = some (.slice ar nr cr) → Calls Try.prog 38 #[.slice (some ⟨B, 0, none⟩) 2 2] W fun e w' => ∃ v, e = .returned v ∧ IsS w' v (ls ++ rs) ∧ Below W.heap.size W w')
    (con19 : ∀ W : World, Below w.heap.size w W → Calls Try.prog 40 #[.agg #[.int .i64 k, vf, vt, .slice al nl cl, .slice ar nr cr]] W fun e w' => e = .returned (.bool false) ∧ Below W.heap.size W w')
    (con20a : ∀ (W : World) (v : Value), IsS W v (ls ++ rs) → Calls Try.prog 41 #[v, .func (.func 42) #[] #[]] W fun e w' => e = .returned (.bool false) ∧ Below W.heap.size W w')
    (con22f : ∀ (W : World) (K : Nat), Below w.heap.size w W → K < W.heap.size → W.cell? ⟨K, 0, none⟩ = some (.int .i64 k) → Calls Try.prog 26 #[vf, .func (.func 57) #[] #[.pointer (some ⟨K, 0, none⟩)]] W fun e w' => e = .returned (.bool false) ∧ Below W.heap.size W w')
    (con22t : ∀ (W : World) (K : Nat), Below w.heap.size w W → K < W.heap.size → W.cell? ⟨K, 0, none⟩ = some (.int .i64 k) → Calls Try.prog 26 #[vt, .func (.func 57) #[] #[.pointer (some ⟨K, 0, none⟩)]] W fun e w' => e = .returned (.bool true) ∧ Below W.heap.size W w') :
    Calls Try.prog 23 #[.agg #[.int .i64 k, vf, vt, .slice al nl cl, .slice ar nr cr]] w fun e w' => e = .returned (.int .i64 3) ∧ Below w.heap.size w w' := by
  have hb2 : ∀ o1 o2, Below w.heap.size w ((w.alloc o1).alloc o2) := fun o1 o2 => ((Below.refl _ w).alloc (Nat.le_refl _) o1).alloc (by simp) o2
  have d1 : decide (k < 1) = false := decide_eq_false hk1
  have d2 : decide (4 < k) = false := decide_eq_false hk2
  go_enter Try.func23, Try.ntmps23
  go_wp2_with (first
      | (go_at_call 38; refine (con17 _ _ (hb2 _ _) (by simp) (by simp) (by simp)).mono ?_; rintro e w3 ⟨vs, rfl, hvs, hb3⟩; obtain ⟨a3, n3, c3, rfl⟩ := hvs.form; have y0 := two0 (u := .int .i64 k) (p := ⟨w.heap.size, 0, none⟩) hb3 (by simp; omega) (by simp); have z0 := two_cell (u := (.int .i64 k)) (p := ⟨w.heap.size, 0, none⟩) hb3 (by simp; omega) (by simp); have z1 := two_cell (u := vf) (p := ⟨w.heap.size, 1, none⟩) hb3 (by simp; omega) (by simp); have z2 := two_cell (u := vt) (p := ⟨w.heap.size, 2, none⟩) hb3 (by simp; omega) (by simp); have z3 := two_cell (u := (.slice al nl cl)) (p := ⟨w.heap.size, 3, none⟩) hb3 (by simp; omega) (by simp); have z4 := two_cell (u := (.slice ar nr cr)) (p := ⟨w.heap.size, 4, none⟩) hb3 (by simp; omega) (by simp); have h5 := ctx5 (w := w) (k := k) (vf := vf) (vt := vt) (hb2 _ _) hb3 (by simp; omega) hvs z0 z1 z2 z3 z4)
      | (go_at_call 39; refine (outside_any _ _).mono ?_; rintro e w4 ⟨rfl, rfl⟩)
      | (go_at_call 40; refine (con19 _ h5.b).mono ?_; rintro e w6 ⟨rfl, hb6⟩; have h6 := h5.below hb6; have p60 := h6.g0; have p61 := h6.g1; have p62 := h6.g2; have p63 := h6.g3; have p64 := h6.g4; have pk6 := h6.ck; have pc6 := h6.cc)
      | (go_at_call 41; with_reducible refine (con20a _ _ h6.s).mono ?_; rintro e w7 ⟨rfl, hb7⟩; have h7 := h6.below hb7; have p70 := h7.g0; have p71 := h7.g1; have p72 := h7.g2; have p73 := h7.g3; have p74 := h7.g4; have pk7 := h7.ck; have pc7 := h7.cc)
      | (go_at_call 26; with_reducible refine (con22f _ _ h7.b h7.kl h7.ck).mono ?_; rintro e w8 ⟨rfl, hb8⟩; have h8 := h7.below hb8; have p80 := h8.g0; have p81 := h8.g1; have p82 := h8.g2; have p83 := h8.g3; have p84 := h8.g4; have pk8 := h8.ck; have pc8 := h8.cc)
      | (go_at_call 26; with_reducible refine (con22t _ _ h8.b h8.kl h8.ck).mono ?_; rintro e w9 ⟨rfl, hb9⟩; have h9 := h8.below hb9; have p90 := h9.g0; have p91 := h9.g1; have p92 := h9.g2; have p93 := h9.g3; have p94 := h9.g4; have pk9 := h9.ck; have pc9 := h9.cc)
      | (go_at_call 41; with_reducible refine (con20b _ _ _ h9.s h9.kl h9.ck h9.cl h9.cc).mono ?_; rintro e w10 ⟨rfl, hb10⟩; have h10 := h9.below hb10; have p100 := h10.g0; have p101 := h10.g1; have p102 := h10.g2; have p103 := h10.g3; have p104 := h10.g4; have pk10 := h10.ck; have pc10 := h10.cc)
      | (go_at_call 44; refine (con24 _ h10.b).mono ?_; rintro e w11 ⟨rfl, hb11⟩; have h11 := h10.below hb11))
  go_ret
  exact ⟨rfl, h9.b⟩
set_option maxHeartbeats 4000000 in
theorem farS (k : Int) (vf vt : Value) (al ar : Option Addr) (nl cl nr cr : Nat) (ls rs : List VS) (w : World) (hk1 : ¬ k < 1) (hk2 : ¬ 4 < k)
    (con17 : ∀ (W : World) (B : Nat), Below w.heap.size w W → B < W.heap.size → W.cell? ⟨B, 0, none⟩ = some (.slice al nl cl) → W.cell? ⟨B, 1, none⟩ = some (.slice ar nr cr) → Calls Try.prog 38 #[.slice (some ⟨B, 0, none⟩) 2 2] W fun e w' => ∃ v, e = .returned v ∧ IsS w' v (ls ++ rs) ∧ Below W.heap.size W w')
    (con19 : ∀ W : World, Below w.heap.size w W → Calls Try.prog 40 #[.agg #[.int .i64 k, vf, vt, .slice al nl cl, .slice ar nr cr]] W fun e w' => e = .returned (.bool false) ∧ Below W.heap.size W w')
    (con20a : ∀ (W : World) (v : Value), IsS W v (ls ++ rs) → Calls Try.prog 41 #[v, .func (.func 42) #[] #[]] W fun e w' => e = .returned (.bool false) ∧ Below W.heap.size W w')
    (con22f : ∀ (W : World) (K : Nat), Below w.heap.size w W → K < W.heap.size → W.cell? ⟨K, 0, none⟩ = some (.int .i64 k) → Calls Try.prog 26 #[vf, .func (.func 57) #[] #[.pointer (some ⟨K, 0, none⟩)]] W fun e w' => e = .returned (.bool false) ∧ Below W.heap.size W w')
    (con22t : ∀ (W : World) (K : Nat), Below w.heap.size w W → K < W.heap.size → W.cell? ⟨K, 0, none⟩ = some (.int .i64 k) → Calls Try.prog 26 #[vt, .func (.func 57) #[] #[.pointer (some ⟨K, 0, none⟩)]] W fun e w' => e = .returned (.bool false) ∧ Below W.heap.size W w')
    (con20b : ∀ (W : World) (v : Value) (K : Nat), IsS W v (ls ++ rs) → K < W.heap.size → W.cell? ⟨K, 0, none⟩ = some (.int .i64 k) → K + 1 < W.heap.size → W.cell? ⟨K + 1, 0, none⟩ = some (.func (.func 57) #[] #[.pointer (some ⟨K, 0, none⟩)]) → Calls Try.prog 41 #[v, .func (.func 43) #[] #[.pointer (some ⟨K + 1, 0, none⟩)]] W fun e w' => e = .returned (.bool true) ∧ Below W.heap.size W w') :
    Calls Try.prog 23 #[.agg #[.int .i64 k, vf, vt, .slice al nl cl, .slice ar nr cr]] w fun e w' => e = .returned (.int .i64 3) ∧ Below w.heap.size w w' := by
  have hb2 : ∀ o1 o2, Below w.heap.size w ((w.alloc o1).alloc o2) := fun o1 o2 => ((Below.refl _ w).alloc (Nat.le_refl _) o1).alloc (by simp) o2
  have d1 : decide (k < 1) = false := decide_eq_false hk1
  have d2 : decide (4 < k) = false := decide_eq_false hk2
  go_enter Try.func23, Try.ntmps23
  go_wp2_with (first
      | (go_at_call 38; refine (con17 _ _ (hb2 _ _) (by simp) (by simp) (by simp)).mono ?_; rintro e w3 ⟨vs, rfl, hvs, hb3⟩; obtain ⟨a3, n3, c3, rfl⟩ := hvs.form; have y0 := two0 (u := .int .i64 k) (p := ⟨w.heap.size, 0, none⟩) hb3 (by simp; omega) (by simp); have z0 := two_cell (u := (.int .i64 k)) (p := ⟨w.heap.size, 0, none⟩) hb3 (by simp; omega) (by simp); have z1 := two_cell (u := vf) (p := ⟨w.heap.size, 1, none⟩) hb3 (by simp; omega) (by simp); have z2 := two_cell (u := vt) (p := ⟨w.heap.size, 2, none⟩) hb3 (by simp; omega) (by simp); have z3 := two_cell (u := (.slice al nl cl)) (p := ⟨w.heap.size, 3, none⟩) hb3 (by simp; omega) (by simp); have z4 := two_cell (u := (.slice ar nr cr)) (p := ⟨w.heap.size, 4, none⟩) hb3 (by simp; omega) (by simp); have h5 := ctx5 (w := w) (k := k) (vf := vf) (vt := vt) (hb2 _ _) hb3 (by simp; omega) hvs z0 z1 z2 z3 z4)
      | (go_at_call 39; refine (outside_any _ _).mono ?_; rintro e w4 ⟨rfl, rfl⟩)
      | (go_at_call 40; refine (con19 _ h5.b).mono ?_; rintro e w6 ⟨rfl, hb6⟩; have h6 := h5.below hb6; have p60 := h6.g0; have p61 := h6.g1; have p62 := h6.g2; have p63 := h6.g3; have p64 := h6.g4; have pk6 := h6.ck; have pc6 := h6.cc)
      | (go_at_call 41; with_reducible refine (con20a _ _ h6.s).mono ?_; rintro e w7 ⟨rfl, hb7⟩; have h7 := h6.below hb7; have p70 := h7.g0; have p71 := h7.g1; have p72 := h7.g2; have p73 := h7.g3; have p74 := h7.g4; have pk7 := h7.ck; have pc7 := h7.cc)
      | (go_at_call 26; with_reducible refine (con22f _ _ h7.b h7.kl h7.ck).mono ?_; rintro e w8 ⟨rfl, hb8⟩; have h8 := h7.below hb8; have p80 := h8.g0; have p81 := h8.g1; have p82 := h8.g2; have p83 := h8.g3; have p84 := h8.g4; have pk8 := h8.ck; have pc8 := h8.cc)
      | (go_at_call 26; with_reducible refine (con22t _ _ h8.b h8.kl h8.ck).mono ?_; rintro e w9 ⟨rfl, hb9⟩; have h9 := h8.below hb9; have p90 := h9.g0; have p91 := h9.g1; have p92 := h9.g2; have p93 := h9.g3; have p94 := h9.g4; have pk9 := h9.ck; have pc9 := h9.cc)
      | (go_at_call 41; with_reducible refine (con20b _ _ _ h9.s h9.kl h9.ck h9.cl h9.cc).mono ?_; rintro e w10 ⟨rfl, hb10⟩; have h10 := h9.below hb10; have p100 := h10.g0; have p101 := h10.g1; have p102 := h10.g2; have p103 := h10.g3; have p104 := h10.g4; have pk10 := h10.ck; have pc10 := h10.cc)
      | (go_at_call 44; refine (con24 _ h10.b).mono ?_; rintro e w11 ⟨rfl, hb11⟩; have h11 := h10.below hb11))
  go_ret
  exact ⟨rfl, h10.b⟩
set_option maxHeartbeats 4000000 in
theorem edge (k : Int) (vf vt : Value) (al ar : Option Addr) (nl cl nr cr : Nat) (ls rs : List VS) (w : World) (hk1 : ¬ k < 1) (hk2 : ¬ 4 < k)
    (con17 : ∀ (W : World) (B : Nat), Below w.heap.size w W → B < W.heap.size → W.cell? ⟨B, 0, none⟩ = some (.slice al nl cl) → W.cell? ⟨B, 1, none⟩ = some (.slice ar nr cr) → Calls Try.prog 38 #[.slice (some ⟨B, 0, none⟩) 2 2] W fun e w' => ∃ v, e = .returned v ∧ IsS w' v (ls ++ rs) ∧ Below W.heap.size W w')
    (con19 : ∀ W : World, Below w.heap.size w W → Calls Try.prog 40 #[.agg #[.int .i64 k, vf, vt, .slice al nl cl, .slice ar nr cr]] W fun e w' => e = .returned (.bool false) ∧ Below W.heap.size W w')
    (con20a : ∀ (W : World) (v : Value), IsS W v (ls ++ rs) → Calls Try.prog 41 #[v, .func (.func 42) #[] #[]] W fun e w' => e = .returned (.bool false) ∧ Below W.heap.size W w')
    (con22f : ∀ (W : World) (K : Nat), Below w.heap.size w W → K < W.heap.size → W.cell? ⟨K, 0, none⟩ = some (.int .i64 k) → Calls Try.prog 26 #[vf, .func (.func 57) #[] #[.pointer (some ⟨K, 0, none⟩)]] W fun e w' => e = .returned (.bool false) ∧ Below W.heap.size W w')
    (con22t : ∀ (W : World) (K : Nat), Below w.heap.size w W → K < W.heap.size → W.cell? ⟨K, 0, none⟩ = some (.int .i64 k) → Calls Try.prog 26 #[vt, .func (.func 57) #[] #[.pointer (some ⟨K, 0, none⟩)]] W fun e w' => e = .returned (.bool false) ∧ Below W.heap.size W w')
    (con20b : ∀ (W : World) (v : Value) (K : Nat), IsS W v (ls ++ rs) → K < W.heap.size → W.cell? ⟨K, 0, none⟩ = some (.int .i64 k) → K + 1 < W.heap.size → W.cell? ⟨K + 1, 0, none⟩ = some (.func (.func 57) #[] #[.pointer (some ⟨K, 0, none⟩)]) → Calls Try.prog 41 #[v, .func (.func 43) #[] #[.pointer (some ⟨K + 1, 0, none⟩)]] W fun e w' => e = .returned (.bool false) ∧ Below W.heap.size W w')
    (con24 : ∀ W : World, Below w.heap.size w W → Calls Try.prog 44 #[.agg #[.int .i64 k, vf, vt, .slice al nl cl, .slice ar nr cr]] W fun e w' => e = .returned (.bool true) ∧ Below W.heap.size W w') :
    Calls Try.prog 23 #[.agg #[.int .i64 k, vf, vt, .slice al nl cl, .slice ar nr cr]] w fun e w' => e = .returned (.int .i64 1) ∧ Below w.heap.size w w' := by
  have hb2 : ∀ o1 o2, Below w.heap.size w ((w.alloc o1).alloc o2) := fun o1 o2 => ((Below.refl _ w).alloc (Nat.le_refl _) o1).alloc (by simp) o2
  have d1 : decide (k < 1) = false := decide_eq_false hk1
  have d2 : decide (4 < k) = false := decide_eq_false hk2
  go_enter Try.func23, Try.ntmps23
  go_wp2_with (first
      | (go_at_call 38; refine (con17 _ _ (hb2 _ _) (by simp) (by simp) (by simp)).mono ?_; rintro e w3 ⟨vs, rfl, hvs, hb3⟩; obtain ⟨a3, n3, c3, rfl⟩ := hvs.form; have y0 := two0 (u := .int .i64 k) (p := ⟨w.heap.size, 0, none⟩) hb3 (by simp; omega) (by simp); have z0 := two_cell (u := (.int .i64 k)) (p := ⟨w.heap.size, 0, none⟩) hb3 (by simp; omega) (by simp); have z1 := two_cell (u := vf) (p := ⟨w.heap.size, 1, none⟩) hb3 (by simp; omega) (by simp); have z2 := two_cell (u := vt) (p := ⟨w.heap.size, 2, none⟩) hb3 (by simp; omega) (by simp); have z3 := two_cell (u := (.slice al nl cl)) (p := ⟨w.heap.size, 3, none⟩) hb3 (by simp; omega) (by simp); have z4 := two_cell (u := (.slice ar nr cr)) (p := ⟨w.heap.size, 4, none⟩) hb3 (by simp; omega) (by simp); have h5 := ctx5 (w := w) (k := k) (vf := vf) (vt := vt) (hb2 _ _) hb3 (by simp; omega) hvs z0 z1 z2 z3 z4)
      | (go_at_call 39; refine (outside_any _ _).mono ?_; rintro e w4 ⟨rfl, rfl⟩)
      | (go_at_call 40; refine (con19 _ h5.b).mono ?_; rintro e w6 ⟨rfl, hb6⟩; have h6 := h5.below hb6; have p60 := h6.g0; have p61 := h6.g1; have p62 := h6.g2; have p63 := h6.g3; have p64 := h6.g4; have pk6 := h6.ck; have pc6 := h6.cc)
      | (go_at_call 41; with_reducible refine (con20a _ _ h6.s).mono ?_; rintro e w7 ⟨rfl, hb7⟩; have h7 := h6.below hb7; have p70 := h7.g0; have p71 := h7.g1; have p72 := h7.g2; have p73 := h7.g3; have p74 := h7.g4; have pk7 := h7.ck; have pc7 := h7.cc)
      | (go_at_call 26; with_reducible refine (con22f _ _ h7.b h7.kl h7.ck).mono ?_; rintro e w8 ⟨rfl, hb8⟩; have h8 := h7.below hb8; have p80 := h8.g0; have p81 := h8.g1; have p82 := h8.g2; have p83 := h8.g3; have p84 := h8.g4; have pk8 := h8.ck; have pc8 := h8.cc)
      | (go_at_call 26; with_reducible refine (con22t _ _ h8.b h8.kl h8.ck).mono ?_; rintro e w9 ⟨rfl, hb9⟩; have h9 := h8.below hb9; have p90 := h9.g0; have p91 := h9.g1; have p92 := h9.g2; have p93 := h9.g3; have p94 := h9.g4; have pk9 := h9.ck; have pc9 := h9.cc)
      | (go_at_call 41; with_reducible refine (con20b _ _ _ h9.s h9.kl h9.ck h9.cl h9.cc).mono ?_; rintro e w10 ⟨rfl, hb10⟩; have h10 := h9.below hb10; have p100 := h10.g0; have p101 := h10.g1; have p102 := h10.g2; have p103 := h10.g3; have p104 := h10.g4; have pk10 := h10.ck; have pc10 := h10.cc)
      | (go_at_call 44; refine (con24 _ h10.b).mono ?_; rintro e w11 ⟨rfl, hb11⟩; have h11 := h10.below hb11))
  go_ret
  exact ⟨rfl, h11.b⟩
set_option maxHeartbeats 4000000 in
theorem fine (k : Int) (vf vt : Value) (al ar : Option Addr) (nl cl nr cr : Nat) (ls rs : List VS) (w : World) (hk1 : ¬ k < 1) (hk2 : ¬ 4 < k)
    (con17 : ∀ (W : World) (B : Nat), Below w.heap.size w W → B < W.heap.size → W.cell? ⟨B, 0, none⟩ = some (.slice al nl cl) → W.cell? ⟨B, 1, none⟩ = some (.slice ar nr cr) → Calls Try.prog 38 #[.slice (some ⟨B, 0, none⟩) 2 2] W fun e w' => ∃ v, e = .returned v ∧ IsS w' v (ls ++ rs) ∧ Below W.heap.size W w')
    (con19 : ∀ W : World, Below w.heap.size w W → Calls Try.prog 40 #[.agg #[.int .i64 k, vf, vt, .slice al nl cl, .slice ar nr cr]] W fun e w' => e = .returned (.bool false) ∧ Below W.heap.size W w')
    (con20a : ∀ (W : World) (v : Value), IsS W v (ls ++ rs) → Calls Try.prog 41 #[v, .func (.func 42) #[] #[]] W fun e w' => e = .returned (.bool false) ∧ Below W.heap.size W w')
    (con22f : ∀ (W : World) (K : Nat), Below w.heap.size w W → K < W.heap.size → W.cell? ⟨K, 0, none⟩ = some (.int .i64 k) → Calls Try.prog 26 #[vf, .func (.func 57) #[] #[.pointer (some ⟨K, 0, none⟩)]] W fun e w' => e = .returned (.bool false) ∧ Below W.heap.size W w')
    (con22t : ∀ (W : World) (K : Nat), Below w.heap.size w W → K < W.heap.size → W.cell? ⟨K, 0, none⟩ = some (.int .i64 k) → Calls Try.prog 26 #[vt, .func (.func 57) #[] #[.pointer (some ⟨K, 0, none⟩)]] W fun e w' => e = .returned (.bool false) ∧ Below W.heap.size W w')
    (con20b : ∀ (W : World) (v : Value) (K : Nat), IsS W v (ls ++ rs) → K < W.heap.size → W.cell? ⟨K, 0, none⟩ = some (.int .i64 k) → K + 1 < W.heap.size → W.cell? ⟨K + 1, 0, none⟩ = some (.func (.func 57) #[] #[.pointer (some ⟨K, 0, none⟩)]) → Calls Try.prog 41 #[v, .func (.func 43) #[] #[.pointer (some ⟨K + 1, 0, none⟩)]] W fun e w' => e = .returned (.bool false) ∧ Below W.heap.size W w')
    (con24 : ∀ W : World, Below w.heap.size w W → Calls Try.prog 44 #[.agg #[.int .i64 k, vf, vt, .slice al nl cl, .slice ar nr cr]] W fun e w' => e = .returned (.bool false) ∧ Below W.heap.size W w') :
    Calls Try.prog 23 #[.agg #[.int .i64 k, vf, vt, .slice al nl cl, .slice ar nr cr]] w fun e w' => e = .returned (.int .i64 0) ∧ Below w.heap.size w w' := by
  have hb2 : ∀ o1 o2, Below w.heap.size w ((w.alloc o1).alloc o2) := fun o1 o2 => ((Below.refl _ w).alloc (Nat.le_refl _) o1).alloc (by simp) o2
  have d1 : decide (k < 1) = false := decide_eq_false hk1
  have d2 : decide (4 < k) = false := decide_eq_false hk2
  go_enter Try.func23, Try.ntmps23
  go_wp2_with (first
      | (go_at_call 38; refine (con17 _ _ (hb2 _ _) (by simp) (by simp) (by simp)).mono ?_; rintro e w3 ⟨vs, rfl, hvs, hb3⟩; obtain ⟨a3, n3, c3, rfl⟩ := hvs.form; have y0 := two0 (u := .int .i64 k) (p := ⟨w.heap.size, 0, none⟩) hb3 (by simp; omega) (by simp); have z0 := two_cell (u := (.int .i64 k)) (p := ⟨w.heap.size, 0, none⟩) hb3 (by simp; omega) (by simp); have z1 := two_cell (u := vf) (p := ⟨w.heap.size, 1, none⟩) hb3 (by simp; omega) (by simp); have z2 := two_cell (u := vt) (p := ⟨w.heap.size, 2, none⟩) hb3 (by simp; omega) (by simp); have z3 := two_cell (u := (.slice al nl cl)) (p := ⟨w.heap.size, 3, none⟩) hb3 (by simp; omega) (by simp); have z4 := two_cell (u := (.slice ar nr cr)) (p := ⟨w.heap.size, 4, none⟩) hb3 (by simp; omega) (by simp); have h5 := ctx5 (w := w) (k := k) (vf := vf) (vt := vt) (hb2 _ _) hb3 (by simp; omega) hvs z0 z1 z2 z3 z4)
      | (go_at_call 39; refine (outside_any _ _).mono ?_; rintro e w4 ⟨rfl, rfl⟩)
      | (go_at_call 40; refine (con19 _ h5.b).mono ?_; rintro e w6 ⟨rfl, hb6⟩; have h6 := h5.below hb6; have p60 := h6.g0; have p61 := h6.g1; have p62 := h6.g2; have p63 := h6.g3; have p64 := h6.g4; have pk6 := h6.ck; have pc6 := h6.cc)
      | (go_at_call 41; with_reducible refine (con20a _ _ h6.s).mono ?_; rintro e w7 ⟨rfl, hb7⟩; have h7 := h6.below hb7; have p70 := h7.g0; have p71 := h7.g1; have p72 := h7.g2; have p73 := h7.g3; have p74 := h7.g4; have pk7 := h7.ck; have pc7 := h7.cc)
      | (go_at_call 26; with_reducible refine (con22f _ _ h7.b h7.kl h7.ck).mono ?_; rintro e w8 ⟨rfl, hb8⟩; have h8 := h7.below hb8; have p80 := h8.g0; have p81 := h8.g1; have p82 := h8.g2; have p83 := h8.g3; have p84 := h8.g4; have pk8 := h8.ck; have pc8 := h8.cc)
      | (go_at_call 26; with_reducible refine (con22t _ _ h8.b h8.kl h8.ck).mono ?_; rintro e w9 ⟨rfl, hb9⟩; have h9 := h8.below hb9; have p90 := h9.g0; have p91 := h9.g1; have p92 := h9.g2; have p93 := h9.g3; have p94 := h9.g4; have pk9 := h9.ck; have pc9 := h9.cc)
      | (go_at_call 41; with_reducible refine (con20b _ _ _ h9.s h9.kl h9.ck h9.cl h9.cc).mono ?_; rintro e w10 ⟨rfl, hb10⟩; have h10 := h9.below hb10; have p100 := h10.g0; have p101 := h10.g1; have p102 := h10.g2; have p103 := h10.g3; have p104 := h10.g4; have pk10 := h10.ck; have pc10 := h10.cc)
      | (go_at_call 44; refine (con24 _ h10.b).mono ?_; rintro e w11 ⟨rfl, hb11⟩; have h11 := h10.below hb11))
  go_ret
  exact ⟨rfl, h11.b⟩
end Go.Proofs.Ytkcbgapakpheiaa.Ck
