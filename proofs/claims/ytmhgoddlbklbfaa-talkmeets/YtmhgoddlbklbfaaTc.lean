/- hear of a slot. Conditions: the slot is one of the talker's twenty; what is told has at most 100 bytes. -/
import Derived.Test.YtmhgoddlbklbfaaTb
import Derived.Deep.QuietTactic
namespace Go.Proofs.Ytmhgoddlbklbfaa.Tb
open Go.RowKit Ta

/-- a world in which all that lay in w lies as it lay -/
structure After (w : World) where
  W : World
  h : Below w.heap.size w W
theorem wp_region_after {P : Program} {id : Nat} {Q : Exit → Act → World → Prop} {a : Act} {w : World} {l : List Oper} (hm : P.follows .mixedOrders = true) (hB : Region.lexB .any l.toArray = true)
    (h : wpQuiet P l.toArray (fun w' => ∃ p : After w, w' = p.W) (fun a' => ∀ w', (∃ p : After w, w' = p.W) → Q .normal a' w') l a) : (Code.region id l.toArray true).wp P Q a w :=
  wp_region_quiet (C := fun w' => ∃ p : After w, w' = p.W) hm hB ⟨⟨w.drew, (Below.refl _ _).drew⟩, rfl⟩ (by simpa using h)
theorem after_of {P : Program} {f : FuncId} {args : Array Value} {w : World} {p : After w} {v : Value}
    (h : Calls P f args p.W fun e w' => e = .returned v ∧ Below p.W.heap.size p.W w') : Calls P f args p.W fun e w'' => e = .returned v ∧ ∃ p' : After w, w'' = p'.W :=
  h.mono fun _ w' ⟨he, hb⟩ => ⟨he, ⟨w', p.h.trans (hb.mono p.h.size)⟩, rfl⟩

/-- what is told of a slot -/
def Sl.to (e : Sl) : To := ⟨e.sl, e.ver, e.who, e.val, e.op⟩
def hearS (e : Sl) (t : To) : Sl :=
  if cmpT t e.to < 0 then e
  else if 0 < cmpT t e.to then { putS e t.ver t.who t.val with op := false, ow := t.op }
  else { e with op := false, ow := e.ow || t.op }

theorem known_world {w : World} {b : Nat} {W n : Int} {es : List Sl} (h : Tk w b W n es) {i : Nat} (hi : i < es.length) (x : Bool) :
    Tk ((w.setCell ⟨b, at6 i + 4, none⟩ (.bool false)).setCell ⟨b, at6 i + 5, none⟩ (.bool x)) b W n (es.set i { es[i] with op := false, ow := x }) ∧ Ko w ((w.setCell ⟨b, at6 i + 4, none⟩ (.bool false)).setCell ⟨b, at6 i + 5, none⟩ (.bool x)) b := by
  refine ⟨?_, (ko_set _ _ _ _).trans (ko_set _ _ _ _)⟩
  have h1 := h.set hi 4 (by omega) (.bool false) { es[i] with op := false } rfl
  have h2 := h1.set (i := i) (by simpa using hi) 5 (by omega) (.bool x) { es[i] with op := false, ow := x } (by simp; rfl)
  simpa using h2

set_option maxHeartbeats 2000000 in
theorem hear_any {w : World} {b : Nat} {W n : Int} {es : List Sl} (h : Tk w b W n es) {i : Nat} (hi : i < es.length) (t : To) (ht : t.val.size ≤ 100) :
    Calls Try.prog 25 #[.pointer (some ⟨b, at6 i, none⟩), vt t] w fun e w' => e = .returned (.tuple #[]) ∧ Tk w' b W n (es.set i (hearS es[i] t)) ∧ Ko w w' b := by
  have K29 := compare_any t es[i].to
  obtain ⟨c, hc⟩ : ∃ c, cmpT t es[i].to = c := ⟨_, rfl⟩
  rw [hc] at K29
  have HC : Hid (cmpT t es[i].to = c) := hc
  have K23 : Hid (∀ W', Below w.heap.size w W' → Calls Try.prog 23 #[.pointer (some ⟨b, at6 i, none⟩), .int .i64 t.ver, .int .i64 t.who, .string t.val] W' fun e w' => e = .returned (.tuple #[]) ∧ Tk w' b W n (es.set i (putS es[i] t.ver t.who t.val)) ∧ Ko W' w' b) := fun W' hW => put_any (h.below hW) hi t.ver t.who t.val ht
  obtain ⟨t0, t1, t2, t3, t4⟩ := t
  unfold vt Sl.to at K29
  unfold vt
  dsimp only at *
  obtain ⟨W0, hW0⟩ : ∃ W0, w.alloc (.cells #[.int .i64 t0, .int .i64 t1, .int .i64 t2, .string t3, .bool t4] 44) = W0 := ⟨_, rfl⟩
  have hb0 : Below w.heap.size w W0 := hW0 ▸ (Below.refl w.heap.size w).alloc (Nat.le_refl _) _
  have hbx : W0.heap[w.heap.size]? = some (.cells #[.int .i64 t0, .int .i64 t1, .int .i64 t2, .string t3, .bool t4] 44 (0, 0)) := hW0 ▸ heap_alloc_new _ _
  have hsz : w.heap.size < W0.heap.size := hW0 ▸ (by simp)
  have HW0 : Hid (w.alloc (.cells #[.int .i64 t0, .int .i64 t1, .int .i64 t2, .string t3, .bool t4] 44) = W0) := hW0
  have HT : Hid (Tk w b W n es) := h
  obtain ⟨o, ho⟩ : ∃ o, at6 i = o := ⟨_, rfl⟩
  have HO : Hid (at6 i = o) := ho
  have hne : b ≠ w.heap.size := Nat.ne_of_lt h.lt
  have RB : Hid (∀ W', Ko W0 W' b → W'.cell? ⟨w.heap.size, 1, none⟩ = some (.int .i64 t1) ∧ W'.cell? ⟨w.heap.size, 2, none⟩ = some (.int .i64 t2) ∧ W'.cell? ⟨w.heap.size, 3, none⟩ = some (.string t3) ∧ W'.cell? ⟨w.heap.size, 4, none⟩ = some (.bool t4)) := fun W' hk => by
    have g := (hk.2 w.heap.size (fun e => hne e.symm) hsz).trans hbx
    exact ⟨cell_of_row _ _ 1 _ 44 (0, 0) g, cell_of_row _ _ 2 _ 44 (0, 0) g, cell_of_row _ _ 3 _ 44 (0, 0) g, cell_of_row _ _ 4 _ 44 (0, 0) g⟩
  have r := fun p : After W0 => ((p.h.block w.heap.size hsz).trans hbx)
  have r0 := fun p : After W0 => cell_of_row _ _ 0 _ 44 (0, 0) (r p)
  have r1 := fun p : After W0 => cell_of_row _ _ 1 _ 44 (0, 0) (r p)
  have r2 := fun p : After W0 => cell_of_row _ _ 2 _ 44 (0, 0) (r p)
  have r3 := fun p : After W0 => cell_of_row _ _ 3 _ 44 (0, 0) (r p)
  have r4 := fun p : After W0 => cell_of_row _ _ 4 _ 44 (0, 0) (r p)
  have q := fun p : After W0 => ((h.below hb0).below p.h).slot hi
  rw [ho] at q K23 ⊢
  have q0 := fun p : After W0 => (q p).1
  have q1 := fun p : After W0 => (q p).2.1
  have q2 := fun p : After W0 => (q p).2.2.1
  have q3 := fun p : After W0 => (q p).2.2.2.1
  have q4 := fun p : After W0 => (q p).2.2.2.2.1
  have k := fun p : After W0 => K29 p.W
  haveI : Inhabited (After W0) := ⟨⟨_, Below.refl _ _⟩⟩
  clear hW0 hc ho h q r K29 hbx hsz hne
  go_enter Try.func25, Try.ntmps25
  go_wp2_with fail
  rw [HW0.out]
  refine wp_region_after (by kernel_rfl) (by kernel_rfl) ?_
  repeat (go_big_quiet_step (first | (go_at_call 29; (with_reducible refine after_of (k _)))))
  refine wpQuiet_nil ?_
  intro W' hw'
  obtain ⟨⟨w1, hb1⟩, rfl⟩ := hw'
  clear r0 r1 r2 r3 r4 q0 q1 q2 q3 q4 k
  have T1 := (HT.out.below hb0).below hb1
  have hk1 : Ko w W' b := (ko_below hb0).trans (ko_below hb1)
  have hbw : Below w.heap.size w W' := hb0.trans (hb1.mono hb0.size)
  have HT1 : Hid (Tk W' b W n es) := T1
  by_cases h1 : c < 0
  · have HX : Hid (hearS es[i] ⟨t0, t1, t2, t3, t4⟩ = es[i]) := by (show hearS es[i] ⟨t0, t1, t2, t3, t4⟩ = es[i]; unfold hearS; rw [HC.out, if_pos h1])
    go_wp2
    refine bodyPost_ret (results_none rfl _ _ _) rfl ?_
    rw [HX.out, List.set_getElem_self]
    exact ⟨rfl, HT1.out, hk1⟩
  · by_cases h2 : 0 < c
    · have HX : Hid (hearS es[i] ⟨t0, t1, t2, t3, t4⟩ = { putS es[i] t1 t2 t3 with op := false, ow := t4 }) := by (show hearS es[i] ⟨t0, t1, t2, t3, t4⟩ = _; unfold hearS; rw [HC.out, if_neg h1, if_pos h2])
      have q := RB.out _ (ko_below hb1)
      obtain ⟨q1, q2, q3, q4⟩ := q
      go_wp2_with (go_at_call 23; (with_reducible refine (K23.out _ hbw).mono ?_); rintro e w2 ⟨rfl, T2, k2⟩; have z := RB.out _ ((ko_below hb1).trans k2); obtain ⟨z1, z2, z3, z4⟩ := z; have z5 := (RB.out _ (((ko_below hb1).trans k2).trans (ko_set _ b (o + 4) (.bool false)))).2.2.2; have fz := T2.frozen; have g := T2.slot (i := i) (by simpa using hi); rw [HO.out, List.getElem_set_self] at g; dsimp only [putS] at g; obtain ⟨g0, g1, g2, g3, g4, g5⟩ := g; have HT2 : Hid _ := T2; clear T2)
      refine bodyPost_end (results_none rfl _ _ _) rfl ?_
      have P := known_world HT2.out (i := i) (by simpa using hi) t4
      rw [HO.out] at P
      rw [HX.out]
      refine ⟨rfl, ?_, (hk1.trans k2).trans P.2⟩
      simpa using P.1
    · have HX : Hid (hearS es[i] ⟨t0, t1, t2, t3, t4⟩ = { es[i] with op := false, ow := es[i].ow || t4 }) := by (show hearS es[i] ⟨t0, t1, t2, t3, t4⟩ = _; unfold hearS; rw [HC.out, if_neg h1, if_neg h2])
      have q := RB.out _ (ko_below hb1)
      obtain ⟨q1, q2, q3, q4⟩ := q
      have z5 := (RB.out _ ((ko_below hb1).trans (ko_set _ b (o + 4) (.bool false)))).2.2.2
      have fz := T1.frozen
      have g := T1.slot hi
      rw [HO.out] at g
      obtain ⟨g0, g1, g2, g3, g4, g5⟩ := g
      obtain ⟨x, hx⟩ : ∃ x, es[i].ow = x := ⟨_, rfl⟩
      rw [hx] at g5
      have HXX : Hid (es[i].ow = x) := hx
      clear hx T1
      cases x
      · go_wp2
        refine bodyPost_end (results_none rfl _ _ _) rfl ?_
        have P := known_world HT1.out hi t4
        rw [HO.out] at P
        rw [HX.out, HXX.out]
        exact ⟨rfl, P.1, hk1.trans P.2⟩
      · go_wp2
        refine bodyPost_end (results_none rfl _ _ _) rfl ?_
        have P := known_world HT1.out hi true
        rw [HO.out] at P
        rw [HX.out, HXX.out]
        exact ⟨rfl, P.1, hk1.trans P.2⟩
end Go.Proofs.Ytmhgoddlbklbfaa.Tb
