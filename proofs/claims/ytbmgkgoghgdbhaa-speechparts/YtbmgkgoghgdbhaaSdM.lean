/- Ten numbers that are one thing: how they lie, and whether all are nought. No conditions. -/
import Derived.Test.YtbmgkgoghgdbhaaSa
import Derived.Laws.StructEq
namespace Go.Proofs.Ytbmgkgoghgdbhaa.Te
open Go.RowKit

def tal (f : Nat → Int) : Array Value := #[.int .i64 (f 0), .int .i64 (f 1), .int .i64 (f 2), .int .i64 (f 3), .int .i64 (f 4), .int .i64 (f 5), .int .i64 (f 6), .int .i64 (f 7), .int .i64 (f 8), .int .i64 (f 9)]
theorem und107 : Try.prog.underlying 107 = some (.array 10 3) := by kernel_rfl
theorem size3 : (Try.prog.info? 3).map (·.size) = some 1 := by kernel_rfl
theorem size_three (w : World) : (sizeOf 3).run Try.prog w = .ok 1 w := by
  obtain ⟨i, hi, h1⟩ : ∃ i, Try.prog.info? 3 = some i ∧ i.size = 1 := by
    have := size3
    cases hi : Try.prog.info? 3 with
    | none => rw [hi] at this; cases this
    | some i => rw [hi] at this; exact ⟨i, rfl, by simpa using this⟩
  simp [sizeOf, typeInfo, hi, h1]
theorem eq_list (xs ys : Array Value) (f g : Nat → Int) (w : World) : ∀ l : List Nat, (∀ i ∈ l, xs[i * 1]? = some (.int .i64 (f i)) ∧ ys[i * 1]? = some (.int .i64 (g i))) →
    (forIn l ((none : Option Bool), ()) fun i (_ : Option Bool × Unit) => do
      let a ← part 3 xs (i * 1)
      let b ← part 3 ys (i * 1)
      let r ← Op.equalIn 9999 3 a b
      if (!r) = true then pure (ForInStep.done (some false, ())) else pure (ForInStep.yield (none, ()))).run Try.prog w = .ok (if l.all (fun i => f i == g i) then none else some false, ()) w := by
  have hp : ∀ (xs : Array Value) (i : Nat) (v : Value) w, xs[i]? = some v → (part 3 xs i).run Try.prog w = .ok v w := fun xs i v w h => by
    simp [part, h, go_sem]
  have h3 : ∀ (a b : Int) w, (Op.equalIn 9999 3 (.int .i64 a) (.int .i64 b)).run Try.prog w = .ok (a == b) w := fun a b w => run_equalIn_int w 9998 3 .i64 .i64 a b Try.underlying3
  intro l
  induction l with
  | nil => intro _; simp
  | cons i l ih =>
    intro h
    obtain ⟨h1, h2⟩ := h i (by simp)
    have ih' := ih (fun j hj => h j (by simp [hj]))
    simp only [List.forIn_cons, Sem.run_bind, hp _ _ _ _ h1, hp _ _ _ _ h2, h3, Result.andThen_ok, List.all_cons]
    by_cases hb : f i = g i
    · have e : (f i == g i) = true := beq_iff_eq.2 hb
      simp only [e, Bool.not_true, Bool.false_eq_true, if_false, Sem.run_pure, Result.andThen_ok, Bool.true_and]
      exact ih'
    · have e : (f i == g i) = false := beq_eq_false_iff_ne.2 hb
      simp [e]
def evenB (f : Nat → Int) : Bool := (List.range' 0 10).all fun i => f i == 0
theorem eq107 (f : Nat → Int) (w : World) : (Op.equalIn 10000 107 (.agg (tal f)) (.agg #[.int .i64 0, .int .i64 0, .int .i64 0, .int .i64 0, .int .i64 0, .int .i64 0, .int .i64 0, .int .i64 0, .int .i64 0, .int .i64 0])).run Try.prog w = .ok (evenB f) w := by
  rw [show (10000 : Nat) = 9999 + 1 from rfl]
  unfold Op.equalIn
  simp only [Sem.run_bind, run_underlying und107, Result.andThen_ok, size_three]
  rw [Std.Legacy.Range.forIn_eq_forIn_range']
  simp only [Std.Legacy.Range.size, Nat.sub_zero, Nat.add_sub_cancel, Nat.div_one]
  have := eq_list (tal f) #[.int .i64 0, .int .i64 0, .int .i64 0, .int .i64 0, .int .i64 0, .int .i64 0, .int .i64 0, .int .i64 0, .int .i64 0, .int .i64 0] f (fun _ => 0) w (List.range' 0 10) (fun i hi => by
    have : i < 10 := by simp at hi; exact hi
    have hc : i = 0 ∨ i = 1 ∨ i = 2 ∨ i = 3 ∨ i = 4 ∨ i = 5 ∨ i = 6 ∨ i = 7 ∨ i = 8 ∨ i = 9 := by omega
    rcases hc with rfl | rfl | rfl | rfl | rfl | rfl | rfl | rfl | rfl | rfl <;> exact ⟨rfl, rfl⟩)
  rw [this]
  unfold evenB
  simp only [Result.andThen_ok]
  cases (List.range' 0 10).all (fun i => f i == 0) <;> simp
theorem tal_cell {w : World} {T : Nat} {f : Nat → Int} (h : w.heap[T]? = some (.cells (tal f) 107 (0, 0))) {m : Nat} (hm : m < 10) : w.cell? ⟨T, m, none⟩ = some (.int .i64 (f m)) := by
  rw [cell_of_row _ _ m _ _ _ h]
  have hc : m = 0 ∨ m = 1 ∨ m = 2 ∨ m = 3 ∨ m = 4 ∨ m = 5 ∨ m = 6 ∨ m = 7 ∨ m = 8 ∨ m = 9 := by omega
  rcases hc with rfl | rfl | rfl | rfl | rfl | rfl | rfl | rfl | rfl | rfl <;> rfl
theorem tal_set {w : World} {T : Nat} {f : Nat → Int} (h : w.heap[T]? = some (.cells (tal f) 107 (0, 0))) {m : Nat} (hm : m < 10) (x : Int) : (w.setCell ⟨T, m, none⟩ (.int .i64 x)).heap[T]? = some (.cells (tal (fun i => if i = m then x else f i)) 107 (0, 0)) := by
  have h1 := heap_setCell_same w T m _ 107 (.int .i64 x) h
  rw [h1]
  have hc : m = 0 ∨ m = 1 ∨ m = 2 ∨ m = 3 ∨ m = 4 ∨ m = 5 ∨ m = 6 ∨ m = 7 ∨ m = 8 ∨ m = 9 := by omega
  rcases hc with rfl | rfl | rfl | rfl | rfl | rfl | rfl | rfl | rfl | rfl <;> rfl
end Go.Proofs.Ytbmgkgoghgdbhaa.Te
/- tally.add. Conditions: the numbers are small. -/
namespace Go.Proofs.Ytbmgkgoghgdbhaa.Te
open Go.RowKit

/-- nothing that lay has turned but one block -/
structure Kb (w w' : World) (own : Option Nat) : Prop where
  size : w.heap.size ≤ w'.heap.size
  block : ∀ g, g < w.heap.size → some g ≠ own → w'.heap[g]? = w.heap[g]?
  os : w'.os = w.os
  tape : w'.tape = w.tape
  output : w'.output = w.output
theorem Kb.trans {a b c : World} {own : Option Nat} (h : Kb a b own) (k : Kb b c own) : Kb a c own := ⟨Nat.le_trans h.size k.size, fun g hg hn => (k.block g (Nat.lt_of_lt_of_le hg h.size) hn).trans (h.block g hg hn), k.os.trans h.os, k.tape.trans h.tape, k.output.trans h.output⟩
theorem kb_below {w w' : World} {own : Option Nat} (h : Below w.heap.size w w') : Kb w w' own := ⟨h.size, fun g hg _ => h.block g hg, h.os, h.tape, h.output⟩
theorem Kb.toBelow {w w' : World} {own : Option Nat} {n : Nat} (h : Kb w w' own) (hn : n ≤ w.heap.size) (ho : ∀ g, own = some g → n ≤ g) : Below n w w' := ⟨h.os, h.tape, h.output, h.size, fun g hg => h.block g (by omega) (fun e => by have := ho g e.symm; omega)⟩
theorem tal_ext {f g : Nat → Int} (h : ∀ i, i < 10 → f i = g i) : tal f = tal g := by
  unfold tal
  rw [h 0 (by omega), h 1 (by omega), h 2 (by omega), h 3 (by omega), h 4 (by omega), h 5 (by omega), h 6 (by omega), h 7 (by omega), h 8 (by omega), h 9 (by omega)]
theorem gv_abs (b : Int) : ∀ (p : Ty), -(sz p : Int) ≤ gv b p ∧ gv b p ≤ (sz p : Int) := by
  have : ∀ (s : Nat) (p : Ty), sz p ≤ s → -(sz p : Int) ≤ gv b p ∧ gv b p ≤ (sz p : Int) := by
    intro s
    induction s with
    | zero =>
      intro p hs
      rw [sz] at hs
      omega
    | succ s ih =>
      intro p hs
      have hp1 : 1 ≤ sz p := by rw [sz]; omega
      rw [gv]
      split
      · rename_i x y hk
        have e : sz p = 1 + (sz x + sz y) := by rw [sz, hk]; simp
        have h1 := ih x (by omega)
        have h2 := ih y (by omega)
        split <;> omega
      · split <;> omega
  exact fun p => this _ p (Nat.le_refl _)
set_option maxHeartbeats 8000000 in
theorem add_any : ∀ (s d : Nat) (p : Ty) (a : Option Addr) (c : Nat) (w0 w : World) (T : Nat) (f : Nat → Int) (tm : Int), sz p ≤ s → Gp p → TyAt w0 d p a c → Below w0.heap.size w0 w → w0.heap.size ≤ T → w.heap[T]? = some (.cells (tal f) 107 (0, 0)) → (∀ i, i < 10 → -1000000 + (sz p : Int) ≤ f i ∧ f i ≤ 1000000 - (sz p : Int)) → (tm = 1 ∨ tm = -1) →
    Calls Try.prog 86 #[.pointer (some ⟨T, 0, none⟩), vty p a c, .int .i64 tm] w fun e w' => (∃ v, e = .returned v) ∧ w'.heap[T]? = some (.cells (tal (fun i => f i + tm * gv i p)) 107 (0, 0)) ∧ Kb w w' (some T) := by
  intro s
  induction s with
  | zero =>
    intro d p a c w0 w T f tm hs
    rw [sz] at hs
    omega
  | succ s ih =>
    intro d p a c w0 w T f tm hs hp hty h0 h0T hT hf htm
    rcases gp_cases hp with ⟨z, rfl, hz0, hz9⟩ | ⟨x, y, rfl, hx, hy⟩ | ⟨y, x, rfl, hy, hx⟩
    · obtain ⟨m, rfl⟩ : ∃ m : Nat, z = (m : Int) := ⟨z.toNat, by omega⟩
      have hm : m < 10 := by omega
      have hm' : (m : Int) < 10 := by omega
      have hfm := hf m hm
      rw [sz_bs] at hf hfm
      have hTl := lt_of_get hT
      unfold vty bs
      dsimp only
      rw [show ([] : List Ty).length = 0 from rfl]
      clear ih
      go_enter Try.func86, Try.ntmps86
      go_upto_region 2 with fail
      have x1 := heap_alloc_new w (.cells #[.int .i64 1, .int .i64 (m : Int), .slice a 0 c] 24)
      have hb : Below w.heap.size w (w.alloc (.cells #[.int .i64 1, .int .i64 (m : Int), .slice a 0 c] 24)) := (Below.refl _ w).alloc (Nat.le_refl _) _
      have hsV : w.heap.size < (w.alloc (.cells #[.int .i64 1, .int .i64 (m : Int), .slice a 0 c] 24)).heap.size := by simp
      generalize hV : w.alloc (.cells #[.int .i64 1, .int .i64 (m : Int), .slice a 0 c] 24) = V at *
      have hT := (hb.block T hTl).trans hT
      clear hV hf hty hp
      refine wp_region_held_drew (S := fun W => W.cell? ⟨w.heap.size, 1, none⟩ = some (.int .i64 (m : Int))) (by kernel_rfl) (by exact cell_of_row _ _ 1 _ _ _ x1) (fun hHeld => ?_)
      have hb := hb.drew
      have hT : V.drew.heap[T]? = some (.cells (tal f) 107 (0, 0)) := hT
      generalize hV : V.drew = V at *
      clear hV
      refine wpAnyH_take (i := 0) (oi := { dst := some 11, op := Op.move (Operand.tmp 0), type := 114, pos := "parts.go:57", after := #[], guard := none }) (v := ?_) rfl (by kernel_rfl) (by kernel_rfl) (by kernel_rfl) (fun _ _ _ h => h) (Or.inl ⟨by rfl, ?_⟩) (by assumption) ?_
      case refine_2 => intro w hSw; (try dsimp only at hSw); go_simp; (try with_reducible rfl)
      simp only [Act.put, List.setIfInBounds_toArray, List.set_cons_zero, List.set_cons_succ]
      refine wpAnyH_take (i := 1) (oi := { dst := some 12, op := Op.fieldAddr 24 (Operand.tmp 4) 1, type := 0, pos := "parts.go:57", after := #[], guard := none }) (v := ?_) rfl (by kernel_rfl) (by kernel_rfl) (by kernel_rfl) (fun _ _ _ h => h) (Or.inl ⟨by rfl, ?_⟩) (by assumption) ?_
      case refine_2 => intro w hSw; (try dsimp only at hSw); go_simp; (try with_reducible rfl)
      simp only [Act.put, List.setIfInBounds_toArray, List.set_cons_zero, List.set_cons_succ]
      refine wpAnyH_take (i := 2) (oi := { dst := some 13, op := Op.load 3 (Operand.tmp 12), type := 3, pos := "parts.go:57", after := #[{ on := 1, ground := Ground.data }], guard := none }) (v := ?_) rfl (by kernel_rfl) (by kernel_rfl) (by kernel_rfl) (fun _ _ _ h => h) (Or.inl ⟨by rfl, ?_⟩) (by assumption) ?_
      case refine_2 => intro w hSw; (try dsimp only at hSw); go_simp; (try with_reducible rfl)
      simp only [Act.put, List.setIfInBounds_toArray, List.set_cons_zero, List.set_cons_succ]
      refine wpAnyH_take (i := 3) (oi := { dst := some 14, op := Op.nilCheck (Operand.tmp 11), type := 0, pos := "parts.go:57", after := #[{ on := 0, ground := Ground.data }], guard := none }) (v := ?_) rfl (by kernel_rfl) (by kernel_rfl) (by kernel_rfl) (fun _ _ _ h => h) (Or.inl ⟨by rfl, ?_⟩) (by assumption) ?_
      case refine_2 => intro w hSw; (try dsimp only at hSw); go_simp; (try with_reducible rfl)
      simp only [Act.put, List.setIfInBounds_toArray, List.set_cons_zero, List.set_cons_succ]
      refine wpAnyH_take (i := 4) (oi := { dst := some 15, op := Op.indexAddr 107 (Operand.tmp 14) (Operand.tmp 13), type := 0, pos := "parts.go:57", after := #[{ on := 3, ground := Ground.data }, { on := 2, ground := Ground.data }], guard := none }) (v := ?_) rfl (by kernel_rfl) (by kernel_rfl) (by kernel_rfl) (fun _ _ _ h => h) (Or.inl ⟨by rfl, ?_⟩) (by assumption) ?_
      case refine_2 => intro w hSw; (try dsimp only at hSw); go_simp; (try with_reducible rfl)
      simp only [Act.put, List.setIfInBounds_toArray, List.set_cons_zero, List.set_cons_succ]
      refine wpAnyH_take (i := 6) (oi := { dst := some 17, op := Op.move (Operand.tmp 2), type := 3, pos := "parts.go:57", after := #[], guard := none }) (v := ?_) rfl (by kernel_rfl) (by kernel_rfl) (by kernel_rfl) (fun _ _ _ h => h) (Or.inl ⟨by rfl, ?_⟩) (by assumption) ?_
      case refine_2 => intro w hSw; (try dsimp only at hSw); go_simp; (try with_reducible rfl)
      simp only [Act.put, List.setIfInBounds_toArray, List.set_cons_zero, List.set_cons_succ]
      refine wpAnyH_take (i := 8) (oi := { dst := some 19, op := Op.nilCheck (Operand.tmp 11), type := 0, pos := "parts.go:57", after := #[{ on := 0, ground := Ground.data }], guard := none }) (v := ?_) rfl (by kernel_rfl) (by kernel_rfl) (by kernel_rfl) (fun _ _ _ h => h) (Or.inl ⟨by rfl, ?_⟩) (by assumption) ?_
      case refine_2 => intro w hSw; (try dsimp only at hSw); go_simp; (try with_reducible rfl)
      simp only [Act.put, List.setIfInBounds_toArray, List.set_cons_zero, List.set_cons_succ]
      refine wpAnyH_ready (rs := [5]) (by kernel_rfl) (by simp) ?_
      refine (AllReadyH.cons (o := { dst := some 16, op := Op.load 3 (Operand.tmp 15), type := 3, pos := "parts.go:57", after := #[{ on := 4, ground := Ground.data }], guard := none }) rfl (fun K hK => ?_) AllReadyH.nil)
      have c0 := tal_cell hT hm
      go_simp
      refine hK.out _ _ ?_ (fun hHeld => ?_)
      · exact hHeld
      clear hK K
      try simp only [Act.put, List.setIfInBounds_toArray, List.set_cons_zero, List.set_cons_succ]
      refine wpAnyH_take (i := 7) (oi := { dst := some 18, op := Op.binOp BinOp.add 3 (Operand.tmp 16) (Operand.tmp 17) 3, type := 3, pos := "parts.go:57", after := #[{ on := 5, ground := Ground.data }, { on := 6, ground := Ground.data }], guard := none }) (v := ?_) rfl (by kernel_rfl) (by kernel_rfl) (by kernel_rfl) (fun _ _ _ h => h) (Or.inl ⟨by rfl, ?_⟩) (by assumption) ?_
      case refine_2 => intro w hSw; (try dsimp only at hSw); go_simp; (try with_reducible rfl)
      simp only [Act.put, List.setIfInBounds_toArray, List.set_cons_zero, List.set_cons_succ]
      refine wpAnyH_take (i := 9) (oi := { dst := some 20, op := Op.indexAddr 107 (Operand.tmp 19) (Operand.tmp 13), type := 0, pos := "parts.go:57", after := #[{ on := 8, ground := Ground.data }, { on := 2, ground := Ground.data }, { on := 0, ground := Ground.phase }, { on := 1, ground := Ground.phase }, { on := 2, ground := Ground.phase }, { on := 3, ground := Ground.phase }, { on := 4, ground := Ground.phase }, { on := 5, ground := Ground.phase }, { on := 6, ground := Ground.phase }, { on := 7, ground := Ground.phase }], guard := none }) (v := ?_) rfl (by kernel_rfl) (by kernel_rfl) (by kernel_rfl) (fun _ _ _ h => h) (Or.inl ⟨by rfl, ?_⟩) (by assumption) ?_
      case refine_2 => intro w hSw; (try dsimp only at hSw); go_simp; (try with_reducible rfl)
      simp only [Act.put, List.setIfInBounds_toArray, List.set_cons_zero, List.set_cons_succ]
      refine wpAnyH_ready (rs := [10]) (by kernel_rfl) (by simp) ?_
      refine (AllReadyH.cons (o := { dst := none, op := Op.store 3 (Operand.tmp 20) (Operand.tmp 18), type := 0, pos := "parts.go:57", after := #[{ on := 9, ground := Ground.data }, { on := 7, ground := Ground.data }, { on := 0, ground := Ground.phase }, { on := 1, ground := Ground.phase }, { on := 2, ground := Ground.phase }, { on := 3, ground := Ground.phase }, { on := 4, ground := Ground.phase }, { on := 5, ground := Ground.phase }, { on := 6, ground := Ground.phase }, { on := 7, ground := Ground.phase }], guard := none }) rfl (fun K hK => ?_) AllReadyH.nil)
      have fz := frozen_of_row _ _ m _ 107 hT
      have c0 := tal_cell hT hm
      have hset := tal_set hT hm (IntKind.i64.wrap (f m + tm))
      have hoth : ∀ g, g ≠ T → (V.setCell ⟨T, m, none⟩ (.int .i64 (IntKind.i64.wrap (f m + tm)))).heap[g]? = V.heap[g]? := fun g hg => heap_setCell_other _ _ _ _ hg
      go_simp
      refine hK.out _ _ ?_ (fun hHeld => ?_)
      · exact (cell_same (hoth _ (by omega))).trans hHeld
      clear hK K
      try simp only [Act.put, List.setIfInBounds_toArray, List.set_cons_zero, List.set_cons_succ]
      refine wpAnyH_done (by kernel_rfl) ?_ _
      go_wp2_with fail
      refine bodyPost_ret (results_none rfl _ _ _) rfl ⟨⟨_, rfl⟩, ?_, ?_⟩
      · rw [hset]
        refine congrArg (fun q => some (Obj.cells q 107 (0, 0))) (tal_ext fun i hi => ?_)
        rw [show gv (i : Int) ⟨1, (m : Int), []⟩ = if (m : Int) = i then 1 else 0 from gv_bs _ _]
        by_cases e : i = m
        · subst e
          rw [if_pos rfl, if_pos rfl, wrap_id (by omega) (by omega)]
          omega
        · rw [if_neg e, if_neg (by omega)]
          omega
      · exact ⟨by simpa using hb.size, fun g hg hn => (hoth g (fun e => hn (by rw [e]))).trans (hb.block g hg), hb.os, hb.tape, hb.output⟩
    · have hs2 := hs
      rw [sz_ov] at hs2 hf
      obtain ⟨d2, rfl⟩ := hty.pos
      have K82 := fun W (hW : Below w0.heap.size w0 W) => sides_ov x y a c w0 W hW hty
      have ih1 := fun W ax cx (hW : Below w0.heap.size w0 W) (hT : W.heap[T]? = some (.cells (tal f) 107 (0, 0))) (hx' : TyAt w0 d2 x ax cx) => ih d2 x ax cx w0 W T f tm (by omega) hx hx' hW h0T hT (fun i hi => by have := hf i hi; omega) htm
      have ih2 := fun W ay cy (hW : Below w0.heap.size w0 W) (hT : W.heap[T]? = some (.cells (tal (fun i => f i + tm * gv i x)) 107 (0, 0))) (hy' : TyAt w0 d2 y ay cy) => ih d2 y ay cy w0 W T (fun i => f i + tm * gv i x) (-tm) (by omega) hy hy' hW h0T hT (fun i hi => by have := hf i hi; have := gv_abs i x; rcases htm with rfl | rfl <;> omega) (by rcases htm with rfl | rfl <;> simp)
      have hneg : IntKind.i64.wrap (-tm) = -tm := by rcases htm with rfl | rfl <;> rfl
      clear ih
      unfold vty ov at K82
      unfold vty at ih1 ih2
      unfold vty ov
      dsimp only at K82 ⊢
      rw [show ([x, y] : List Ty).length = 2 from rfl] at K82 ⊢
      go_enter Try.func86, Try.ntmps86
      go_upto_region 1 with fail
      have x1 := heap_alloc_new w (.cells #[.int .i64 2, .int .i64 0, .slice a 2 c] 24)
      have hb : Below w.heap.size w (w.alloc (.cells #[.int .i64 2, .int .i64 0, .slice a 2 c] 24)) := (Below.refl _ w).alloc (Nat.le_refl _) _
      generalize hV : w.alloc (.cells #[.int .i64 2, .int .i64 0, .slice a 2 c] 24) = V at *
      have hbV : Below w0.heap.size w0 V := h0.trans (hb.mono h0.size)
      have hTV := (hb.block T (lt_of_get hT)).trans hT
      clear hV
      have k0 := cell_of_row _ _ 0 _ _ _ x1
      have k1 := cell_of_row _ _ 1 _ _ _ x1
      have k2 := cell_of_row _ _ 2 _ _ _ x1
      go_upto_region 4 with (go_at_call 82; (with_reducible refine (K82 _ hbV).mono ?_); rintro e w1 ⟨ax, cx, ay, cy, rfl, tx, ty, hb1⟩)
      have hbx := two_boxes w1 (.cells #[.int .i64 x.kind, .int .i64 x.n, .slice ax x.kids.length cx] 24) (.cells #[.int .i64 y.kind, .int .i64 y.n, .slice ay y.kids.length cy] 24)
      generalize hV : (w1.alloc (.cells #[.int .i64 x.kind, .int .i64 x.n, .slice ax x.kids.length cx] 24)).alloc (.cells #[.int .i64 y.kind, .int .i64 y.n, .slice ay y.kids.length cy] 24) = V1 at *
      obtain ⟨z1, z2, hs1, hb2⟩ := hbx
      have hbV1 : Below V.heap.size V V1 := hb1.trans (hb2.mono hb1.size)
      have hbw1 : Below w0.heap.size w0 V1 := hbV.trans (hbV1.mono hbV.size)
      have hT1 := (hbV1.block T (lt_of_get hTV)).trans hTV
      have hne : w1.heap.size ≠ T ∧ w1.heap.size + 1 ≠ T := by have := lt_of_get hTV; have := hb1.size; omega
      clear hV k0 k1 k2 x1
      have k0 := cell_of_row _ _ 0 _ _ _ z1
      have k1 := cell_of_row _ _ 1 _ _ _ z1
      have k2 := cell_of_row _ _ 2 _ _ _ z1
      go_upto_region 5 with (go_at_call 86; (with_reducible refine (ih1 _ ax cx hbw1 hT1 tx).mono ?_); rintro e w2 ⟨⟨v, rfl⟩, hT2, hk2⟩)
      have hbw2 : Below w0.heap.size w0 w2 := hbw1.trans (hk2.toBelow hbw1.size (fun g hg => by cases hg; exact h0T))
      have z2' := (hk2.block _ (lt_of_get z2) (fun e => hne.2 (Option.some.inj e))).trans z2
      clear k0 k1 k2
      have k0 := cell_of_row _ _ 0 _ _ _ z2'
      have k1 := cell_of_row _ _ 1 _ _ _ z2'
      have k2 := cell_of_row _ _ 2 _ _ _ z2'
      go_wp2_with (go_at_call 86; (with_reducible refine (ih2 _ ay cy hbw2 hT2 ty).mono ?_); rintro e w3 ⟨⟨v3, rfl⟩, hT3, hk3⟩)
      go_end0
      refine ⟨⟨_, rfl⟩, ?_, ?_⟩
      · rw [hT3]
        refine congrArg (fun q => some (Obj.cells q 107 (0, 0))) (tal_ext fun i _ => ?_)
        rw [show gv (i : Int) ⟨2, 0, [x, y]⟩ = gv i x - gv i y from gv_ov _ _ _, Int.mul_sub]
        have : -tm * gv i y = -(tm * gv i y) := Int.neg_mul _ _
        omega
      · exact (((kb_below hb).trans (kb_below hbV1)).trans hk2).trans hk3
    · have hs2 := hs
      rw [sz_un] at hs2 hf
      obtain ⟨d2, rfl⟩ := hty.pos
      have K82 := fun W (hW : Below w0.heap.size w0 W) => sides_un x y a c w0 W hW hty
      have ih1 := fun W ax cx (hW : Below w0.heap.size w0 W) (hT : W.heap[T]? = some (.cells (tal f) 107 (0, 0))) (hx' : TyAt w0 d2 x ax cx) => ih d2 x ax cx w0 W T f tm (by omega) hx hx' hW h0T hT (fun i hi => by have := hf i hi; omega) htm
      have ih2 := fun W ay cy (hW : Below w0.heap.size w0 W) (hT : W.heap[T]? = some (.cells (tal (fun i => f i + tm * gv i x)) 107 (0, 0))) (hy' : TyAt w0 d2 y ay cy) => ih d2 y ay cy w0 W T (fun i => f i + tm * gv i x) (-tm) (by omega) hy hy' hW h0T hT (fun i hi => by have := hf i hi; have := gv_abs i x; rcases htm with rfl | rfl <;> omega) (by rcases htm with rfl | rfl <;> simp)
      have hneg : IntKind.i64.wrap (-tm) = -tm := by rcases htm with rfl | rfl <;> rfl
      clear ih
      unfold vty un at K82
      unfold vty at ih1 ih2
      unfold vty un
      dsimp only at K82 ⊢
      rw [show ([y, x] : List Ty).length = 2 from rfl] at K82 ⊢
      go_enter Try.func86, Try.ntmps86
      go_upto_region 1 with fail
      have x1 := heap_alloc_new w (.cells #[.int .i64 3, .int .i64 0, .slice a 2 c] 24)
      have hb : Below w.heap.size w (w.alloc (.cells #[.int .i64 3, .int .i64 0, .slice a 2 c] 24)) := (Below.refl _ w).alloc (Nat.le_refl _) _
      generalize hV : w.alloc (.cells #[.int .i64 3, .int .i64 0, .slice a 2 c] 24) = V at *
      have hbV : Below w0.heap.size w0 V := h0.trans (hb.mono h0.size)
      have hTV := (hb.block T (lt_of_get hT)).trans hT
      clear hV
      have k0 := cell_of_row _ _ 0 _ _ _ x1
      have k1 := cell_of_row _ _ 1 _ _ _ x1
      have k2 := cell_of_row _ _ 2 _ _ _ x1
      go_upto_region 4 with (go_at_call 82; (with_reducible refine (K82 _ hbV).mono ?_); rintro e w1 ⟨ax, cx, ay, cy, rfl, tx, ty, hb1⟩)
      have hbx := two_boxes w1 (.cells #[.int .i64 x.kind, .int .i64 x.n, .slice ax x.kids.length cx] 24) (.cells #[.int .i64 y.kind, .int .i64 y.n, .slice ay y.kids.length cy] 24)
      generalize hV : (w1.alloc (.cells #[.int .i64 x.kind, .int .i64 x.n, .slice ax x.kids.length cx] 24)).alloc (.cells #[.int .i64 y.kind, .int .i64 y.n, .slice ay y.kids.length cy] 24) = V1 at *
      obtain ⟨z1, z2, hs1, hb2⟩ := hbx
      have hbV1 : Below V.heap.size V V1 := hb1.trans (hb2.mono hb1.size)
      have hbw1 : Below w0.heap.size w0 V1 := hbV.trans (hbV1.mono hbV.size)
      have hT1 := (hbV1.block T (lt_of_get hTV)).trans hTV
      have hne : w1.heap.size ≠ T ∧ w1.heap.size + 1 ≠ T := by have := lt_of_get hTV; have := hb1.size; omega
      clear hV k0 k1 k2 x1
      have k0 := cell_of_row _ _ 0 _ _ _ z1
      have k1 := cell_of_row _ _ 1 _ _ _ z1
      have k2 := cell_of_row _ _ 2 _ _ _ z1
      go_upto_region 5 with (go_at_call 86; (with_reducible refine (ih1 _ ax cx hbw1 hT1 tx).mono ?_); rintro e w2 ⟨⟨v, rfl⟩, hT2, hk2⟩)
      have hbw2 : Below w0.heap.size w0 w2 := hbw1.trans (hk2.toBelow hbw1.size (fun g hg => by cases hg; exact h0T))
      have z2' := (hk2.block _ (lt_of_get z2) (fun e => hne.2 (Option.some.inj e))).trans z2
      clear k0 k1 k2
      have k0 := cell_of_row _ _ 0 _ _ _ z2'
      have k1 := cell_of_row _ _ 1 _ _ _ z2'
      have k2 := cell_of_row _ _ 2 _ _ _ z2'
      go_wp2_with (go_at_call 86; (with_reducible refine (ih2 _ ay cy hbw2 hT2 ty).mono ?_); rintro e w3 ⟨⟨v3, rfl⟩, hT3, hk3⟩)
      go_end0
      refine ⟨⟨_, rfl⟩, ?_, ?_⟩
      · rw [hT3]
        refine congrArg (fun q => some (Obj.cells q 107 (0, 0))) (tal_ext fun i _ => ?_)
        rw [show gv (i : Int) ⟨3, 0, [y, x]⟩ = gv i x - gv i y from gv_un _ _ _, Int.mul_sub]
        have : -tm * gv i y = -(tm * gv i y) := Int.neg_mul _ _
        omega
      · exact (((kb_below hb).trans (kb_below hbV1)).trans hk2).trans hk3
end Go.Proofs.Ytbmgkgoghgdbhaa.Te
/- isEven. Conditions: the parts are right and small. -/
namespace Go.Proofs.Ytbmgkgoghgdbhaa.Te
open Go.RowKit

/-- a sequent as a value -/
def vsq (l : List Ty) (a : Option Addr) (c : Nat) (g : Ty) (ag : Option Addr) (cg : Nat) : Value := .agg #[.slice a l.length c, .int .i64 g.kind, .int .i64 g.n, .slice ag g.kids.length cg]
def evS (l : List Ty) (g : Ty) : Bool := evenB (fun i => sm i l - gv i g)
theorem evenB_ext {f g : Nat → Int} (h : ∀ i, i < 10 → f i = g i) : evenB f = evenB g := by
  unfold evenB
  rw [Bool.eq_iff_iff, List.all_eq_true, List.all_eq_true]
  constructor
  · intro k i hi
    rw [← h i (by simpa using hi)]
    exact k i hi
  · intro k i hi
    rw [h i (by simpa using hi)]
    exact k i hi
theorem E_even {l : List Ty} {g : Ty} (h : E l g) : evS l g = true := by
  unfold evS evenB
  rw [List.all_eq_true]
  intro i _
  have := E_level h (i : Int)
  simp only [beq_iff_eq]
  omega
def szs (l : List Ty) : Nat := (l.map sz).sum
theorem sm_abs (b : Int) : ∀ l : List Ty, -(szs l : Int) ≤ sm b l ∧ sm b l ≤ (szs l : Int) := by
  intro l
  induction l with
  | nil => simp [sm, szs]
  | cons x l ih =>
    have h := gv_abs b x
    rw [sm_cons]
    have e : szs (x :: l) = sz x + szs l := by simp [szs]
    omega
theorem szs_take (l : List Ty) (j : Nat) (h : j < l.length) : szs (l.take j) + sz l[j] ≤ szs l := by
  have e : szs (l.take (j + 1)) = szs (l.take j) + sz l[j] := by
    unfold szs
    rw [← List.take_append_getElem h, List.map_append, List.sum_append]
    simp
  have e2 : szs l = szs (l.take (j + 1)) + szs (l.drop (j + 1)) := by
    unfold szs
    rw [← List.sum_append, ← List.map_append, List.take_append_drop]
  omega
theorem sm_take (b : Int) (l : List Ty) (j : Nat) (h : j < l.length) : sm b (l.take (j + 1)) = sm b (l.take j) + gv b l[j] := by
  rw [← List.take_append_getElem h, sm_app, sm_cons, sm_nil]
  omega
set_option maxHeartbeats 8000000 in
theorem even_any (d dg : Nat) (l : List Ty) (a : Option Addr) (c : Nat) (g : Ty) (ag : Option Addr) (cg : Nat) (w : World) (hl : TysAt w d l a c) (hg : TyAt w dg g ag cg) (gl : ∀ x ∈ l, Gp x) (gg : Gp g) (hz : szs l + sz g ≤ 100000) :
    Calls Try.prog 70 #[vsq l a c g ag cg] w fun e w' => e = .returned (.bool (evS l g)) ∧ Below w.heap.size w w' := by
  have hf := hl.few.1
  dsimp only at hf
  obtain ⟨r, hr⟩ : ∃ r, evS l g = r := ⟨_, rfl⟩
  rw [hr]
  have HR : Hid (evS l g = r) := hr
  have HL : Hid (TyAt w (d + 1) ⟨0, 0, l⟩ a c) := hl
  have KG := fun W (hW : Below w.heap.size w W) f hT (hf : ∀ i, i < 10 → -1000000 + (sz g : Int) ≤ f i ∧ f i ≤ 1000000 - (sz g : Int)) => add_any _ dg g ag cg w W (w.heap.size + 1) f (-1) (Nat.le_refl _) gg hg hW (by omega) hT hf (.inr rfl)
  have HG : Hid (∀ x ∈ l, Gp x) := gl
  unfold vty at KG
  unfold vsq
  clear hr hl hg gl gg
  go_enter Try.func70, Try.ntmps70
  go_upto_region 2 with fail
  have hbx := two_boxes w (.cells #[.slice a l.length c, .int .i64 g.kind, .int .i64 g.n, .slice ag g.kids.length cg] 79) (.cells #[.int .i64 0, .int .i64 0, .int .i64 0, .int .i64 0, .int .i64 0, .int .i64 0, .int .i64 0, .int .i64 0, .int .i64 0, .int .i64 0] 107)
  generalize hV : (w.alloc (.cells #[.slice a l.length c, .int .i64 g.kind, .int .i64 g.n, .slice ag g.kids.length cg] 79)).alloc (.cells #[.int .i64 0, .int .i64 0, .int .i64 0, .int .i64 0, .int .i64 0, .int .i64 0, .int .i64 0, .int .i64 0, .int .i64 0, .int .i64 0] 107) = V at *
  obtain ⟨x1, x2, hs, hb⟩ := hbx
  have x2' : V.heap[w.heap.size + 1]? = some (.cells (tal fun _ => 0) 107 (0, 0)) := x2
  clear hV x2
  have k0 := cell_of_row _ _ 0 _ _ _ x1
  have k1 := cell_of_row _ _ 1 _ _ _ x1
  have k2 := cell_of_row _ _ 2 _ _ _ x1
  have k3 := cell_of_row _ _ 3 _ _ _ x1
  go_upto_region 3 with (go_at_call 86; (with_reducible refine (KG _ hb _ x2' (fun i _ => by omega)).mono ?_); rintro e w1 ⟨⟨v, rfl⟩, hT1, hk1⟩)
  have y1 := (hk1.block w.heap.size (by omega) (fun e => by have := Option.some.inj e; omega)).trans x1
  have hb1 : Below w.heap.size w w1 := hb.trans (hk1.toBelow hb.size (fun q hq => by cases hq; omega))
  have HF0 : Hid (∃ F : Nat → Int, w1.heap[w.heap.size + 1]? = some (.cells (tal F) 107 (0, 0)) ∧ ∀ i, i < 10 → F i = sm i (l.take 0) - gv i g) := ⟨_, hT1, fun i _ => by rw [List.take_zero, sm_nil]; omega⟩
  clear k0 k1 k2 k3 KG hT1 hk1 x1 x2'
  have k0 := cell_of_row _ _ 0 _ _ _ y1
  go_wp2
  clear k0 y1
  go_loopw [5, 12] (fun _ iv wr => ∃ j : Nat, iv = .int .i64 (j : Int) ∧ j ≤ l.length ∧ Below w.heap.size w wr ∧ w.heap.size + 1 < wr.heap.size ∧ ∃ F : Nat → Int, wr.heap[w.heap.size + 1]? = some (.cells (tal F) 107 (0, 0)) ∧ ∀ i, i < 10 → F i = sm i (l.take j) - gv i g) (fun _ iv _ => l.length - (intOf iv).toNat)
  case atStart =>
    obtain ⟨F, h1, h2⟩ := HF0.out
    exact ⟨0, rfl, by omega, hb1, lt_of_get h1, F, h1, h2⟩
  case round =>
    clear hb1 HF0
    obtain ⟨j, rfl, hj, hB, hlt, F, hT, hF⟩ := hrel
    have HF : Hid (∀ i, i < 10 → F i = sm i (l.take j) - gv i g) := hF
    clear hF
    by_cases hjl : j < l.length
    · have hjl' : (j : Int) < (l.length : Int) := by omega
      obtain ⟨q, off, a', c', rfl, hq, c0, c1, c2, ht⟩ := HL.out.kid hjl
      dsimp only at c0 c1 c2 ht
      have z0 := (hB.cell (p := ⟨q, _, none⟩) hq).trans c0
      have z1 := (hB.cell (p := ⟨q, _, none⟩) hq).trans c1
      have z2 := (hB.cell (p := ⟨q, _, none⟩) hq).trans c2
      have hx := HG.out _ (List.getElem_mem hjl)
      have hsz := szs_take l j hjl
      have KP := fun W (hW : Below w.heap.size w W) (hT : W.heap[w.heap.size + 1]? = some (.cells (tal F) 107 (0, 0))) => add_any _ d l[j] a' c' w W (w.heap.size + 1) F 1 (Nat.le_refl _) hx ht hW (by omega) hT (fun i hi => by rw [HF.out i hi]; have h1 := sm_abs i (l.take j); have h2 := gv_abs i g; omega) (.inl rfl)
      unfold vty at KP
      have hbA : ∀ o, Below wr.heap.size wr (wr.alloc o) := fun o => (Below.refl _ wr).alloc (Nat.le_refl _) o
      clear c0 c1 c2 ht hsz
      go_wp2_with (go_at_call 86; (with_reducible refine (KP _ (hB.trans ((hbA _).mono hB.size)) (((hbA _).block _ hlt).trans hT)).mono ?_); rintro e w2 ⟨⟨v, rfl⟩, hT2, hk2⟩)
      go_roundw
      case rel =>
        have hA := hB.trans ((hbA (.cells #[.int .i64 l[j].kind, .int .i64 l[j].n, .slice a' l[j].kids.length c'] 24)).mono hB.size)
        have hb2 : Below w.heap.size w w2 := hA.trans (hk2.toBelow hA.size (fun q hq => by cases hq; omega))
        exact ⟨j + 1, by go_num, by omega, hb2, lt_of_get hT2, _, hT2, fun i hi => by rw [HF.out i hi, sm_take _ _ _ hjl]; omega⟩
      case measure => simp [intOf]; omega
    · have hjl' : ¬ (j : Int) < (l.length : Int) := by omega
      have hrr : evenB F = r := by
        rw [← HR.out]
        refine evenB_ext (fun i hi => ?_)
        rw [HF.out i hi, List.take_of_length_le (by omega)]
      have hq := fun w => eq107 F w
      rw [hrr] at hq
      unfold tal at hq
      have t0 := tal_cell hT (m := 0) (by omega)
      have t1 := tal_cell hT (m := 1) (by omega)
      have t2 := tal_cell hT (m := 2) (by omega)
      have t3 := tal_cell hT (m := 3) (by omega)
      have t4 := tal_cell hT (m := 4) (by omega)
      have t5 := tal_cell hT (m := 5) (by omega)
      have t6 := tal_cell hT (m := 6) (by omega)
      have t7 := tal_cell hT (m := 7) (by omega)
      have t8 := tal_cell hT (m := 8) (by omega)
      have t9 := tal_cell hT (m := 9) (by omega)
      clear hrr
      go_wp2
      go_ret
      exact ⟨rfl, hB⟩
end Go.Proofs.Ytbmgkgoghgdbhaa.Te
