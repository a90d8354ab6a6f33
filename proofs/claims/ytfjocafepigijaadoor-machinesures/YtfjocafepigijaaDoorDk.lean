/- The document's unlike (52): of each two rows, and of a row and none, whether one reads what the other does not. Conditions: rows lead to rows; at most 500. -/
import Derived.Test.YtfjocafepigijaaDoorZt
import Derived.Test.YtfjocafepigijaaDoorDjM
import Derived.Deep.LoopGhost
import Derived.Deep.RegionHeldLaw
namespace Go.Proofs.YtfjocafepigijaaDoor.Su
open Go.RowKit Mv Po Ps Cm

structure After (w : World) where
  W : World
  h : Below w.heap.size w W
theorem wp_region_after {P : Program} {id : Nat} {Q : Exit → Act → World → Prop} {a : Act} {w : World} {l : List Oper} (hm : P.follows .mixedOrders = true) (hB : Region.lexB .any l.toArray = true)
    (h : wpQuiet P l.toArray (fun w' => ∃ p : After w, w' = p.W) (fun a' => ∀ w', (∃ p : After w, w' = p.W) → Q .normal a' w') l a) : (Code.region id l.toArray true).wp P Q a w :=
  wp_region_quiet (C := fun w' => ∃ p : After w, w' = p.W) hm hB ⟨⟨w.drew, (Below.refl _ _).drew⟩, rfl⟩ (by simpa using h)
theorem after_of {P : Program} {f : FuncId} {args : Array Value} {w : World} {p : After w} {v : Value}
    (h : Calls P f args p.W fun e w' => e = .returned v ∧ Below p.W.heap.size p.W w') : Calls P f args p.W fun e w'' => e = .returned v ∧ ∃ p' : After w, w'' = p'.W :=
  h.mono fun _ w' ⟨he, hb⟩ => ⟨he, ⟨w', p.h.trans (hb.mono p.h.size)⟩, rfl⟩
/-- the square at the beginning, as far as pair i, j -/
def Ud (T : Tb) (i j : Nat) : Nat → Nat → Bool := fun a b => if a < i ∨ (a = i ∧ b < j) then T.fo (stt T.n a) != T.fo (stt T.n b) else false
theorem Ud_new {T : Tb} {i : Nat} (b : Nat) : Ud T i 0 i b = false := by unfold Ud; rw [if_neg (by omega)]
theorem Ud_up {T : Tb} {i j : Nat} : up2 (Ud T i j) i j (T.fo (stt T.n i) != T.fo (stt T.n j)) = Ud T i (j + 1) := by
  funext a b
  unfold up2 Ud
  by_cases e : a = i ∧ b = j
  · obtain ⟨rfl, rfl⟩ := e
    rw [if_pos ⟨rfl, rfl⟩, if_pos (by omega)]
  · rw [if_neg e]
    by_cases h : a < i ∨ (a = i ∧ b < j)
    · rw [if_pos h, if_pos (by omega)]
    · rw [if_neg h, if_neg (by omega)]
theorem Ud_next {T : Tb} {i N a b : Nat} (hb : b < N) : Ud T i N a b = Ud T (i + 1) 0 a b := by
  unfold Ud
  by_cases h : a < i ∨ (a = i ∧ b < N)
  · rw [if_pos h, if_pos (by omega)]
  · rw [if_neg h, if_neg (by omega)]
theorem Ud_snd {T : Tb} : Snd T (Ud T (T.n + 1) 0) := by
  refine ⟨fun i j hi hj h => ?_, fun i j hi hj h => ?_⟩
  · unfold Ud at h
    rw [if_pos (by omega)] at h
    intro hl
    rw [hl.fo] at h
    simp at h
  · unfold Ud
    rw [if_pos (by omega)]
    simpa using h
/-- what unlike hands back -/
def UlQ (T : Tb) (n N : Nat) (w : World) (e : Ending) (w' : World) : Prop := ∃ (ub : Nat) (uv : List Value) (bk : Nat → Nat) (U : Nat → Nat → Bool), e = .returned (.slice (some ⟨ub, 0, none⟩) N N) ∧ Below w.heap.size w w' ∧ w'.ownsRow w.heap.size 67 1 (.slice (some ⟨ub, 0, none⟩) N N) N uv ∧ (∀ i, i < N → uv[i]? = some (.slice (some ⟨bk i, 0, none⟩) N N) ∧ w'.ownsRow w.heap.size 4 1 (.slice (some ⟨bk i, 0, none⟩) N N) N (bcs (rwU N U i))) ∧ ∀ i j, i ≤ n → j ≤ n → (U i j = true ↔ ¬ T.Lk (stt n i) (stt n j))
set_option maxHeartbeats 8000000 in
set_option maxRecDepth 100000 in
theorem unlike_any (base n ct cf_ : Nat) (at_ af_ : Option Addr) (tos : List (List (Option Nat))) (fins : List Bool) (w : World) (hT : Tl w base (.slice at_ n ct) (.slice af_ n cf_) tos fins) (hn : tos.length = n) (hf : fins.length = n) (h5 : n ≤ 500) (hok : (tbo tos fins).Ok) :
    Calls Tryd.prog 52 #[.agg #[.slice at_ n ct, .slice af_ n cf_]] w (UlQ (tbo tos fins) n (n + 1) w) := by
  obtain ⟨N, hN⟩ : ∃ N, n + 1 = N := ⟨_, rfl⟩
  have HNN : Hid (n + 1 = N) := hN
  rw [hN]
  have hN5 : N ≤ 501 := by omega
  have hNi : (n : Int) + 1 = (N : Int) := by omega
  have hmk := run_mk100 N (by omega)
  have HT : Hid (Tl w base (.slice at_ n ct) (.slice af_ n cf_) tos fins ∧ tos.length = n ∧ fins.length = n ∧ (tbo tos fins).Ok) := ⟨hT, hn, hf, hok⟩
  have HTn : Hid ((tbo tos fins).n = n) := hn
  obtain ⟨O1, hO1⟩ : ∃ O1 : Obj, Obj.cells #[.slice at_ n ct, .slice af_ n cf_] 97 = O1 := ⟨_, rfl⟩
  have s1 : (w.alloc O1).heap.size = w.heap.size + 1 := by simp
  have s2 : ((w.alloc O1).alloc (.cells #[.int .i64 (n : Int)] 3)).heap.size = w.heap.size + 2 := by simp
  have B1 := below_al w O1
  have B2 := B1.alloc B1.size (.cells #[.int .i64 (n : Int)] 3)
  have k0 : (w.alloc O1).cell? ⟨w.heap.size, 0, none⟩ = some (.slice at_ n ct) := by rw [← hO1]; exact cell_of_row _ _ 0 _ _ _ (heap_alloc_new w _)
  have HU0 : Hid (Un w (((w.alloc O1).alloc (.cells #[.int .i64 (n : Int)] 3)).alloc (.cells (madeCells #[.slice none 0 0] N) 67)) w.heap.size (w.heap.size + 1) n N (w.heap.size + 2) #[.slice at_ n ct, .slice af_ n cf_] (List.replicate N (.slice none 0 0)) (fun _ => 0) (Ud (tbo tos fins) 0 0) 0) := by
    refine ⟨?_, ?_, ?_, fun i hi => absurd hi (Nat.not_lt_zero i), fun i hi => absurd hi (Nat.not_lt_zero i), fun i j hi => absurd hi (Nat.not_lt_zero i), B2.alloc B2.size _⟩
    · rw [heap_alloc_old _ _ (by rw [s2]; omega), heap_alloc_old _ _ (by rw [s1]; omega), ← hO1]
      exact heap_alloc_new _ _
    · rw [heap_alloc_old _ _ (by rw [s2]; omega), ← s1]
      exact heap_alloc_new _ _
    · have h := own_mk100 ((w.alloc O1).alloc (.cells #[.int .i64 (n : Int)] 3)) w.heap.size N B2.size (by omega)
      rw [s2] at h
      exact h
  clear hT hn hf hok B1 B2 s1 s2 hN
  go_enter Tryd.func52, Tryd.ntmps52
  go_upto_region 4 with fail
  rw [show w.heap.size + 1 + 1 = w.heap.size + 2 from rfl]
  generalize ((w.alloc O1).alloc (.cells #[.int .i64 (n : Int)] 3)).alloc (.cells (madeCells #[.slice none 0 0] N) 67) = W1 at *
  obtain ⟨ub, hub⟩ : ∃ p, w.heap.size + 2 = p := ⟨_, rfl⟩
  obtain ⟨p3, hp3⟩ : ∃ p, w.heap.size + 1 = p := ⟨_, rfl⟩
  obtain ⟨p1, hp1⟩ : ∃ p, w.heap.size = p := ⟨_, rfl⟩
  rw [hub, hp3, hp1] at HU0
  rw [hub, hp3, hp1]
  clear hub hp3 hp1 hmk hO1 k0
  go_loopw [5] (fun a wr => ∃ (i : Nat) (uv : List Value) (bk : Nat → Nat), a = .int .i64 (i : Int) ∧ i ≤ N ∧ Un w wr p1 p3 n N ub #[.slice at_ n ct, .slice af_ n cf_] uv bk (Ud (tbo tos fins) i 0) i) (fun a _ => N - (intOf a).toNat)
  case atStart => exact ⟨0, _, _, rfl, Nat.zero_le _, HU0.out⟩
  case round =>
    clear HU0
    obtain ⟨i, uv, bk, rfl, hi, hun⟩ := hrel
    have HU : Hid (Un w wr p1 p3 n N ub #[.slice at_ n ct, .slice af_ n cf_] uv bk (Ud (tbo tos fins) i 0) i) := hun
    have c3 := cell_of_row _ _ 0 _ _ _ HU.out.num
    clear hun
    by_cases hlt : i < N
    · have hle : (i : Int) ≤ (n : Int) := by omega
      have hmk := run_mkB N (by omega)
      have hcu : ∀ o, ∃ x, (wr.alloc o).cell? ⟨ub, i, none⟩ = some x := fun o => by
        have hl : i < uv.length := by have := HU.out.heads.1; omega
        exact ⟨_, ((HU.out.laid (below_al wr o)).heads.cellAt i (by omega)).trans (List.getElem?_eq_getElem hl)⟩
      obtain ⟨x0, hx0⟩ := hcu (.cells (madeCells #[.bool false] N) 4)
      have hfz := (HU.out.laid (below_al wr (.cells (madeCells #[.bool false] N) 4))).heads.frozenAt i
      have HU1 : Hid _ := HU.out.row hlt (fun j _ => Ud_new j) (by omega)
      go_upto_region 8 with fail
      clear hx0 hfz hmk HU c3 hcu
      generalize (wr.alloc (.cells (madeCells #[.bool false] N) 4)).setCell ⟨ub, i, none⟩ (.slice (some ⟨wr.heap.size, 0, none⟩) N N) = W2 at *
      generalize uv.set i (.slice (some ⟨wr.heap.size, 0, none⟩) N N) = uv2 at *
      generalize (fun x => if x = i then wr.heap.size else bk x) = bk2 at *
      go_loopw [6] (fun a wr => ∃ (j : Nat), a = .int .i64 (j : Int) ∧ j ≤ N ∧ Un w wr p1 p3 n N ub #[.slice at_ n ct, .slice af_ n cf_] uv2 bk2 (Ud (tbo tos fins) i j) (i + 1)) (fun a _ => N - (intOf a).toNat)
      case atStart => exact ⟨0, rfl, Nat.zero_le _, HU1.out⟩
      case round =>
        clear HU1
        obtain ⟨j, rfl, hj, hun⟩ := hrel
        have HU : Hid (Un w wr p1 p3 n N ub #[.slice at_ n ct, .slice af_ n cf_] uv2 bk2 (Ud (tbo tos fins) i j) (i + 1)) := hun
        have c3 := cell_of_row _ _ 0 _ _ _ HU.out.num
        clear hun
        by_cases hjl : j < N
        · have hjle : (j : Int) ≤ (n : Int) := by omega
          have hfl := HT.out.1.below HU.out.below
          by_cases hin : i < n
          · by_cases hjn : j < n
            · skip
              have hin' : decide ((i : Int) < (n : Int)) = true := decide_eq_true (by omega)
              have hin2 : decide (i < n) = true := decide_eq_true hin
              have hjn' : decide ((j : Int) < (n : Int)) = true := decide_eq_true (by omega)
              have hjn2 : decide (j < n) = true := decide_eq_true hjn
              obtain ⟨fb, hfbE, _, _⟩ := hfl.finAt' (i := i) HT.out.2.2.1 hin
              subst hfbE
              obtain ⟨bi, hbi⟩ : ∃ b, (tbo tos fins).fin i = b := ⟨_, rfl⟩
              have hfo : (tbo tos fins).fo (stt (tbo tos fins).n i) = bi := by rw [HTn.out, stt_lt hin]; exact hbi
              obtain ⟨bj, hbj⟩ : ∃ b, (tbo tos fins).fin j = b := ⟨_, rfl⟩
              have hfj : (tbo tos fins).fo (stt (tbo tos fins).n j) = bj := by rw [HTn.out, stt_lt hjn]; exact hbj
              have SB : Hid (∀ W (U : Nat → Nat → Bool), Un w W p1 p3 n N ub #[.slice at_ n ct, .slice (some ⟨fb, 0, none⟩) n cf_] uv2 bk2 U (i + 1) → W.cell? ⟨ub, i, none⟩ = some (.slice (some ⟨bk2 i, 0, none⟩) N N) ∧ W.cell? ⟨p3, 0, none⟩ = some (.int .i64 (n : Int)) ∧ W.cell? ⟨p1, 1, none⟩ = some (.slice (some ⟨fb, 0, none⟩) n cf_) ∧ W.cell? ⟨fb, i, none⟩ = some (.bool bi) ∧ W.cell? ⟨fb, j, none⟩ = some (.bool bj)) := fun W U h => ⟨h.headAt (by omega) hlt, cell_of_row _ _ 0 _ _ _ h.num, cell_of_row _ _ 1 _ _ _ h.box, by obtain ⟨fb2, e2, _, h2⟩ := (HT.out.1.below h.below).finAt' (i := i) HT.out.2.2.1 hin; cases e2; rw [h2, hbi], by obtain ⟨fb2, e2, _, h2⟩ := (HT.out.1.below h.below).finAt' (i := j) HT.out.2.2.1 hjn; cases e2; rw [h2, hbj]⟩
              have HUd : Hid (Un w wr.drew p1 p3 n N ub #[.slice at_ n ct, .slice (some ⟨fb, 0, none⟩) n cf_] uv2 bk2 (Ud (tbo tos fins) i j) (i + 1)) := HU.out.laid (below_drewN (Below.refl _ _) 1)
              have HUd3 : Hid (Un w (wr.drew.setCell ⟨bk2 i, j, none⟩ (.bool (bi != bj))) p1 p3 n N ub #[.slice at_ n ct, .slice (some ⟨fb, 0, none⟩) n cf_] uv2 bk2 (Ud (tbo tos fins) i (j + 1)) (i + 1)) := by have h := HUd.out.put (show i < i + 1 by omega) hjl (bi != bj); rw [← Ud_up, hfo, hfj]; exact h
              have g1 : wr.drew.cell? ⟨bk2 i, j, none⟩ = some (.bool (Ud (tbo tos fins) i j i j)) := HUd.out.at (by omega) hjl
              have g2 := HUd.out.frozen (show i < i + 1 by omega) j
              clear hfl hfo hfj hbi hbj
              go_upto_region 10 with fail
              clear c3
              generalize hVd : wr.drew = Vd at *
              refine wp_region_held_drew (S := fun W => W.cell? ⟨ub, i, none⟩ = some (.slice (some ⟨bk2 i, 0, none⟩) N N) ∧ W.cell? ⟨p3, 0, none⟩ = some (.int .i64 (n : Int)) ∧ W.cell? ⟨p1, 1, none⟩ = some (.slice (some ⟨fb, 0, none⟩) n cf_) ∧ W.cell? ⟨fb, i, none⟩ = some (.bool bi) ∧ W.cell? ⟨fb, j, none⟩ = some (.bool bj)) (by kernel_rfl) ((by rw [hVd]; exact SB.out _ _ HUd.out)) (fun hHeld => ?_)
              rw [hVd] at hHeld ⊢
              clear hVd
              refine tk (v := ?_) 0 { dst := some 34, op := .move (.tmp 4), type := 100, pos := "machine.go:336", after := #[], guard := none } (by rfl) ?_ ?_
              case refine_2 => intro w hSw; (try dsimp only at hSw); obtain ⟨z0, z1, z2, z3, z4⟩ := hSw; go_simp; (try with_reducible rfl)
              simp only [Act.put, zS0, zS1, zS2]
              refine tk (v := ?_) 1 { dst := some 35, op := .move (.tmp 5), type := 3, pos := "machine.go:336", after := #[], guard := none } (by rfl) ?_ ?_
              case refine_2 => intro w hSw; (try dsimp only at hSw); obtain ⟨z0, z1, z2, z3, z4⟩ := hSw; go_simp; (try with_reducible rfl)
              simp only [Act.put, zS0, zS1, zS2]
              refine tk (v := ?_) 2 { dst := some 36, op := .indexAddr 100 (.tmp 34) (.tmp 35), type := 0, pos := "machine.go:336", after := #[⟨0, .data⟩, ⟨1, .data⟩], guard := none } (by rfl) ?_ ?_
              case refine_2 => intro w hSw; (try dsimp only at hSw); obtain ⟨z0, z1, z2, z3, z4⟩ := hSw; go_simp; (try with_reducible rfl)
              simp only [Act.put, zS0, zS1, zS2]
              refine tk (v := ?_) 3 { dst := some 37, op := .load 67 (.tmp 36), type := 67, pos := "machine.go:336", after := #[⟨2, .data⟩], guard := none } (by rfl) ?_ ?_
              case refine_2 => intro w hSw; (try dsimp only at hSw); obtain ⟨z0, z1, z2, z3, z4⟩ := hSw; go_simp; (try with_reducible rfl)
              simp only [Act.put, zS0, zS1, zS2]
              refine tk (v := ?_) 4 { dst := some 38, op := .move (.tmp 6), type := 3, pos := "machine.go:336", after := #[], guard := none } (by rfl) ?_ ?_
              case refine_2 => intro w hSw; (try dsimp only at hSw); obtain ⟨z0, z1, z2, z3, z4⟩ := hSw; go_simp; (try with_reducible rfl)
              simp only [Act.put, zS0, zS1, zS2]
              refine tk (v := ?_) 5 { dst := some 39, op := .move (.tmp 5), type := 3, pos := "machine.go:336", after := #[], guard := none } (by rfl) ?_ ?_
              case refine_2 => intro w hSw; (try dsimp only at hSw); obtain ⟨z0, z1, z2, z3, z4⟩ := hSw; go_simp; (try with_reducible rfl)
              simp only [Act.put, zS0, zS1, zS2]
              refine tk (v := ?_) 6 { dst := some 40, op := .load 3 (.tmp 3), type := 3, pos := "machine.go:336", after := #[], guard := none } (by rfl) ?_ ?_
              case refine_2 => intro w hSw; (try dsimp only at hSw); obtain ⟨z0, z1, z2, z3, z4⟩ := hSw; go_simp; (try with_reducible rfl)
              simp only [Act.put, zS0, zS1, zS2]
              refine tk (v := ?_) 7 { dst := some 41, op := .binOp .lss 3 (.tmp 39) (.tmp 40) 3, type := 4, pos := "machine.go:336", after := #[⟨5, .data⟩, ⟨6, .data⟩], guard := none } (by rfl) ?_ ?_
              case refine_2 => intro w hSw; (try dsimp only at hSw); obtain ⟨z0, z1, z2, z3, z4⟩ := hSw; go_simp; (try with_reducible rfl)
              simp only [Act.put, zS0, zS1, zS2]
              refine tk (v := ?_) 8 { dst := some 42, op := .move (.tmp 41), type := 4, pos := "machine.go:336", after := #[⟨7, .data⟩], guard := none } (by rfl) ?_ ?_
              case refine_2 => intro w hSw; (try dsimp only at hSw); obtain ⟨z0, z1, z2, z3, z4⟩ := hSw; go_simp; (try with_reducible rfl)
              simp only [Act.put, zS0, zS1, zS2]
              refine tk (v := ?_) 9 { dst := some 43, op := .fieldAddr 97 (.tmp 1) 1, type := 0, pos := "machine.go:336", after := #[⟨8, .guard⟩], guard := some (8, true) } (by rfl) ?_ ?_
              case refine_2 => intro w hSw; (try dsimp only at hSw); obtain ⟨z0, z1, z2, z3, z4⟩ := hSw; go_simp; (try with_reducible rfl)
              simp only [Act.put, zS0, zS1, zS2]
              refine tk (v := ?_) 10 { dst := some 44, op := .load 67 (.tmp 43), type := 67, pos := "machine.go:336", after := #[⟨9, .data⟩, ⟨8, .guard⟩], guard := some (8, true) } (by rfl) ?_ ?_
              case refine_2 => intro w hSw; (try dsimp only at hSw); obtain ⟨z0, z1, z2, z3, z4⟩ := hSw; go_simp; (try with_reducible rfl)
              simp only [Act.put, zS0, zS1, zS2]
              refine tk (v := ?_) 11 { dst := some 45, op := .move (.tmp 5), type := 3, pos := "machine.go:336", after := #[⟨8, .guard⟩], guard := some (8, true) } (by rfl) ?_ ?_
              case refine_2 => intro w hSw; (try dsimp only at hSw); obtain ⟨z0, z1, z2, z3, z4⟩ := hSw; go_simp; (try with_reducible rfl)
              simp only [Act.put, zS0, zS1, zS2]
              refine tk (v := ?_) 12 { dst := some 46, op := .indexAddr 67 (.tmp 44) (.tmp 45), type := 0, pos := "machine.go:336", after := #[⟨10, .data⟩, ⟨11, .data⟩, ⟨8, .guard⟩], guard := some (8, true) } (by rfl) ?_ ?_
              case refine_2 => intro w hSw; (try dsimp only at hSw); obtain ⟨z0, z1, z2, z3, z4⟩ := hSw; go_simp; (try with_reducible rfl)
              simp only [Act.put, zS0, zS1, zS2]
              refine tk (v := ?_) 13 { dst := some 47, op := .load 4 (.tmp 46), type := 4, pos := "machine.go:336", after := #[⟨12, .data⟩, ⟨8, .guard⟩], guard := some (8, true) } (by rfl) ?_ ?_
              case refine_2 => intro w hSw; (try dsimp only at hSw); obtain ⟨z0, z1, z2, z3, z4⟩ := hSw; go_simp; (try with_reducible rfl)
              simp only [Act.put, zS0, zS1, zS2]
              refine tk (v := ?_) 14 { dst := some 48, op := .pick (.tmp 42) (.tmp 47) (.const (Value.bool false)), type := 4, pos := "machine.go:336", after := #[⟨8, .data⟩, ⟨13, .data⟩], guard := none } (by rfl) ?_ ?_
              case refine_2 => intro w hSw; (try dsimp only at hSw); obtain ⟨z0, z1, z2, z3, z4⟩ := hSw; go_simp; (try with_reducible rfl)
              simp only [Act.put, zS0, zS1, zS2]
              refine tk (v := ?_) 15 { dst := some 49, op := .move (.tmp 6), type := 3, pos := "machine.go:336", after := #[], guard := none } (by rfl) ?_ ?_
              case refine_2 => intro w hSw; (try dsimp only at hSw); obtain ⟨z0, z1, z2, z3, z4⟩ := hSw; go_simp; (try with_reducible rfl)
              simp only [Act.put, zS0, zS1, zS2]
              refine tk (v := ?_) 16 { dst := some 50, op := .load 3 (.tmp 3), type := 3, pos := "machine.go:336", after := #[], guard := none } (by rfl) ?_ ?_
              case refine_2 => intro w hSw; (try dsimp only at hSw); obtain ⟨z0, z1, z2, z3, z4⟩ := hSw; go_simp; (try with_reducible rfl)
              simp only [Act.put, zS0, zS1, zS2]
              refine tk (v := ?_) 17 { dst := some 51, op := .binOp .lss 3 (.tmp 49) (.tmp 50) 3, type := 4, pos := "machine.go:336", after := #[⟨15, .data⟩, ⟨16, .data⟩], guard := none } (by rfl) ?_ ?_
              case refine_2 => intro w hSw; (try dsimp only at hSw); obtain ⟨z0, z1, z2, z3, z4⟩ := hSw; go_simp; (try with_reducible rfl)
              simp only [Act.put, zS0, zS1, zS2]
              refine tk (v := ?_) 18 { dst := some 52, op := .move (.tmp 51), type := 4, pos := "machine.go:336", after := #[⟨17, .data⟩, ⟨8, .chain⟩], guard := none } (by rfl) ?_ ?_
              case refine_2 => intro w hSw; (try dsimp only at hSw); obtain ⟨z0, z1, z2, z3, z4⟩ := hSw; go_simp; (try with_reducible rfl)
              simp only [Act.put, zS0, zS1, zS2]
              refine tk (v := ?_) 19 { dst := some 53, op := .fieldAddr 97 (.tmp 1) 1, type := 0, pos := "machine.go:336", after := #[⟨18, .guard⟩], guard := some (18, true) } (by rfl) ?_ ?_
              case refine_2 => intro w hSw; (try dsimp only at hSw); obtain ⟨z0, z1, z2, z3, z4⟩ := hSw; go_simp; (try with_reducible rfl)
              simp only [Act.put, zS0, zS1, zS2]
              refine tk (v := ?_) 20 { dst := some 54, op := .load 67 (.tmp 53), type := 67, pos := "machine.go:336", after := #[⟨19, .data⟩, ⟨18, .guard⟩], guard := some (18, true) } (by rfl) ?_ ?_
              case refine_2 => intro w hSw; (try dsimp only at hSw); obtain ⟨z0, z1, z2, z3, z4⟩ := hSw; go_simp; (try with_reducible rfl)
              simp only [Act.put, zS0, zS1, zS2]
              refine tk (v := ?_) 21 { dst := some 55, op := .move (.tmp 6), type := 3, pos := "machine.go:336", after := #[⟨18, .guard⟩], guard := some (18, true) } (by rfl) ?_ ?_
              case refine_2 => intro w hSw; (try dsimp only at hSw); obtain ⟨z0, z1, z2, z3, z4⟩ := hSw; go_simp; (try with_reducible rfl)
              simp only [Act.put, zS0, zS1, zS2]
              refine tk (v := ?_) 22 { dst := some 56, op := .indexAddr 67 (.tmp 54) (.tmp 55), type := 0, pos := "machine.go:336", after := #[⟨20, .data⟩, ⟨21, .data⟩, ⟨18, .guard⟩], guard := some (18, true) } (by rfl) ?_ ?_
              case refine_2 => intro w hSw; (try dsimp only at hSw); obtain ⟨z0, z1, z2, z3, z4⟩ := hSw; go_simp; (try with_reducible rfl)
              simp only [Act.put, zS0, zS1, zS2]
              refine tk (v := ?_) 23 { dst := some 57, op := .load 4 (.tmp 56), type := 4, pos := "machine.go:336", after := #[⟨22, .data⟩, ⟨18, .guard⟩], guard := some (18, true) } (by rfl) ?_ ?_
              case refine_2 => intro w hSw; (try dsimp only at hSw); obtain ⟨z0, z1, z2, z3, z4⟩ := hSw; go_simp; (try with_reducible rfl)
              simp only [Act.put, zS0, zS1, zS2]
              refine tk (v := ?_) 24 { dst := some 58, op := .pick (.tmp 52) (.tmp 57) (.const (Value.bool false)), type := 4, pos := "machine.go:336", after := #[⟨18, .data⟩, ⟨23, .data⟩], guard := none } (by rfl) ?_ ?_
              case refine_2 => intro w hSw; (try dsimp only at hSw); obtain ⟨z0, z1, z2, z3, z4⟩ := hSw; go_simp; (try with_reducible rfl)
              simp only [Act.put, zS0, zS1, zS2]
              refine tk (v := ?_) 25 { dst := some 59, op := .binOp .neq 4 (.tmp 48) (.tmp 58) 4, type := 4, pos := "machine.go:336", after := #[⟨14, .data⟩, ⟨24, .data⟩], guard := none } (by rfl) ?_ ?_
              case refine_2 => intro w hSw; (try dsimp only at hSw); obtain ⟨z0, z1, z2, z3, z4⟩ := hSw; go_simp; (try with_reducible rfl)
              simp only [Act.put, zS0, zS1, zS2]
              refine tk (v := ?_) 26 { dst := some 60, op := .indexAddr 67 (.tmp 37) (.tmp 38), type := 0, pos := "machine.go:336", after := #[⟨3, .data⟩, ⟨4, .data⟩, ⟨0, .phase⟩, ⟨1, .phase⟩, ⟨2, .phase⟩, ⟨3, .phase⟩, ⟨4, .phase⟩, ⟨5, .phase⟩, ⟨6, .phase⟩, ⟨7, .phase⟩, ⟨8, .phase⟩, ⟨9, .phase⟩, ⟨10, .phase⟩, ⟨11, .phase⟩, ⟨12, .phase⟩, ⟨13, .phase⟩, ⟨14, .phase⟩, ⟨15, .phase⟩, ⟨16, .phase⟩, ⟨17, .phase⟩, ⟨18, .phase⟩, ⟨19, .phase⟩, ⟨20, .phase⟩, ⟨21, .phase⟩, ⟨22, .phase⟩, ⟨23, .phase⟩, ⟨24, .phase⟩, ⟨25, .phase⟩], guard := none } (by rfl) ?_ ?_
              case refine_2 => intro w hSw; (try dsimp only at hSw); obtain ⟨z0, z1, z2, z3, z4⟩ := hSw; go_simp; (try with_reducible rfl)
              simp only [Act.put, zS0, zS1, zS2]
              refine wpAnyH_ready (rs := [27]) (by kernel_rfl) (by simp) ?_
              refine (AllReadyH.cons (o := { dst := none, op := .store 4 (.tmp 60) (.tmp 59), type := 0, pos := "machine.go:336", after := #[⟨26, .data⟩, ⟨25, .data⟩, ⟨18, .chain⟩, ⟨0, .phase⟩, ⟨1, .phase⟩, ⟨2, .phase⟩, ⟨3, .phase⟩, ⟨4, .phase⟩, ⟨5, .phase⟩, ⟨6, .phase⟩, ⟨7, .phase⟩, ⟨8, .phase⟩, ⟨9, .phase⟩, ⟨10, .phase⟩, ⟨11, .phase⟩, ⟨12, .phase⟩, ⟨13, .phase⟩, ⟨14, .phase⟩, ⟨15, .phase⟩, ⟨16, .phase⟩, ⟨17, .phase⟩, ⟨18, .phase⟩, ⟨19, .phase⟩, ⟨20, .phase⟩, ⟨21, .phase⟩, ⟨22, .phase⟩, ⟨23, .phase⟩, ⟨24, .phase⟩, ⟨25, .phase⟩], guard := none }) rfl (fun K hK => ?_) AllReadyH.nil)
              go_simp
              refine hK.out _ _ ?_ (fun hHeld => ?_)
              · exact SB.out _ _ HUd3.out
              clear hK K
              try simp only [Act.put, zS0, zS1, zS2]
              refine wpAnyH_done (by kernel_rfl) ?_ _
              go_step
              go_wp2
              go_roundw
              case rel => exact ⟨j + 1, by go_num, hjl, HUd3.out⟩
              case measure => simp [intOf]; omega
            · skip
              have hin' : decide ((i : Int) < (n : Int)) = true := decide_eq_true (by omega)
              have hin2 : decide (i < n) = true := decide_eq_true hin
              have hjn' : decide ((j : Int) < (n : Int)) = false := decide_eq_false (by omega)
              have hjn2 : decide (j < n) = false := decide_eq_false hjn
              obtain ⟨fb, hfbE, _, _⟩ := hfl.finAt' (i := i) HT.out.2.2.1 hin
              subst hfbE
              obtain ⟨bi, hbi⟩ : ∃ b, (tbo tos fins).fin i = b := ⟨_, rfl⟩
              have hfo : (tbo tos fins).fo (stt (tbo tos fins).n i) = bi := by rw [HTn.out, stt_lt hin]; exact hbi
              have hfj : (tbo tos fins).fo (stt (tbo tos fins).n j) = false := by rw [HTn.out, show j = n by omega, stt_n]; rfl
              have SB : Hid (∀ W (U : Nat → Nat → Bool), Un w W p1 p3 n N ub #[.slice at_ n ct, .slice (some ⟨fb, 0, none⟩) n cf_] uv2 bk2 U (i + 1) → W.cell? ⟨ub, i, none⟩ = some (.slice (some ⟨bk2 i, 0, none⟩) N N) ∧ W.cell? ⟨p3, 0, none⟩ = some (.int .i64 (n : Int)) ∧ W.cell? ⟨p1, 1, none⟩ = some (.slice (some ⟨fb, 0, none⟩) n cf_) ∧ W.cell? ⟨fb, i, none⟩ = some (.bool bi)) := fun W U h => ⟨h.headAt (by omega) hlt, cell_of_row _ _ 0 _ _ _ h.num, cell_of_row _ _ 1 _ _ _ h.box, by obtain ⟨fb2, e2, _, h2⟩ := (HT.out.1.below h.below).finAt' (i := i) HT.out.2.2.1 hin; cases e2; rw [h2, hbi]⟩
              have HUd : Hid (Un w wr.drew p1 p3 n N ub #[.slice at_ n ct, .slice (some ⟨fb, 0, none⟩) n cf_] uv2 bk2 (Ud (tbo tos fins) i j) (i + 1)) := HU.out.laid (below_drewN (Below.refl _ _) 1)
              have HUd3 : Hid (Un w (wr.drew.setCell ⟨bk2 i, j, none⟩ (.bool bi)) p1 p3 n N ub #[.slice at_ n ct, .slice (some ⟨fb, 0, none⟩) n cf_] uv2 bk2 (Ud (tbo tos fins) i (j + 1)) (i + 1)) := by have h := HUd.out.put (show i < i + 1 by omega) hjl bi; rw [← Ud_up, hfo, hfj, Bool.bne_false]; exact h
              have g1 : wr.drew.cell? ⟨bk2 i, j, none⟩ = some (.bool (Ud (tbo tos fins) i j i j)) := HUd.out.at (by omega) hjl
              have g2 := HUd.out.frozen (show i < i + 1 by omega) j
              clear hfl hfo hfj hbi
              go_upto_region 10 with fail
              clear c3
              generalize hVd : wr.drew = Vd at *
              refine wp_region_held_drew (S := fun W => W.cell? ⟨ub, i, none⟩ = some (.slice (some ⟨bk2 i, 0, none⟩) N N) ∧ W.cell? ⟨p3, 0, none⟩ = some (.int .i64 (n : Int)) ∧ W.cell? ⟨p1, 1, none⟩ = some (.slice (some ⟨fb, 0, none⟩) n cf_) ∧ W.cell? ⟨fb, i, none⟩ = some (.bool bi)) (by kernel_rfl) ((by rw [hVd]; exact SB.out _ _ HUd.out)) (fun hHeld => ?_)
              rw [hVd] at hHeld ⊢
              clear hVd
              refine tk (v := ?_) 0 { dst := some 34, op := .move (.tmp 4), type := 100, pos := "machine.go:336", after := #[], guard := none } (by rfl) ?_ ?_
              case refine_2 => intro w hSw; (try dsimp only at hSw); obtain ⟨z0, z1, z2, z3⟩ := hSw; go_simp; (try with_reducible rfl)
              simp only [Act.put, zS0, zS1, zS2]
              refine tk (v := ?_) 1 { dst := some 35, op := .move (.tmp 5), type := 3, pos := "machine.go:336", after := #[], guard := none } (by rfl) ?_ ?_
              case refine_2 => intro w hSw; (try dsimp only at hSw); obtain ⟨z0, z1, z2, z3⟩ := hSw; go_simp; (try with_reducible rfl)
              simp only [Act.put, zS0, zS1, zS2]
              refine tk (v := ?_) 2 { dst := some 36, op := .indexAddr 100 (.tmp 34) (.tmp 35), type := 0, pos := "machine.go:336", after := #[⟨0, .data⟩, ⟨1, .data⟩], guard := none } (by rfl) ?_ ?_
              case refine_2 => intro w hSw; (try dsimp only at hSw); obtain ⟨z0, z1, z2, z3⟩ := hSw; go_simp; (try with_reducible rfl)
              simp only [Act.put, zS0, zS1, zS2]
              refine tk (v := ?_) 3 { dst := some 37, op := .load 67 (.tmp 36), type := 67, pos := "machine.go:336", after := #[⟨2, .data⟩], guard := none } (by rfl) ?_ ?_
              case refine_2 => intro w hSw; (try dsimp only at hSw); obtain ⟨z0, z1, z2, z3⟩ := hSw; go_simp; (try with_reducible rfl)
              simp only [Act.put, zS0, zS1, zS2]
              refine tk (v := ?_) 4 { dst := some 38, op := .move (.tmp 6), type := 3, pos := "machine.go:336", after := #[], guard := none } (by rfl) ?_ ?_
              case refine_2 => intro w hSw; (try dsimp only at hSw); obtain ⟨z0, z1, z2, z3⟩ := hSw; go_simp; (try with_reducible rfl)
              simp only [Act.put, zS0, zS1, zS2]
              refine tk (v := ?_) 5 { dst := some 39, op := .move (.tmp 5), type := 3, pos := "machine.go:336", after := #[], guard := none } (by rfl) ?_ ?_
              case refine_2 => intro w hSw; (try dsimp only at hSw); obtain ⟨z0, z1, z2, z3⟩ := hSw; go_simp; (try with_reducible rfl)
              simp only [Act.put, zS0, zS1, zS2]
              refine tk (v := ?_) 6 { dst := some 40, op := .load 3 (.tmp 3), type := 3, pos := "machine.go:336", after := #[], guard := none } (by rfl) ?_ ?_
              case refine_2 => intro w hSw; (try dsimp only at hSw); obtain ⟨z0, z1, z2, z3⟩ := hSw; go_simp; (try with_reducible rfl)
              simp only [Act.put, zS0, zS1, zS2]
              refine tk (v := ?_) 7 { dst := some 41, op := .binOp .lss 3 (.tmp 39) (.tmp 40) 3, type := 4, pos := "machine.go:336", after := #[⟨5, .data⟩, ⟨6, .data⟩], guard := none } (by rfl) ?_ ?_
              case refine_2 => intro w hSw; (try dsimp only at hSw); obtain ⟨z0, z1, z2, z3⟩ := hSw; go_simp; (try with_reducible rfl)
              simp only [Act.put, zS0, zS1, zS2]
              refine tk (v := ?_) 8 { dst := some 42, op := .move (.tmp 41), type := 4, pos := "machine.go:336", after := #[⟨7, .data⟩], guard := none } (by rfl) ?_ ?_
              case refine_2 => intro w hSw; (try dsimp only at hSw); obtain ⟨z0, z1, z2, z3⟩ := hSw; go_simp; (try with_reducible rfl)
              simp only [Act.put, zS0, zS1, zS2]
              refine tk (v := ?_) 9 { dst := some 43, op := .fieldAddr 97 (.tmp 1) 1, type := 0, pos := "machine.go:336", after := #[⟨8, .guard⟩], guard := some (8, true) } (by rfl) ?_ ?_
              case refine_2 => intro w hSw; (try dsimp only at hSw); obtain ⟨z0, z1, z2, z3⟩ := hSw; go_simp; (try with_reducible rfl)
              simp only [Act.put, zS0, zS1, zS2]
              refine tk (v := ?_) 10 { dst := some 44, op := .load 67 (.tmp 43), type := 67, pos := "machine.go:336", after := #[⟨9, .data⟩, ⟨8, .guard⟩], guard := some (8, true) } (by rfl) ?_ ?_
              case refine_2 => intro w hSw; (try dsimp only at hSw); obtain ⟨z0, z1, z2, z3⟩ := hSw; go_simp; (try with_reducible rfl)
              simp only [Act.put, zS0, zS1, zS2]
              refine tk (v := ?_) 11 { dst := some 45, op := .move (.tmp 5), type := 3, pos := "machine.go:336", after := #[⟨8, .guard⟩], guard := some (8, true) } (by rfl) ?_ ?_
              case refine_2 => intro w hSw; (try dsimp only at hSw); obtain ⟨z0, z1, z2, z3⟩ := hSw; go_simp; (try with_reducible rfl)
              simp only [Act.put, zS0, zS1, zS2]
              refine tk (v := ?_) 12 { dst := some 46, op := .indexAddr 67 (.tmp 44) (.tmp 45), type := 0, pos := "machine.go:336", after := #[⟨10, .data⟩, ⟨11, .data⟩, ⟨8, .guard⟩], guard := some (8, true) } (by rfl) ?_ ?_
              case refine_2 => intro w hSw; (try dsimp only at hSw); obtain ⟨z0, z1, z2, z3⟩ := hSw; go_simp; (try with_reducible rfl)
              simp only [Act.put, zS0, zS1, zS2]
              refine tk (v := ?_) 13 { dst := some 47, op := .load 4 (.tmp 46), type := 4, pos := "machine.go:336", after := #[⟨12, .data⟩, ⟨8, .guard⟩], guard := some (8, true) } (by rfl) ?_ ?_
              case refine_2 => intro w hSw; (try dsimp only at hSw); obtain ⟨z0, z1, z2, z3⟩ := hSw; go_simp; (try with_reducible rfl)
              simp only [Act.put, zS0, zS1, zS2]
              refine tk (v := ?_) 14 { dst := some 48, op := .pick (.tmp 42) (.tmp 47) (.const (Value.bool false)), type := 4, pos := "machine.go:336", after := #[⟨8, .data⟩, ⟨13, .data⟩], guard := none } (by rfl) ?_ ?_
              case refine_2 => intro w hSw; (try dsimp only at hSw); obtain ⟨z0, z1, z2, z3⟩ := hSw; go_simp; (try with_reducible rfl)
              simp only [Act.put, zS0, zS1, zS2]
              refine tk (v := ?_) 15 { dst := some 49, op := .move (.tmp 6), type := 3, pos := "machine.go:336", after := #[], guard := none } (by rfl) ?_ ?_
              case refine_2 => intro w hSw; (try dsimp only at hSw); obtain ⟨z0, z1, z2, z3⟩ := hSw; go_simp; (try with_reducible rfl)
              simp only [Act.put, zS0, zS1, zS2]
              refine tk (v := ?_) 16 { dst := some 50, op := .load 3 (.tmp 3), type := 3, pos := "machine.go:336", after := #[], guard := none } (by rfl) ?_ ?_
              case refine_2 => intro w hSw; (try dsimp only at hSw); obtain ⟨z0, z1, z2, z3⟩ := hSw; go_simp; (try with_reducible rfl)
              simp only [Act.put, zS0, zS1, zS2]
              refine tk (v := ?_) 17 { dst := some 51, op := .binOp .lss 3 (.tmp 49) (.tmp 50) 3, type := 4, pos := "machine.go:336", after := #[⟨15, .data⟩, ⟨16, .data⟩], guard := none } (by rfl) ?_ ?_
              case refine_2 => intro w hSw; (try dsimp only at hSw); obtain ⟨z0, z1, z2, z3⟩ := hSw; go_simp; (try with_reducible rfl)
              simp only [Act.put, zS0, zS1, zS2]
              refine tk (v := ?_) 18 { dst := some 52, op := .move (.tmp 51), type := 4, pos := "machine.go:336", after := #[⟨17, .data⟩, ⟨8, .chain⟩], guard := none } (by rfl) ?_ ?_
              case refine_2 => intro w hSw; (try dsimp only at hSw); obtain ⟨z0, z1, z2, z3⟩ := hSw; go_simp; (try with_reducible rfl)
              simp only [Act.put, zS0, zS1, zS2]
              refine wpAnyH_take (i := 19) (oi := { dst := some 53, op := .fieldAddr 97 (.tmp 1) 1, type := 0, pos := "machine.go:336", after := #[⟨18, .guard⟩], guard := some (18, true) }) (v := undef) rfl (by kernel_rfl) (by kernel_rfl) (by kernel_rfl) (fun _ _ _ h => h) (Or.inr ⟨by rfl, rfl⟩) (by assumption) ?_
              simp only [Act.put, zS0, zS1, zS2]
              refine wpAnyH_take (i := 20) (oi := { dst := some 54, op := .load 67 (.tmp 53), type := 67, pos := "machine.go:336", after := #[⟨19, .data⟩, ⟨18, .guard⟩], guard := some (18, true) }) (v := undef) rfl (by kernel_rfl) (by kernel_rfl) (by kernel_rfl) (fun _ _ _ h => h) (Or.inr ⟨by rfl, rfl⟩) (by assumption) ?_
              simp only [Act.put, zS0, zS1, zS2]
              refine wpAnyH_take (i := 21) (oi := { dst := some 55, op := .move (.tmp 6), type := 3, pos := "machine.go:336", after := #[⟨18, .guard⟩], guard := some (18, true) }) (v := undef) rfl (by kernel_rfl) (by kernel_rfl) (by kernel_rfl) (fun _ _ _ h => h) (Or.inr ⟨by rfl, rfl⟩) (by assumption) ?_
              simp only [Act.put, zS0, zS1, zS2]
              refine wpAnyH_take (i := 22) (oi := { dst := some 56, op := .indexAddr 67 (.tmp 54) (.tmp 55), type := 0, pos := "machine.go:336", after := #[⟨20, .data⟩, ⟨21, .data⟩, ⟨18, .guard⟩], guard := some (18, true) }) (v := undef) rfl (by kernel_rfl) (by kernel_rfl) (by kernel_rfl) (fun _ _ _ h => h) (Or.inr ⟨by rfl, rfl⟩) (by assumption) ?_
              simp only [Act.put, zS0, zS1, zS2]
              refine wpAnyH_take (i := 23) (oi := { dst := some 57, op := .load 4 (.tmp 56), type := 4, pos := "machine.go:336", after := #[⟨22, .data⟩, ⟨18, .guard⟩], guard := some (18, true) }) (v := undef) rfl (by kernel_rfl) (by kernel_rfl) (by kernel_rfl) (fun _ _ _ h => h) (Or.inr ⟨by rfl, rfl⟩) (by assumption) ?_
              simp only [Act.put, zS0, zS1, zS2]
              refine tk (v := ?_) 24 { dst := some 58, op := .pick (.tmp 52) (.tmp 57) (.const (Value.bool false)), type := 4, pos := "machine.go:336", after := #[⟨18, .data⟩, ⟨23, .data⟩], guard := none } (by rfl) ?_ ?_
              case refine_2 => intro w hSw; (try dsimp only at hSw); obtain ⟨z0, z1, z2, z3⟩ := hSw; go_simp; (try with_reducible rfl)
              simp only [Act.put, zS0, zS1, zS2]
              refine tk (v := ?_) 25 { dst := some 59, op := .binOp .neq 4 (.tmp 48) (.tmp 58) 4, type := 4, pos := "machine.go:336", after := #[⟨14, .data⟩, ⟨24, .data⟩], guard := none } (by rfl) ?_ ?_
              case refine_2 => intro w hSw; (try dsimp only at hSw); obtain ⟨z0, z1, z2, z3⟩ := hSw; go_simp; (try with_reducible rfl)
              simp only [Act.put, zS0, zS1, zS2]
              refine tk (v := ?_) 26 { dst := some 60, op := .indexAddr 67 (.tmp 37) (.tmp 38), type := 0, pos := "machine.go:336", after := #[⟨3, .data⟩, ⟨4, .data⟩, ⟨0, .phase⟩, ⟨1, .phase⟩, ⟨2, .phase⟩, ⟨3, .phase⟩, ⟨4, .phase⟩, ⟨5, .phase⟩, ⟨6, .phase⟩, ⟨7, .phase⟩, ⟨8, .phase⟩, ⟨9, .phase⟩, ⟨10, .phase⟩, ⟨11, .phase⟩, ⟨12, .phase⟩, ⟨13, .phase⟩, ⟨14, .phase⟩, ⟨15, .phase⟩, ⟨16, .phase⟩, ⟨17, .phase⟩, ⟨18, .phase⟩, ⟨19, .phase⟩, ⟨20, .phase⟩, ⟨21, .phase⟩, ⟨22, .phase⟩, ⟨23, .phase⟩, ⟨24, .phase⟩, ⟨25, .phase⟩], guard := none } (by rfl) ?_ ?_
              case refine_2 => intro w hSw; (try dsimp only at hSw); obtain ⟨z0, z1, z2, z3⟩ := hSw; go_simp; (try with_reducible rfl)
              simp only [Act.put, zS0, zS1, zS2]
              refine wpAnyH_ready (rs := [27]) (by kernel_rfl) (by simp) ?_
              refine (AllReadyH.cons (o := { dst := none, op := .store 4 (.tmp 60) (.tmp 59), type := 0, pos := "machine.go:336", after := #[⟨26, .data⟩, ⟨25, .data⟩, ⟨18, .chain⟩, ⟨0, .phase⟩, ⟨1, .phase⟩, ⟨2, .phase⟩, ⟨3, .phase⟩, ⟨4, .phase⟩, ⟨5, .phase⟩, ⟨6, .phase⟩, ⟨7, .phase⟩, ⟨8, .phase⟩, ⟨9, .phase⟩, ⟨10, .phase⟩, ⟨11, .phase⟩, ⟨12, .phase⟩, ⟨13, .phase⟩, ⟨14, .phase⟩, ⟨15, .phase⟩, ⟨16, .phase⟩, ⟨17, .phase⟩, ⟨18, .phase⟩, ⟨19, .phase⟩, ⟨20, .phase⟩, ⟨21, .phase⟩, ⟨22, .phase⟩, ⟨23, .phase⟩, ⟨24, .phase⟩, ⟨25, .phase⟩], guard := none }) rfl (fun K hK => ?_) AllReadyH.nil)
              go_simp
              refine hK.out _ _ ?_ (fun hHeld => ?_)
              · exact SB.out _ _ HUd3.out
              clear hK K
              try simp only [Act.put, zS0, zS1, zS2]
              refine wpAnyH_done (by kernel_rfl) ?_ _
              go_step
              go_wp2
              go_roundw
              case rel => exact ⟨j + 1, by go_num, hjl, HUd3.out⟩
              case measure => simp [intOf]; omega
          · by_cases hjn : j < n
            · skip
              have hin' : decide ((i : Int) < (n : Int)) = false := decide_eq_false (by omega)
              have hin2 : decide (i < n) = false := decide_eq_false hin
              have hjn' : decide ((j : Int) < (n : Int)) = true := decide_eq_true (by omega)
              have hjn2 : decide (j < n) = true := decide_eq_true hjn
              obtain ⟨fb, hfbE, _, _⟩ := hfl.finAt' (i := j) HT.out.2.2.1 hjn
              subst hfbE
              have hfo : (tbo tos fins).fo (stt (tbo tos fins).n i) = false := by rw [HTn.out, show i = n by omega, stt_n]; rfl
              obtain ⟨bj, hbj⟩ : ∃ b, (tbo tos fins).fin j = b := ⟨_, rfl⟩
              have hfj : (tbo tos fins).fo (stt (tbo tos fins).n j) = bj := by rw [HTn.out, stt_lt hjn]; exact hbj
              have SB : Hid (∀ W (U : Nat → Nat → Bool), Un w W p1 p3 n N ub #[.slice at_ n ct, .slice (some ⟨fb, 0, none⟩) n cf_] uv2 bk2 U (i + 1) → W.cell? ⟨ub, i, none⟩ = some (.slice (some ⟨bk2 i, 0, none⟩) N N) ∧ W.cell? ⟨p3, 0, none⟩ = some (.int .i64 (n : Int)) ∧ W.cell? ⟨p1, 1, none⟩ = some (.slice (some ⟨fb, 0, none⟩) n cf_) ∧ W.cell? ⟨fb, j, none⟩ = some (.bool bj)) := fun W U h => ⟨h.headAt (by omega) hlt, cell_of_row _ _ 0 _ _ _ h.num, cell_of_row _ _ 1 _ _ _ h.box, by obtain ⟨fb2, e2, _, h2⟩ := (HT.out.1.below h.below).finAt' (i := j) HT.out.2.2.1 hjn; cases e2; rw [h2, hbj]⟩
              have HUd : Hid (Un w wr.drew p1 p3 n N ub #[.slice at_ n ct, .slice (some ⟨fb, 0, none⟩) n cf_] uv2 bk2 (Ud (tbo tos fins) i j) (i + 1)) := HU.out.laid (below_drewN (Below.refl _ _) 1)
              have HUd3 : Hid (Un w (wr.drew.setCell ⟨bk2 i, j, none⟩ (.bool bj)) p1 p3 n N ub #[.slice at_ n ct, .slice (some ⟨fb, 0, none⟩) n cf_] uv2 bk2 (Ud (tbo tos fins) i (j + 1)) (i + 1)) := by have h := HUd.out.put (show i < i + 1 by omega) hjl bj; rw [← Ud_up, hfo, hfj, Bool.false_bne]; exact h
              have g1 : wr.drew.cell? ⟨bk2 i, j, none⟩ = some (.bool (Ud (tbo tos fins) i j i j)) := HUd.out.at (by omega) hjl
              have g2 := HUd.out.frozen (show i < i + 1 by omega) j
              clear hfl hfo hfj hbj
              go_upto_region 10 with fail
              clear c3
              generalize hVd : wr.drew = Vd at *
              refine wp_region_held_drew (S := fun W => W.cell? ⟨ub, i, none⟩ = some (.slice (some ⟨bk2 i, 0, none⟩) N N) ∧ W.cell? ⟨p3, 0, none⟩ = some (.int .i64 (n : Int)) ∧ W.cell? ⟨p1, 1, none⟩ = some (.slice (some ⟨fb, 0, none⟩) n cf_) ∧ W.cell? ⟨fb, j, none⟩ = some (.bool bj)) (by kernel_rfl) ((by rw [hVd]; exact SB.out _ _ HUd.out)) (fun hHeld => ?_)
              rw [hVd] at hHeld ⊢
              clear hVd
              refine tk (v := ?_) 0 { dst := some 34, op := .move (.tmp 4), type := 100, pos := "machine.go:336", after := #[], guard := none } (by rfl) ?_ ?_
              case refine_2 => intro w hSw; (try dsimp only at hSw); obtain ⟨z0, z1, z2, z3⟩ := hSw; go_simp; (try with_reducible rfl)
              simp only [Act.put, zS0, zS1, zS2]
              refine tk (v := ?_) 1 { dst := some 35, op := .move (.tmp 5), type := 3, pos := "machine.go:336", after := #[], guard := none } (by rfl) ?_ ?_
              case refine_2 => intro w hSw; (try dsimp only at hSw); obtain ⟨z0, z1, z2, z3⟩ := hSw; go_simp; (try with_reducible rfl)
              simp only [Act.put, zS0, zS1, zS2]
              refine tk (v := ?_) 2 { dst := some 36, op := .indexAddr 100 (.tmp 34) (.tmp 35), type := 0, pos := "machine.go:336", after := #[⟨0, .data⟩, ⟨1, .data⟩], guard := none } (by rfl) ?_ ?_
              case refine_2 => intro w hSw; (try dsimp only at hSw); obtain ⟨z0, z1, z2, z3⟩ := hSw; go_simp; (try with_reducible rfl)
              simp only [Act.put, zS0, zS1, zS2]
              refine tk (v := ?_) 3 { dst := some 37, op := .load 67 (.tmp 36), type := 67, pos := "machine.go:336", after := #[⟨2, .data⟩], guard := none } (by rfl) ?_ ?_
              case refine_2 => intro w hSw; (try dsimp only at hSw); obtain ⟨z0, z1, z2, z3⟩ := hSw; go_simp; (try with_reducible rfl)
              simp only [Act.put, zS0, zS1, zS2]
              refine tk (v := ?_) 4 { dst := some 38, op := .move (.tmp 6), type := 3, pos := "machine.go:336", after := #[], guard := none } (by rfl) ?_ ?_
              case refine_2 => intro w hSw; (try dsimp only at hSw); obtain ⟨z0, z1, z2, z3⟩ := hSw; go_simp; (try with_reducible rfl)
              simp only [Act.put, zS0, zS1, zS2]
              refine tk (v := ?_) 5 { dst := some 39, op := .move (.tmp 5), type := 3, pos := "machine.go:336", after := #[], guard := none } (by rfl) ?_ ?_
              case refine_2 => intro w hSw; (try dsimp only at hSw); obtain ⟨z0, z1, z2, z3⟩ := hSw; go_simp; (try with_reducible rfl)
              simp only [Act.put, zS0, zS1, zS2]
              refine tk (v := ?_) 6 { dst := some 40, op := .load 3 (.tmp 3), type := 3, pos := "machine.go:336", after := #[], guard := none } (by rfl) ?_ ?_
              case refine_2 => intro w hSw; (try dsimp only at hSw); obtain ⟨z0, z1, z2, z3⟩ := hSw; go_simp; (try with_reducible rfl)
              simp only [Act.put, zS0, zS1, zS2]
              refine tk (v := ?_) 7 { dst := some 41, op := .binOp .lss 3 (.tmp 39) (.tmp 40) 3, type := 4, pos := "machine.go:336", after := #[⟨5, .data⟩, ⟨6, .data⟩], guard := none } (by rfl) ?_ ?_
              case refine_2 => intro w hSw; (try dsimp only at hSw); obtain ⟨z0, z1, z2, z3⟩ := hSw; go_simp; (try with_reducible rfl)
              simp only [Act.put, zS0, zS1, zS2]
              refine tk (v := ?_) 8 { dst := some 42, op := .move (.tmp 41), type := 4, pos := "machine.go:336", after := #[⟨7, .data⟩], guard := none } (by rfl) ?_ ?_
              case refine_2 => intro w hSw; (try dsimp only at hSw); obtain ⟨z0, z1, z2, z3⟩ := hSw; go_simp; (try with_reducible rfl)
              simp only [Act.put, zS0, zS1, zS2]
              refine wpAnyH_take (i := 9) (oi := { dst := some 43, op := .fieldAddr 97 (.tmp 1) 1, type := 0, pos := "machine.go:336", after := #[⟨8, .guard⟩], guard := some (8, true) }) (v := undef) rfl (by kernel_rfl) (by kernel_rfl) (by kernel_rfl) (fun _ _ _ h => h) (Or.inr ⟨by rfl, rfl⟩) (by assumption) ?_
              simp only [Act.put, zS0, zS1, zS2]
              refine wpAnyH_take (i := 10) (oi := { dst := some 44, op := .load 67 (.tmp 43), type := 67, pos := "machine.go:336", after := #[⟨9, .data⟩, ⟨8, .guard⟩], guard := some (8, true) }) (v := undef) rfl (by kernel_rfl) (by kernel_rfl) (by kernel_rfl) (fun _ _ _ h => h) (Or.inr ⟨by rfl, rfl⟩) (by assumption) ?_
              simp only [Act.put, zS0, zS1, zS2]
              refine wpAnyH_take (i := 11) (oi := { dst := some 45, op := .move (.tmp 5), type := 3, pos := "machine.go:336", after := #[⟨8, .guard⟩], guard := some (8, true) }) (v := undef) rfl (by kernel_rfl) (by kernel_rfl) (by kernel_rfl) (fun _ _ _ h => h) (Or.inr ⟨by rfl, rfl⟩) (by assumption) ?_
              simp only [Act.put, zS0, zS1, zS2]
              refine wpAnyH_take (i := 12) (oi := { dst := some 46, op := .indexAddr 67 (.tmp 44) (.tmp 45), type := 0, pos := "machine.go:336", after := #[⟨10, .data⟩, ⟨11, .data⟩, ⟨8, .guard⟩], guard := some (8, true) }) (v := undef) rfl (by kernel_rfl) (by kernel_rfl) (by kernel_rfl) (fun _ _ _ h => h) (Or.inr ⟨by rfl, rfl⟩) (by assumption) ?_
              simp only [Act.put, zS0, zS1, zS2]
              refine wpAnyH_take (i := 13) (oi := { dst := some 47, op := .load 4 (.tmp 46), type := 4, pos := "machine.go:336", after := #[⟨12, .data⟩, ⟨8, .guard⟩], guard := some (8, true) }) (v := undef) rfl (by kernel_rfl) (by kernel_rfl) (by kernel_rfl) (fun _ _ _ h => h) (Or.inr ⟨by rfl, rfl⟩) (by assumption) ?_
              simp only [Act.put, zS0, zS1, zS2]
              refine tk (v := ?_) 14 { dst := some 48, op := .pick (.tmp 42) (.tmp 47) (.const (Value.bool false)), type := 4, pos := "machine.go:336", after := #[⟨8, .data⟩, ⟨13, .data⟩], guard := none } (by rfl) ?_ ?_
              case refine_2 => intro w hSw; (try dsimp only at hSw); obtain ⟨z0, z1, z2, z3⟩ := hSw; go_simp; (try with_reducible rfl)
              simp only [Act.put, zS0, zS1, zS2]
              refine tk (v := ?_) 15 { dst := some 49, op := .move (.tmp 6), type := 3, pos := "machine.go:336", after := #[], guard := none } (by rfl) ?_ ?_
              case refine_2 => intro w hSw; (try dsimp only at hSw); obtain ⟨z0, z1, z2, z3⟩ := hSw; go_simp; (try with_reducible rfl)
              simp only [Act.put, zS0, zS1, zS2]
              refine tk (v := ?_) 16 { dst := some 50, op := .load 3 (.tmp 3), type := 3, pos := "machine.go:336", after := #[], guard := none } (by rfl) ?_ ?_
              case refine_2 => intro w hSw; (try dsimp only at hSw); obtain ⟨z0, z1, z2, z3⟩ := hSw; go_simp; (try with_reducible rfl)
              simp only [Act.put, zS0, zS1, zS2]
              refine tk (v := ?_) 17 { dst := some 51, op := .binOp .lss 3 (.tmp 49) (.tmp 50) 3, type := 4, pos := "machine.go:336", after := #[⟨15, .data⟩, ⟨16, .data⟩], guard := none } (by rfl) ?_ ?_
              case refine_2 => intro w hSw; (try dsimp only at hSw); obtain ⟨z0, z1, z2, z3⟩ := hSw; go_simp; (try with_reducible rfl)
              simp only [Act.put, zS0, zS1, zS2]
              refine tk (v := ?_) 18 { dst := some 52, op := .move (.tmp 51), type := 4, pos := "machine.go:336", after := #[⟨17, .data⟩, ⟨8, .chain⟩], guard := none } (by rfl) ?_ ?_
              case refine_2 => intro w hSw; (try dsimp only at hSw); obtain ⟨z0, z1, z2, z3⟩ := hSw; go_simp; (try with_reducible rfl)
              simp only [Act.put, zS0, zS1, zS2]
              refine tk (v := ?_) 19 { dst := some 53, op := .fieldAddr 97 (.tmp 1) 1, type := 0, pos := "machine.go:336", after := #[⟨18, .guard⟩], guard := some (18, true) } (by rfl) ?_ ?_
              case refine_2 => intro w hSw; (try dsimp only at hSw); obtain ⟨z0, z1, z2, z3⟩ := hSw; go_simp; (try with_reducible rfl)
              simp only [Act.put, zS0, zS1, zS2]
              refine tk (v := ?_) 20 { dst := some 54, op := .load 67 (.tmp 53), type := 67, pos := "machine.go:336", after := #[⟨19, .data⟩, ⟨18, .guard⟩], guard := some (18, true) } (by rfl) ?_ ?_
              case refine_2 => intro w hSw; (try dsimp only at hSw); obtain ⟨z0, z1, z2, z3⟩ := hSw; go_simp; (try with_reducible rfl)
              simp only [Act.put, zS0, zS1, zS2]
              refine tk (v := ?_) 21 { dst := some 55, op := .move (.tmp 6), type := 3, pos := "machine.go:336", after := #[⟨18, .guard⟩], guard := some (18, true) } (by rfl) ?_ ?_
              case refine_2 => intro w hSw; (try dsimp only at hSw); obtain ⟨z0, z1, z2, z3⟩ := hSw; go_simp; (try with_reducible rfl)
              simp only [Act.put, zS0, zS1, zS2]
              refine tk (v := ?_) 22 { dst := some 56, op := .indexAddr 67 (.tmp 54) (.tmp 55), type := 0, pos := "machine.go:336", after := #[⟨20, .data⟩, ⟨21, .data⟩, ⟨18, .guard⟩], guard := some (18, true) } (by rfl) ?_ ?_
              case refine_2 => intro w hSw; (try dsimp only at hSw); obtain ⟨z0, z1, z2, z3⟩ := hSw; go_simp; (try with_reducible rfl)
              simp only [Act.put, zS0, zS1, zS2]
              refine tk (v := ?_) 23 { dst := some 57, op := .load 4 (.tmp 56), type := 4, pos := "machine.go:336", after := #[⟨22, .data⟩, ⟨18, .guard⟩], guard := some (18, true) } (by rfl) ?_ ?_
              case refine_2 => intro w hSw; (try dsimp only at hSw); obtain ⟨z0, z1, z2, z3⟩ := hSw; go_simp; (try with_reducible rfl)
              simp only [Act.put, zS0, zS1, zS2]
              refine tk (v := ?_) 24 { dst := some 58, op := .pick (.tmp 52) (.tmp 57) (.const (Value.bool false)), type := 4, pos := "machine.go:336", after := #[⟨18, .data⟩, ⟨23, .data⟩], guard := none } (by rfl) ?_ ?_
              case refine_2 => intro w hSw; (try dsimp only at hSw); obtain ⟨z0, z1, z2, z3⟩ := hSw; go_simp; (try with_reducible rfl)
              simp only [Act.put, zS0, zS1, zS2]
              refine tk (v := ?_) 25 { dst := some 59, op := .binOp .neq 4 (.tmp 48) (.tmp 58) 4, type := 4, pos := "machine.go:336", after := #[⟨14, .data⟩, ⟨24, .data⟩], guard := none } (by rfl) ?_ ?_
              case refine_2 => intro w hSw; (try dsimp only at hSw); obtain ⟨z0, z1, z2, z3⟩ := hSw; go_simp; (try with_reducible rfl)
              simp only [Act.put, zS0, zS1, zS2]
              refine tk (v := ?_) 26 { dst := some 60, op := .indexAddr 67 (.tmp 37) (.tmp 38), type := 0, pos := "machine.go:336", after := #[⟨3, .data⟩, ⟨4, .data⟩, ⟨0, .phase⟩, ⟨1, .phase⟩, ⟨2, .phase⟩, ⟨3, .phase⟩, ⟨4, .phase⟩, ⟨5, .phase⟩, ⟨6, .phase⟩, ⟨7, .phase⟩, ⟨8, .phase⟩, ⟨9, .phase⟩, ⟨10, .phase⟩, ⟨11, .phase⟩, ⟨12, .phase⟩, ⟨13, .phase⟩, ⟨14, .phase⟩, ⟨15, .phase⟩, ⟨16, .phase⟩, ⟨17, .phase⟩, ⟨18, .phase⟩, ⟨19, .phase⟩, ⟨20, .phase⟩, ⟨21, .phase⟩, ⟨22, .phase⟩, ⟨23, .phase⟩, ⟨24, .phase⟩, ⟨25, .phase⟩], guard := none } (by rfl) ?_ ?_
              case refine_2 => intro w hSw; (try dsimp only at hSw); obtain ⟨z0, z1, z2, z3⟩ := hSw; go_simp; (try with_reducible rfl)
              simp only [Act.put, zS0, zS1, zS2]
              refine wpAnyH_ready (rs := [27]) (by kernel_rfl) (by simp) ?_
              refine (AllReadyH.cons (o := { dst := none, op := .store 4 (.tmp 60) (.tmp 59), type := 0, pos := "machine.go:336", after := #[⟨26, .data⟩, ⟨25, .data⟩, ⟨18, .chain⟩, ⟨0, .phase⟩, ⟨1, .phase⟩, ⟨2, .phase⟩, ⟨3, .phase⟩, ⟨4, .phase⟩, ⟨5, .phase⟩, ⟨6, .phase⟩, ⟨7, .phase⟩, ⟨8, .phase⟩, ⟨9, .phase⟩, ⟨10, .phase⟩, ⟨11, .phase⟩, ⟨12, .phase⟩, ⟨13, .phase⟩, ⟨14, .phase⟩, ⟨15, .phase⟩, ⟨16, .phase⟩, ⟨17, .phase⟩, ⟨18, .phase⟩, ⟨19, .phase⟩, ⟨20, .phase⟩, ⟨21, .phase⟩, ⟨22, .phase⟩, ⟨23, .phase⟩, ⟨24, .phase⟩, ⟨25, .phase⟩], guard := none }) rfl (fun K hK => ?_) AllReadyH.nil)
              go_simp
              refine hK.out _ _ ?_ (fun hHeld => ?_)
              · exact SB.out _ _ HUd3.out
              clear hK K
              try simp only [Act.put, zS0, zS1, zS2]
              refine wpAnyH_done (by kernel_rfl) ?_ _
              go_step
              go_wp2
              go_roundw
              case rel => exact ⟨j + 1, by go_num, hjl, HUd3.out⟩
              case measure => simp [intOf]; omega
            · skip
              have hin' : decide ((i : Int) < (n : Int)) = false := decide_eq_false (by omega)
              have hin2 : decide (i < n) = false := decide_eq_false hin
              have hjn' : decide ((j : Int) < (n : Int)) = false := decide_eq_false (by omega)
              have hjn2 : decide (j < n) = false := decide_eq_false hjn
              have hfo : (tbo tos fins).fo (stt (tbo tos fins).n i) = false := by rw [HTn.out, show i = n by omega, stt_n]; rfl
              have hfj : (tbo tos fins).fo (stt (tbo tos fins).n j) = false := by rw [HTn.out, show j = n by omega, stt_n]; rfl
              have SB : Hid (∀ W (U : Nat → Nat → Bool), Un w W p1 p3 n N ub #[.slice at_ n ct, .slice af_ n cf_] uv2 bk2 U (i + 1) → W.cell? ⟨ub, i, none⟩ = some (.slice (some ⟨bk2 i, 0, none⟩) N N) ∧ W.cell? ⟨p3, 0, none⟩ = some (.int .i64 (n : Int))) := fun W U h => ⟨h.headAt (by omega) hlt, cell_of_row _ _ 0 _ _ _ h.num⟩
              have HUd : Hid (Un w wr.drew p1 p3 n N ub #[.slice at_ n ct, .slice af_ n cf_] uv2 bk2 (Ud (tbo tos fins) i j) (i + 1)) := HU.out.laid (below_drewN (Below.refl _ _) 1)
              have HUd3 : Hid (Un w (wr.drew.setCell ⟨bk2 i, j, none⟩ (.bool false)) p1 p3 n N ub #[.slice at_ n ct, .slice af_ n cf_] uv2 bk2 (Ud (tbo tos fins) i (j + 1)) (i + 1)) := by have h := HUd.out.put (show i < i + 1 by omega) hjl false; rw [← Ud_up, hfo, hfj, bne_self_eq_false]; exact h
              have g1 : wr.drew.cell? ⟨bk2 i, j, none⟩ = some (.bool (Ud (tbo tos fins) i j i j)) := HUd.out.at (by omega) hjl
              have g2 := HUd.out.frozen (show i < i + 1 by omega) j
              clear hfl hfo hfj
              go_upto_region 10 with fail
              clear c3
              generalize hVd : wr.drew = Vd at *
              refine wp_region_held_drew (S := fun W => W.cell? ⟨ub, i, none⟩ = some (.slice (some ⟨bk2 i, 0, none⟩) N N) ∧ W.cell? ⟨p3, 0, none⟩ = some (.int .i64 (n : Int))) (by kernel_rfl) ((by rw [hVd]; exact SB.out _ _ HUd.out)) (fun hHeld => ?_)
              rw [hVd] at hHeld ⊢
              clear hVd
              refine tk (v := ?_) 0 { dst := some 34, op := .move (.tmp 4), type := 100, pos := "machine.go:336", after := #[], guard := none } (by rfl) ?_ ?_
              case refine_2 => intro w hSw; (try dsimp only at hSw); obtain ⟨z0, z1⟩ := hSw; go_simp; (try with_reducible rfl)
              simp only [Act.put, zS0, zS1, zS2]
              refine tk (v := ?_) 1 { dst := some 35, op := .move (.tmp 5), type := 3, pos := "machine.go:336", after := #[], guard := none } (by rfl) ?_ ?_
              case refine_2 => intro w hSw; (try dsimp only at hSw); obtain ⟨z0, z1⟩ := hSw; go_simp; (try with_reducible rfl)
              simp only [Act.put, zS0, zS1, zS2]
              refine tk (v := ?_) 2 { dst := some 36, op := .indexAddr 100 (.tmp 34) (.tmp 35), type := 0, pos := "machine.go:336", after := #[⟨0, .data⟩, ⟨1, .data⟩], guard := none } (by rfl) ?_ ?_
              case refine_2 => intro w hSw; (try dsimp only at hSw); obtain ⟨z0, z1⟩ := hSw; go_simp; (try with_reducible rfl)
              simp only [Act.put, zS0, zS1, zS2]
              refine tk (v := ?_) 3 { dst := some 37, op := .load 67 (.tmp 36), type := 67, pos := "machine.go:336", after := #[⟨2, .data⟩], guard := none } (by rfl) ?_ ?_
              case refine_2 => intro w hSw; (try dsimp only at hSw); obtain ⟨z0, z1⟩ := hSw; go_simp; (try with_reducible rfl)
              simp only [Act.put, zS0, zS1, zS2]
              refine tk (v := ?_) 4 { dst := some 38, op := .move (.tmp 6), type := 3, pos := "machine.go:336", after := #[], guard := none } (by rfl) ?_ ?_
              case refine_2 => intro w hSw; (try dsimp only at hSw); obtain ⟨z0, z1⟩ := hSw; go_simp; (try with_reducible rfl)
              simp only [Act.put, zS0, zS1, zS2]
              refine tk (v := ?_) 5 { dst := some 39, op := .move (.tmp 5), type := 3, pos := "machine.go:336", after := #[], guard := none } (by rfl) ?_ ?_
              case refine_2 => intro w hSw; (try dsimp only at hSw); obtain ⟨z0, z1⟩ := hSw; go_simp; (try with_reducible rfl)
              simp only [Act.put, zS0, zS1, zS2]
              refine tk (v := ?_) 6 { dst := some 40, op := .load 3 (.tmp 3), type := 3, pos := "machine.go:336", after := #[], guard := none } (by rfl) ?_ ?_
              case refine_2 => intro w hSw; (try dsimp only at hSw); obtain ⟨z0, z1⟩ := hSw; go_simp; (try with_reducible rfl)
              simp only [Act.put, zS0, zS1, zS2]
              refine tk (v := ?_) 7 { dst := some 41, op := .binOp .lss 3 (.tmp 39) (.tmp 40) 3, type := 4, pos := "machine.go:336", after := #[⟨5, .data⟩, ⟨6, .data⟩], guard := none } (by rfl) ?_ ?_
              case refine_2 => intro w hSw; (try dsimp only at hSw); obtain ⟨z0, z1⟩ := hSw; go_simp; (try with_reducible rfl)
              simp only [Act.put, zS0, zS1, zS2]
              refine tk (v := ?_) 8 { dst := some 42, op := .move (.tmp 41), type := 4, pos := "machine.go:336", after := #[⟨7, .data⟩], guard := none } (by rfl) ?_ ?_
              case refine_2 => intro w hSw; (try dsimp only at hSw); obtain ⟨z0, z1⟩ := hSw; go_simp; (try with_reducible rfl)
              simp only [Act.put, zS0, zS1, zS2]
              refine wpAnyH_take (i := 9) (oi := { dst := some 43, op := .fieldAddr 97 (.tmp 1) 1, type := 0, pos := "machine.go:336", after := #[⟨8, .guard⟩], guard := some (8, true) }) (v := undef) rfl (by kernel_rfl) (by kernel_rfl) (by kernel_rfl) (fun _ _ _ h => h) (Or.inr ⟨by rfl, rfl⟩) (by assumption) ?_
              simp only [Act.put, zS0, zS1, zS2]
              refine wpAnyH_take (i := 10) (oi := { dst := some 44, op := .load 67 (.tmp 43), type := 67, pos := "machine.go:336", after := #[⟨9, .data⟩, ⟨8, .guard⟩], guard := some (8, true) }) (v := undef) rfl (by kernel_rfl) (by kernel_rfl) (by kernel_rfl) (fun _ _ _ h => h) (Or.inr ⟨by rfl, rfl⟩) (by assumption) ?_
              simp only [Act.put, zS0, zS1, zS2]
              refine wpAnyH_take (i := 11) (oi := { dst := some 45, op := .move (.tmp 5), type := 3, pos := "machine.go:336", after := #[⟨8, .guard⟩], guard := some (8, true) }) (v := undef) rfl (by kernel_rfl) (by kernel_rfl) (by kernel_rfl) (fun _ _ _ h => h) (Or.inr ⟨by rfl, rfl⟩) (by assumption) ?_
              simp only [Act.put, zS0, zS1, zS2]
              refine wpAnyH_take (i := 12) (oi := { dst := some 46, op := .indexAddr 67 (.tmp 44) (.tmp 45), type := 0, pos := "machine.go:336", after := #[⟨10, .data⟩, ⟨11, .data⟩, ⟨8, .guard⟩], guard := some (8, true) }) (v := undef) rfl (by kernel_rfl) (by kernel_rfl) (by kernel_rfl) (fun _ _ _ h => h) (Or.inr ⟨by rfl, rfl⟩) (by assumption) ?_
              simp only [Act.put, zS0, zS1, zS2]
              refine wpAnyH_take (i := 13) (oi := { dst := some 47, op := .load 4 (.tmp 46), type := 4, pos := "machine.go:336", after := #[⟨12, .data⟩, ⟨8, .guard⟩], guard := some (8, true) }) (v := undef) rfl (by kernel_rfl) (by kernel_rfl) (by kernel_rfl) (fun _ _ _ h => h) (Or.inr ⟨by rfl, rfl⟩) (by assumption) ?_
              simp only [Act.put, zS0, zS1, zS2]
              refine tk (v := ?_) 14 { dst := some 48, op := .pick (.tmp 42) (.tmp 47) (.const (Value.bool false)), type := 4, pos := "machine.go:336", after := #[⟨8, .data⟩, ⟨13, .data⟩], guard := none } (by rfl) ?_ ?_
              case refine_2 => intro w hSw; (try dsimp only at hSw); obtain ⟨z0, z1⟩ := hSw; go_simp; (try with_reducible rfl)
              simp only [Act.put, zS0, zS1, zS2]
              refine tk (v := ?_) 15 { dst := some 49, op := .move (.tmp 6), type := 3, pos := "machine.go:336", after := #[], guard := none } (by rfl) ?_ ?_
              case refine_2 => intro w hSw; (try dsimp only at hSw); obtain ⟨z0, z1⟩ := hSw; go_simp; (try with_reducible rfl)
              simp only [Act.put, zS0, zS1, zS2]
              refine tk (v := ?_) 16 { dst := some 50, op := .load 3 (.tmp 3), type := 3, pos := "machine.go:336", after := #[], guard := none } (by rfl) ?_ ?_
              case refine_2 => intro w hSw; (try dsimp only at hSw); obtain ⟨z0, z1⟩ := hSw; go_simp; (try with_reducible rfl)
              simp only [Act.put, zS0, zS1, zS2]
              refine tk (v := ?_) 17 { dst := some 51, op := .binOp .lss 3 (.tmp 49) (.tmp 50) 3, type := 4, pos := "machine.go:336", after := #[⟨15, .data⟩, ⟨16, .data⟩], guard := none } (by rfl) ?_ ?_
              case refine_2 => intro w hSw; (try dsimp only at hSw); obtain ⟨z0, z1⟩ := hSw; go_simp; (try with_reducible rfl)
              simp only [Act.put, zS0, zS1, zS2]
              refine tk (v := ?_) 18 { dst := some 52, op := .move (.tmp 51), type := 4, pos := "machine.go:336", after := #[⟨17, .data⟩, ⟨8, .chain⟩], guard := none } (by rfl) ?_ ?_
              case refine_2 => intro w hSw; (try dsimp only at hSw); obtain ⟨z0, z1⟩ := hSw; go_simp; (try with_reducible rfl)
              simp only [Act.put, zS0, zS1, zS2]
              refine wpAnyH_take (i := 19) (oi := { dst := some 53, op := .fieldAddr 97 (.tmp 1) 1, type := 0, pos := "machine.go:336", after := #[⟨18, .guard⟩], guard := some (18, true) }) (v := undef) rfl (by kernel_rfl) (by kernel_rfl) (by kernel_rfl) (fun _ _ _ h => h) (Or.inr ⟨by rfl, rfl⟩) (by assumption) ?_
              simp only [Act.put, zS0, zS1, zS2]
              refine wpAnyH_take (i := 20) (oi := { dst := some 54, op := .load 67 (.tmp 53), type := 67, pos := "machine.go:336", after := #[⟨19, .data⟩, ⟨18, .guard⟩], guard := some (18, true) }) (v := undef) rfl (by kernel_rfl) (by kernel_rfl) (by kernel_rfl) (fun _ _ _ h => h) (Or.inr ⟨by rfl, rfl⟩) (by assumption) ?_
              simp only [Act.put, zS0, zS1, zS2]
              refine wpAnyH_take (i := 21) (oi := { dst := some 55, op := .move (.tmp 6), type := 3, pos := "machine.go:336", after := #[⟨18, .guard⟩], guard := some (18, true) }) (v := undef) rfl (by kernel_rfl) (by kernel_rfl) (by kernel_rfl) (fun _ _ _ h => h) (Or.inr ⟨by rfl, rfl⟩) (by assumption) ?_
              simp only [Act.put, zS0, zS1, zS2]
              refine wpAnyH_take (i := 22) (oi := { dst := some 56, op := .indexAddr 67 (.tmp 54) (.tmp 55), type := 0, pos := "machine.go:336", after := #[⟨20, .data⟩, ⟨21, .data⟩, ⟨18, .guard⟩], guard := some (18, true) }) (v := undef) rfl (by kernel_rfl) (by kernel_rfl) (by kernel_rfl) (fun _ _ _ h => h) (Or.inr ⟨by rfl, rfl⟩) (by assumption) ?_
              simp only [Act.put, zS0, zS1, zS2]
              refine wpAnyH_take (i := 23) (oi := { dst := some 57, op := .load 4 (.tmp 56), type := 4, pos := "machine.go:336", after := #[⟨22, .data⟩, ⟨18, .guard⟩], guard := some (18, true) }) (v := undef) rfl (by kernel_rfl) (by kernel_rfl) (by kernel_rfl) (fun _ _ _ h => h) (Or.inr ⟨by rfl, rfl⟩) (by assumption) ?_
              simp only [Act.put, zS0, zS1, zS2]
              refine tk (v := ?_) 24 { dst := some 58, op := .pick (.tmp 52) (.tmp 57) (.const (Value.bool false)), type := 4, pos := "machine.go:336", after := #[⟨18, .data⟩, ⟨23, .data⟩], guard := none } (by rfl) ?_ ?_
              case refine_2 => intro w hSw; (try dsimp only at hSw); obtain ⟨z0, z1⟩ := hSw; go_simp; (try with_reducible rfl)
              simp only [Act.put, zS0, zS1, zS2]
              refine tk (v := ?_) 25 { dst := some 59, op := .binOp .neq 4 (.tmp 48) (.tmp 58) 4, type := 4, pos := "machine.go:336", after := #[⟨14, .data⟩, ⟨24, .data⟩], guard := none } (by rfl) ?_ ?_
              case refine_2 => intro w hSw; (try dsimp only at hSw); obtain ⟨z0, z1⟩ := hSw; go_simp; (try with_reducible rfl)
              simp only [Act.put, zS0, zS1, zS2]
              refine tk (v := ?_) 26 { dst := some 60, op := .indexAddr 67 (.tmp 37) (.tmp 38), type := 0, pos := "machine.go:336", after := #[⟨3, .data⟩, ⟨4, .data⟩, ⟨0, .phase⟩, ⟨1, .phase⟩, ⟨2, .phase⟩, ⟨3, .phase⟩, ⟨4, .phase⟩, ⟨5, .phase⟩, ⟨6, .phase⟩, ⟨7, .phase⟩, ⟨8, .phase⟩, ⟨9, .phase⟩, ⟨10, .phase⟩, ⟨11, .phase⟩, ⟨12, .phase⟩, ⟨13, .phase⟩, ⟨14, .phase⟩, ⟨15, .phase⟩, ⟨16, .phase⟩, ⟨17, .phase⟩, ⟨18, .phase⟩, ⟨19, .phase⟩, ⟨20, .phase⟩, ⟨21, .phase⟩, ⟨22, .phase⟩, ⟨23, .phase⟩, ⟨24, .phase⟩, ⟨25, .phase⟩], guard := none } (by rfl) ?_ ?_
              case refine_2 => intro w hSw; (try dsimp only at hSw); obtain ⟨z0, z1⟩ := hSw; go_simp; (try with_reducible rfl)
              simp only [Act.put, zS0, zS1, zS2]
              refine wpAnyH_ready (rs := [27]) (by kernel_rfl) (by simp) ?_
              refine (AllReadyH.cons (o := { dst := none, op := .store 4 (.tmp 60) (.tmp 59), type := 0, pos := "machine.go:336", after := #[⟨26, .data⟩, ⟨25, .data⟩, ⟨18, .chain⟩, ⟨0, .phase⟩, ⟨1, .phase⟩, ⟨2, .phase⟩, ⟨3, .phase⟩, ⟨4, .phase⟩, ⟨5, .phase⟩, ⟨6, .phase⟩, ⟨7, .phase⟩, ⟨8, .phase⟩, ⟨9, .phase⟩, ⟨10, .phase⟩, ⟨11, .phase⟩, ⟨12, .phase⟩, ⟨13, .phase⟩, ⟨14, .phase⟩, ⟨15, .phase⟩, ⟨16, .phase⟩, ⟨17, .phase⟩, ⟨18, .phase⟩, ⟨19, .phase⟩, ⟨20, .phase⟩, ⟨21, .phase⟩, ⟨22, .phase⟩, ⟨23, .phase⟩, ⟨24, .phase⟩, ⟨25, .phase⟩], guard := none }) rfl (fun K hK => ?_) AllReadyH.nil)
              go_simp
              refine hK.out _ _ ?_ (fun hHeld => ?_)
              · exact SB.out _ _ HUd3.out
              clear hK K
              try simp only [Act.put, zS0, zS1, zS2]
              refine wpAnyH_done (by kernel_rfl) ?_ _
              go_step
              go_wp2
              go_roundw
              case rel => exact ⟨j + 1, by go_num, hjl, HUd3.out⟩
              case measure => simp [intOf]; omega
        · obtain rfl : N = j := by omega
          have hjle : ¬ (N : Int) ≤ (n : Int) := by omega
          have HU2 : Hid (Un w wr p1 p3 n N ub #[.slice at_ n ct, .slice af_ n cf_] uv2 bk2 (Ud (tbo tos fins) (i + 1) 0) (i + 1)) := HU.out.congr (fun a b _ hb => Ud_next hb)
          clear HU
          go_wp2
          go_roundw
          case rel => exact ⟨i + 1, _, _, by go_num, hlt, HU2.out⟩
          case measure => simp [intOf]; omega
    · obtain rfl : N = i := by omega
      have hle : ¬ (N : Int) ≤ (n : Int) := by omega
      have HSD : Hid (Snd (tbo tos fins) (Ud (tbo tos fins) N 0)) := by have h := Ud_snd (T := tbo tos fins); rw [HTn.out, HNN.out] at h; exact h
      obtain ⟨T, hTT⟩ : ∃ T, tbo tos fins = T := ⟨_, rfl⟩
      have HOK : Hid (T.Ok) := by rw [← hTT]; exact HT.out.2.2.2
      have HTN : Hid (T.n = n) := by rw [← hTT]; exact HTn.out
      rw [hTT] at HU HSD
      have HTE : Hid (tbo tos fins = T) := hTT
      obtain ⟨U0, hU0⟩ : ∃ U, Ud T N 0 = U := ⟨_, rfl⟩
      rw [hU0] at HU HSD
      have KTO : Hid (∀ (W : World) (U : Nat → Nat → Bool) (x c : Nat), Un w W p1 p3 n N ub #[.slice at_ n ct, .slice af_ n cf_] uv bk U N → x ≤ n → 1 ≤ c ∧ c ≤ 60 → Calls Tryd.prog 83 #[.int .i64 (x : Int), .int .i64 (c : Int), .pointer (some ⟨p3, 0, none⟩), .pointer (some ⟨p1, 0, none⟩)] W fun e w' => e = .returned (.int .i64 ((nt T x c : Nat) : Int)) ∧ Below W.heap.size W w') := fun W U x c h hx hc => by
        have k := to_any p3 p1 base x c ct n cf_ at_ af_ tos fins W (by rw [HT.out.2.1]; exact h.num) (by rw [HT.out.2.1]; exact h.box) (by rw [HT.out.2.1]; exact HT.out.1.below h.below) (by rw [HT.out.2.1]; exact hx) hc
        rw [HTE.out] at k
        exact k
      rw [hTT]
      clear hTT hU0 hi
      go_upto_region 13 with fail
      clear c3
      go_loopg [8] ((sq N U0).count false + 1) (fun gk a wr => ∃ (ag : Bool) (U : Nat → Nat → Bool), a = .bool ag ∧ Un w wr p1 p3 n N ub #[.slice at_ n ct, .slice af_ n cf_] uv bk U N ∧ Snd T U ∧ (ag = true → gk = (sq N U).count false + 1) ∧ (ag = false → gk = 0 ∧ Shut2 T U fun _ _ _ => True))
      case atStart => exact ⟨true, U0, rfl, HU.out, HSD.out, fun _ => rfl, fun h => by cases h⟩
      case round =>
        clear HU HSD
        obtain ⟨ag, U, rfl, hun, hsd, hk1, hk2⟩ := hrel
        have HU : Hid (Un w wr p1 p3 n N ub #[.slice at_ n ct, .slice af_ n cf_] uv bk U N) := hun
        have HSD : Hid (Snd T U) := hsd
        cases ag with
        | false =>
          have HSH : Hid (Shut2 T U fun _ _ _ => True) := (hk2 rfl).2
          clear hk1 hk2 hun hsd
          go_wp2
          go_ret
          exact ⟨ub, uv, bk, U, rfl, HU.out.below, HU.out.heads, fun i hi => ⟨HU.out.head i hi, HU.out.rows i hi⟩, fun i j hi hj => by have h := unlike_of HOK.out HSD.out HSH.out i j (by rw [HTN.out]; exact hi) (by rw [HTN.out]; exact hj); rw [HTN.out] at h; rw [HTE.out]; exact h⟩
        | true =>
          have HGK : Hid (gk = (sq N U).count false + 1) := hk1 rfl
          clear hk1 hk2 hun hsd
          go_upto_region 16 with fail
          go_loopw [8, 9] (fun a b wr => ∃ (ag : Bool) (U1 : Nat → Nat → Bool) (i : Nat), a = .bool ag ∧ b = .int .i64 (i : Int) ∧ i ≤ N ∧ Un w wr p1 p3 n N ub #[.slice at_ n ct, .slice af_ n cf_] uv bk U1 N ∧ Snd T U1 ∧ Pas T U U1 ag fun a _ _ => a < i) (fun _ b _ => N - (intOf b).toNat)
          case atStart => exact ⟨false, U, 0, rfl, rfl, Nat.zero_le _, HU.out, HSD.out, Pas.start T U (fun _ _ _ h => Nat.not_lt_zero _ h)⟩
          case round =>
            clear HU HSD
            obtain ⟨ag, U1, i, rfl, rfl, hi, hun, hsd, hps⟩ := hrel
            have HU : Hid (Un w wr p1 p3 n N ub #[.slice at_ n ct, .slice af_ n cf_] uv bk U1 N) := hun
            have HSD : Hid (Snd T U1) := hsd
            have c3 := cell_of_row _ _ 0 _ _ _ hun.num
            clear hun hsd
            by_cases hlt : i < N
            · have hile : (i : Int) ≤ (n : Int) := by omega
              have HPS : Hid (Pas T U U1 ag fun a _ _ => a < i) := hps
              clear hps
              go_upto_region 19 with fail
              clear c3
              go_loopw [8, 10] (fun a b wr => ∃ (ag : Bool) (U1 : Nat → Nat → Bool) (j : Nat), a = .bool ag ∧ b = .int .i64 (j : Int) ∧ j ≤ N ∧ Un w wr p1 p3 n N ub #[.slice at_ n ct, .slice af_ n cf_] uv bk U1 N ∧ Snd T U1 ∧ Pas T U U1 ag fun a b _ => a < i ∨ (a = i ∧ b < j)) (fun _ b _ => N - (intOf b).toNat)
              case atStart => exact ⟨ag, U1, 0, rfl, rfl, Nat.zero_le _, HU.out, HSD.out, HPS.out.mono (fun a b c _ _ _ h => .inl (by omega))⟩
              case round =>
                clear HU HSD HPS
                obtain ⟨ag, U1, j, rfl, rfl, hj, hun, hsd, hps⟩ := hrel
                have HU : Hid (Un w wr p1 p3 n N ub #[.slice at_ n ct, .slice af_ n cf_] uv bk U1 N) := hun
                have HSD : Hid (Snd T U1) := hsd
                have HPS : Hid (Pas T U U1 ag fun a b _ => a < i ∨ (a = i ∧ b < j)) := hps
                have c3 := cell_of_row _ _ 0 _ _ _ hun.num
                clear hun hsd hps
                by_cases hjl : j < N
                · have hjle : (j : Int) ≤ (n : Int) := by omega
                  go_upto_region 22 with fail
                  clear c3
                  go_loopw [8, 11] (fun a b wr => ∃ (ag : Bool) (U1 : Nat → Nat → Bool) (c : Nat), a = .bool ag ∧ b = .int .i64 (c : Int) ∧ 1 ≤ c ∧ c ≤ 61 ∧ Un w wr p1 p3 n N ub #[.slice at_ n ct, .slice af_ n cf_] uv bk U1 N ∧ Snd T U1 ∧ Pas T U U1 ag fun a b d => a < i ∨ (a = i ∧ b < j) ∨ (a = i ∧ b = j ∧ d < c)) (fun _ b _ => 61 - (intOf b).toNat)
                  case atStart => exact ⟨ag, U1, 1, rfl, rfl, Nat.le_refl _, by omega, HU.out, HSD.out, HPS.out.mono (fun a b c _ _ h1 h => .inl (by omega))⟩
                  case round =>
                    clear HU HSD HPS
                    obtain ⟨ag, U1, c, rfl, rfl, hc1, hc2, hun, hsd, hps⟩ := hrel
                    have HU : Hid (Un w wr p1 p3 n N ub #[.slice at_ n ct, .slice af_ n cf_] uv bk U1 N) := hun
                    have HSD : Hid (Snd T U1) := hsd
                    have HPS : Hid (Pas T U U1 ag fun a b d => a < i ∨ (a = i ∧ b < j) ∨ (a = i ∧ b = j ∧ d < c)) := hps
                    have g0 := hun.headAt hlt hlt
                    obtain ⟨x, hx⟩ : ∃ x, U1 i j = x := ⟨_, rfl⟩
                    have g1 := hun.at hlt hjl
                    rw [hx] at g1
                    have HX : Hid (U1 i j = x) := hx
                    clear hun hsd hps hx
                    by_cases hc : c ≤ 60
                    · have hci : (c : Int) ≤ 60 := by omega
                      cases x with
                      | true =>
                        have HP2 : Hid (Pas T U U1 ag fun a b _ => a < i ∨ (a = i ∧ b < j + 1)) := HPS.out.mono (fun a b d _ _ _ h => by
                          by_cases e : a = i ∧ b = j
                          · obtain ⟨rfl, rfl⟩ := e; exact .inr (fun _ => HX.out)
                          · exact .inl (by omega))
                        go_wp2
                        repeat (go_quiet (fail); go_wp2)
                        go_roundw
                        case rel => exact ⟨ag, U1, j + 1, rfl, by go_num, hjl, by first | exact HU.out | exact HU.out.laid (below_drewN (Below.refl _ _) _), HSD.out, HP2.out⟩
                        case measure => simp [intOf]; omega
                      | false =>
                        have hin : i ≤ n := by omega
                        have hjn : j ≤ n := by omega
                        obtain ⟨xi, hxi⟩ : ∃ x, nt T i c = x := ⟨_, rfl⟩
                        obtain ⟨xj, hxj⟩ : ∃ x, nt T j c = x := ⟨_, rfl⟩
                        have hxn : xi < N := by have := nt_le HOK.out (i := i) (c := c); rw [HTN.out, hxi] at this; omega
                        have hyn : xj < N := by have := nt_le HOK.out (i := j) (c := c); rw [HTN.out, hxj] at this; omega
                        obtain ⟨y, hy⟩ : ∃ b, U1 xi xj = b := ⟨_, rfl⟩
                        have HXX : Hid (nt T i c = xi ∧ nt T j c = xj ∧ U1 xi xj = y) := ⟨hxi, hxj, hy⟩
                        have hxi0 : (0 : Int) ≤ (xi : Int) := by omega
                        have hxj0 : (0 : Int) ≤ (xj : Int) := by omega
                        go_upto_region 24 with fail
                        go_cut [99] from 87 to 98 (fun s wx => s = .bool y ∧ Below wr.heap.size wr wx)
                        case first =>
                          have r0 := fun p : After wr => (HU.out.laid p.h).headAt hxn hxn
                          have r1 := fun p : After wr => (HU.out.laid p.h).at hxn hyn
                          have k1 := fun p : After wr => KTO.out p.W U1 i c (HU.out.laid p.h) hin ⟨hc1, hc⟩
                          have k2 := fun p : After wr => KTO.out p.W U1 j c (HU.out.laid p.h) hjn ⟨hc1, hc⟩
                          rw [hy] at r1
                          rw [hxi] at k1
                          rw [hxj] at k2
                          clear g0 g1 hxi hxj hy
                          haveI : Inhabited (After wr) := ⟨⟨_, Below.refl _ _⟩⟩
                          refine wp_region_after (by kernel_rfl) (by kernel_rfl) ?_
                          repeat (go_big_quiet_step (first | (go_at_call 83; (with_reducible refine after_of (k1 _))) | (go_at_call 83; (with_reducible refine after_of (k2 _)))))
                          refine wpQuiet_nil ?_
                          intro W hw'
                          obtain ⟨⟨w13, h13⟩, rfl⟩ := hw'
                          go_wp2_with fail
                          go_meet
                          exact ⟨rfl, h13⟩
                        case rest =>
                        obtain ⟨rfl, hbc⟩ := hcut
                        have HU2 : Hid (Un w wc p1 p3 n N ub #[.slice at_ n ct, .slice af_ n cf_] uv bk U1 N) := HU.out.laid hbc
                        clear hbc g0 g1 hxi hxj hy HU
                        cases y with
                        | true =>
                          have g0 := HU2.out.headAt hlt hlt
                          have g1 := HU2.out.at hlt hjl
                          have g2 := HU2.out.frozen hlt j
                          have HU3 : Hid _ := HU2.out.put hlt hjl true
                          have HS3 : Hid _ := HSD.out.add (i := i) (j := j) (c := c) HOK.out (by rw [HTN.out]; exact hin) (by rw [HTN.out]; exact hjn) ⟨hc1, hc⟩ (by rw [HXX.out.1, HXX.out.2.1]; exact HXX.out.2.2)
                          have HP3 : Hid (Pas T U (up2 U1 i j true) true fun a b d => a < i ∨ (a = i ∧ b < j) ∨ (a = i ∧ b = j ∧ d < c + 1)) := HPS.out.more (by rw [HTN.out]; exact hin) (by rw [HTN.out]; exact hjn) HX.out
                          go_wp2
                          go_roundw
                          case rel => exact ⟨true, up2 U1 i j true, c + 1, rfl, by go_num, by omega, by omega, HU3.out, HS3.out, HP3.out⟩
                          case measure => simp [intOf]; omega
                        | false =>
                          have HP3 : Hid (Pas T U U1 ag fun a b d => a < i ∨ (a = i ∧ b < j) ∨ (a = i ∧ b = j ∧ d < c + 1)) := HPS.out.mono (fun a b d _ _ _ h => by
                            by_cases e : a = i ∧ b = j ∧ d = c
                            · obtain ⟨rfl, rfl, rfl⟩ := e
                              exact .inr (fun h2 => by rw [HXX.out.1, HXX.out.2.1, HXX.out.2.2] at h2; cases h2)
                            · exact .inl (by omega))
                          go_wp2
                          go_roundw
                          case rel => exact ⟨ag, U1, c + 1, rfl, by go_num, by omega, by omega, HU2.out, HSD.out, HP3.out⟩
                          case measure => simp [intOf]; omega
                    · obtain rfl : c = 61 := by omega
                      have HP2 : Hid (Pas T U U1 ag fun a b _ => a < i ∨ (a = i ∧ b < j + 1)) := HPS.out.mono (fun a b d _ _ hd h => .inl (by omega))
                      go_wp2
                      repeat (go_quiet (fail); go_wp2)
                      go_roundw
                      case rel => exact ⟨ag, U1, j + 1, rfl, by go_num, hjl, by first | exact HU.out | exact HU.out.laid (below_drewN (Below.refl _ _) _), HSD.out, HP2.out⟩
                      case measure => simp [intOf]; omega
                · obtain rfl : N = j := by omega
                  have hjle : ¬ (N : Int) ≤ (n : Int) := by omega
                  have HP2 : Hid (Pas T U U1 ag fun a _ _ => a < i + 1) := HPS.out.mono (fun a b d ha hb _ h => .inl (by have := HTN.out; omega))
                  clear HPS
                  go_wp2
                  go_roundw
                  case rel => exact ⟨ag, U1, i + 1, rfl, by go_num, hlt, HU.out, HSD.out, HP2.out⟩
                  case measure => simp [intOf]; omega
            · obtain rfl : N = i := by omega
              have hile : ¬ (N : Int) ≤ (n : Int) := by omega
              have hps2 : Pas T U U1 ag fun _ _ _ => True := hps.mono (fun a b d ha hb _ _ => .inl (by have := HTN.out; omega))
              have HPS : Hid (Pas T U U1 ag fun _ _ _ => True) := hps2
              clear hps hps2
              cases ag with
              | false =>
                have HSH : Hid (Shut2 T U1 fun _ _ _ => True) := (HPS.out.1 rfl).2
                go_wp2
                go_roundg 0
                case measure => rw [HGK.out]; omega
                case rel => exact ⟨false, U1, rfl, HU.out, HSD.out, fun h => (by cases h), fun _ => ⟨rfl, HSH.out⟩⟩
              | true =>
                have HLT : Hid ((sq N U1).count false < (sq N U).count false) := by have h := HPS.out.2 rfl; rw [HTN.out, HNN.out] at h; exact h
                go_wp2
                go_roundg ((sq N U1).count false + 1)
                case measure => rw [HGK.out]; have := HLT.out; omega
                case rel => exact ⟨true, U1, rfl, HU.out, HSD.out, fun _ => rfl, fun h => (by cases h)⟩
end Go.Proofs.YtfjocafepigijaaDoor.Su
