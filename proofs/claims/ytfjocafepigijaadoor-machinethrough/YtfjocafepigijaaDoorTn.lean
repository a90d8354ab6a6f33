/- The document's ThroughCost: it is the least cost of the machine of pairs. Conditions: the machines are right and small, the texts short. -/
import Derived.Test.YtfjocafepigijaaDoorSkM
import Derived.Test.YtfjocafepigijaaDoorTm
import Derived.Deep.RegionHeld
import Derived.Deep.CutRange
import Derived.Deep.QuietTactic
namespace Go.Proofs.YtfjocafepigijaaDoor.Tc
open Go.RowKit Mv Wk Bw Th CR

theorem Tt.on {w wr wx : World} {ra rb : Array Value} {n k N : Nat} {B : List Nat} {ag : Bool} (h : Tt w wr ra rb n k N B ag) (hb : Below wr.heap.size wr wx) : Tt w wx ra rb n k N B ag := by
 refine ⟨h.bel.trans (hb.mono h.bel.size), (hb.block _ (lt_get h.x4)).trans h.x4, (hb.block _ (lt_get h.x5)).trans h.x5, (hb.block _ (lt_get h.x9)).trans h.x9, (hb.block _ (lt_get h.x10)).trans h.x10, ⟨h.tab.1, ?_⟩, (hb.block _ (lt_get h.x11)).trans h.x11, (hb.block _ (lt_get h.x14)).trans h.x14, h.len⟩
 rcases h.tab.2 with ⟨h1, h2⟩ | ⟨g, cap, cur, h1, h2, h3, h4⟩
 ·exact .inl ⟨h1, h2⟩
 ·exact .inr ⟨g, cap, cur, h1, h2, (hb.block _ (lt_get h3)).trans h3, h4⟩
theorem laid2 {V : World} {P : Nat} (h : V.heap[P]? = some (.cells #[.int .i64 0, .int .i64 0] 66 (0, 0))) (u v : Value) : ((V.setCell ⟨P, 0, none⟩ u).setCell ⟨P, 1, none⟩ v).heap[P]? = some (.cells #[u, v] 66 (0, 0)) := by
 have h1 := heap_setCell_same V P 0 _ 66 u h
 have h2 := heap_setCell_same _ P 1 _ 66 v h1
 simpa using h2
theorem ko2 (V : World) (P : Nat) (u v : Value) (Q : Nat) (h : Q ≠ P) : ((V.setCell ⟨P, 0, none⟩ u).setCell ⟨P, 1, none⟩ v).heap[Q]? = V.heap[Q]? := (heap_setCell_other _ _ _ _ h).trans (heap_setCell_other _ _ _ _ h)
theorem below2 {w V : World} {P n : Nat} (h : Below n w V) (hP : n ≤ P) (u v : Value) : Below n w ((V.setCell ⟨P, 0, none⟩ u).setCell ⟨P, 1, none⟩ v) := (h.setCell (p := ⟨P, 0, none⟩) hP _).setCell (p := ⟨P, 1, none⟩) hP _
theorem four_boxes (w : World) (o1 o2 o3 o4 : Obj) : ((((w.alloc o1).alloc o2).alloc o3).alloc o4).heap[w.heap.size]? = some o1 ∧ ((((w.alloc o1).alloc o2).alloc o3).alloc o4).heap[w.heap.size + 1]? = some o2 ∧ ((((w.alloc o1).alloc o2).alloc o3).alloc o4).heap[w.heap.size + 2]? = some o3 ∧ ((((w.alloc o1).alloc o2).alloc o3).alloc o4).heap[w.heap.size + 3]? = some o4 ∧ ((((w.alloc o1).alloc o2).alloc o3).alloc o4).heap.size = w.heap.size + 4 ∧ Below w.heap.size w ((((w.alloc o1).alloc o2).alloc o3).alloc o4) := by
 have b1 : Below w.heap.size w (w.alloc o1) := (Below.refl _ w).alloc (Nat.le_refl _) o1
 have s1 : (w.alloc o1).heap.size = w.heap.size + 1 := by simp
 have b2 : Below (w.alloc o1).heap.size (w.alloc o1) ((w.alloc o1).alloc o2) := (Below.refl _ _).alloc (Nat.le_refl _) o2
 have s2 : ((w.alloc o1).alloc o2).heap.size = w.heap.size + 2 := by simp
 have b3 : Below ((w.alloc o1).alloc o2).heap.size ((w.alloc o1).alloc o2) (((w.alloc o1).alloc o2).alloc o3) := (Below.refl _ _).alloc (Nat.le_refl _) o3
 have s3 : (((w.alloc o1).alloc o2).alloc o3).heap.size = w.heap.size + 3 := by simp
 have b4 : Below (((w.alloc o1).alloc o2).alloc o3).heap.size (((w.alloc o1).alloc o2).alloc o3) ((((w.alloc o1).alloc o2).alloc o3).alloc o4) := (Below.refl _ _).alloc (Nat.le_refl _) o4
 have n1 := heap_alloc_new w o1
 have n2 := heap_alloc_new (w.alloc o1) o2
 have n3 := heap_alloc_new ((w.alloc o1).alloc o2) o3
 have n4 := heap_alloc_new (((w.alloc o1).alloc o2).alloc o3) o4
 rw [s1] at n2
 rw [s2] at n3
 rw [s3] at n4
 have b24 := b2.trans ((b3.trans (b4.mono b3.size)).mono b2.size)
 have b34 := b3.trans (b4.mono b3.size)
 exact ⟨(b24.block _ (lt_get n1)).trans n1, (b34.block _ (lt_get n2)).trans n2, (b4.block _ (lt_get n3)).trans n3, n4, by simp, b1.trans (b24.mono b1.size)⟩
theorem run_mk (N : Nat) (hN : N ≤ 129600) (W : World) : (Instr.makeSlice 26 (.int .i64 (N : Int)) (.int .i64 (N : Int))).run Tryd.prog W = .ok (.slice (some ⟨W.heap.size, 0, none⟩) N N) (W.alloc (.cells (madeCells #[.int .i64 0] N) 3)) := by
 obtain ⟨i0, hi, hz0, hz1, hz2⟩ := info_parts info3
 have hr := run_make (P := Tryd.prog) W 26 3 i0 _ Tryd.underlying26 hi hz0 .i64 .i64 (N : Int) (N : Int) (by omega) (Int.le_refl _) (by rw [hz2]; omega) (by omega)
 simp only [Int.toNat_natCast, hz1, Nat.mul_one] at hr
 exact hr
/-- how all lies before the two inner functions are made -/
structure Ts (w wr : World) (ra rb : Array Value) (n k N : Nat) (B : List Nat) : Prop where
 bel : Below w.heap.size w wr
 x4 : wr.heap[w.heap.size]? = some (.cells ra 25 (0, 0))
 x5 : wr.heap[w.heap.size + 1]? = some (.cells rb 25 (0, 0))
 x9 : wr.heap[w.heap.size + 2]? = some (.cells #[.int .i64 (n : Int)] 3 (0, 0))
 x10 : wr.heap[w.heap.size + 3]? = some (.cells #[.int .i64 (k : Int)] 3 (0, 0))
 tab : wr.ownsRow (w.heap.size + 4) 3 1 (.slice (some ⟨w.heap.size + 4, 0, none⟩) N N) N (nc B)
 x11 : wr.heap[w.heap.size + 5]? = some (.cells #[.slice (some ⟨w.heap.size + 4, 0, none⟩) N N] 26 (0, 0))
 size : wr.heap.size = w.heap.size + 6
 len : B.length = N
theorem max_small {N : Nat} (h : N ≤ 129600) : N ≤ maxLen := by unfold maxLen; omega
theorem ts_first {w V : World} {ra rb : Array Value} {n k N : Nat} (hNb : N ≤ 129600) (x4 : V.heap[w.heap.size]? = some (.cells ra 25 (0, 0))) (x5 : V.heap[w.heap.size + 1]? = some (.cells rb 25 (0, 0))) (x9 : V.heap[w.heap.size + 2]? = some (.cells #[.int .i64 (n : Int)] 3 (0, 0))) (x10 : V.heap[w.heap.size + 3]? = some (.cells #[.int .i64 (k : Int)] 3 (0, 0))) (hVs : V.heap.size = w.heap.size + 4) (hVb : Below w.heap.size w V) : Ts w ((V.alloc (.cells (madeCells #[.int .i64 0] N) 3)).alloc (.cells #[.slice (some ⟨w.heap.size + 4, 0, none⟩) N N] 26)) ra rb n k N (List.replicate N 0) := by
 have hb1 : Below V.heap.size V (V.alloc (.cells (madeCells #[.int .i64 0] N) 3)) := (Below.refl _ _).alloc (Nat.le_refl _) _
 have hs1 : (V.alloc (.cells (madeCells #[.int .i64 0] N) 3)).heap.size = w.heap.size + 5 := by simp [hVs]
 have hn0 := heap_alloc_new V (.cells (madeCells #[.int .i64 0] N) 3)
 generalize V.alloc (.cells (madeCells #[.int .i64 0] N) 3) = w1 at *
 have hb2 : Below w1.heap.size w1 (w1.alloc (.cells #[.slice (some ⟨w.heap.size + 4, 0, none⟩) N N] 26)) := (Below.refl _ _).alloc (Nat.le_refl _) _
 have hb3 := hb1.trans (hb2.mono hb1.size)
 have hn := heap_alloc_new w1 (.cells #[.slice (some ⟨w.heap.size + 4, 0, none⟩) N N] 26)
 rw [hs1] at hn
 rw [hVs] at hn0
 have hown : w1.ownsRow (w.heap.size + 4) 3 1 (.slice (some ⟨w.heap.size + 4, 0, none⟩) N N) N (nc (List.replicate N 0)) := by
  refine ⟨by simp [nc], .inr ⟨w.heap.size + 4, N, _, rfl, Nat.le_refl _, hn0, Nat.le_refl _, max_small hNb, by rw [size_madeCells, Nat.mul_one], ?_⟩⟩
  rw [toList_madeCells_one]
  simp [nc]
 exact ⟨hVb.trans (hb3.mono hVb.size), (hb3.block _ (lt_get x4)).trans x4, (hb3.block _ (lt_get x5)).trans x5, (hb3.block _ (lt_get x9)).trans x9, (hb3.block _ (lt_get x10)).trans x10, hown.alloc _, hn, by simp [hs1], by simp⟩
theorem Ts.cell {w wr : World} {ra rb : Array Value} {n k N : Nat} {B : List Nat} (h : Ts w wr ra rb n k N B) {q : Nat} (hq : q < N) : wr.cell? ⟨w.heap.size + 4, q, none⟩ = some (.int .i64 (val B q : Nat)) := by
 rw [h.tab.cellAt q (by omega)]
 exact nc_at B q (by rw [h.len]; exact hq)
theorem Ts.put {w wr : World} {ra rb : Array Value} {n k N : Nat} {B : List Nat} (h : Ts w wr ra rb n k N B) (q c : Nat) (x : Int) (hx : x = (c : Nat)) : Ts w (wr.setCell ⟨w.heap.size + 4, q, none⟩ (.int .i64 x)) ra rb n k N (B.set q c) := by
 subst hx
 have hst := h.tab.stored q (.int .i64 (c : Int))
 rw [nc_set] at hst
 have hb : ∀ g, g ≠ w.heap.size + 4 → (wr.setCell ⟨w.heap.size + 4, q, none⟩ (.int .i64 (c : Int))).heap[g]? = wr.heap[g]? := fun g h1 => heap_setCell_other _ _ _ _ h1
 exact ⟨h.bel.setCell (p := ⟨w.heap.size + 4, q, none⟩) (by show w.heap.size ≤ w.heap.size + 4; omega) _, (hb _ (by omega)).trans h.x4, (hb _ (by omega)).trans h.x5, (hb _ (by omega)).trans h.x9, (hb _ (by omega)).trans h.x10, hst.1, (hb _ (by omega)).trans h.x11, by simpa using h.size, by rw [List.length_set]; exact h.len⟩
theorem Ts.done {w wr : World} {ra rb : Array Value} {n k N : Nat} {B : List Nat} (h : Ts w wr ra rb n k N B) (ag : Bool) : Tt w (wr.alloc (.cells #[.bool ag] 4)) ra rb n k N B ag := by
 have hb : Below wr.heap.size wr (wr.alloc (.cells #[.bool ag] 4)) := (Below.refl _ wr).alloc (Nat.le_refl _) _
 have hn := heap_alloc_new wr (.cells #[.bool ag] 4)
 rw [h.size] at hn
 exact ⟨h.bel.trans (hb.mono h.bel.size), (hb.block _ (lt_get h.x4)).trans h.x4, (hb.block _ (lt_get h.x5)).trans h.x5, (hb.block _ (lt_get h.x9)).trans h.x9, (hb.block _ (lt_get h.x10)).trans h.x10, h.tab.alloc _, (hb.block _ (lt_get h.x11)).trans h.x11, hn, h.len⟩
theorem Tt.unset {w wr : World} {ra rb : Array Value} {n k N : Nat} {B : List Nat} {ag : Bool} (h : Tt w wr ra rb n k N B ag) (ag' : Bool) : Tt w (wr.setCell ⟨w.heap.size + 6, 0, none⟩ (.bool ag')) ra rb n k N B ag' := by
 have hb : ∀ g, g ≠ w.heap.size + 6 → (wr.setCell ⟨w.heap.size + 6, 0, none⟩ (.bool ag')).heap[g]? = wr.heap[g]? := fun g h1 => heap_setCell_other _ _ _ _ h1
 refine ⟨h.bel.setCell (p := ⟨w.heap.size + 6, 0, none⟩) (by show w.heap.size ≤ w.heap.size + 6; omega) _, (hb _ (by omega)).trans h.x4, (hb _ (by omega)).trans h.x5, (hb _ (by omega)).trans h.x9, (hb _ (by omega)).trans h.x10, ownsRow_setCell_other h.tab (fun e => by simp only [Value.ownBlock, Option.some.injEq] at e; omega) _, (hb _ (by omega)).trans h.x11, ?_, h.len⟩
 have := heap_setCell_same _ (w.heap.size + 6) 0 _ 4 (.bool ag') h.x14
 simpa using this
/-- the table as it begins -/
theorem first_invP (m : M) (inn out : List Int) (S : Nat) (hS : 0 < S) : InvP m inn out true S (first (S * (inn.length + 1) * cols out true)) := by
 have h := first_inv m inn out true S hS
 refine ⟨h.len, h.top, h.zero, h.real, fun q hq => ?_⟩
 have := h.small q hq
 omega
theorem wraps {SA SB n k : Nat} (hA : SA ≤ 40) (hB : SB ≤ 40) (hn : n ≤ 9) (hk : k ≤ 9) : ∃ P1 P2 N : Nat, wrap64 ((SA : Int) * (SB : Int)) = (P1 : Int) ∧ wrap64 ((P1 : Int) * (n : Int)) = (P2 : Int) ∧ wrap64 ((P2 : Int) * (k : Int)) = (N : Int) ∧ N = SA * SB * n * k ∧ N ≤ 129600 := by
 have m1 : SA * SB ≤ 1600 := Nat.le_trans (Nat.mul_le_mul hA hB) (by decide)
 have m2 : SA * SB * n ≤ 14400 := Nat.le_trans (Nat.mul_le_mul m1 hn) (by decide)
 have m3 : SA * SB * n * k ≤ 129600 := Nat.le_trans (Nat.mul_le_mul m2 hk) (by decide)
 refine ⟨SA * SB, SA * SB * n, SA * SB * n * k, ?_, ?_, ?_, rfl, m3⟩
 ·exact wrap_nat (by simp) (by omega)
 ·exact wrap_nat (by simp) (by omega)
 ·exact wrap_nat (by simp) (by omega)
theorem fix_of {a b : M} {SA SB : Nat} {inn out : List Int} {B0 B : List Nat} (h : Pas inn out B0 false B fun e i j => DI (prA a b SA SB) (out.length + 1) e i j (inn.length + 1)) : Fix (prA a b SA SB) inn out B :=
 fun _ hx i j hi hj => (h.1 rfl).2 _ i j ⟨hi, hj, List.getElem_mem hx⟩
def FinRow (w : World) (ab : Option Addr) (l : List (Int × Int)) : Prop := l.length = 0 ∨ ∃ bb off, ab = some ⟨bb, off, none⟩ ∧ bb < w.heap.size ∧ ∀ j u, (fcs l)[j]? = some u → w.cell? ⟨bb, off + j, none⟩ = some u
/-- the least end among those that were looked at -/
structure LstM (pre all : List (Int × Int)) (inn out : List Int) (B : List Nat) (v : Nat) : Prop where
 top : v ≤ dear
 low : ∀ f ∈ pre, ∀ s : Nat, f.1 = (s : Int) → val B (idx (inn.length + 1) (out.length + 1) s inn.length out.length) < dear → (v : Int) ≤ val B (idx (inn.length + 1) (out.length + 1) s inn.length out.length) + f.2
 real : v < dear → ∃ f ∈ all, ∃ s : Nat, f.1 = (s : Int) ∧ val B (idx (inn.length + 1) (out.length + 1) s inn.length out.length) < dear ∧ (v : Int) = val B (idx (inn.length + 1) (out.length + 1) s inn.length out.length) + f.2
theorem LstM.start (all : List (Int × Int)) (inn out : List Int) (B : List Nat) : LstM [] all inn out B dear := ⟨Nat.le_refl _, fun _ h => (by cases h), fun h => absurd h (Nat.lt_irrefl _)⟩
theorem LstM.mono {pre pre' all : List (Int × Int)} {inn out : List Int} {B : List Nat} {v : Nat} (h : LstM pre all inn out B v) (hp : ∀ f ∈ pre', f ∈ pre) : LstM pre' all inn out B v := ⟨h.top, fun f hf => h.low f (hp f hf), h.real⟩
theorem LstM.keep {pre pre' all : List (Int × Int)} {inn out : List Int} {B : List Nat} {v s x : Nat} (h : LstM pre all inn out B v) (hp : ∀ f ∈ pre', f ∈ pre ∨ f = ((s : Int), (x : Int))) (hk : val B (idx (inn.length + 1) (out.length + 1) s inn.length out.length) < dear → v ≤ val B (idx (inn.length + 1) (out.length + 1) s inn.length out.length) + x) : LstM pre' all inn out B v :=
 ⟨h.top, fun f hf s' e hd => (hp f hf).elim (fun h' => h.low f h' s' e hd) (fun h' => by subst h'; dsimp only at e ⊢; obtain rfl : s = s' := (by omega); have := hk hd; omega), h.real⟩
theorem LstM.took {pre pre' all : List (Int × Int)} {inn out : List Int} {B : List Nat} {v s x p : Nat} (h : LstM pre all inn out B v) (hp : ∀ f ∈ pre', f ∈ pre ∨ f = ((s : Int), (x : Int))) (hm : ((s : Int), (x : Int)) ∈ all) (hpv : val B (idx (inn.length + 1) (out.length + 1) s inn.length out.length) = p) (hd : p < dear) (hlt : p + x < v) : LstM pre' all inn out B (p + x) :=
 ⟨by have := h.top; omega, fun f hf s' e hd' => (hp f hf).elim (fun h' => by have := h.low f h' s' e hd'; omega) (fun h' => by subst h'; dsimp only at e ⊢; obtain rfl : s = s' := (by omega); rw [hpv]; omega), fun _ => ⟨_, hm, s, rfl, by rw [hpv]; exact hd, by rw [hpv]; dsimp only; omega⟩⟩
theorem LstM.lst {l : List (Int × Int)} {inn out : List Int} {B : List Nat} {v : Nat} (h : LstM l l inn out B v) : Lst l inn out B l.length v := by
 refine ⟨h.top, fun y hy _ f e hd => h.low _ (List.getElem_mem hy) f e hd, fun hd => ?_⟩
 obtain ⟨f, hf, s, h1, h2, h3⟩ := h.real hd
 obtain ⟨y, hy, rfl⟩ := List.getElem_of_mem hf
 exact ⟨y, hy, s, h1, h2, h3⟩
theorem pre_up {α β : Type} (l : List α) (g : α → β) (n : Nat) (h : n < l.length) (e : β) : e ∈ (l.take (n + 1)).map g ↔ e ∈ (l.take n).map g ∨ e = g l[n] := by
 rw [List.take_succ_eq_append_getElem h, List.map_append, List.mem_append]
 simp
theorem pair_nat (s t SB : Nat) : ((s : Int) * (SB : Int) + (t : Int)) = ((s * SB + t : Nat) : Int) := by simp
theorem wrap_pq {p x y : Nat} (hp : p < dear) (hx : x + y ≤ 2000000) : ∃ zz z : Nat, z = p + (x + y) ∧ wrap64 ((p : Int) + (x : Int)) = (zz : Int) ∧ wrap64 ((zz : Int) + (y : Int)) = (z : Int) := by
 refine ⟨p + x, p + (x + y), rfl, ?_, ?_⟩ <;> (unfold dear at hp; unfold wrap64; omega)
/-- what the ends know -/
structure EnvF (SA SB : Nat) (a b : M) : Prop where
 hlA : a.fins.length ≤ 40
 hlB : b.fins.length ≤ 40
 finA : ∀ y (h : y < a.fins.length), ∃ s x : Nat, a.fins[y] = ((s : Int), (x : Int)) ∧ s < SA ∧ x ≤ 1000000
 finB : ∀ y (h : y < b.fins.length), ∃ s x : Nat, b.fins[y] = ((s : Int), (x : Int)) ∧ s < SB ∧ x ≤ 1000000
theorem right_pr {SA SB N : Nat} {a b : M} {inn out : List Int} {ai ao : Option Addr} {w : World} (h : EnvI SA SB N a b inn out ai ao w) (h0 : 0 < SA * SB) : RightP ⟨((SA * SB : Nat) : Int), prA a b SA SB, prF a b SB⟩ (SA * SB) := by
 have hA : ∀ x ∈ a.arcs, ∃ t t2 yw : Nat, ∃ I O : Int, x = ((t : Int), (t2 : Int), I, O, (yw : Int)) ∧ t < SA ∧ t2 < SA ∧ yw ≤ 1000000 := fun x hx => by
  obtain ⟨y, hy, rfl⟩ := List.getElem_of_mem hx
  obtain ⟨t, t2, yw, I, O, h1, h2, h3, h4, _⟩ := h.arcA y hy
  exact ⟨t, t2, yw, I, O, h1, h2, h3, h4⟩
 have hB : ∀ x ∈ b.arcs, ∃ t t2 yw : Nat, ∃ I O : Int, x = ((t : Int), (t2 : Int), I, O, (yw : Int)) ∧ t < SB ∧ t2 < SB ∧ yw ≤ 1000000 := fun x hx => by
  obtain ⟨y, hy, rfl⟩ := List.getElem_of_mem hx
  obtain ⟨t, t2, yw, I, O, h1, h2, h3, h4, _⟩ := h.arcB y hy
  exact ⟨t, t2, yw, I, O, h1, h2, h3, h4⟩
 have key : ∀ e ∈ prA a b SA SB, ∃ p q z : Nat, e.1 = (p : Int) ∧ e.2.1 = (q : Int) ∧ e.2.2.2.2 = (z : Int) ∧ p < SA * SB ∧ q < SA * SB ∧ z ≤ 2000000 := by
  intro e he
  rcases List.mem_append.1 he with he | he
  ·obtain ⟨x, hx, he⟩ := List.mem_flatMap.1 he
   obtain ⟨s, s2, xw, I, O, rfl, h1, h2, h3⟩ := hA x hx
   unfold jx at he
   split at he
   ·obtain ⟨t, ht, rfl⟩ := List.mem_map.1 he
    have ht := List.mem_range.1 ht
    exact ⟨s * SB + t, s2 * SB + t, xw, pair_nat _ _ _, pair_nat _ _ _, rfl, pair_lt h1 ht, pair_lt h2 ht, by omega⟩
   ·obtain ⟨y, hy, he⟩ := List.mem_flatMap.1 he
    obtain ⟨t, t2, yw, I', O', rfl, k1, k2, k3⟩ := hB y hy
    unfold jy at he
    split at he
    ·rw [List.mem_singleton] at he
     subst he
     exact ⟨s * SB + t, s2 * SB + t2, xw + yw, pair_nat _ _ _, pair_nat _ _ _, by simp [eX], pair_lt h1 k1, pair_lt h2 k2, by omega⟩
    ·cases he
  ·obtain ⟨y, hy, he⟩ := List.mem_flatMap.1 he
   obtain ⟨t, t2, yw, I', O', rfl, k1, k2, k3⟩ := hB y hy
   unfold jb at he
   split at he
   ·obtain ⟨s, hs, rfl⟩ := List.mem_map.1 he
    have hs := List.mem_range.1 hs
    exact ⟨s * SB + t, s * SB + t2, yw, pair_nat _ _ _, pair_nat _ _ _, rfl, pair_lt hs k1, pair_lt hs k2, by omega⟩
   ·cases he
 refine ⟨rfl, h0, fun x hx => ?_⟩
 obtain ⟨p, q, z, e1, e2, e3, h1, h2, h3⟩ := key _ (List.getElem_mem hx)
 unfold arcP
 rw [decide_eq_true_eq]
 dsimp only at e1 e2 e3 ⊢
 omega
theorem fins_pr {SA SB : Nat} {a b : M} (h : EnvF SA SB a b) : ∀ x (hx : x < (prF a b SB).length), finQ ((SA * SB : Nat) : Int) (prF a b SB)[x] = true := by
 intro x hx
 have hm := List.getElem_mem hx
 obtain ⟨f, hf, hm⟩ := List.mem_flatMap.1 hm
 obtain ⟨g, hg, e⟩ := List.mem_map.1 hm
 obtain ⟨i, hi, rfl⟩ := List.getElem_of_mem hf
 obtain ⟨j, hj, rfl⟩ := List.getElem_of_mem hg
 obtain ⟨s, x1, e1, h1, h2⟩ := h.finA i hi
 obtain ⟨t, x2, e2, k1, k2⟩ := h.finB j hj
 rw [e1, e2] at e
 rw [← e]
 have := pair_lt h1 k1
 have e3 := pair_nat s t SB
 unfold finQ
 rw [decide_eq_true_eq]
 dsimp only
 rw [e3]
 omega
set_option maxHeartbeats 8000000 in
set_option maxRecDepth 1000000 in
theorem thcost_any (SA SB : Nat) (a b : M) (inn out : List Int) (aa ab af bf ai ao : Option Addr) (ca cb cf df ci co : Nat) (w : World) (hA0 : 0 < SA) (hB0 : 0 < SB)
  (HE : Hid (EnvI SA SB (SA * SB * (inn.length + 1) * (out.length + 1)) a b inn out ai ao w)) (HRA : Hid (ArcRow w aa a.arcs)) (HRB : Hid (ArcRow w ab b.arcs)) (HEF : Hid (EnvF SA SB a b)) (HFA : Hid (FinRow w af a.fins)) (HFB : Hid (FinRow w bf b.fins)) :
  Calls Tryd.prog 16 #[.agg #[.int .i64 (SA : Int), .slice aa a.arcs.length ca, .slice af a.fins.length cf], .agg #[.int .i64 (SB : Int), .slice ab b.arcs.length cb, .slice bf b.fins.length df], .slice ai inn.length ci, .slice ao out.length co] w fun e w' => ∃ v : Nat, e = .returned (.int .i64 (v : Int)) ∧ IsCost (prM a b SA SB) inn out true v ∧ Below w.heap.size w w' := by
 obtain ⟨i3, hi3, hz30, hz31, hz32⟩ := info_parts info3
 have hn8 : inn.length ≤ 8 := HE.out.hn
 have hk8 : out.length ≤ 8 := HE.out.hk
 go_enter Tryd.func16, Tryd.ntmps16
 go_upto_region 2 with fail
 obtain ⟨P1, P2, N, m1, m2, m3, eN, hNb⟩ := wraps HE.out.hA HE.out.hB (show inn.length + 1 ≤ 9 by omega) (show out.length + 1 ≤ 9 by omega)
 rw [← eN] at HE
 have HN : Hid (N = SA * SB * (inn.length + 1) * (out.length + 1)) := eN
 have hN0 : 0 < N := by rw [eN]; exact Nat.mul_pos (Nat.mul_pos (Nat.mul_pos hA0 hB0) (by omega)) (by omega)
 have HS0 : Hid (0 < SA * SB) := Nat.mul_pos hA0 hB0
 clear eN hA0 hB0
 have e1 : (inn.length : Int) + 1 = ((inn.length + 1 : Nat) : Int) := by simp
 have e2 : (out.length : Int) + 1 = ((out.length + 1 : Nat) : Int) := by simp
 rw [e1, e2]
 simp only [Nat.add_assoc, Nat.reduceAdd]
 have m2 : wrap64 ((P1 : Int) * ((inn.length : Int) + 1)) = (P2 : Int) := by rw [e1]; exact m2
 have m3 : wrap64 ((P2 : Int) * ((out.length : Int) + 1)) = (N : Int) := by rw [e2]; exact m3
 clear e1 e2
 have hfb := four_boxes w (.cells #[.int .i64 (SA : Int), .slice aa a.arcs.length ca, .slice af a.fins.length cf] 25) (.cells #[.int .i64 (SB : Int), .slice ab b.arcs.length cb, .slice bf b.fins.length df] 25) (.cells #[.int .i64 ((inn.length + 1 : Nat) : Int)] 3) (.cells #[.int .i64 ((out.length + 1 : Nat) : Int)] 3)
 generalize hV : (((w.alloc (.cells #[.int .i64 (SA : Int), .slice aa a.arcs.length ca, .slice af a.fins.length cf] 25)).alloc (.cells #[.int .i64 (SB : Int), .slice ab b.arcs.length cb, .slice bf b.fins.length df] 25)).alloc (.cells #[.int .i64 ((inn.length + 1 : Nat) : Int)] 3)).alloc (.cells #[.int .i64 ((out.length + 1 : Nat) : Int)] 3) = V at *
 clear hV
 obtain ⟨x4, x5, x9, x10, hVs, hVb⟩ := hfb
 have u4 := cell_of_row _ _ 0 _ _ _ x4
 have u5 := cell_of_row _ _ 0 _ _ _ x5
 have u9 := cell_of_row _ _ 0 _ _ _ x9
 have u10 := cell_of_row _ _ 0 _ _ _ x10
 have HVS : Hid (V.heap.size = w.heap.size + 4) := hVs
 clear hVs
 have hmk := run_mk N hNb V
 go_upto_region 3 with fail
 have hs0 := ts_first hNb x4 x5 x9 x10 HVS.out hVb
 rw [HVS.out]
 simp only [Nat.add_assoc, Nat.reduceAdd]
 generalize hV2 : (V.alloc (.cells (madeCells #[.int .i64 0] N) 3)).alloc (.cells #[.slice (some ⟨w.heap.size + 4, 0, none⟩) N N] 26) = V2 at *
 clear hV2 hmk u4 u5 u9 u10 x4 x5 x9 x10 hVb m1 m2 m3
 go_wp2
 go_loopw [12] (fun tv wr => ∃ (q : Nat) (B : List Nat), tv = .int .i64 (q : Int) ∧ q ≤ N ∧ Ts w wr #[.int .i64 (SA : Int), .slice aa a.arcs.length ca, .slice af a.fins.length cf] #[.int .i64 (SB : Int), .slice ab b.arcs.length cb, .slice bf b.fins.length df] (inn.length + 1) (out.length + 1) N B ∧ ∀ r, r < q → val B r = dear) (fun tv _ => N - (intOf tv).toNat)
 case atStart => exact ⟨0, _, rfl, Nat.zero_le _, hs0, fun r h => absurd h (Nat.not_lt_zero _)⟩
 case round =>
  clear hs0
  obtain ⟨q, B, rfl, hq, hst, hfill⟩ := hrel
  have HST : Hid (Ts w wr #[.int .i64 (SA : Int), .slice aa a.arcs.length ca, .slice af a.fins.length cf] #[.int .i64 (SB : Int), .slice ab b.arcs.length cb, .slice bf b.fins.length df] (inn.length + 1) (out.length + 1) N B) := hst
  have HF : Hid (∀ r, r < q → val B r = dear) := hfill
  have u11 := cell_of_row _ _ 0 _ _ _ hst.x11
  clear hst hfill
  by_cases hlt : q < N
  ·have hlt' : (q : Int) < (N : Int) := by omega
   have c1 := HST.out.cell hlt
   have f1 := HST.out.tab.frozenAt q
   go_wp2
   go_roundw
   case rel =>
    refine ⟨q + 1, B.set q dear, by go_num, hlt, HST.out.put q dear 1152921504606846976 dear_int, fun r hr => ?_⟩
    rw [val_set B q _ r (by rw [HST.out.len]; exact hlt)]
    split
    ·rfl
    ·exact HF.out r (by omega)
   case measure => simp [intOf]; omega
  ·have hlt' : ¬ (q : Int) < (N : Int) := by omega
   have hB : B = List.replicate N dear := all_dear HST.out.len (fun r hr => HF.out r (by omega))
   subst hB
   have c1 := HST.out.cell hN0
   have f1 := HST.out.tab.frozenAt 0
   have hN0' : (0 : Int) < (N : Int) := by omega
   go_upto_region 8 with fail
   have HS2 : Hid (Ts w (wr.setCell ⟨w.heap.size + 4, 0, none⟩ (.int .i64 0)) #[.int .i64 (SA : Int), .slice aa a.arcs.length ca, .slice af a.fins.length cf] #[.int .i64 (SB : Int), .slice ab b.arcs.length cb, .slice bf b.fins.length df] (inn.length + 1) (out.length + 1) N (first N)) := HST.out.put 0 0 0 rfl
   clear c1 f1 u11 HST HF
   generalize hV3 : wr.setCell ⟨w.heap.size + 4, 0, none⟩ (.int .i64 0) = V3 at *
   clear hV3
   have hz3 : V3.heap.size = w.heap.size + 6 := HS2.out.size
   have HT3 : Hid (Tt w (V3.alloc (.cells #[.bool false] 4)) #[.int .i64 (SA : Int), .slice aa a.arcs.length ca, .slice af a.fins.length cf] #[.int .i64 (SB : Int), .slice ab b.arcs.length cb, .slice bf b.fins.length df] (inn.length + 1) (out.length + 1) N (first N) false) := HS2.out.done false
   have HV3 : Hid (InvP (prM a b SA SB) inn out true (SA * SB) (first N)) := by
    show InvP _ _ _ _ _ _
    rw [HN.out]
    exact first_invP _ _ _ _ HS0.out
   go_upto_region 11 with fail
   clear hz3 HS2
   generalize hV4 : V3.alloc (.cells #[.bool false] 4) = V4 at *
   clear hV4
   go_wp2
   go_loopg [16] ((first N).sum + 1) (fun gk av wr => ∃ (g ag : Bool) (B : List Nat), av = .bool g ∧ Tt w wr #[.int .i64 (SA : Int), .slice aa a.arcs.length ca, .slice af a.fins.length cf] #[.int .i64 (SB : Int), .slice ab b.arcs.length cb, .slice bf b.fins.length df] (inn.length + 1) (out.length + 1) N B ag ∧ InvP (prM a b SA SB) inn out true (SA * SB) B ∧ (g = true → gk = B.sum + 1) ∧ (g = false → gk = 0 ∧ Fix (prA a b SA SB) inn out B))
   case atStart => exact ⟨true, false, first N, rfl, HT3.out, HV3.out, (fun _ => rfl), (fun h => by cases h)⟩
   case round =>
    clear HT3 HV3
    obtain ⟨g, ag, B0, rfl, htt, hinv, hk1, hk2⟩ := hrel
    cases g with
    | true =>
     have HGK : Hid (gk = B0.sum + 1) := hk1 rfl
     have HT0 : Hid (Tt w (wr.setCell ⟨w.heap.size + 6, 0, none⟩ (.bool false)) #[.int .i64 (SA : Int), .slice aa a.arcs.length ca, .slice af a.fins.length cf] #[.int .i64 (SB : Int), .slice ab b.arcs.length cb, .slice bf b.fins.length df] (inn.length + 1) (out.length + 1) N B0 false) := htt.unset false
     have HV0 : Hid (InvP (prM a b SA SB) inn out true (SA * SB) B0) := hinv
     have HP0 : Hid (Pas inn out B0 false B0 fun _ _ _ => False) := Pas.start _ _ _
     have c14 := cell_of_row _ _ 0 _ _ _ htt.x14
     have f14 := frozen_of_row _ _ 0 _ 4 htt.x14
     clear htt hinv hk1 hk2
     go_wp2
     refine loopII SA SB N a b inn out ai ao ci co #[.int .i64 (SA : Int), .slice aa a.arcs.length ca, .slice af a.fins.length cf] #[.int .i64 (SB : Int), .slice ab b.arcs.length cb, .slice bf b.fins.length df] w (wr.setCell ⟨w.heap.size + 6, 0, none⟩ (.bool false)) B0 B0 false aa ab ca cb _ _ _ _ _ _ _ _ _ _ _ _ _ _ _ _ _ _ _ _ _ _ _ _ _ _ _ _ _ _ _ _ _ _ _ _ _ _ _ _ _ _ _ _ _ _ _ _ _ _ _ _ _ _ _ _ _ _ _ _ _ _ _ _ _ _ _ _ _ _ _ _ _ _ _ _ _ _ _ _ _ _ _ _ _ _ _ _ _ _ _ _ _ _ _ _ _ _ _ _ _ _ _ _ _ _ _ _ _ _ _ _ _ _ _ _ _ _ _ _ _ _ _ _ _ _ _ _ _ _ _ _ _ _ _ _ _ _ _ _ _ _ _ _ _ _ _ _ _ _ _ _ _ _ _ _ _ _ _ _ _ _ _ _ _ _ _ _ _ _ _ _ _ _ _ _ _ _ _ _ _ _ _ _ _ _ _ _ _ _ _ _ _ _ _ _ _ _ _ _ _ _ _ _ _ _ _ _ _ _ _ _ _ _ _ _ _ _ _ _ _ _ _ _ _ _ _ _ _ _ _ _ _ _ _ _ _ _ _ _ _ _ _ _ _ _ _ _ _ _ _ _ _ _ _ _ _ _ _ _ _ _ _ _ _ _ _ _ _ _ _ _ _ _ _ _ _ _ _ _ _ _ _ _ _ _ _ _ _ _ _ _ _ _ _ _ _ _ _ _ _ _ _ _ _ _ _ _ _ _ _ _ _ _ _ _ _ _ _ _ _ _ _ HE rfl rfl rfl rfl HRA HRB HT0.out HV0 HP0 _ ?_
     dsimp only
     intro B ag wr3 v18 v19 v20 v21 v22 v23 v24 v25 v26 v27 v28 v29 v30 v31 v32 v70 v71 v72 v73 v74 v75 v76 v77 v78 v79 v80 v81 v82 v83 v84 v85 v86 v87 v88 v89 v90 v91 v92 v93 v94 v95 v96 v97 v98 v99 v100 v101 v102 v103 v104 v105 v106 v107 v108 v109 v110 v111 v112 v113 v114 v115 v116 v117 v118 v119 v120 v121 v122 v123 v124 v125 v126 v127 v128 v129 v130 v131 v132 v133 v134 v135 v136 v137 v138 v139 v140 v141 v142 v143 v144 v145 v146 v147 v148 v149 v150 v151 v152 v153 v154 v155 v156 v157 v158 v159 v160 v161 v162 v163 v164 v165 v166 v167 v168 v169 v170 v171 v172 v173 v174 v175 v176 v177 v178 v179 v180 v181 v182 v183 v184 v185 v186 v187 v188 v189 v190 v191 v192 v193 v194 v195 v196 v197 v198 v199 v200 v201 v202 v203 v204 v205 v206 v207 v208 v209 v210 v211 v212 v213 v214 v215 v216 v217 v218 v219 v220 v221 v222 v223 v224 v225 v226 v227 v228 v229 v230 v231 v232 v233 v234 v235 v236 v237 v238 v239 v240 v241 v242 v243 v244 v245 v246 v247 v248 v249 v250 v251 v252 v253 v254 v255 v256 v257 v258 v259 v260 v261 v262 v263 v264 v265 v266 v267 v268 v269 v270 v271 v272 v273 v274 v275 htt3 hinv3 hpas3
     have HT3 : Hid (Tt w wr3 #[.int .i64 (SA : Int), .slice aa a.arcs.length ca, .slice af a.fins.length cf] #[.int .i64 (SB : Int), .slice ab b.arcs.length cb, .slice bf b.fins.length df] (inn.length + 1) (out.length + 1) N B ag) := htt3
     have HV3 : Hid (InvP (prM a b SA SB) inn out true (SA * SB) B) := hinv3
     have u14 := cell_of_row _ _ 0 _ _ _ htt3.x14
     clear htt3 hinv3 c14 f14 HT0 HV0 HP0
     cases ag with
     | true =>
      have HX : Hid (B.sum < B0.sum) := hpas3.2 rfl
      clear hpas3
      go_wp2
      go_roundg (B.sum + 1)
      case measure => rw [HGK.out]; have := HX.out; omega
      case rel => exact ⟨true, true, B, rfl, HT3.out, HV3.out, (fun _ => rfl), (fun h => by cases h)⟩
     | false =>
      have HX : Hid (Fix (prA a b SA SB) inn out B) := fix_of hpas3
      clear hpas3
      go_wp2
      go_roundg 0
      case measure => rw [HGK.out]; omega
      case rel => exact ⟨false, false, B, rfl, HT3.out, HV3.out, (fun h => by cases h), (fun _ => ⟨rfl, HX.out⟩)⟩
    | false =>
     have HX : Hid (Fix (prA a b SA SB) inn out B0) := (hk2 rfl).2
     have HV : Hid (InvP (prM a b SA SB) inn out true (SA * SB) B0) := hinv
     have HT : Hid (Tt w wr #[.int .i64 (SA : Int), .slice aa a.arcs.length ca, .slice af a.fins.length cf] #[.int .i64 (SB : Int), .slice ab b.arcs.length cb, .slice bf b.fins.length df] (inn.length + 1) (out.length + 1) N B0 ag) := htt
     clear hk1 hk2 hinv htt
     go_wp2
     go_loopw [33, 34] (fun lv xv wr => ∃ l x1 : Nat, lv = .int .i64 (l : Int) ∧ xv = .int .i64 (x1 : Int) ∧ x1 ≤ a.fins.length ∧ Tt w wr #[.int .i64 (SA : Int), .slice aa a.arcs.length ca, .slice af a.fins.length cf] #[.int .i64 (SB : Int), .slice ab b.arcs.length cb, .slice bf b.fins.length df] (inn.length + 1) (out.length + 1) N B0 ag ∧ LstM ((a.fins.take x1).flatMap (fun f : Int × Int => b.fins.map fun g : Int × Int => (f.1 * (SB : Int) + g.1, f.2 + g.2))) (prF a b SB) inn out B0 l) (fun _ xv _ => a.fins.length - (intOf xv).toNat)
     case atStart => exact ⟨dear, 0, by rw [← dear_int], rfl, Nat.zero_le _, HT.out, LstM.start _ _ _ _⟩
     case round =>
      clear HT
      obtain ⟨l, x1, rfl, rfl, hxl0, htt, hl⟩ := hrel
      have HT : Hid (Tt w wr #[.int .i64 (SA : Int), .slice aa a.arcs.length ca, .slice af a.fins.length cf] #[.int .i64 (SB : Int), .slice ab b.arcs.length cb, .slice bf b.fins.length df] (inn.length + 1) (out.length + 1) N B0 ag) := htt
      have HL : Hid (LstM ((a.fins.take x1).flatMap (fun f : Int × Int => b.fins.map fun g : Int × Int => (f.1 * (SB : Int) + g.1, f.2 + g.2))) (prF a b SB) inn out B0 l) := hl
      have u42 := cell_of_row _ _ 2 _ _ _ htt.x4
      have hl40 : a.fins.length ≤ 40 := HEF.out.hlA
      have hm40 : b.fins.length ≤ 40 := HEF.out.hlB
      clear htt hl
      by_cases hxl : x1 < a.fins.length
      ·have hxl' : (x1 : Int) < (a.fins.length : Int) := by omega
       obtain ⟨fb, fo, hfb, hfl, hfc⟩ := HFA.out.resolve_left (by omega)
       obtain ⟨s, x, hsx, hsA, hxb⟩ := HEF.out.finA x1 hxl
       have HSX : Hid (a.fins[x1] = ((s : Int), (x : Int))) := hsx
       have HSB : Hid (s < SA ∧ x ≤ 1000000) := ⟨hsA, hxb⟩
       have fat := fcs_at a.fins x1 hxl
       rw [hsx] at fat
       have HF0 : Hid (∀ j u, (fcs a.fins)[j]? = some u → w.cell? ⟨fb, fo + j, none⟩ = some u) := hfc
       have q0 := hfc _ _ fat.1
       have q1 := hfc _ _ fat.2
       have HQ : Hid (w.cell? ⟨fb, fo + x1 * 2, none⟩ = some (.int .i64 (s : Int)) ∧ w.cell? ⟨fb, fo + x1 * 2 + 1, none⟩ = some (.int .i64 (x : Int))) := ⟨q0, by rw [Nat.add_assoc]; exact q1⟩
       clear hsx hsA hxb fat hfc q0 q1 HF0
       subst hfb
       obtain ⟨wx, hwx⟩ : ∃ wx : World, wr = wx := ⟨_, rfl⟩
       rw [hwx] at u42 HT ⊢
       clear hwx
       go_wp2
       go_loopw [33, 35] (fun lv yv wr => ∃ l y1 : Nat, lv = .int .i64 (l : Int) ∧ yv = .int .i64 (y1 : Int) ∧ y1 ≤ b.fins.length ∧ Tt w wr #[.int .i64 (SA : Int), .slice aa a.arcs.length ca, .slice (some ⟨fb, fo, none⟩) a.fins.length cf] #[.int .i64 (SB : Int), .slice ab b.arcs.length cb, .slice bf b.fins.length df] (inn.length + 1) (out.length + 1) N B0 ag ∧ LstM ((a.fins.take x1).flatMap (fun f : Int × Int => b.fins.map fun g : Int × Int => (f.1 * (SB : Int) + g.1, f.2 + g.2)) ++ (b.fins.take y1).map (fun g : Int × Int => ((s : Int) * (SB : Int) + g.1, (x : Int) + g.2))) (prF a b SB) inn out B0 l) (fun _ yv _ => b.fins.length - (intOf yv).toNat)
       case atStart => exact ⟨l, 0, rfl, rfl, Nat.zero_le _, HT.out, HL.out.mono fun f hf => by simpa using hf⟩
       case round =>
        clear HT HL
        obtain ⟨l, y1, rfl, rfl, hyl0, htt, hl⟩ := hrel
        have HT : Hid (Tt w wr #[.int .i64 (SA : Int), .slice aa a.arcs.length ca, .slice (some ⟨fb, fo, none⟩) a.fins.length cf] #[.int .i64 (SB : Int), .slice ab b.arcs.length cb, .slice bf b.fins.length df] (inn.length + 1) (out.length + 1) N B0 ag) := htt
        have HL : Hid (LstM ((a.fins.take x1).flatMap (fun f : Int × Int => b.fins.map fun g : Int × Int => (f.1 * (SB : Int) + g.1, f.2 + g.2)) ++ (b.fins.take y1).map (fun g : Int × Int => ((s : Int) * (SB : Int) + g.1, (x : Int) + g.2))) (prF a b SB) inn out B0 l) := hl
        have u42 := cell_of_row _ _ 2 _ _ _ htt.x4
        have u52 := cell_of_row _ _ 2 _ _ _ htt.x5
        clear htt hl
        by_cases hyl : y1 < b.fins.length
        ·have hyl' : (y1 : Int) < (b.fins.length : Int) := by omega
         obtain ⟨gb, go, rfl, hgl, hgc⟩ := HFB.out.resolve_left (by omega)
         obtain ⟨t, y, hty, htB, hyb⟩ := HEF.out.finB y1 hyl
         have gat := fcs_at b.fins y1 hyl
         rw [hty] at gat
         have p0 := (HT.out.old (q := fo + x1 * 2) hfl).trans HQ.out.1
         have p1 := (HT.out.old (q := fo + x1 * 2 + 1) hfl).trans HQ.out.2
         have p2 := (HT.out.old (q := go + y1 * 2) hgl).trans (hgc _ _ gat.1)
         have p3 := (HT.out.old (q := go + (y1 * 2 + 1)) hgl).trans (hgc _ _ gat.2)
         rw [← Nat.add_assoc] at p3
         have HTY : Hid (b.fins[y1] = ((t : Int), (y : Int)) ∧ t < SB ∧ y ≤ 1000000) := ⟨hty, htB, hyb⟩
         clear hty htB hyb gat hgc
         go_upto_region 70 with fail
         have k4 : w.heap.size < wr.heap.size := lt_get HT.out.x4
         have k5 : w.heap.size + 1 < wr.heap.size := lt_get HT.out.x5
         have kf : fb < wr.heap.size := by omega
         have kg : gb < wr.heap.size := by omega
         go_cut [36, 37] from 290 to 299 (fun p q wx => ∃ bP bQ, p = .pointer (some ⟨bP, 0, none⟩) ∧ q = .pointer (some ⟨bQ, 0, none⟩) ∧ Tt w wx #[.int .i64 (SA : Int), .slice aa a.arcs.length ca, .slice (some ⟨fb, fo, none⟩) a.fins.length cf] #[.int .i64 (SB : Int), .slice ab b.arcs.length cb, .slice (some ⟨gb, go, none⟩) b.fins.length df] (inn.length + 1) (out.length + 1) N B0 ag ∧ wx.heap[bP]? = some (.cells #[.int .i64 (s : Int), .int .i64 (x : Int)] 66 (0, 0)) ∧ wx.heap[bQ]? = some (.cells #[.int .i64 (t : Int), .int .i64 (y : Int)] 66 (0, 0)))
         case first =>
          refine wp_region_noPanic ?_
          have HCE : Hid _ := fun (W : World) (hSw : Below wr.heap.size wr W) => (And.intro ((hSw.cell (p := ⟨w.heap.size, 2, none⟩) k4).trans u42) (And.intro ((hSw.cell (p := ⟨w.heap.size + 1, 2, none⟩) k5).trans u52) (And.intro ((hSw.cell (p := ⟨fb, _, none⟩) kf).trans p0) (And.intro ((hSw.cell (p := ⟨fb, _, none⟩) kf).trans p1) (And.intro ((hSw.cell (p := ⟨gb, _, none⟩) kg).trans p2) ((hSw.cell (p := ⟨gb, _, none⟩) kg).trans p3))))))
          refine wp_region_held_drew (S := fun W => Below wr.heap.size wr W) (by kernel_rfl) (by exact below_drewN (Below.refl _ _) 1) (fun hHeld => ?_)
          have hS0 := hHeld
          have hz0 : wr.heap.size ≤ wr.drew.heap.size := hS0.size
          generalize hV : wr.drew = V0 at *
          clear hV
          refine tk (v := ?_) 0 { dst := some 290, op := .fieldAddr 25 (.tmp 4) 2, type := 0, pos := "machine.go:195", after := #[], guard := none } (by rfl) ?_ ?_
          case refine_2 => intro w hSw; (try dsimp only at hSw); obtain ⟨z0, z1, z2, z3, z4, z5⟩ := HCE.out _ hSw; go_simp; (try with_reducible rfl)
          simp only [Act.put, zS0, zS1, zS2]
          refine tk (v := ?_) 1 { dst := some 291, op := .load 23 (.tmp 290), type := 23, pos := "machine.go:195", after := #[⟨0, .data⟩], guard := none } (by rfl) ?_ ?_
          case refine_2 => intro w hSw; (try dsimp only at hSw); obtain ⟨z0, z1, z2, z3, z4, z5⟩ := HCE.out _ hSw; go_simp; (try with_reducible rfl)
          simp only [Act.put, zS0, zS1, zS2]
          refine tk (v := ?_) 2 { dst := some 292, op := .move (.tmp 34), type := 3, pos := "machine.go:195", after := #[], guard := none } (by rfl) ?_ ?_
          case refine_2 => intro w hSw; (try dsimp only at hSw); obtain ⟨z0, z1, z2, z3, z4, z5⟩ := HCE.out _ hSw; go_simp; (try with_reducible rfl)
          simp only [Act.put, zS0, zS1, zS2]
          refine tk (v := ?_) 3 { dst := some 293, op := .indexAddr 23 (.tmp 291) (.tmp 292), type := 0, pos := "machine.go:195", after := #[⟨1, .data⟩, ⟨2, .data⟩], guard := none } (by rfl) ?_ ?_
          case refine_2 => intro w hSw; (try dsimp only at hSw); obtain ⟨z0, z1, z2, z3, z4, z5⟩ := HCE.out _ hSw; go_simp; (try with_reducible rfl)
          simp only [Act.put, zS0, zS1, zS2]
          refine tk (v := ?_) 4 { dst := some 294, op := .load 66 (.tmp 293), type := 66, pos := "machine.go:195", after := #[⟨3, .data⟩], guard := none } (by rfl) ?_ ?_
          case refine_2 => intro w hSw; (try dsimp only at hSw); obtain ⟨z0, z1, z2, z3, z4, z5⟩ := HCE.out _ hSw; go_simp; (try with_reducible rfl)
          simp only [Act.put, zS0, zS1, zS2]
          refine tk (v := ?_) 5 { dst := some 295, op := .fieldAddr 25 (.tmp 5) 2, type := 0, pos := "machine.go:195", after := #[{ on := 12, ground := Ground.gcOnly Departure.lateStores }], guard := none } (by rfl) ?_ ?_
          case refine_2 => intro w hSw; (try dsimp only at hSw); obtain ⟨z0, z1, z2, z3, z4, z5⟩ := HCE.out _ hSw; go_simp; (try with_reducible rfl)
          simp only [Act.put, zS0, zS1, zS2]
          refine tk (v := ?_) 6 { dst := some 296, op := .load 23 (.tmp 295), type := 23, pos := "machine.go:195", after := #[⟨5, .data⟩, { on := 12, ground := Ground.gcOnly Departure.lateStores }], guard := none } (by rfl) ?_ ?_
          case refine_2 => intro w hSw; (try dsimp only at hSw); obtain ⟨z0, z1, z2, z3, z4, z5⟩ := HCE.out _ hSw; go_simp; (try with_reducible rfl)
          simp only [Act.put, zS0, zS1, zS2]
          refine tk (v := ?_) 7 { dst := some 297, op := .move (.tmp 35), type := 3, pos := "machine.go:195", after := #[{ on := 12, ground := Ground.gcOnly Departure.lateStores }], guard := none } (by rfl) ?_ ?_
          case refine_2 => intro w hSw; (try dsimp only at hSw); obtain ⟨z0, z1, z2, z3, z4, z5⟩ := HCE.out _ hSw; go_simp; (try with_reducible rfl)
          simp only [Act.put, zS0, zS1, zS2]
          refine tk (v := ?_) 8 { dst := some 298, op := .indexAddr 23 (.tmp 296) (.tmp 297), type := 0, pos := "machine.go:195", after := #[⟨6, .data⟩, ⟨7, .data⟩, { on := 12, ground := Ground.gcOnly Departure.lateStores }], guard := none } (by rfl) ?_ ?_
          case refine_2 => intro w hSw; (try dsimp only at hSw); obtain ⟨z0, z1, z2, z3, z4, z5⟩ := HCE.out _ hSw; go_simp; (try with_reducible rfl)
          simp only [Act.put, zS0, zS1, zS2]
          refine tk (v := ?_) 9 { dst := some 299, op := .load 66 (.tmp 298), type := 66, pos := "machine.go:195", after := #[⟨8, .data⟩, { on := 12, ground := Ground.gcOnly Departure.lateStores }], guard := none } (by rfl) ?_ ?_
          case refine_2 => intro w hSw; (try dsimp only at hSw); obtain ⟨z0, z1, z2, z3, z4, z5⟩ := HCE.out _ hSw; go_simp; (try with_reducible rfl)
          simp only [Act.put, zS0, zS1, zS2]
          refine wpAnyH_ready (rs := [10, 11]) (by kernel_rfl) (by simp) ?_
          refine (AllReadyH.cons (o := { dst := some 36, op := .alloc 66, type := 0, pos := "machine.go:195", after := #[], guard := none }) rfl (fun K hK => ?_) (AllReadyH.cons (o := { dst := some 37, op := .alloc 66, type := 0, pos := "machine.go:195", after := #[], guard := none }) rfl (fun K hK => ?_) AllReadyH.nil))
          ·skip
           go_simp
           have hS1 := hS0.alloc hz0 (.cells #[.int .i64 0, .int .i64 0] 66)
           have xP := heap_alloc_new V0 (.cells #[.int .i64 0, .int .i64 0] 66)
           have hz1 : wr.heap.size ≤ (V0.alloc (.cells #[.int .i64 0, .int .i64 0] 66)).heap.size := by simp; omega
           refine hK.out _ _ ?_ (fun hHeld => ?_)
           ·first | exact hS4 | exact hS3 | exact hS2 | exact hS1
           clear hK K
           try simp only [Act.put, zS0, zS1, zS2]
           generalize hV : V0.alloc (.cells #[.int .i64 0, .int .i64 0] 66) = V1 at *
           clear hV
           have hlP : wr.heap.size ≤ V0.heap.size := hz0
           generalize V0.heap.size = bP at *
           have hx1 := xP
           refine wpAnyH_ready (rs := [11]) (by kernel_rfl) (by simp) ?_
           refine (AllReadyH.cons (o := { dst := some 37, op := .alloc 66, type := 0, pos := "machine.go:195", after := #[], guard := none }) rfl (fun K hK => ?_) AllReadyH.nil)
           go_simp
           have hS2 := hS1.alloc hz1 (.cells #[.int .i64 0, .int .i64 0] 66)
           have xQ := heap_alloc_new V1 (.cells #[.int .i64 0, .int .i64 0] 66)
           have xP := (((Below.refl _ V1).alloc (Nat.le_refl _) (.cells #[.int .i64 0, .int .i64 0] 66)).block _ (lt_get xP)).trans xP
           have hne0 : bP < V1.heap.size := lt_get hx1
           refine hK.out _ _ ?_ (fun hHeld => ?_)
           ·first | exact hS4 | exact hS3 | exact hS2 | exact hS1
           clear hK K
           try simp only [Act.put, zS0, zS1, zS2]
           have hlQ : wr.heap.size ≤ V1.heap.size := hz1
           generalize hV : V1.alloc (.cells #[.int .i64 0, .int .i64 0] 66) = V2 at *
           clear hV
           generalize V1.heap.size = bQ at *
           have hne : bP ≠ bQ := by omega
           refine wpAnyH_ready (rs := [12]) (by kernel_rfl) (by simp) ?_
           refine (AllReadyH.cons (o := { dst := none, op := .store 66 (.tmp 36) (.tmp 294), type := 0, pos := "machine.go:195", after := #[⟨10, .data⟩, ⟨4, .data⟩, ⟨0, .phase⟩, ⟨1, .phase⟩, ⟨2, .phase⟩, ⟨3, .phase⟩, ⟨4, .phase⟩, { on := 5, ground := Ground.textOnly Departure.lateStores }, { on := 6, ground := Ground.textOnly Departure.lateStores }, { on := 7, ground := Ground.textOnly Departure.lateStores }, { on := 8, ground := Ground.textOnly Departure.lateStores }, { on := 9, ground := Ground.textOnly Departure.lateStores }, ⟨10, .phase⟩, ⟨11, .phase⟩], guard := none }) rfl (fun K hK => ?_) AllReadyH.nil)
           have m0 := cell_of_row _ _ 0 _ _ _ xP
           have m1 := cell_of_row _ _ 1 _ _ _ xP
           have f0 := frozen_of_row _ _ 0 _ 66 xP
           have f1 := frozen_of_row _ _ 1 _ 66 xP
           go_simp
           have hS3 := below2 hS2 hlP (.int .i64 (s : Int)) (.int .i64 (x : Int))
           have xQ := (ko2 V2 bP (.int .i64 (s : Int)) (.int .i64 (x : Int)) bQ hne.symm).trans xQ
           have xP := laid2 xP (.int .i64 (s : Int)) (.int .i64 (x : Int))
           refine hK.out _ _ ?_ (fun hHeld => ?_)
           ·first | exact hS4 | exact hS3 | exact hS2 | exact hS1
           clear hK K
           try simp only [Act.put, zS0, zS1, zS2]
           clear m0 m1 f0 f1
           generalize hV : (V2.setCell ⟨bP, 0, none⟩ (.int .i64 (s : Int))).setCell ⟨bP, 1, none⟩ (.int .i64 (x : Int)) = V3 at *
           clear hV
           refine wpAnyH_ready (rs := [13]) (by kernel_rfl) (by simp) ?_
           refine (AllReadyH.cons (o := { dst := none, op := .store 66 (.tmp 37) (.tmp 299), type := 0, pos := "machine.go:195", after := #[⟨11, .data⟩, ⟨9, .data⟩, ⟨12, .chain⟩, ⟨0, .phase⟩, ⟨1, .phase⟩, ⟨2, .phase⟩, ⟨3, .phase⟩, ⟨4, .phase⟩, ⟨5, .phase⟩, ⟨6, .phase⟩, ⟨7, .phase⟩, ⟨8, .phase⟩, ⟨9, .phase⟩, ⟨10, .phase⟩, ⟨11, .phase⟩, ⟨12, .phase⟩], guard := none }) rfl (fun K hK => ?_) AllReadyH.nil)
           have m0 := cell_of_row _ _ 0 _ _ _ xQ
           have m1 := cell_of_row _ _ 1 _ _ _ xQ
           have f0 := frozen_of_row _ _ 0 _ 66 xQ
           have f1 := frozen_of_row _ _ 1 _ 66 xQ
           go_simp
           have hS4 := below2 hS3 hlQ (.int .i64 (t : Int)) (.int .i64 (y : Int))
           have xP := (ko2 V3 bQ (.int .i64 (t : Int)) (.int .i64 (y : Int)) bP hne).trans xP
           have xQ := laid2 xQ (.int .i64 (t : Int)) (.int .i64 (y : Int))
           refine hK.out _ _ ?_ (fun hHeld => ?_)
           ·first | exact hS4 | exact hS3 | exact hS2 | exact hS1
           clear hK K
           try simp only [Act.put, zS0, zS1, zS2]
           clear m0 m1 f0 f1
           generalize hV : (V3.setCell ⟨bQ, 0, none⟩ (.int .i64 (t : Int))).setCell ⟨bQ, 1, none⟩ (.int .i64 (y : Int)) = V4 at *
           clear hV
           refine wpAnyH_done (by kernel_rfl) ?_ _
           go_wp2_with fail
           refine Met.intro ?_
           go_step
           go_meet
           case rel => exact ⟨bP, bQ, rfl, rfl, HT.out.on hS4, xP, xQ⟩
          ·skip
           go_simp
           have hS1 := hS0.alloc hz0 (.cells #[.int .i64 0, .int .i64 0] 66)
           have xQ := heap_alloc_new V0 (.cells #[.int .i64 0, .int .i64 0] 66)
           have hz1 : wr.heap.size ≤ (V0.alloc (.cells #[.int .i64 0, .int .i64 0] 66)).heap.size := by simp; omega
           refine hK.out _ _ ?_ (fun hHeld => ?_)
           ·first | exact hS4 | exact hS3 | exact hS2 | exact hS1
           clear hK K
           try simp only [Act.put, zS0, zS1, zS2]
           generalize hV : V0.alloc (.cells #[.int .i64 0, .int .i64 0] 66) = V1 at *
           clear hV
           have hlQ : wr.heap.size ≤ V0.heap.size := hz0
           generalize V0.heap.size = bQ at *
           have hx1 := xQ
           refine wpAnyH_ready (rs := [10]) (by kernel_rfl) (by simp) ?_
           refine (AllReadyH.cons (o := { dst := some 36, op := .alloc 66, type := 0, pos := "machine.go:195", after := #[], guard := none }) rfl (fun K hK => ?_) AllReadyH.nil)
           go_simp
           have hS2 := hS1.alloc hz1 (.cells #[.int .i64 0, .int .i64 0] 66)
           have xP := heap_alloc_new V1 (.cells #[.int .i64 0, .int .i64 0] 66)
           have xQ := (((Below.refl _ V1).alloc (Nat.le_refl _) (.cells #[.int .i64 0, .int .i64 0] 66)).block _ (lt_get xQ)).trans xQ
           have hne0 : bQ < V1.heap.size := lt_get hx1
           refine hK.out _ _ ?_ (fun hHeld => ?_)
           ·first | exact hS4 | exact hS3 | exact hS2 | exact hS1
           clear hK K
           try simp only [Act.put, zS0, zS1, zS2]
           have hlP : wr.heap.size ≤ V1.heap.size := hz1
           generalize hV : V1.alloc (.cells #[.int .i64 0, .int .i64 0] 66) = V2 at *
           clear hV
           generalize V1.heap.size = bP at *
           have hne : bP ≠ bQ := by omega
           refine wpAnyH_ready (rs := [12]) (by kernel_rfl) (by simp) ?_
           refine (AllReadyH.cons (o := { dst := none, op := .store 66 (.tmp 36) (.tmp 294), type := 0, pos := "machine.go:195", after := #[⟨10, .data⟩, ⟨4, .data⟩, ⟨0, .phase⟩, ⟨1, .phase⟩, ⟨2, .phase⟩, ⟨3, .phase⟩, ⟨4, .phase⟩, { on := 5, ground := Ground.textOnly Departure.lateStores }, { on := 6, ground := Ground.textOnly Departure.lateStores }, { on := 7, ground := Ground.textOnly Departure.lateStores }, { on := 8, ground := Ground.textOnly Departure.lateStores }, { on := 9, ground := Ground.textOnly Departure.lateStores }, ⟨10, .phase⟩, ⟨11, .phase⟩], guard := none }) rfl (fun K hK => ?_) AllReadyH.nil)
           have m0 := cell_of_row _ _ 0 _ _ _ xP
           have m1 := cell_of_row _ _ 1 _ _ _ xP
           have f0 := frozen_of_row _ _ 0 _ 66 xP
           have f1 := frozen_of_row _ _ 1 _ 66 xP
           go_simp
           have hS3 := below2 hS2 hlP (.int .i64 (s : Int)) (.int .i64 (x : Int))
           have xQ := (ko2 V2 bP (.int .i64 (s : Int)) (.int .i64 (x : Int)) bQ hne.symm).trans xQ
           have xP := laid2 xP (.int .i64 (s : Int)) (.int .i64 (x : Int))
           refine hK.out _ _ ?_ (fun hHeld => ?_)
           ·first | exact hS4 | exact hS3 | exact hS2 | exact hS1
           clear hK K
           try simp only [Act.put, zS0, zS1, zS2]
           clear m0 m1 f0 f1
           generalize hV : (V2.setCell ⟨bP, 0, none⟩ (.int .i64 (s : Int))).setCell ⟨bP, 1, none⟩ (.int .i64 (x : Int)) = V3 at *
           clear hV
           refine wpAnyH_ready (rs := [13]) (by kernel_rfl) (by simp) ?_
           refine (AllReadyH.cons (o := { dst := none, op := .store 66 (.tmp 37) (.tmp 299), type := 0, pos := "machine.go:195", after := #[⟨11, .data⟩, ⟨9, .data⟩, ⟨12, .chain⟩, ⟨0, .phase⟩, ⟨1, .phase⟩, ⟨2, .phase⟩, ⟨3, .phase⟩, ⟨4, .phase⟩, ⟨5, .phase⟩, ⟨6, .phase⟩, ⟨7, .phase⟩, ⟨8, .phase⟩, ⟨9, .phase⟩, ⟨10, .phase⟩, ⟨11, .phase⟩, ⟨12, .phase⟩], guard := none }) rfl (fun K hK => ?_) AllReadyH.nil)
           have m0 := cell_of_row _ _ 0 _ _ _ xQ
           have m1 := cell_of_row _ _ 1 _ _ _ xQ
           have f0 := frozen_of_row _ _ 0 _ 66 xQ
           have f1 := frozen_of_row _ _ 1 _ 66 xQ
           go_simp
           have hS4 := below2 hS3 hlQ (.int .i64 (t : Int)) (.int .i64 (y : Int))
           have xP := (ko2 V3 bQ (.int .i64 (t : Int)) (.int .i64 (y : Int)) bP hne).trans xP
           have xQ := laid2 xQ (.int .i64 (t : Int)) (.int .i64 (y : Int))
           refine hK.out _ _ ?_ (fun hHeld => ?_)
           ·first | exact hS4 | exact hS3 | exact hS2 | exact hS1
           clear hK K
           try simp only [Act.put, zS0, zS1, zS2]
           clear m0 m1 f0 f1
           generalize hV : (V3.setCell ⟨bQ, 0, none⟩ (.int .i64 (t : Int))).setCell ⟨bQ, 1, none⟩ (.int .i64 (y : Int)) = V4 at *
           clear hV
           refine wpAnyH_done (by kernel_rfl) ?_ _
           go_wp2_with fail
           refine Met.intro ?_
           go_step
           go_meet
           case rel => exact ⟨bP, bQ, rfl, rfl, HT.out.on hS4, xP, xQ⟩
         case rest =>
         obtain ⟨bP, bQ, rfl, rfl, hTx, xP, xQ⟩ := hcut
         have HTX : Hid (Tt w wc #[.int .i64 (SA : Int), .slice aa a.arcs.length ca, .slice (some ⟨fb, fo, none⟩) a.fins.length cf] #[.int .i64 (SB : Int), .slice ab b.arcs.length cb, .slice (some ⟨gb, go, none⟩) b.fins.length df] (inn.length + 1) (out.length + 1) N B0 ag) := hTx
         have u11 := cell_of_row _ _ 0 _ _ _ hTx.x11
         have u5 := cell_of_row _ _ 0 _ _ _ hTx.x5
         have u9 := cell_of_row _ _ 0 _ _ _ hTx.x9
         have u10 := cell_of_row _ _ 0 _ _ _ hTx.x10
         have y0 := cell_of_row _ _ 0 _ _ _ xP
         have y1c := cell_of_row _ _ 1 _ _ _ xP
         have z0 := cell_of_row _ _ 0 _ _ _ xQ
         have z1c := cell_of_row _ _ 1 _ _ _ xQ
         have hq1 := idx_ok HN.out HSB.out.1 HTY.out.2.1 (show inn.length < inn.length + 1 by omega) (show out.length < out.length + 1 by omega)
         have hc1 := hTx.cell hq1
         clear hTx xP xQ HT p0 p1 p2 p3 k4 k5 kf kg u42 u52
         obtain ⟨p, hp⟩ : ∃ p, val B0 (idx (inn.length + 1) (out.length + 1) (s * SB + t) inn.length out.length) = p := ⟨_, rfl⟩
         have HPV : Hid (val B0 (idx (inn.length + 1) (out.length + 1) (s * SB + t) inn.length out.length) = p) := hp
         rw [hp] at hc1
         have ba : SB ≤ 40 ∧ s ≤ 40 ∧ t ≤ 40 ∧ inn.length + 1 ≤ 20 ∧ inn.length ≤ 20 ∧ out.length + 1 ≤ 20 ∧ out.length ≤ 20 := by
          have := HE.out.hA; have := HE.out.hB; have := HSB.out.1; have := HTY.out.2.1
          omega
         have KA := at_any SB s t (inn.length + 1) inn.length (out.length + 1) out.length (w.heap.size + 1) (w.heap.size + 2) (w.heap.size + 3)
         have KA := fun d => KA (wc.drewN d) u5 u9 u10 ba.1 ba.2.1 ba.2.2.1 ba.2.2.2.1 ba.2.2.2.2.1 ba.2.2.2.2.2.1 ba.2.2.2.2.2.2
         have hq1' : ((idx (inn.length + 1) (out.length + 1) (s * SB + t) inn.length out.length : Nat) : Int) < (N : Int) := by omega
         have HPF : Hid (∀ f ∈ ((a.fins.take x1).flatMap (fun f : Int × Int => b.fins.map fun g : Int × Int => (f.1 * (SB : Int) + g.1, f.2 + g.2)) ++ (b.fins.take (y1 + 1)).map (fun g : Int × Int => ((s : Int) * (SB : Int) + g.1, (x : Int) + g.2))), f ∈ ((a.fins.take x1).flatMap (fun f : Int × Int => b.fins.map fun g : Int × Int => (f.1 * (SB : Int) + g.1, f.2 + g.2)) ++ (b.fins.take y1).map (fun g : Int × Int => ((s : Int) * (SB : Int) + g.1, (x : Int) + g.2))) ∨ f = (((s * SB + t : Nat) : Int), ((x + y : Nat) : Int))) := fun f hf => by
          rcases List.mem_append.1 hf with h | h
          ·exact .inl (List.mem_append_left _ h)
          ·rcases (pre_up _ _ _ hyl _).1 h with h | h
           ·exact .inl (List.mem_append_right _ h)
           ·refine .inr ?_
            rw [h, HTY.out.1, pair_nat]
            simp
         have HMM : Hid ((((s * SB + t : Nat) : Int), ((x + y : Nat) : Int)) ∈ prF a b SB) := by
          refine List.mem_flatMap.2 ⟨_, List.getElem_mem hxl, List.mem_map.2 ⟨_, List.getElem_mem hyl, ?_⟩⟩
          rw [HSX.out, HTY.out.1, pair_nat]
          simp
         generalize hqg : idx (inn.length + 1) (out.length + 1) (s * SB + t) inn.length out.length = q1 at *
         clear ba hp
         go_upto_region 71 with fail
         go_quiet (first | (go_at_call 35; exact Calls.quiet_of_same (KA _)))
         clear KA
         by_cases hpd : p < dear
         ·have hpd' := lt_dearI hpd
          obtain ⟨zz, z, hz, hw1, hw2⟩ := wrap_pq hpd (show x + y ≤ 2000000 by have := HSB.out.2; have := HTY.out.2.2; omega)
          have HZ : Hid (z = p + (x + y)) := hz
          clear hz
          by_cases hzl : z < l
          ·have hzl' : (z : Int) < (l : Int) := by omega
           have HL3 : Hid (LstM (((a.fins.take x1).flatMap (fun f : Int × Int => b.fins.map fun g : Int × Int => (f.1 * (SB : Int) + g.1, f.2 + g.2)) ++ (b.fins.take (y1 + 1)).map (fun g : Int × Int => ((s : Int) * (SB : Int) + g.1, (x : Int) + g.2)))) (prF a b SB) inn out B0 z) := by
            have hz := HZ.out
            subst hz
            exact HL.out.took HPF.out HMM.out (by rw [hqg]; exact HPV.out) hpd hzl
           go_wp2
           go_roundw
           case rel => exact ⟨z, y1 + 1, by rw [hw2], by go_num, hyl, HTX.out.drewN _, HL3.out⟩
           case measure => simp [intOf]; omega
          ·have hzl' : ¬ (z : Int) < (l : Int) := by omega
           have HL3 : Hid (LstM (((a.fins.take x1).flatMap (fun f : Int × Int => b.fins.map fun g : Int × Int => (f.1 * (SB : Int) + g.1, f.2 + g.2)) ++ (b.fins.take (y1 + 1)).map (fun g : Int × Int => ((s : Int) * (SB : Int) + g.1, (x : Int) + g.2)))) (prF a b SB) inn out B0 l) := HL.out.keep HPF.out fun _ => by rw [hqg, HPV.out]; have := HZ.out; omega
           go_wp2
           go_roundw
           case rel => exact ⟨l, y1 + 1, rfl, by go_num, hyl, HTX.out.drewN _, HL3.out⟩
           case measure => simp [intOf]; omega
         ·have hpd' := ge_dearI hpd
          have HL3 : Hid (LstM (((a.fins.take x1).flatMap (fun f : Int × Int => b.fins.map fun g : Int × Int => (f.1 * (SB : Int) + g.1, f.2 + g.2)) ++ (b.fins.take (y1 + 1)).map (fun g : Int × Int => ((s : Int) * (SB : Int) + g.1, (x : Int) + g.2)))) (prF a b SB) inn out B0 l) := HL.out.keep HPF.out fun h => by rw [hqg, HPV.out] at h; exact absurd h hpd
          go_wp2
          go_roundw
          case rel => exact ⟨l, y1 + 1, rfl, by go_num, hyl, HTX.out.drewN _, HL3.out⟩
          case measure => simp [intOf]; omega
        ·have hyl' : ¬ (y1 : Int) < (b.fins.length : Int) := by omega
         obtain rfl : y1 = b.fins.length := by omega
         have HL2 : Hid (LstM ((a.fins.take (x1 + 1)).flatMap (fun f : Int × Int => b.fins.map fun g : Int × Int => (f.1 * (SB : Int) + g.1, f.2 + g.2))) (prF a b SB) inn out B0 l) := HL.out.mono fun f hf => by
          rw [List.take_length]
          rcases (take_flat _ _ _ hxl _).1 hf with h | h
          ·exact List.mem_append_left _ h
          ·rw [HSX.out] at h
           exact List.mem_append_right _ h
         go_wp2
         go_roundw
         case rel => exact ⟨l, x1 + 1, rfl, by go_num, hxl, HT.out, HL2.out⟩
         case measure => simp [intOf]; omega
      ·have hxl' : ¬ (x1 : Int) < (a.fins.length : Int) := by omega
       obtain rfl : x1 = a.fins.length := by omega
       have HL2 : Hid (LstM (prF a b SB) (prF a b SB) inn out B0 l) := HL.out.mono fun f hf => by rw [List.take_length]; exact hf
       go_wp2
       go_ret
       refine ⟨l, rfl, ?_, HT.out.bel⟩
       have hr := right_pr HE.out HS0.out
       have := HL2.out.lst.finP hr (by rw [HT.out.len]; exact Nat.le_trans hNb (by decide)) (fins_pr HEF.out) HV.out HX.out
       exact this
end Go.Proofs.YtfjocafepigijaaDoor.Tc
