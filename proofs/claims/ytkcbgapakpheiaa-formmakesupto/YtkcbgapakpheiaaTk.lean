/- The program's told: what it hands on, by stem, then by cell. Condition: the parts are short. -/
import Derived.Test.YtkcbgapakpheiaaMk
import Derived.Test.YtkcbgapakpheiaaRf
import Derived.Shelf.Abstract
import Derived.Shelf.RegionOpen
import Derived.OwnWalkIn
import Derived.TacticsInMore
import Derived.LoopNIn
import Derived.LoopIn
namespace Go.Proofs.Ytkcbgapakpheiaa.Tk
open Go.RowKit Go.Shelf Sd Md Sc Aq Ls Lx Ly Lz Fo Mk Rf
attribute [local go_sem] Oper.semAt_some

abbrev El := (Nat × Nat × List Int) × Value
def encs (x : El) : Array Value := #[.agg #[.int .i64 x.1.1, .int .i64 x.1.2.1], x.2]
def cellsX (h : List Ch) (s : St) (i : Nat) : Nat → List VCe → List (Nat × Nat × List Int)
  | _, [] => []
  | k, c :: cs => (if s.cls = c.2.cls then [(i, k, formX h s c.2)] else []) ++ cellsX h s i (k + 1) cs
def stemsX (h : List Ch) (ces : List VCe) : Nat → List VSt → List (Nat × Nat × List Int)
  | _, [] => []
  | i, s :: ss => cellsX h s.2 i 0 ces ++ stemsX h ces (i + 1) ss
def toldX (y : VX) : List (Nat × Nat × List Int) := stemsX (chs y.xs) y.ces 0 y.sts
def Lie (y : VX) (pre : List El) (x : El) (A : World) : Prop := IsI A x.2 x.1.2.2 ∧ pre.map Prod.fst ++ [x.1] <+: toldX y
theorem cellsX_at (h : List Ch) (s : St) (i k : Nat) (l : List VCe) (hk : k < l.length) : cellsX h s i k (l.drop k) = (if s.cls = (l[k]).2.cls then [(i, k, formX h s (l[k]).2)] else []) ++ cellsX h s i (k + 1) (l.drop (k + 1)) := by
  rw [List.drop_eq_getElem_cons hk]
  rfl
theorem stemsX_at (h : List Ch) (ces : List VCe) (i : Nat) (l : List VSt) (hi : i < l.length) : stemsX h ces i (l.drop i) = cellsX h (l[i]).2 i 0 (ces.drop 0) ++ stemsX h ces (i + 1) (l.drop (i + 1)) := by
  rw [List.drop_eq_getElem_cons hi]
  rfl

set_option maxHeartbeats 4000000 in
set_option maxRecDepth 100000 in
theorem told_any (y : VX) (w : World) : CallsIn Fence.wide 3 Try.prog 24 #[y.val] w fun e w' => e = .returned (.func (.func 45) #[] #[.pointer (some ⟨w.heap.size, 0, none⟩)]) ∧ w' = w.alloc (.cells #[.int .i64 y.k, y.vs, y.vc, y.vh] 26) := by
  obtain ⟨k, vs, vc, vh, sts, ces, xs⟩ := y
  simp only [VX.val]
  refine callsIn_wide.2 ?_
  go_enter Try.func24, Try.ntmps24
  go_wp2
  go_ret
  exact ⟨rfl, rfl⟩
end Go.Proofs.Ytkcbgapakpheiaa.Tk
