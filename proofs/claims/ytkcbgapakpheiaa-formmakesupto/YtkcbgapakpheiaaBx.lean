/- A change in a block of its own: what its cells hold, and that it stays. No conditions. -/
import Derived.Test.YtkcbgapakpheiaaMd
namespace Go.Proofs.Ytkcbgapakpheiaa.Bx
open Go.RowKit Md

structure Box (B : Nat) (k : Int) (vf vt vl vr : Value) (W : World) : Prop where
  lt : B < W.heap.size
  g0 : W.cell? ⟨B, 0, none⟩ = some (.int .i64 k)
  g1 : W.cell? ⟨B, 1, none⟩ = some vf
  g2 : W.cell? ⟨B, 2, none⟩ = some vt
  g3 : W.cell? ⟨B, 3, none⟩ = some vl
  g4 : W.cell? ⟨B, 4, none⟩ = some vr
theorem Box.new (w : World) (k : Int) (vf vt vl vr : Value) : Box w.heap.size k vf vt vl vr (w.alloc (.cells #[.int .i64 k, vf, vt, vl, vr] 58)) :=
  ⟨by simp, by simp, by simp, by simp, by simp, by simp⟩
theorem Box.below {B : Nat} {k : Int} {vf vt vl vr : Value} {W W' : World} (h : Box B k vf vt vl vr W) (hb : Below W.heap.size W W') : Box B k vf vt vl vr W' :=
  ⟨Nat.lt_of_lt_of_le h.lt hb.size, (hb.cell h.lt).trans h.g0, (hb.cell h.lt).trans h.g1, (hb.cell h.lt).trans h.g2, (hb.cell h.lt).trans h.g3, (hb.cell h.lt).trans h.g4⟩
end Go.Proofs.Ytkcbgapakpheiaa.Bx
