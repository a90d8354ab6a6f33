/- The map from pairs to their numbers. Condition: the pairs' numbers are small. -/
import Derived.Test.YtfjocafepigijaaDoorAm
namespace Go.Proofs.YtfjocafepigijaaDoor.Na
open Go.RowKit Mv Po Se Wd Mp Am
open Go.WideMaps Go.WideElems
open Go.Maps (Keyed)

/-- block b is a map that has G at each number -/
def IsNm (w : World) (b n : Nat) (G : Nat → Option Nat) : Prop :=
  ∃ D : DataW Value, w.ownsMap Tryd.prog 3 El b n D ∧ ∀ a : Nat, a ≤ 1000000 → ∀ z, D.atKey (.int .i64 (a : Int)) z = (match G a with | some c => .held (.int .i64 (c : Int)) | none => z)
end Go.Proofs.YtfjocafepigijaaDoor.Na
