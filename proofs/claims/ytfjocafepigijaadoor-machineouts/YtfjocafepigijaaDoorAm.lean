/- The map from arcs (without their cost) to numbers. Condition: an arc's numbers have 64 bits. -/
import Derived.Test.YtfjocafepigijaaDoorMp
namespace Go.Proofs.YtfjocafepigijaaDoor.Am
open Go.RowKit Mv Po Se Wd Mp
open Go.WideMaps Go.WideElems
open Go.ChangeMaps (setBlock heap_setBlock_same heap_setBlock_other)
open Go.Maps (Keyed)

/-- an arc's name: all but its cost -/
abbrev Nam := Int × Int × Int × Int
def nam (a : Arc) : Nam := (a.1, a.2.1, a.2.2.1, a.2.2.2.1)
def Ok4 (n : Nam) : Prop := W64 n.1 ∧ W64 n.2.1 ∧ W64 n.2.2.1 ∧ W64 n.2.2.2
def vn (n : Nam) : Value := .agg #[.int .i64 n.1, .int .i64 n.2.1, .int .i64 n.2.2.1, .int .i64 n.2.2.2, .int .i64 0]
def kn (n : Nam) : Lit := .string (keyBytes [.int .i64 n.1, .int .i64 n.2.1, .int .i64 n.2.2.1, .int .i64 n.2.2.2, .int .i64 0])
/-- block b is a map that has G at each name -/
def IsAm (w : World) (b n : Nat) (G : Nam → Option Nat) : Prop :=
  ∃ D : DataW Value, w.ownsMap Tryd.prog 64 El b n D ∧ ∀ a, Ok4 a → ∀ z, D.atKey (kn a) z = (match G a with | some c => .held (.int .i64 (c : Int)) | none => z)
end Go.Proofs.YtfjocafepigijaaDoor.Am
