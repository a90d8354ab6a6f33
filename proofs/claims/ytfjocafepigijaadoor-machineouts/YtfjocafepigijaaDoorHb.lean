/- reach: all pairs that one comes to. Conditions: few states, few arcs; no more pairs than may be. -/
import Derived.Test.YtfjocafepigijaaDoorHa
namespace Go.Proofs.YtfjocafepigijaaDoor.Cu
open Go.RowKit Mv Set Qp Sk Po Ps Wd Se Mp St Cm Nm Nx Ra Am Pa Tc
open CR (nc)

structure R1p (w wx : World) (C Fb bS n : Nat) (fv vm : Value) (ws : List Nat) : Prop where
  row : wx.heap[Fb]? = some (.cells #[vm, .int .i64 0, .slice none 0 0] 183 (0, 0))
  set : IsSet wx w.heap.size vm n ws
  emp : ∀ k, mem ws k = false
  xC : wx.heap[w.heap.size]? = some (.cells #[.pointer (some ⟨C, 0, none⟩)] 71 (0, 0))
  xA : wx.heap[w.heap.size + 1]? = some (.cells #[fv] 114 (0, 0))
  xS : wx.heap[bS]? = some (.cells #[.pointer (some ⟨Fb, 0, none⟩)] 181 (0, 0))
  fge : w.heap.size ≤ Fb
  below : Below w.heap.size w wx
end Go.Proofs.YtfjocafepigijaaDoor.Cu
