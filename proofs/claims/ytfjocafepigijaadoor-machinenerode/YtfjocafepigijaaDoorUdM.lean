/- reach: what has been met and what is still to be done, in plain words; how it lies; reach's visit in one word. Conditions: few states. -/
import Derived.Test.YtfjocafepigijaaDoorCaM
import Derived.Test.YtfjocafepigijaaDoorRbM
import Derived.Test.YtfjocafepigijaaDoorMc
import Derived.Laws.Rows
import Derived.Test.YtfjocafepigijaaDoorNwM
import Derived.Test.YtfjocafepigijaaDoorTdM
import Derived.Deep.LoopGhost
import Derived.Deep.QuietTactic
import Derived.BigQuiet
import Derived.Deep.RegionHeld
import Derived.Deep.CutRange
import Derived.Deep.RegionHeld3
import Derived.Test.YtfjocafepigijaaDoorOhM
import Derived.Test.YtfjocafepigijaaDoorSy
import Derived.Deep.Cut
namespace Go.Proofs.YtfjocafepigijaaDoor.Cu
open Go.RowKit Mv Set Qp Sk Po Ps Wd Se Mp St Cm Nm Nx Ra Am Pa
open CR (nc)

theorem own_base {w : World} {b b' e size n : Nat} {v : Value} {xs : List Value} (h : w.ownsRow b' e size v n xs) (hb : b ≤ b') : w.ownsRow b e size v n xs :=
  ⟨h.1, h.2.imp id (fun ⟨g, cap, cur, h1, h2, h3⟩ => ⟨g, cap, cur, h1, Nat.le_trans hb h2, h3⟩)⟩
end Go.Proofs.YtfjocafepigijaaDoor.Cu
/- newTrack (33): what it has laid at each step; the track as it is read later. Conditions: a machine of at most 40 states and 120 arcs, a text of at most 60 symbols. -/
namespace Go.Proofs.YtfjocafepigijaaDoor.Ot
open Go.RowKit Mv Sy Po Ps Cm Pa Am Wd St Ra
open CR (nc)

theorem own_low {w : World} {b b' e s n : Nat} {v : Value} {xs : List Value} (h : w.ownsRow b e s v n xs) (hb : b' ≤ b) : w.ownsRow b' e s v n xs := by
  refine ⟨h.1, ?_⟩
  rcases h.2 with h' | ⟨g, cap, cur, hv, hg, hrest⟩
  · exact .inl h'
  · exact .inr ⟨g, cap, cur, hv, Nat.le_trans hb hg, hrest⟩
end Go.Proofs.YtfjocafepigijaaDoor.Ot
