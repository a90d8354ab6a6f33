/- visit: a pair is met. Condition: its number lies in the set. -/
import Derived.Test.YtfjocafepigijaaDoorPa
import Derived.Test.YtfjocafepigijaaDoorRbM
import Derived.Maps.AppendAt
import Derived.Test.YtfjocafepigijaaDoorSy
import Derived.Deep.QuietTactic
import Derived.BigQuiet
import Derived.Deep.Cut
import Derived.Deep.RegionHeld
import Derived.Deep.MidRow
namespace Go.Proofs.YtfjocafepigijaaDoor.Pa
open Go.RowKit Mv Set Po Ps Cm Am

def ns (T : List Nat) : List Value := T.map fun (k : Nat) => Value.int .i64 (k : Int)
theorem cell_one_at (w : World) (g k : Nat) (hg : g = w.heap.size) : ∀ j u, (ns [k])[j]? = some u → (w.alloc (.cells #[.int .i64 (k : Int)] 3)).cell? ((⟨g, 0, none⟩ : Addr).add j) = some u := by
  intro j u hj
  subst hg
  match j, hj with
  | 0, hj => simp [ns] at hj; subst hj; simp [Addr.add]
theorem ns_one (k : Nat) : ∀ x ∈ ns [k], x.oneCell' = true := by
  intro x hx
  simp [ns] at hx
  subst hx
  rfl

end Go.Proofs.YtfjocafepigijaaDoor.Pa
/- measure (62): the node from which an arc comes in one word; what is read, how the table, the stack and the list lie; what a round does. Conditions: a track of at most 40 states and 61 symbols. -/
namespace Go.Proofs.YtfjocafepigijaaDoor.Ot
open Go.RowKit Mv Sy Po Ps Cm Pa Am Wd St

theorem kp_below {w w' : World} (h : Below w.heap.size w w') (X : Nat → Prop) : Kp X w w' := ⟨h.os, h.tape, h.output, h.size, fun k hk _ => h.block k hk⟩
theorem kp_then {X Y : Nat → Prop} {a b c : World} (h : Kp X a b) (k : Kp Y b c) (hY : ∀ i, i < a.heap.size → Y i → X i) : Kp X a c :=
  ⟨k.os.trans h.os, k.tape.trans h.tape, k.output.trans h.output, Nat.le_trans h.size k.size, fun i hi hx => (k.block i (Nat.lt_of_lt_of_le hi h.size) (fun e => hx (hY i hi e))).trans (h.block i hi hx)⟩
end Go.Proofs.YtfjocafepigijaaDoor.Ot
/- measure (62): goes back from the nodes that wait, along arcs that write nothing; the table of needs, the nodes of the next round. Conditions: a track of at most 40 states and 61 symbols, at most 120 arcs a state. -/
namespace Go.Proofs.YtfjocafepigijaaDoor.Ot
open Go.RowKit Mv Sy Po Ps Cm Pa Am Wd St

theorem oslice {w : World} {base e size n : Nat} {v : Value} {xs : List Value} (h : w.ownsRow base e size v n xs) : ∃ a cap, v = .slice a n cap := by
  rcases h.2 with ⟨rfl, rfl⟩ | ⟨g, cap, cur, hv, _⟩
  · exact ⟨none, 0, rfl⟩
  · exact ⟨_, _, hv⟩
end Go.Proofs.YtfjocafepigijaaDoor.Ot
