/- visit: a pair is met. Condition: its number lies in the set. -/
import Derived.Test.YtfjocafepigijaaDoorPa
import Derived.Test.YtfjocafepigijaaDoorAp
import Derived.Maps.AppendAt
namespace Go.Proofs.YtfjocafepigijaaDoor.Pa
open Go.RowKit Mv Set Po Ps Cm Am

theorem inf3 : (Tryd.prog.info? 3).map (fun i => (i.zero, i.size, i.bytes)) = some (some (.int .i64 0), 1, 8) := by kernel_rfl
def ns (T : List Nat) : List Value := T.map fun (k : Nat) => Value.int .i64 (k : Int)
/-- a search: what was met, how many, what is to be done -/
structure Sr (base : Nat) (w : World) (F n : Nat) (ws : List Nat) (cnt : Nat) (T : List Nat) (vm vt : Value) : Prop where
  row : w.heap[F]? = some (.cells #[vm, .int .i64 (cnt : Int), vt] 183 (0, 0))
  set : IsSet w base vm n ws
  todo : w.ownsRow base 3 1 vt T.length (ns T)
def OwnS (F : Nat) (vm vt : Value) (b : Nat) : Prop := b = F ∨ vm.ownBlock = some b ∨ vt.ownBlock = some b
theorem cell_one_at (w : World) (g k : Nat) (hg : g = w.heap.size) : ∀ j u, (ns [k])[j]? = some u → (w.alloc (.cells #[.int .i64 (k : Int)] 3)).cell? ((⟨g, 0, none⟩ : Addr).add j) = some u := by
  intro j u hj
  subst hg
  match j, hj with
  | 0, hj => simp [ns] at hj; subst hj; simp [Addr.add]
theorem ns_one (k : Nat) : ∀ x ∈ ns [k], x.oneCell' = true := by
  intro x hx
  simp [ns] at hx
  subst hx
  rfl

end Go.Proofs.YtfjocafepigijaaDoor.Pa
