/- The document's TableOf (51): the table of a plain machine's sets, or that there are too many. Condition: the machine is right. -/
import Derived.Test.YtfjocafepigijaaDoorFaM
import Derived.Deep.CutRange
namespace Go.Proofs.YtfjocafepigijaaDoor.Su
open Go.RowKit Mv Po Ps Cm

theorem pre_at {α : Type} {l l' : List α} (h : l <+: l') {k : Nat} {x : α} (hk : l[k]? = some x) : l'[k]? = some x := by
  obtain ⟨r, rfl⟩ := h
  rw [List.getElem?_append_left (List.getElem?_eq_some_iff.1 hk).1]
  exact hk
theorem getD_some {α : Type} {l : List α} {k : Nat} {x d : α} (h : l[k]? = some x) : l.getD k d = x := by rw [List.getD_eq_getElem?_getD, h]; rfl
theorem own_nil_new (W : World) (u : Value) (base ty : Nat) (hb : base ≤ W.heap.size) : (W.alloc (.cells #[u] ty)).ownsRow base ty 1 (.slice (some ⟨W.heap.size, 0, none⟩) 1 1) 1 [u] := ⟨rfl, .inr ⟨W.heap.size, 1, #[u], rfl, hb, heap_alloc_new _ _, Nat.le_refl _, by unfold maxLen; omega, rfl, rfl⟩⟩
theorem cell_one_new (w : World) (u : Value) (ty : TypeId) : ∀ j v, [u][j]? = some v → (w.alloc (.cells #[u] ty)).cell? ((⟨w.heap.size, 0, none⟩ : Addr).add j) = some v := fun j v hj => by
  have e0 : j = 0 := by have := (List.getElem?_eq_some_iff.1 hj).1; simpa using this
  subst e0
  have e : u = v := by simpa using hj
  subst e
  rw [show (⟨w.heap.size, 0, none⟩ : Addr).add 0 = ⟨w.heap.size, 0, none⟩ by simp [Addr.add]]
  exact cell_of_row _ _ 0 _ _ _ (heap_alloc_new w _)
theorem sl_one (v : Value) (h : v.oneCell' = true) : ∀ u ∈ [v], u.oneCell' = true := fun u hu => by rw [List.mem_singleton.1 hu]; exact h
/-- two results, of which the first lies in a block -/
theorem results_row_tmp {P : Program} {fn : Func} {p u : Tmp} {ty : TypeId} (h : fn.results = #[.cell p ty, .tmp u]) (tmps : Array Value) (w : World) (g : Nat) (t : TypeId) (cs : Array Value) (fr : Nat × Nat) (d : TypeDesc)
    (hp : tmps.getD p undef = .pointer (some ⟨g, 0, none⟩)) (hg : w.heap[g]? = some (.cells cs t fr))
    (hu : P.underlying ty = some d) (hd : (match d with | .struct _ | .array _ _ => true | _ => false) = true) (hi : (P.info? ty).map (·.size) = some cs.size) :
    (results fn tmps).run P w = .ok (.tuple #[.agg cs, tmps.getD u undef]) w := by
  rw [results_cell_tmp h, hp]
  simp [asAddr, run_loadVar_row w g t ty cs fr d hg hu hd hi]
end Go.Proofs.YtfjocafepigijaaDoor.Su
