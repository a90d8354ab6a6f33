/- told (14): append of a text as it lies (nil or not) onto a row of the call's own, at a step of a region that draws. Conditions: the bounds of the law that it leans on. -/
import Derived.Test.YtfjocafepigijaaDoorVdM
import Derived.Laws.AppendOwnNone
namespace Go.Proofs.YtfjocafepigijaaDoor.Ot
open Go.RowKit Mv Sy Po Ps Cm Pa Am Wd St Ra Set

theorem run_tx (w : World) (base : Nat) (v : Value) (n : Nat) (xs : List Value) (hown : w.ownsRow base 3 1 v n xs) (y : Value) (t : List Int) (hx : Tx w y t) (h63 : n + t.length ≤ 100000) (hbase : base ≤ w.heap.size) :
    ∃ v' w', (Builtin.append_ #[26, 26] 26 #[v, y]).run Tryd.prog w = .ok v' w' ∧ w'.ownsRow base 3 1 v' (n + t.length) (xs ++ ints t) ∧ w.grownBy w' v.ownBlock ∧ (v'.ownBlock = v.ownBlock ∨ v'.ownBlock = some w.heap.size) := by
  obtain ⟨i3, hi3, hz0, hz1, hz2⟩ := info_parts inf3
  obtain ⟨a, c, rfl, h⟩ := hx
  rcases h with ⟨rfl, e⟩ | ⟨b, off, cs, rfl, hb, hc⟩
  · rw [e]
    exact ⟨v, w, run_append_owned_none (P := Tryd.prog) w base 26 26 3 i3 1 Tryd.underlying26 hi3 v n xs hown, by simpa [ints] using hown, ⟨rfl, rfl, rfl, Nat.le_refl _, fun _ _ _ => rfl⟩, .inl rfl⟩
  · obtain ⟨v', w', hr, h2, h3, h4, h5⟩ := run_append_own_at (P := Tryd.prog) w base 26 26 3 i3 (.int .i64 0) 1 8 Tryd.underlying26 hi3 hz0 hz1 hz2 rfl (by decide) v n xs hown ⟨b, off, none⟩ t.length c (ints t) (by simp [ints]) (fun j u hu => by
      have hadd : (⟨b, off, none⟩ : Addr).add j = ⟨b, off + j, none⟩ := by unfold Addr.add; split <;> simp_all
      rw [hadd]
      exact hc j u hu) (ints_all t) (by unfold maxLen; omega) (by omega) hbase
    exact ⟨v', w', hr, h2, h3, h5⟩
theorem step_tx {ops : Array Oper} {o : Oper} {a : Act} {w : World} {K : Act → World → Prop} {Q : Exit → Act → World → Prop} {E : Prop}
    (hgd : o.guard = none) (s x : Operand) (ho : o.op = .call { callee := .builtin .append, args := #[s, x], argTypes := #[26, 26] }) (ht : o.type = 26)
    (base : Nat) (v : Value) (n : Nat) (xs : List Value) (hs : a.eval s = v) (hown : w.ownsRow base 3 1 v n xs)
    (y : Value) (t : List Int) (hx : a.eval x = y) (htx : Tx w y t) (h63 : n + t.length ≤ 100000) (hbase : base ≤ w.heap.size)
    (h : ∀ v' w', w'.ownsRow base 3 1 v' (n + t.length) (xs ++ ints t) → w.grownBy w' v.ownBlock → (v'.ownBlock = v.ownBlock ∨ v'.ownBlock = some w.heap.size) → K (a.put o.dst v') w') :
    if Region.wanted o (yielded ops a.tmps) = true then Oper.wp Tryd.prog o a w K Q else E := by
  have hw : Region.wanted o (yielded ops a.tmps) = true := by simp [Region.wanted, hgd]
  rw [if_pos hw]
  obtain ⟨v', w', hr, h2, h3, h5⟩ := run_tx w base v n xs hown y t htx h63 hbase
  unfold Oper.wp execOp
  simp only [ho, ht, resolve, invoke, builtin, Sem.run_bind, Sem.run_pure, Result.andThen_ok, List.map_toArray, List.map_cons, List.map_nil, hs, hx, hr]
  exact h v' w' h2 h3 h5
end Go.Proofs.YtfjocafepigijaaDoor.Ot
