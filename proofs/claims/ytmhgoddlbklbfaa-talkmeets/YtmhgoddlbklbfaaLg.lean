/- append of what was told, as it lies in memory, onto a list of the call's own; a list that is written over. Conditions: the bounds of the laws that it leans on. -/
import Derived.Test.YtmhgoddlbklbfaaLe
import Derived.Deep.RegionLaw
import Derived.Laws.AppendOwnNone
import Derived.Deep.RegionHeld3
import Derived.Deep.RegionHeldLaw
namespace Go.Proofs.Ytmhgoddlbklbfaa.Lb
open Go.RowKit Ta Tb Ra

theorem run_none {P : Program} {w : World} (base : Nat) (t ty e : TypeId) (i : TypeInfo) (size : Nat) (ht : P.underlying t = some (.slice e)) (hi : P.info? e = some i)
    (v : Value) (n : Nat) (xs : List Value) (hown : w.ownsRow base e size v n xs) (k : Nat) :
    (Builtin.append_ #[t, t] ty #[v, .slice none 0 k]).run P w = .ok v w := by
  rcases hown.2 with ⟨rfl, rfl⟩ | ⟨g, cap, cur, rfl, _, _, hnc, _⟩
  · simp [Builtin.append_, run_underlying ht, sizeOf, typeInfo, hi, Builtin.lenOf, Builtin.firstCells]
  · simp [Builtin.append_, run_underlying ht, sizeOf, typeInfo, hi, Builtin.lenOf, Builtin.firstCells, hnc, storeCells]
theorem tls_one (l : List To) : ∀ u ∈ tls l, u.oneCell' = true := by
  intro u hu
  obtain ⟨t, _, ht⟩ := List.mem_flatMap.1 hu
  exact tl_one t u ht
theorem run_app (w : World) (ty : TypeId) (base : Nat) (v : Value) (n : Nat) (xs : List Value) (hown : w.ownsRow base 44 5 v n xs) (a : Option Addr) (c : Nat) (l : List To) (hl : IsT w a l)
    (h63 : n + l.length ≤ maxLen) (hbytes : (n + l.length) * 48 ≤ 140737488355328) (hbase : base ≤ w.heap.size) :
    ∃ v' w', (Builtin.append_ #[36, 36] ty #[v, .slice a l.length c]).run Try.prog w = .ok v' w' ∧ w'.ownsRow base 44 5 v' (n + l.length) (xs ++ tls l) ∧ w.grownBy w' v.ownBlock := by
  obtain ⟨i44, hi44, hz440, hz441, hz442⟩ := info_parts info44
  cases a with
  | none =>
    have e0 : l.length = 0 := by
      rcases hl.2 with hc | ⟨b, off, hb, _⟩
      · exact hc
      · cases hb
    have e1 : l = [] := List.length_eq_zero_iff.1 e0
    subst e1
    exact ⟨v, w, run_none base 36 ty 44 i44 5 Try.underlying36 hi44 v n xs hown c, by simpa [tls] using hown, ⟨rfl, rfl, rfl, Nat.le_refl _, fun _ _ _ => rfl⟩⟩
  | some ad =>
    obtain ⟨v', w', hr, h2, h3, _⟩ := run_append_own (P := Try.prog) w base 36 ty 44 i44 (.agg #[.int .i64 0, .int .i64 0, .int .i64 0, .string ByteArray.empty, .bool false]) 5 48 Try.underlying36 hi44 hz440 hz441 hz442 rfl (by decide) v n xs hown ad l.length c (tls l) (tls_length l) (by
      intro j u hu
      rcases hl.2 with hc | ⟨b, off, hb, _, hc⟩
      · have : l = [] := List.length_eq_zero_iff.1 hc
        subst this
        simp [tls] at hu
      · simp only [Option.some.injEq] at hb
        subst hb
        have hadd : (⟨b, off, none⟩ : Addr).add j = ⟨b, off + j, none⟩ := by unfold Addr.add; split <;> simp_all
        rw [hadd]
        exact hc j u hu) (tls_one l) h63 hbytes hbase
    exact ⟨v', w', hr, h2, h3⟩
theorem wp_app (w : World) {o : Oper} {a : Act} {K : Act → World → Prop} {Q : Exit → Act → World → Prop} (s x : Operand)
    (ho : o.op = .call { callee := .builtin .append, args := #[s, x], argTypes := #[36, 36] }) (base : Nat)
    (v : Value) (n : Nat) (xs : List Value) (hs : a.eval s = v) (hown : w.ownsRow base 44 5 v n xs)
    (la : Option Addr) (c : Nat) (l : List To) (hx : a.eval x = .slice la l.length c) (hl : IsT w la l)
    (h63 : n + l.length ≤ maxLen) (hbytes : (n + l.length) * 48 ≤ 140737488355328) (hbase : base ≤ w.heap.size)
    (h : ∀ v' w', w'.ownsRow base 44 5 v' (n + l.length) (xs ++ tls l) → w.grownBy w' v.ownBlock → K (a.put o.dst v') w') : o.wp Try.prog a w K Q := by
  obtain ⟨v', w', hr, h2, h3⟩ := run_app w o.type base v n xs hown la c l hl h63 hbytes hbase
  unfold Oper.wp execOp
  simp only [ho, resolve, invoke, builtin, Sem.run_bind, Sem.run_pure, Result.andThen_ok, List.map_toArray, List.map_cons, List.map_nil, hs, hx, hr]
  exact h v' w' h2 h3
theorem wpList_app (w : World) {ops : Array Oper} {rest : List Oper} {o : Oper} {a : Act} {Q : Exit → Act → World → Prop} (hgd : o.guard = none) (s x : Operand)
    (ho : o.op = .call { callee := .builtin .append, args := #[s, x], argTypes := #[36, 36] }) (base : Nat)
    (v : Value) (n : Nat) (xs : List Value) (hs : a.eval s = v) (hown : w.ownsRow base 44 5 v n xs)
    (la : Option Addr) (c : Nat) (l : List To) (hx : a.eval x = .slice la l.length c) (hl : IsT w la l)
    (h63 : n + l.length ≤ maxLen) (hbytes : (n + l.length) * 48 ≤ 140737488355328) (hbase : base ≤ w.heap.size)
    (h : ∀ v' w', w'.ownsRow base 44 5 v' (n + l.length) (xs ++ tls l) → w.grownBy w' v.ownBlock → wpList Try.prog ops Q rest (a.put o.dst v') w') : wpList Try.prog ops Q (o :: rest) a w :=
  wpList_plain hgd fun _ hK => wp_app w s x ho base v n xs hs hown la c l hx hl h63 hbytes hbase fun v' w' h2 h3 => hK _ _ (h v' w' h2 h3)
theorem step_app (w : World) {ops : Array Oper} {o : Oper} {a : Act} {K : Act → World → Prop} {Q : Exit → Act → World → Prop} {E : Prop} (hgd : o.guard = none) (s x : Operand)
    (ho : o.op = .call { callee := .builtin .append, args := #[s, x], argTypes := #[36, 36] }) (base : Nat)
    (v : Value) (n : Nat) (xs : List Value) (hs : a.eval s = v) (hown : w.ownsRow base 44 5 v n xs)
    (la : Option Addr) (c : Nat) (l : List To) (hx : a.eval x = .slice la l.length c) (hl : IsT w la l)
    (h63 : n + l.length ≤ maxLen) (hbytes : (n + l.length) * 48 ≤ 140737488355328) (hbase : base ≤ w.heap.size)
    (h : ∀ v' w', w'.ownsRow base 44 5 v' (n + l.length) (xs ++ tls l) → w.grownBy w' v.ownBlock → K (a.put o.dst v') w') :
    if Region.wanted o (yielded ops a.tmps) = true then Oper.wp Try.prog o a w K Q else E := by
  have hw : Region.wanted o (yielded ops a.tmps) = true := by simp [Region.wanted, hgd]
  rw [if_pos hw]
  exact wp_app w s x ho base v n xs hs hown la c l hx hl h63 hbytes hbase h
theorem own_empty (w : World) (base : Nat) (hb : base ≤ w.heap.size) : (w.alloc (.cells #[] 44)).ownsRow base 44 5 (.slice (some ⟨w.heap.size, 0, none⟩) 0 0) 0 [] := World.ownsRow_made w #[] 0 hb (Nat.zero_le _) rfl

theorem step_append_own {P : Program} {ops : Array Oper} {o : Oper} {a : Act} {w : World} {K : Act → World → Prop} {Q : Exit → Act → World → Prop} {E : Prop}
    (hgd : o.guard = none) (s x : Operand) (t : TypeId) (ho : o.op = .call { callee := .builtin .append, args := #[s, x], argTypes := #[t, t] })
    (base : Nat) (e : TypeId) (i : TypeInfo) (z : Value) (size bytes : Nat) (ht : P.underlying t = some (.slice e)) (hi : P.info? e = some i) (hz : i.zero = some z)
    (hsize : i.size = size) (hby : i.bytes = bytes) (hzs : z.cells.size = size) (hsz : 0 < size)
    (v : Value) (n : Nat) (xs : List Value) (hs : a.eval s = v) (hown : w.ownsRow base e size v n xs)
    (ad : Addr) (m c : Nat) (news : List Value) (hx : a.eval x = .slice (some ad) m c) (hl : news.length = m * size) (hnews : ∀ j u, news[j]? = some u → w.cell? (ad.add j) = some u) (h1 : ∀ u ∈ news, u.oneCell' = true)
    (h63 : n + m ≤ maxLen) (hbytes : (n + m) * bytes ≤ 140737488355328) (hbase : base ≤ w.heap.size)
    (h : ∀ v' w', w'.ownsRow base e size v' (n + m) (xs ++ news) → w.grownBy w' v.ownBlock → K (a.put o.dst v') w') :
    if Region.wanted o (yielded ops a.tmps) = true then Oper.wp P o a w K Q else E := by
  have hw : Region.wanted o (yielded ops a.tmps) = true := by simp [Region.wanted, hgd]
  rw [if_pos hw]
  exact wp_append_own w s x t ho base e i z size bytes ht hi hz hsize hby hzs hsz v n xs hs hown ad m c news hx hl hnews h1 h63 hbytes hbase fun v' w' h2 h3 _ => h v' w' h2 h3
theorem info36 : (Try.prog.info? 36).map (fun i => (i.zero, i.size, i.bytes)) = some (some (.slice none 0 0), 1, 24) := by kernel_rfl
theorem cell_sl (w : World) (n : Nat) (hn : w.heap.size = n) (v : Value) : ∀ j u, [v][j]? = some u → (w.alloc (.cells #[v] 36)).cell? ((⟨n, 0, none⟩ : Addr).add j) = some u := by
  subst hn
  intro j u hj
  have hadd : (⟨w.heap.size, 0, none⟩ : Addr).add j = ⟨w.heap.size, j, none⟩ := by unfold Addr.add; split <;> simp_all
  rw [hadd, cell_of_row _ _ j _ 36 _ (heap_alloc_new w _)]
  simpa using hj
/-- a list that is copied -/
theorem copy_own {w w' : World} {v' : Value} {l : List To} (h : w'.ownsRow w.heap.size 44 5 v' (0 + l.length) ([] ++ tls l)) (hg : (w.alloc (.cells #[] 44)).grownBy w' (Value.slice (some ⟨w.heap.size, 0, none⟩) 0 0).ownBlock) (hl : l.length ≤ 140737488355328) : ∃ a c, v' = .slice a l.length c ∧ w'.ownsRow w.heap.size 44 5 (.slice a l.length c) l.length (tls l) ∧ IsT w' a l ∧ Below w.heap.size w w' := by
  rw [Nat.zero_add, List.nil_append] at h
  have h0 := h
  obtain ⟨a, c, rfl, hi, _⟩ := isT_own h0 hl
  exact ⟨a, c, rfl, h, hi, ((Below.refl _ w).alloc (Nat.le_refl _) _).grown hg (by simp) (fun q hq => by cases hq; exact Nat.le_refl _)⟩

/-- a list of the caller's own, whatever it has -/
def Own (b : Nat) (a : Option Addr) (n c : Nat) (w : World) : Prop := ∃ xs, w.ownsRow b 44 5 (.slice a n c) n xs
theorem Own.at {b n c j : Nat} {a : Option Addr} {w : World} (h : Own b a n c w) (hj : j < n) : ∃ g u0 u1 u2 u3 u4, a = some ⟨g, 0, none⟩ ∧ b ≤ g ∧ w.cell? ⟨g, j * 5, none⟩ = some u0 ∧ w.cell? ⟨g, j * 5 + 1, none⟩ = some u1 ∧ w.cell? ⟨g, j * 5 + 2, none⟩ = some u2 ∧ w.cell? ⟨g, j * 5 + 3, none⟩ = some u3 ∧ w.cell? ⟨g, j * 5 + 4, none⟩ = some u4 ∧ (∀ q, w.frozen? ⟨g, q, none⟩ = false) ∧ ∃ cur, w.heap[g]? = some (.cells cur 44 (0, 0)) := by
  obtain ⟨xs, h1⟩ := h
  rcases h1.2 with ⟨_, h'⟩ | ⟨g, cap, cur, hv, hg, hh, _⟩
  · omega
  · simp only [Value.slice.injEq, true_and] at hv
    obtain ⟨rfl, rfl⟩ := hv
    have hle : j * 5 + 5 ≤ n * 5 := by omega
    have e := fun q (hq : q < 5) => (h1.cellAt (j * 5 + q) (by omega)).trans (List.getElem?_eq_getElem (show j * 5 + q < xs.length by rw [h1.1]; omega))
    exact ⟨g, _, _, _, _, _, rfl, hg, e 0 (by omega), e 1 (by omega), e 2 (by omega), e 3 (by omega), e 4 (by omega), h1.frozenAt, cur, hh⟩
theorem Own.set {b n c g : Nat} {w : World} (h : Own b (some ⟨g, 0, none⟩) n c w) (q : Nat) (v : Value) : Own b (some ⟨g, 0, none⟩) n c (w.setCell ⟨g, q, none⟩ v) := by
  obtain ⟨xs, h1⟩ := h
  exact ⟨_, (h1.stored q v).1⟩
end Go.Proofs.Ytmhgoddlbklbfaa.Lb
