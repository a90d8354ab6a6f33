/- ProveComplete: the laws for the one region that draws its order and appends twice. -/
import Derived.Test.YtcnanbimpajonaaLc
import Derived.Deep.RegionHeld3
namespace Go.Proofs.Ytcnanbimpajonaa.Lb
open Go.RowKit Cl Co Cp Cf Cs Ce Nu Hd He Ag Kp Nd Au Ri Sn Pm Pn Po Pq Pk Az Ba Lc

theorem Bx.alloc {w : World} {c mo : C} {W : World} (h : Bx w c mo W) (o : Obj) : Bx w c mo (W.alloc o) := h.next ((Below.refl _ W).alloc (Nat.le_refl _) o)
theorem Bx.drew {w : World} {c mo : C} {W : World} (h : Bx w c mo W) : Bx w c mo W.drew := h.next (Below.refl _ W).drew
theorem Bx.big {w : World} {c mo : C} {W : World} (h : Bx w c mo W) : w.heap.size + 2 ≤ W.heap.size := by have := (Array.getElem?_eq_some_iff.1 h.b2).1; omega
theorem Bx.far {w : World} {c mo : C} {W5 W6 W7 : World} (h5 : Bx w c mo W5) (h6 : Bx w c mo W6) (hb : Below W5.heap.size W6 W7) : Bx w c mo W7 := by
  have h := Bx.big h5
  exact ⟨h6.bel.trans (hb.mono (by omega)), (hb.block _ (by omega)).trans h6.b1, (hb.block _ (by omega)).trans h6.b2⟩
theorem keepS {w : World} {c0 : Bool} {c1 c2 : Int} {m0 : Bool} {m1 m2 : Int} {W : World} (h : Bx w (c0, c1, c2) (m0, m1, m2) W) : W.cell? ⟨w.heap.size, 0, none⟩ = some (.bool c0) ∧ W.cell? ⟨w.heap.size, 1, none⟩ = some (.int .i64 c1) ∧ W.cell? ⟨w.heap.size, 2, none⟩ = some (.int .i64 c2) ∧ W.cell? ⟨w.heap.size + 1, 0, none⟩ = some (.bool m0) ∧ W.cell? ⟨w.heap.size + 1, 1, none⟩ = some (.int .i64 m1) ∧ W.cell? ⟨w.heap.size + 1, 2, none⟩ = some (.int .i64 m2) := ⟨h.a, h.b, h.c, h.d, h.e, h.f⟩

theorem lit0 (W : World) : (W.alloc (.cells #[] 24)).drew.ownsRow W.heap.size 24 3 (.slice (some ⟨W.heap.size, 0, none⟩) 0 0) 0 (ccs []) := World.ownsRow_lit W #[] 0 (Nat.le_refl _) (by unfold maxLen; omega) rfl
theorem lit1 (W : World) (o : Obj) : ((W.alloc (.cells #[] 24)).alloc o).drew.ownsRow W.heap.size 24 3 (.slice (some ⟨W.heap.size, 0, none⟩) 0 0) 0 (ccs []) := (World.ownsRow_lit W #[] 0 (Nat.le_refl _) (by unfold maxLen; omega) rfl).alloc o
theorem lit2 (W : World) (o : Obj) : ((W.alloc o).alloc (.cells #[] 24)).drew.ownsRow W.heap.size 24 3 (.slice (some ⟨W.heap.size + 1, 0, none⟩) 0 0) 0 (ccs []) := by
  have h := World.ownsRow_lit (W.alloc o) #[] (e := 24) (size := 3) (base := W.heap.size) 0 (by simp) (by unfold maxLen; omega) rfl
  have e : (W.alloc o).heap.size = W.heap.size + 1 := by simp
  rw [e] at h
  exact h
theorem below1 (W : World) (o : Obj) : Below W.heap.size W (W.alloc o).drew := ((Below.refl _ W).alloc (Nat.le_refl _) o).drew
theorem below2 (W : World) (o o' : Obj) : Below W.heap.size W ((W.alloc o).alloc o').drew := (((Below.refl _ W).alloc (Nat.le_refl _) o).alloc (by simp) o').drew
theorem heapA (W : World) (o : Obj) : (W.alloc o).heap[W.heap.size]? = some o := heap_alloc_new W o
theorem heapB (W : World) (o o' : Obj) : ((W.alloc o).alloc o').drew.heap[W.heap.size + 1]? = some o' := by
  have h := heap_alloc_new (W.alloc o) o'
  have e : (W.alloc o).heap.size = W.heap.size + 1 := by simp
  rw [e] at h
  exact h
theorem heapC (W : World) (o o' : Obj) : ((W.alloc o).alloc o').drew.heap[W.heap.size]? = some o := (Below.heap_alloc (W.alloc o) o' W.heap.size (by simp)).trans (heap_alloc_new W o)
theorem isC_at {W : World} {b : Nat} {p : C} (hg : W.heap[b]? = some (.cells #[.bool p.1, .int .i64 p.2.1, .int .i64 p.2.2] 24 (0, 0))) : IsC W (.slice (some ⟨b, 0, none⟩) 1 1) [p] := by
  refine ⟨rfl, _, 1, rfl, by simp, .inr ⟨b, 0, rfl, (Array.getElem?_eq_some_iff.1 hg).1, fun j u hu => ?_⟩⟩
  rw [Nat.zero_add, cell_of_row _ _ j _ 24 (0, 0) hg]
  simpa [ccs, cc] using hu

theorem run_grown (w : World) (base : Nat) (ty : TypeId) (v : Value) (L : List C) (hown : w.ownsRow base 24 3 v L.length (ccs L)) (x : Value) (M : List C) (hx : IsC w x M) (hb : (L.length + M.length) * 24 ≤ 140737488355328) (hbase : base ≤ w.heap.size) :
    ∃ v' w', (Builtin.append_ #[22, 22] ty #[v, x]).run Try.prog w = .ok v' w' ∧ w'.ownsRow base 24 3 v' (L ++ M).length (ccs (L ++ M)) ∧ w.grownBy w' v.ownBlock := by
  obtain ⟨i0, hi, hz0, hz1, hz2⟩ := info_parts info24
  obtain ⟨hl, a, cap, rfl, hn, hc⟩ := hx
  cases a with
  | none =>
    have e0 : M.length = 0 := by
      rcases hc with hc | ⟨b, off, hb, _⟩
      · exact hc
      · cases hb
    obtain rfl := List.length_eq_zero_iff.1 e0
    refine ⟨v, w, Cc.run_none (P := Try.prog) base 22 ty 24 i0 3 Try.underlying22 hi v _ _ hown cap, by simpa using hown, World.grownBy.refl _ _⟩
  | some ad =>
    obtain ⟨v', w', hr, h2, h3, _⟩ := run_append_own_at (P := Try.prog) w base 22 ty 24 i0 (.agg #[.bool false, .int .i64 0, .int .i64 0]) 3 24 Try.underlying22 hi hz0 hz1 hz2 rfl (by decide) v _ _ hown ad M.length cap (ccs M) hl (by
      intro j u hu
      rcases hc with hc | ⟨b, off, hb, _, hc⟩
      · obtain rfl := List.length_eq_zero_iff.1 hc
        simp [ccs] at hu
      · simp only [Option.some.injEq] at hb
        subst hb
        have hadd : (⟨b, off, none⟩ : Addr).add j = ⟨b, off + j, none⟩ := by unfold Addr.add; split <;> simp_all
        rw [hadd]
        exact hc j u hu) (Cc.ccs_one M) (by unfold maxLen; omega) hb hbase
    refine ⟨v', w', hr, ?_, h3⟩
    rw [Cc.ccs_append, List.length_append]
    exact h2

theorem step_claims {ops : Array Oper} {o : Oper} {a : Act} {w : World} {K : Act → World → Prop} {Q : Exit → Act → World → Prop} {E : Prop} (hgd : o.guard = none) (s x : Operand)
    (ho : o.op = .call { callee := .builtin .append, args := #[s, x], argTypes := #[22, 22] })
    (base : Nat) (v : Value) (L : List C) (hs : a.eval s = v) (hown : w.ownsRow base 24 3 v L.length (ccs L)) (y : Value) (M : List C) (hx : a.eval x = y) (hrow : IsC w y M) (hb : (L.length + M.length) * 24 ≤ 140737488355328) (hbase : base ≤ w.heap.size)
    (h : ∀ v' w', w'.ownsRow base 24 3 v' (L ++ M).length (ccs (L ++ M)) → w.grownBy w' v.ownBlock → K (a.put o.dst v') w') : if Region.wanted o (yielded ops a.tmps) = true then Oper.wp Try.prog o a w K Q else E := by
  rw [if_pos (by simp [Region.wanted, hgd])]
  obtain ⟨v', w', hr, h2, h3⟩ := run_grown w base o.type v L hown y M hrow hb hbase
  unfold Oper.wp
  simp [execOp, ho, resolve, invoke, builtin, hs, hx, hr, Result.andThen]
  exact h v' w' (by simpa using h2) h3

theorem step1 {ops : Array Oper} {o : Oper} {a : Act} {w w5 W : World} {c mo : C} {ps : List C} {vp : Value} {K : Act → World → Prop} {Q : Exit → Act → World → Prop} {E : Prop} (hgd : o.guard = none) (s x : Operand)
    (ho : o.op = .call { callee := .builtin .append, args := #[s, x], argTypes := #[22, 22] }) (h5 : Bx w c mo w5) (hp : IsC w vp ps) (hlb : ps.length * 24 ≤ 140737488355328) (g : Nat)
    (hs : a.eval s = .slice (some ⟨g, 0, none⟩) 0 0) (hx : a.eval x = vp) (hown : W.ownsRow w5.heap.size 24 3 (.slice (some ⟨g, 0, none⟩) 0 0) 0 (ccs [])) (hW : Below w5.heap.size w5 W)
    (h : ∀ v6 w6, w6.ownsRow w5.heap.size 24 3 v6 ps.length (ccs ps) → Bx w c mo w6 → w5.heap.size ≤ w6.heap.size → (∀ k, k < W.heap.size → k ≠ g → w6.heap[k]? = W.heap[k]?) → K (a.put o.dst v6) w6) : if Region.wanted o (yielded ops a.tmps) = true then Oper.wp Try.prog o a W K Q else E := by
  have hB : Bx w c mo W := h5.next hW
  refine step_claims hgd s x ho w5.heap.size _ [] hs hown _ ps hx (IsC.below hp hB.bel) (by rw [List.length_nil]; omega) hW.size fun v' w' h1 h2 => ?_
  have hb := Rj.below_of_grown h2 hown hW.size
  refine h v' w' (by simpa using h1) (Bx.far h5 hB hb) (Nat.le_trans hW.size h2.size) fun k hk hn => h2.block k hk ?_
  intro e
  exact hn (by simpa [Value.ownBlock] using e)

theorem step2 {ops : Array Oper} {o : Oper} {a : Act} {w w5 W : World} {c mo : C} {ps : List C} {v6 : Value} {K : Act → World → Prop} {Q : Exit → Act → World → Prop} {E : Prop} (hgd : o.guard = none) (s x : Operand)
    (ho : o.op = .call { callee := .builtin .append, args := #[s, x], argTypes := #[22, 22] }) (h5 : Bx w c mo w5) (h6 : Bx w c mo W) (hlb : (ps.length + 1) * 24 ≤ 140737488355328) (b : Nat)
    (hs : a.eval s = v6) (hx : a.eval x = .slice (some ⟨b, 0, none⟩) 1 1) (hown : W.ownsRow w5.heap.size 24 3 v6 ps.length (ccs ps)) (hz : w5.heap.size ≤ W.heap.size) (hm : W.heap[b]? = some (.cells #[.bool mo.1, .int .i64 mo.2.1, .int .i64 mo.2.2] 24 (0, 0)))
    (h : ∀ v7 w7, IsC w7 v7 (ps ++ [mo]) → Bx w c mo w7 → K (a.put o.dst v7) w7) : if Region.wanted o (yielded ops a.tmps) = true then Oper.wp Try.prog o a W K Q else E := by
  refine step_claims hgd s x ho w5.heap.size _ ps hs hown _ [mo] hx (isC_at hm) (by rw [List.length_singleton]; omega) hz fun v' w' h1 h2 => ?_
  exact h v' w' (Ri.own_isC h1 (by rw [List.length_append, List.length_singleton]; omega)) (Bx.far h5 h6 (Rj.below_of_grown h2 hown hz))
end Go.Proofs.Ytcnanbimpajonaa.Lb
