/- An append onto a row of the call's own, as one step of a region that draws, and where it lies; what is as it was but for one block. Conditions: those of the law of append. -/
import Derived.Test.YtbmgkgoghgdbhaaZz
import Derived.Deep.RegionLaw
import Derived.Maps.AppendAt
import Derived.Test.YtbmgkgoghgdbhaaTiM
namespace Go.Proofs.Ytbmgkgoghgdbhaa.Te
open Go.RowKit

theorem step_append_at {P : Program} {ops : Array Oper} {o : Oper} {a : Act} {w : World} {K : Act → World → Prop} {Q : Exit → Act → World → Prop} {E : Prop}
    (hgd : o.guard = none) (s x : Operand) (t : TypeId) (ho : o.op = .call { callee := .builtin .append, args := #[s, x], argTypes := #[t, t] })
    (base : Nat) (e : TypeId) (i : TypeInfo) (z : Value) (size bytes : Nat) (ht : P.underlying t = some (.slice e)) (hi : P.info? e = some i) (hz : i.zero = some z)
    (hsize : i.size = size) (hby : i.bytes = bytes) (hzs : z.cells.size = size) (hsz : 0 < size)
    (v : Value) (n : Nat) (xs : List Value) (hs : a.eval s = v) (hown : w.ownsRow base e size v n xs)
    (ad : Addr) (m c : Nat) (news : List Value) (hx : a.eval x = .slice (some ad) m c) (hl : news.length = m * size) (hnews : ∀ j u, news[j]? = some u → w.cell? (ad.add j) = some u) (h1 : ∀ u ∈ news, u.oneCell' = true)
    (h63 : n + m ≤ maxLen) (hbytes : (n + m) * bytes ≤ 140737488355328) (hbase : base ≤ w.heap.size)
    (h : ∀ v' w', w'.ownsRow base e size v' (n + m) (xs ++ news) → w.grownBy w' v.ownBlock → (v'.ownBlock = v.ownBlock ∨ v'.ownBlock = some w.heap.size) → K (a.put o.dst v') w') :
    if Region.wanted o (yielded ops a.tmps) = true then Oper.wp P o a w K Q else E := by
  have hw : Region.wanted o (yielded ops a.tmps) = true := by simp [Region.wanted, hgd]
  rw [if_pos hw]
  obtain ⟨v', w', hr, h2, h3, h4, h5⟩ := run_append_own_at (P := P) w base t o.type e i z size bytes ht hi hz hsize hby hzs hsz v n xs hown ad m c news hl hnews h1 h63 hbytes hbase
  unfold Oper.wp execOp
  simp only [ho, resolve, invoke, builtin, Sem.run_bind, Sem.run_pure, Result.andThen_ok, List.map_toArray, List.map_cons, List.map_nil, hs, hx, hr]
  exact h v' w' h2 h3 h5
theorem info24 : (Try.prog.info? 24).map (fun i => (i.zero, i.size, i.bytes)) = some (some (.agg #[.int .i64 0, .int .i64 0, .slice none 0 0]), 3, 40) := by kernel_rfl
theorem info_parts {t : TypeId} {z : Value} {s b : Nat} (h : (Try.prog.info? t).map (fun i => (i.zero, i.size, i.bytes)) = some (some z, s, b)) : ∃ i, Try.prog.info? t = some i ∧ i.zero = some z ∧ i.size = s ∧ i.bytes = b := by
  cases hi : Try.prog.info? t with
  | none => rw [hi] at h; cases h
  | some i =>
    rw [hi] at h
    simp only [Option.map_some, Option.some.injEq, Prod.mk.injEq] at h
    exact ⟨i, rfl, h.1, h.2.1, h.2.2⟩
def tyc (t : Ty) (a : Option Addr) (c : Nat) : List Value := [.int .i64 t.kind, .int .i64 t.n, .slice a t.kids.length c]
theorem tyc_one (t : Ty) (a : Option Addr) (c : Nat) : ∀ u ∈ tyc t a c, u.oneCell' = true := by
  intro u hu
  simp only [tyc, List.mem_cons, List.not_mem_nil, or_false] at hu
  rcases hu with rfl | rfl | rfl <;> rfl
theorem cell_one (w : World) (n : Nat) (hn : w.heap.size = n) (k m : Int) (a : Option Addr) (l c : Nat) : ∀ j u, [Value.int .i64 k, .int .i64 m, .slice a l c][j]? = some u → (w.alloc (.cells #[.int .i64 k, .int .i64 m, .slice a l c] 24)).cell? ((⟨n, 0, none⟩ : Addr).add j) = some u := by
  intro j u hu
  rw [Zz.addr_add0, ← hn, cell_of_row _ _ j _ 24 (0, 0) (heap_alloc_new w _), ← hu]
  simp
theorem own_keep {w w' : World} {base e size : Nat} {v : Value} {n : Nat} {xs : List Value} (h : w.ownsRow base e size v n xs) (hk : ∀ g cur, v.ownBlock = some g → base ≤ g → w.heap[g]? = some (.cells cur e (0, 0)) → w'.heap[g]? = w.heap[g]?) : w'.ownsRow base e size v n xs := by
  obtain ⟨h1, h | ⟨g, cap, cur, hv, hg, hh, hr⟩⟩ := h
  · exact ⟨h1, .inl h⟩
  · exact ⟨h1, .inr ⟨g, cap, cur, hv, hg, (hk g cur (by rw [hv]; rfl) hg hh).trans hh, hr⟩⟩
theorem own_below {w w' : World} {base e size : Nat} {v : Value} {n : Nat} {xs : List Value} (h : w.ownsRow base e size v n xs) (hb : Below w.heap.size w w') : w'.ownsRow base e size v n xs := own_keep h (fun g _ _ _ hh => hb.block g (Array.getElem?_eq_some_iff.1 hh).1)
/-- the first j of these types lie so in a row, all that is in them in blocks of which P holds -/
def RowOf (P : Nat → Prop) (wr : World) (d : Nat) (ks : List Ty) (j : Nat) (xs : List Value) : Prop := ∀ i (_ : i < ks.length), i < j → ∃ a' c', xs[i * 3]? = some (.int .i64 ks[i].kind) ∧ xs[i * 3 + 1]? = some (.int .i64 ks[i].n) ∧ xs[i * 3 + 2]? = some (.slice a' ks[i].kids.length c') ∧ TyP P wr d ks[i] a' c'
theorem RowOf.keep {P Q : Nat → Prop} {w w' : World} {d : Nat} {ks : List Ty} {j : Nat} {xs : List Value} (h : RowOf P w d ks j xs) (hs : w.heap.size ≤ w'.heap.size) (hk : ∀ g, g < w.heap.size → P g → Q g ∧ w'.heap[g]? = w.heap[g]?) : RowOf Q w' d ks j xs := fun i hi hj => by
  obtain ⟨a', c', h0, h1, h2, h3⟩ := h i hi hj
  exact ⟨a', c', h0, h1, h2, h3.keep hs hk⟩
theorem RowOf.push {P : Nat → Prop} {w : World} {d : Nat} {ks : List Ty} {j : Nat} {xs : List Value} (h : RowOf P w d ks j xs) (hl : xs.length = j * 3) (hj : j < ks.length) {a' : Option Addr} {c' : Nat} (ht : TyP P w d ks[j] a' c') : RowOf P w d ks (j + 1) (xs ++ tyc ks[j] a' c') := fun i hi hij => by
  by_cases e : i = j
  · subst e
    refine ⟨a', c', ?_, ?_, ?_, ht⟩
    · rw [List.getElem?_append_right (by omega), hl, Nat.sub_self]; rfl
    · rw [List.getElem?_append_right (by omega), hl, show i * 3 + 1 - i * 3 = 1 by omega]; rfl
    · rw [List.getElem?_append_right (by omega), hl, show i * 3 + 2 - i * 3 = 2 by omega]; rfl
  · obtain ⟨a2, c2, h0, h1, h2, h3⟩ := h i hi (by omega)
    exact ⟨a2, c2, by rw [List.getElem?_append_left (by omega)]; exact h0, by rw [List.getElem?_append_left (by omega)]; exact h1, by rw [List.getElem?_append_left (by omega)]; exact h2, h3⟩
/-- the row is a type's kids -/
theorem RowOf.all {P : Nat → Prop} {w : World} {d base : Nat} {k n : Int} {ks : List Ty} {xs : List Value} {x : Option Addr} {m : Nat} (h : RowOf P w d ks ks.length xs) (ho : w.ownsRow base 24 3 (.slice x ks.length m) ks.length xs) (hk : i64B k) (hn : i64B n) (hl : ks.length ≤ 140737488355328) (hP : ∀ g, x = some ⟨g, 0, none⟩ → base ≤ g → P g) : TyP P w (d + 1) ⟨k, n, ks⟩ x m := by
  refine ⟨hk, hn, hl, ?_⟩
  obtain ⟨h1, ⟨_, h0⟩ | ⟨g, cap, cur, hv, hg, hh, h2, h3, h4, h5⟩⟩ := ho
  · exact .inl h0
  · simp only [Value.slice.injEq, true_and] at hv
    obtain ⟨rfl, rfl⟩ := hv
    have ho2 : w.ownsRow base 24 3 (.slice (some ⟨g, 0, none⟩) ks.length m) ks.length xs := ⟨h1, .inr ⟨g, m, cur, rfl, hg, hh, h2, h3, h4, h5⟩⟩
    have hcell : ∀ q, q < ks.length * 3 → w.cell? ⟨g, q, none⟩ = xs[q]? := fun q hq => ho2.cellAt q hq
    refine .inr ⟨g, 0, rfl, (Array.getElem?_eq_some_iff.1 hh).1, hP g rfl hg, fun j hj => ?_⟩
    have hj' : j < ks.length := hj
    obtain ⟨a', c', q0, q1, q2, q3⟩ := h j hj' hj'
    exact ⟨a', c', by rw [Nat.zero_add, hcell _ (by omega)]; exact q0, by rw [Nat.zero_add, hcell _ (by omega)]; exact q1, by rw [Nat.zero_add, hcell _ (by omega)]; exact q2, q3⟩
theorem len_lt_sz (t : Ty) : t.kids.length < sz t := by
  rw [sz]
  have : ∀ l : List Ty, l.length ≤ (l.map sz).sum := by
    intro l
    induction l with
    | nil => simp
    | cons x l ih =>
      have : 1 ≤ sz x := by rw [sz]; omega
      simp
      omega
  have := this t.kids
  omega
theorem kid_sz {t : Ty} {j : Nat} (h : j < t.kids.length) : sz t.kids[j] < sz t := by
  have h1 := ps_succ h
  have h2 := ps_le t (j + 1)
  have h3 : 1 ≤ ps t j := by unfold ps; omega
  omega
end Go.Proofs.Ytbmgkgoghgdbhaa.Te
