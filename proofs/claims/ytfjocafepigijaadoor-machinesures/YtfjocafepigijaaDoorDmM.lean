/- The document's Sure (22): how its parts lie while the small machine is made. No conditions. -/
import Derived.Test.YtfjocafepigijaaDoorDk
import Derived.Test.YtfjocafepigijaaDoorXeM
import Derived.Deep.CutRange
namespace Go.Proofs.YtfjocafepigijaaDoor.Su
open Go.RowKit Mv Po Ps Cm

/-- the square lies, to be read -/
def Sqr (wr : World) (base ub N : Nat) (U : Nat → Nat → Bool) : Prop := ∃ (uv : List Value) (bk : Nat → Nat), wr.ownsRow base 67 1 (.slice (some ⟨ub, 0, none⟩) N N) N uv ∧ ∀ i, i < N → uv[i]? = some (.slice (some ⟨bk i, 0, none⟩) N N) ∧ wr.ownsRow base 4 1 (.slice (some ⟨bk i, 0, none⟩) N N) N (bcs (rwU N U i))
theorem Sqr.kept {wr w1 : World} {base ub N : Nat} {U : Nat → Nat → Bool} {X : Nat → Prop} (h : Sqr wr base ub N U) (hk : Kp X wr w1) (hX : ∀ b c ty, wr.heap[b]? = some (.cells c ty (0, 0)) → ty = 67 ∨ ty = 4 → ¬ X b) : Sqr w1 base ub N U := by
  obtain ⟨uv, bk, h1, h2⟩ := h
  exact ⟨uv, bk, own_kp2 h1 hk (fun b hb => by obtain ⟨d, hd⟩ := own_ty h1 hb; exact hX b d 67 hd (.inl rfl)), fun i hi => ⟨(h2 i hi).1, own_kp2 (h2 i hi).2 hk (fun b hb => by obtain ⟨d, hd⟩ := own_ty (h2 i hi).2 hb; exact hX b d 4 hd (.inr rfl))⟩⟩
theorem Sqr.at {wr : World} {base ub N : Nat} {U : Nat → Nat → Bool} (h : Sqr wr base ub N U) {i j : Nat} (hi : i < N) (hj : j < N) : ∃ rb, ub < wr.heap.size ∧ rb < wr.heap.size ∧ wr.cell? ⟨ub, i, none⟩ = some (.slice (some ⟨rb, 0, none⟩) N N) ∧ wr.cell? ⟨rb, j, none⟩ = some (.bool (U i j)) := by
  obtain ⟨uv, bk, h1, h2⟩ := h
  exact ⟨bk i, (h1.lt ub rfl).2, ((h2 i hi).2.lt (bk i) rfl).2, (h1.cellAt i (by omega)).trans (h2 i hi).1, ((h2 i hi).2.cellAt j (by omega)).trans (bcs_at (rwU_at hj))⟩
/-- the parts of the machine that is made -/
structure Sr (w wr : World) (p2 p4 p8 ub N : Nat) (vt vf vl va vg : Value) (tos : List (List (Option Nat))) (tv : List Value) (fins : List Bool) (U : Nat → Nat → Bool) (l : List Nat) (arcs : List (Int × Int × Int × Int × Int)) (fs : List (Int × Int)) : Prop where
  out : wr.heap[p2]? = some (.cells #[.int .i64 0, .slice none 0 0, .slice none 0 0] 25 (0, 0))
  tab : wr.heap[p4]? = some (.cells #[vt, vf] 97 (0, 0))
  mac : wr.heap[p8]? = some (.cells #[.int .i64 1, va, vg] 25 (0, 0))
  ne : p2 ≠ p8
  le2 : w.heap.size ≤ p2
  le8 : w.heap.size ≤ p8
  trow : wr.ownsRow w.heap.size 26 1 vt tos.length tv
  ttl : Rls wr tv tos
  frow : wr.ownsRow w.heap.size 4 1 vf fins.length (bcs fins)
  sqr : Sqr wr w.heap.size ub N U
  lrow : wr.ownsRow w.heap.size 3 1 vl l.length (ic (l.map fun (x : Nat) => (x : Int)))
  arow : wr.ownsRow w.heap.size 64 5 va arcs.length (acs arcs)
  grow : wr.ownsRow w.heap.size 66 2 vg fs.length (fcs fs)
  ap : ∀ b, vl.ownBlock = some b → ∀ v ∈ tv, v.ownBlock ≠ some b
  below : Below w.heap.size w wr
section
variable {w wr w1 : World} {p2 p4 p8 ub N : Nat} {vt vf vl va vg : Value} {tos : List (List (Option Nat))} {tv : List Value} {fins : List Bool} {U : Nat → Nat → Bool} {l : List Nat} {arcs : List (Int × Int × Int × Int × Int)} {fs : List (Int × Int)}
theorem Sr.kept {X : Nat → Prop} (h : Sr w wr p2 p4 p8 ub N vt vf vl va vg tos tv fins U l arcs fs) (hk : Kp X wr w1) (ho : ¬ X p2) (h4 : ¬ X p4) (hm : wr.heap[p8]? = some (.cells #[.int .i64 1, va, vg] 25 (0, 0)) → w1.heap[p8]? = some (.cells #[.int .i64 1, va, vg] 25 (0, 0))) (hX : ∀ b c ty, wr.heap[b]? = some (.cells c ty (0, 0)) → ty = 67 ∨ ty = 4 ∨ ty = 26 → ¬ X b) (hl : ∀ b, vl.ownBlock = some b → ¬ X b) (ha : ∀ b, va.ownBlock = some b → ¬ X b) (hg : ∀ b, vg.ownBlock = some b → ¬ X b) (htv : ∀ v ∈ tv, ∀ b, v.ownBlock = some b → ¬ X b) (hb : Below w.heap.size w w1) : Sr w w1 p2 p4 p8 ub N vt vf vl va vg tos tv fins U l arcs fs :=
  ⟨(hk.block _ (lt_at h.out) ho).trans h.out, (hk.block _ (lt_at h.tab) h4).trans h.tab, hm h.mac, h.ne, h.le2, h.le8, own_kp2 h.trow hk (fun b hb => by obtain ⟨d, hd⟩ := own_ty h.trow hb; exact hX b d 26 hd (.inr (.inr rfl))), h.ttl.kept hk htv, own_kp2 h.frow hk (fun b hb => by obtain ⟨d, hd⟩ := own_ty h.frow hb; exact hX b d 4 hd (.inr (.inl rfl))), h.sqr.kept hk (fun b c ty hb ht => hX b c ty hb (by rcases ht with h | h; exact .inl h; exact .inr (.inl h))), own_kp2 h.lrow hk hl, own_kp2 h.arow hk ha, own_kp2 h.grow hk hg, h.ap, hb⟩
theorem Sr.laid (h : Sr w wr p2 p4 p8 ub N vt vf vl va vg tos tv fins U l arcs fs) (hb : Below wr.heap.size wr w1) : Sr w w1 p2 p4 p8 ub N vt vf vl va vg tos tv fins U l arcs fs :=
  h.kept (kp_below hb (fun _ => False)) id id (fun e => (hb.block _ (lt_at h.mac)).trans e) (fun _ _ _ _ _ => id) (fun _ _ => id) (fun _ _ => id) (fun _ _ => id) (fun _ _ _ _ => id) (h.below.trans (hb.mono h.below.size))
/-- a class more -/
theorem Sr.addL {v1 : Value} {x : Nat} (h : Sr w wr p2 p4 p8 ub N vt vf vl va vg tos tv fins U l arcs fs) (ho : w1.ownsRow w.heap.size 3 1 v1 (l.length + 1) (ic (l.map fun (x : Nat) => (x : Int)) ++ [.int .i64 (x : Int)])) (hg : wr.grownBy w1 vl.ownBlock) (hl : v1.ownBlock = vl.ownBlock ∨ v1.ownBlock = some wr.heap.size) : Sr w w1 p2 p4 p8 ub N vt vf v1 va vg tos tv fins U (l ++ [x]) arcs fs := by
  have hk : Kp (fun b => vl.ownBlock = some b) wr w1 := (Kp.refl _ wr).grown hg (fun b hb _ => hb)
  have nt : ∀ {b : Nat} {d : Array Value} {ty : TypeId}, wr.heap[b]? = some (.cells d ty (0, 0)) → ty ≠ 3 → ¬ vl.ownBlock = some b := fun {b d ty} hb hne e => by
    obtain ⟨d', hd'⟩ := own_ty h.lrow e; exact ty_ne hb hd' hne
  have hb := h.below.grown hg h.below.size (fun b hb => (h.lrow.lt _ hb).1)
  refine ⟨(hk.block _ (lt_at h.out) (nt h.out (by decide))).trans h.out, (hk.block _ (lt_at h.tab) (nt h.tab (by decide))).trans h.tab, (hk.block _ (lt_at h.mac) (nt h.mac (by decide))).trans h.mac, h.ne, h.le2, h.le8, own_kp2 h.trow hk (fun b hb => by obtain ⟨d, hd⟩ := own_ty h.trow hb; exact nt hd (by decide)), h.ttl.kept hk (fun v hv b hb e => h.ap b e v hv hb), own_kp2 h.frow hk (fun b hb => by obtain ⟨d, hd⟩ := own_ty h.frow hb; exact nt hd (by decide)), h.sqr.kept hk (fun b c ty hb ht => nt hb (by rcases ht with h | h <;> subst h <;> decide)), ?_, own_kp2 h.arow hk (fun b hb => by obtain ⟨d, hd⟩ := own_ty h.arow hb; exact nt hd (by decide)), own_kp2 h.grow hk (fun b hb => by obtain ⟨d, hd⟩ := own_ty h.grow hb; exact nt hd (by decide)), fun b hb1 v hv => ?_, hb⟩
  · rw [List.length_append, show ic ((l ++ [x]).map fun (x : Nat) => (x : Int)) = ic (l.map fun (x : Nat) => (x : Int)) ++ [.int .i64 (x : Int)] by simp [ic]]
    exact ho
  · rcases hl with hl | hl
    · rw [hl] at hb1; exact h.ap b hb1 v hv
    · rw [hl] at hb1
      cases hb1
      intro e
      obtain ⟨d, hd⟩ := h.ttl.ty hv e
      have := lt_at hd
      omega
theorem Sr.macGrown {e s n : Nat} {v : Value} {xs : List Value} (h : Sr w wr p2 p4 p8 ub N vt vf vl va vg tos tv fins U l arcs fs) (hr : wr.ownsRow w.heap.size e s v n xs) (he : e ≠ 25) (hg : wr.grownBy w1 v.ownBlock) : w1.heap[p8]? = some (.cells #[.int .i64 1, va, vg] 25 (0, 0)) :=
  (hg.block p8 (lt_at h.mac) (fun e2 => by obtain ⟨d', hd'⟩ := own_ty hr e2.symm; exact ty_ne h.mac hd' (fun h => he h.symm))).trans h.mac
/-- an arc more -/
theorem Sr.addA {v1 : Value} {a : Int × Int × Int × Int × Int} (h : Sr w wr p2 p4 p8 ub N vt vf vl va vg tos tv fins U l arcs fs) (ho : w1.ownsRow w.heap.size 64 5 v1 (arcs.length + 1) (acs arcs ++ ac a)) (hg : wr.grownBy w1 va.ownBlock) : Sr w (w1.setCell ⟨p8, 1, none⟩ v1) p2 p4 p8 ub N vt vf vl v1 vg tos tv fins U l (arcs ++ [a]) fs := by
  have hk1 : Kp (fun b => b = p8 ∨ va.ownBlock = some b) wr w1 := (Kp.refl _ wr).grown hg (fun b hb _ => .inr hb)
  have hk : Kp (fun b => b = p8 ∨ va.ownBlock = some b) wr (w1.setCell ⟨p8, 1, none⟩ v1) := hk1.setCell _ _ _ (fun _ => .inl rfl)
  have nt : ∀ {b : Nat} {d : Array Value} {ty : TypeId}, wr.heap[b]? = some (.cells d ty (0, 0)) → ty ≠ 64 → ty ≠ 25 → ¬ (b = p8 ∨ va.ownBlock = some b) := fun {b d ty} hb hne h25 e => by
    rcases e with rfl | e
    · exact ty_ne hb h.mac h25
    · obtain ⟨d', hd'⟩ := own_ty h.arow e; exact ty_ne hb hd' hne
  have hm := h.macGrown h.arow (by decide) hg
  have hb := below_kp h.below hk (fun b hb e => by
    rcases e with rfl | e
    · have := h.le8; omega
    · have := (h.arow.lt b e).1; omega)
  refine ⟨(hk.block _ (lt_at h.out) (fun e => ?_)).trans h.out, (hk.block _ (lt_at h.tab) (nt h.tab (by decide) (by decide))).trans h.tab, ?_, h.ne, h.le2, h.le8, own_kp2 h.trow hk (fun b hb => by obtain ⟨d, hd⟩ := own_ty h.trow hb; exact nt hd (by decide) (by decide)), h.ttl.kept hk (fun v hv b hb => by obtain ⟨d, hd⟩ := h.ttl.ty hv hb; exact nt hd (by decide) (by decide)), own_kp2 h.frow hk (fun b hb => by obtain ⟨d, hd⟩ := own_ty h.frow hb; exact nt hd (by decide) (by decide)), h.sqr.kept hk (fun b c ty hb ht => nt hb (by rcases ht with h | h <;> subst h <;> decide) (by rcases ht with h | h <;> subst h <;> decide)), own_kp2 h.lrow hk (fun b hb => by obtain ⟨d, hd⟩ := own_ty h.lrow hb; exact nt hd (by decide) (by decide)), ?_, own_kp2 h.grow hk (fun b hb => by obtain ⟨d, hd⟩ := own_ty h.grow hb; exact nt hd (by decide) (by decide)), h.ap, hb⟩
  · rcases e with e | e
    · exact h.ne e
    · obtain ⟨d', hd'⟩ := own_ty h.arow e; exact ty_ne h.out hd' (by decide)
  · have := heap_setCell_same w1 p8 1 _ 25 v1 hm
    exact this
  · rw [List.length_append, show acs (arcs ++ [a]) = acs arcs ++ ac a by simp [acs]]
    refine own_kp2 ho (X := fun b => b = p8) ((Kp.refl _ w1).setCell _ _ _ (fun _ => rfl)) (fun b hb2 e => ?_)
    subst e
    obtain ⟨d', hd'⟩ := own_ty ho hb2
    exact ty_ne hm hd' (by decide)
/-- a final state more -/
theorem Sr.addG {v1 : Value} {f : Int × Int} (h : Sr w wr p2 p4 p8 ub N vt vf vl va vg tos tv fins U l arcs fs) (ho : w1.ownsRow w.heap.size 66 2 v1 (fs.length + 1) (fcs fs ++ fc f)) (hg : wr.grownBy w1 vg.ownBlock) : Sr w (w1.setCell ⟨p8, 2, none⟩ v1) p2 p4 p8 ub N vt vf vl va v1 tos tv fins U l arcs (fs ++ [f]) := by
  have hk1 : Kp (fun b => b = p8 ∨ vg.ownBlock = some b) wr w1 := (Kp.refl _ wr).grown hg (fun b hb _ => .inr hb)
  have hk : Kp (fun b => b = p8 ∨ vg.ownBlock = some b) wr (w1.setCell ⟨p8, 2, none⟩ v1) := hk1.setCell _ _ _ (fun _ => .inl rfl)
  have nt : ∀ {b : Nat} {d : Array Value} {ty : TypeId}, wr.heap[b]? = some (.cells d ty (0, 0)) → ty ≠ 66 → ty ≠ 25 → ¬ (b = p8 ∨ vg.ownBlock = some b) := fun {b d ty} hb hne h25 e => by
    rcases e with rfl | e
    · exact ty_ne hb h.mac h25
    · obtain ⟨d', hd'⟩ := own_ty h.grow e; exact ty_ne hb hd' hne
  have hm := h.macGrown h.grow (by decide) hg
  have hb := below_kp h.below hk (fun b hb e => by
    rcases e with rfl | e
    · have := h.le8; omega
    · have := (h.grow.lt b e).1; omega)
  refine ⟨(hk.block _ (lt_at h.out) (fun e => ?_)).trans h.out, (hk.block _ (lt_at h.tab) (nt h.tab (by decide) (by decide))).trans h.tab, ?_, h.ne, h.le2, h.le8, own_kp2 h.trow hk (fun b hb => by obtain ⟨d, hd⟩ := own_ty h.trow hb; exact nt hd (by decide) (by decide)), h.ttl.kept hk (fun v hv b hb => by obtain ⟨d, hd⟩ := h.ttl.ty hv hb; exact nt hd (by decide) (by decide)), own_kp2 h.frow hk (fun b hb => by obtain ⟨d, hd⟩ := own_ty h.frow hb; exact nt hd (by decide) (by decide)), h.sqr.kept hk (fun b c ty hb ht => nt hb (by rcases ht with h | h <;> subst h <;> decide) (by rcases ht with h | h <;> subst h <;> decide)), own_kp2 h.lrow hk (fun b hb => by obtain ⟨d, hd⟩ := own_ty h.lrow hb; exact nt hd (by decide) (by decide)), own_kp2 h.arow hk (fun b hb => by obtain ⟨d, hd⟩ := own_ty h.arow hb; exact nt hd (by decide) (by decide)), ?_, h.ap, hb⟩
  · rcases e with e | e
    · exact h.ne e
    · obtain ⟨d', hd'⟩ := own_ty h.grow e; exact ty_ne h.out hd' (by decide)
  · have := heap_setCell_same w1 p8 2 _ 25 v1 hm
    exact this
  · rw [List.length_append, show fcs (fs ++ [f]) = fcs fs ++ fc f by simp [fcs]]
    refine own_kp2 ho (X := fun b => b = p8) ((Kp.refl _ w1).setCell _ _ _ (fun _ => rfl)) (fun b hb2 e => ?_)
    subst e
    obtain ⟨d', hd'⟩ := own_ty ho hb2
    exact ty_ne hm hd' (by decide)
theorem Sr.lAt {g c : Nat} (h : Sr w wr p2 p4 p8 ub N vt vf (.slice (some ⟨g, 0, none⟩) l.length c) va vg tos tv fins U l arcs fs) {i x : Nat} (hi : l[i]? = some x) : wr.cell? ⟨g, i, none⟩ = some (.int .i64 (x : Int)) := by
  have hl := (List.getElem?_eq_some_iff.1 hi).1
  exact (h.lrow.cellAt i (by omega)).trans (ic_at (by rw [List.getElem?_map, hi]; rfl))
end
end Go.Proofs.YtfjocafepigijaaDoor.Su
/- The document's Sure (22): the small sure machine of a plain machine, or that there are too many sets. Condition: the machine is right. -/
namespace Go.Proofs.YtfjocafepigijaaDoor.Su
open Go.RowKit Mv Po Ps Cm

theorem cut_dead {T : Tb} {i c : Nat} (h : ¬ T.Live (T.to i c)) : T.cut.to i c = none := by
  unfold Tb.cut
  dsimp only
  cases e : T.to i c with
  | none => rfl
  | some x => rw [e] at h; simp [h]
theorem cut_of {T : Tb} {i c x : Nat} (h : T.to i c = some x) (hl : T.Live (some x)) : T.cut.to i c = some x := by
  unfold Tb.cut
  dsimp only
  rw [h]
  simp [hl]
theorem js_none {T : Tb} {p r c : Nat} {s : List Nat × List (Nat × Nat × Nat)} (h : T.cut.to r c = none) : js T p r s c = s := by unfold js; rw [h]
theorem js_some {T : Tb} {p r c x : Nat} {s : List Nat × List (Nat × Nat × Nat)} (h : T.cut.to r c = some x) : js T p r s c = (if wh T s.1 x = s.1.length then s.1 ++ [x] else s.1, s.2 ++ [(p, c, wh T s.1 x)]) := by unfold js; rw [h]
theorem not_live_none (T : Tb) : ¬ T.Live none := by
  rw [Tb.live_iff]
  exact fun h => h (Tb.Lk.refl T none)
theorem cell_five_new (w : World) (a b c d e : Value) (ty : TypeId) : ∀ j v, [a, b, c, d, e][j]? = some v → (w.alloc (.cells #[a, b, c, d, e] ty)).cell? ((⟨w.heap.size, 0, none⟩ : Addr).add j) = some v := by
  intro j v hj
  match j, hj with
  | 0, hj => simp at hj; subst hj; simp [Addr.add]
  | 1, hj => simp at hj; subst hj; simp [Addr.add]
  | 2, hj => simp at hj; subst hj; simp [Addr.add]
  | 3, hj => simp at hj; subst hj; simp [Addr.add]
  | 4, hj => simp at hj; subst hj; simp [Addr.add]
theorem cell_two_new (w : World) (a b : Value) (ty : TypeId) : ∀ j v, [a, b][j]? = some v → (w.alloc (.cells #[a, b] ty)).cell? ((⟨w.heap.size, 0, none⟩ : Addr).add j) = some v := by
  intro j v hj
  match j, hj with
  | 0, hj => simp at hj; subst hj; simp [Addr.add]
  | 1, hj => simp at hj; subst hj; simp [Addr.add]
theorem ac_one (a : Int × Int × Int × Int × Int) : ∀ u ∈ ac a, u.oneCell' = true := fun u hu => by
  simp [ac] at hu
  rcases hu with rfl | rfl | rfl | rfl | rfl <;> rfl
theorem fc_one (a : Int × Int) : ∀ u ∈ fc a, u.oneCell' = true := fun u hu => by
  simp [fc] at hu
  rcases hu with rfl | rfl <;> rfl
theorem own_rowN {w : World} {base e s n : Nat} {v : Value} {xs : List Value} (h : w.ownsRow base e s v n xs) (hn : n ≤ 140737488355328) : Mv.Row w v s n xs := by
  obtain ⟨a, c, hv⟩ := oslice h
  refine ⟨h.1, a, c, hv, hn, ?_⟩
  rcases Nat.eq_zero_or_pos n with h0 | h0
  · exact .inl h0
  · obtain ⟨g, cap, hv2, _, hg⟩ := own_some h h0
    rw [hv] at hv2
    rw [Value.slice.injEq] at hv2
    refine .inr ⟨g, 0, hv2.1, hg, fun j u hu => ?_⟩
    have hj : j < n * s := by have := (List.getElem?_eq_some_iff.1 hu).1; have := h.1; omega
    have hcap := h
    rw [hv, hv2.1] at hcap
    rw [Nat.zero_add]
    exact (hcap.cellAt j hj).trans hu
theorem Sr.fin {w wr : World} {p2 p4 p8 ub N m : Nat} {vt vf vl va vg : Value} {tos : List (List (Option Nat))} {tv : List Value} {fins : List Bool} {U : Nat → Nat → Bool} {l : List Nat} {arcs : List (Int × Int × Int × Int × Int)} {fs : List (Int × Int)} (h : Sr w wr p2 p4 p8 ub N vt vf vl va vg tos tv fins U l arcs fs) (ha : arcs.length ≤ 100000) (hf : fs.length ≤ 100000) :
    (wr.setCell ⟨p8, 0, none⟩ (.int .i64 (m : Int))).heap[p2]? = some (.cells #[.int .i64 0, .slice none 0 0, .slice none 0 0] 25 (0, 0)) ∧ (wr.setCell ⟨p8, 0, none⟩ (.int .i64 (m : Int))).heap[p8]? = some (.cells #[.int .i64 (m : Int), va, vg] 25 (0, 0)) ∧ Below w.heap.size w (wr.setCell ⟨p8, 0, none⟩ (.int .i64 (m : Int))) ∧ ∀ W, Kp (fun b => b = p2) (wr.setCell ⟨p8, 0, none⟩ (.int .i64 (m : Int))) W → IsM W (.agg #[.int .i64 (m : Int), va, vg]) ⟨(m : Int), arcs, fs⟩ := by
  have hk : Kp (fun b => b = p8) wr (wr.setCell ⟨p8, 0, none⟩ (.int .i64 (m : Int))) := (Kp.refl _ wr).setCell _ _ _ (fun _ => rfl)
  have n8 : ∀ {b : Nat} {d : Array Value} {ty : TypeId}, wr.heap[b]? = some (.cells d ty (0, 0)) → ty ≠ 25 → ¬ b = p8 := fun {b d ty} hb hne e => by subst e; exact ty_ne hb h.mac hne
  have hx := (hk.block _ (lt_at h.out) h.ne).trans h.out
  have hr1 := own_kp2 h.arow hk (fun b hb => by obtain ⟨d, hd⟩ := own_ty h.arow hb; exact n8 hd (by decide))
  have hr2 := own_kp2 h.grow hk (fun b hb => by obtain ⟨d, hd⟩ := own_ty h.grow hb; exact n8 hd (by decide))
  refine ⟨hx, heap_setCell_same wr p8 0 _ 25 _ h.mac, below_kp h.below hk (fun b hb e => by have := h.le8; omega), fun W hW => ⟨va, vg, rfl, ?_, ?_⟩⟩
  · exact own_rowN (own_kp2 hr1 hW (fun b hb e => by subst e; obtain ⟨d, hd⟩ := own_ty hr1 hb; exact ty_ne hd hx (by decide))) (by show _ ≤ _; first | exact Nat.le_trans ha (by decide) | exact Nat.le_trans hf (by decide))
  · exact own_rowN (own_kp2 hr2 hW (fun b hb e => by subst e; obtain ⟨d, hd⟩ := own_ty hr2 hb; exact ty_ne hd hx (by decide))) (by show _ ≤ _; first | exact Nat.le_trans ha (by decide) | exact Nat.le_trans hf (by decide))
/-- what Sure hands back -/
def SuQ (S : Nat) (A : List (Int × Int × Int × Int × Int)) (F : List (Int × Int)) (w : World) (e : Ending) (w' : World) : Prop :=
  ∃ (st : Int) (a1 : Option Addr) (n1 c1 : Nat) (a2 : Option Addr) (n2 c2 : Nat) (ok : Bool), e = .returned (.tuple #[.agg #[.int .i64 st, .slice a1 n1 c1, .slice a2 n2 c2], .bool ok]) ∧ Below w.heap.size w w' ∧ ((ok = true ∧ ∃ n m, Done S A n ∧ IsSure (tbl S A F n) m ∧ IsM w' (.agg #[.int .i64 st, .slice a1 n1 c1, .slice a2 n2 c2]) m) ∨ (ok = false ∧ Many S A))
theorem row25 : (Tryd.prog.info? 25).map (·.size) = some 3 := by kernel_rfl
theorem inf64 : (Tryd.prog.info? 64).map (fun i => (i.zero, i.size, i.bytes)) = some (some (.agg #[.int .i64 0, .int .i64 0, .int .i64 0, .int .i64 0, .int .i64 0]), 5, 40) := by kernel_rfl
theorem inf66 : (Tryd.prog.info? 66).map (fun i => (i.zero, i.size, i.bytes)) = some (some (.agg #[.int .i64 0, .int .i64 0]), 2, 16) := by kernel_rfl
theorem ret25 {w wr : World} {p2 : Nat} {a b c x y z : Value} (h : wr.heap[p2]? = some (.cells #[a, b, c] 25 (0, 0))) (hb : Below w.heap.size w wr) (hp : w.heap.size ≤ p2) :
    (((wr.setCell ⟨p2, 0, none⟩ x).setCell ⟨p2, 1, none⟩ y).setCell ⟨p2, 2, none⟩ z).heap[p2]? = some (.cells #[x, y, z] 25 (0, 0)) ∧ Below w.heap.size w (((wr.setCell ⟨p2, 0, none⟩ x).setCell ⟨p2, 1, none⟩ y).setCell ⟨p2, 2, none⟩ z) := by
  have hk0 : Kp (fun b => b = p2) wr (wr.setCell ⟨p2, 0, none⟩ x) := (Kp.refl _ wr).setCell _ _ _ (fun _ => rfl)
  have hk1 : Kp (fun b => b = p2) wr ((wr.setCell ⟨p2, 0, none⟩ x).setCell ⟨p2, 1, none⟩ y) := hk0.setCell _ _ _ (fun _ => rfl)
  have hk : Kp (fun b => b = p2) wr (((wr.setCell ⟨p2, 0, none⟩ x).setCell ⟨p2, 1, none⟩ y).setCell ⟨p2, 2, none⟩ z) := hk1.setCell _ _ _ (fun _ => rfl)
  exact ⟨heap_setCell_same _ p2 2 _ 25 z (heap_setCell_same _ p2 1 _ 25 y (heap_setCell_same wr p2 0 _ 25 x h)), below_kp hb hk (fun b hb e => by omega)⟩
set_option maxHeartbeats 8000000 in
set_option maxRecDepth 100000 in
theorem sure_doc (S : Nat) (A : List (Int × Int × Int × Int × Int)) (F : List (Int × Int)) (aa af : Option Addr) (ca cf : Nat) (w : World) (hG : Gd S A) (hA : Mv.Row w (.slice aa A.length ca) 5 A.length (acs A)) (hF : Mv.Row w (.slice af F.length cf) 2 F.length (fcs F)) (hf : ∀ k (h : k < F.length), finB (S : Int) F[k] = true) :
    Calls Tryd.prog 22 #[.agg #[.int .i64 (S : Int), .slice aa A.length ca, .slice af F.length cf]] w (SuQ S A F w) := by
  obtain ⟨i3, hi3, hx0', hx1', hx2'⟩ := info_parts inf3'
  obtain ⟨i64, hi64, hy0, hy1, hy2⟩ := info_parts inf64
  obtain ⟨i66, hi66, hz0, hz1, hz2⟩ := info_parts inf66
  obtain ⟨O1, hO1⟩ : ∃ O1 : Obj, Obj.cells #[.int .i64 (S : Int), .slice aa A.length ca, .slice af F.length cf] 25 = O1 := ⟨_, rfl⟩
  obtain ⟨W0, hW0⟩ : ∃ W0, (w.alloc O1).alloc (.cells #[.int .i64 0, .slice none 0 0, .slice none 0 0] 25) = W0 := ⟨_, rfl⟩
  have HALL : Hid (Gd S A ∧ Mv.Row w (.slice aa A.length ca) 5 A.length (acs A) ∧ Mv.Row w (.slice af F.length cf) 2 F.length (fcs F) ∧ ∀ k (h : k < F.length), finB (S : Int) F[k] = true) := ⟨hG, hA, hF, hf⟩
  have s1 : (w.alloc O1).heap.size = w.heap.size + 1 := by simp
  have B1 := below_al w O1
  have B0 : Below w.heap.size w W0 := by rw [← hW0]; exact B1.alloc B1.size _
  have x1 : W0.heap[w.heap.size]? = some (.cells #[.int .i64 (S : Int), .slice aa A.length ca, .slice af F.length cf] 25 (0, 0)) := by
    rw [← hW0, heap_alloc_old _ _ (by rw [s1]; omega), ← hO1]
    exact heap_alloc_new _ _
  have x2 : W0.heap[w.heap.size + 1]? = some (.cells #[.int .i64 0, .slice none 0 0, .slice none 0 0] 25 (0, 0)) := by
    rw [← hW0, ← s1]
    exact heap_alloc_new _ _
  have HX0 : Hid (W0.heap[w.heap.size + 1]? = some (.cells #[.int .i64 0, .slice none 0 0, .slice none 0 0] 25 (0, 0)) ∧ Below w.heap.size w W0) := ⟨x2, B0⟩
  have b0 := cell_of_row _ _ 0 _ _ _ x1
  have b1 := cell_of_row _ _ 1 _ _ _ x1
  have b2 := cell_of_row _ _ 2 _ _ _ x1
  have K51 := tableOf_any S A F aa af ca cf W0 hG (hA.below B0) (hF.below B0) hf
  clear hG hA hF hf B1 B0 x1 x2
  go_enter Tryd.func22, Tryd.ntmps22
  go_upto_region 2 with (go_at_call 51; (with_reducible refine K51.mono ?_); clear K51; rintro e w1 ⟨tat, tn, tct, taf, tfn, tcf, ok, rfl, hb1, hor⟩; have HT1 : Hid (Below W0.heap.size W0 w1 ∧ ((ok = true ∧ ∃ n, Done S A n ∧ Tl w1 W0.heap.size (.slice tat tn tct) (.slice taf tfn tcf) (tab S A n).2 ((tab S A n).1.map (fi F))) ∨ (ok = false ∧ Many S A))) := ⟨hb1, hor⟩; clear hb1 hor)
  clear b0 b1 b2
  obtain ⟨p2, hp2⟩ : ∃ p, w.heap.size + 1 = p := ⟨_, rfl⟩
  obtain ⟨p1, hp1⟩ : ∃ p, w.heap.size = p := ⟨_, rfl⟩
  rw [hp2] at HX0
  have HPP : Hid (w.heap.size ≤ p2) := by show _ ≤ _; omega
  rw [hp2, hp1]
  have HB1 : Hid (Below w.heap.size w w1) := HX0.out.2.trans (HT1.out.1.mono HX0.out.2.size)
  have hx1 : w1.heap[p2]? = some (.cells #[.int .i64 0, .slice none 0 0, .slice none 0 0] 25 (0, 0)) := (HT1.out.1.block _ (lt_at HX0.out.1)).trans HX0.out.1
  have HW2 : Hid ((w1.alloc (.cells #[.slice tat tn tct, .slice taf tfn tcf] 97)).heap[p2]? = some (.cells #[.int .i64 0, .slice none 0 0, .slice none 0 0] 25 (0, 0)) ∧ (w1.alloc (.cells #[.slice tat tn tct, .slice taf tfn tcf] 97)).heap[w1.heap.size]? = some (.cells #[.slice tat tn tct, .slice taf tfn tcf] 97 (0, 0)) ∧ Below w.heap.size w (w1.alloc (.cells #[.slice tat tn tct, .slice taf tfn tcf] 97)) ∧ Below w1.heap.size w1 (w1.alloc (.cells #[.slice tat tn tct, .slice taf tfn tcf] 97)) ∧ w1.heap.size < (w1.alloc (.cells #[.slice tat tn tct, .slice taf tfn tcf] 97)).heap.size) := ⟨(heap_alloc_old _ _ (lt_at hx1)).trans hx1, heap_alloc_new _ _, HB1.out.alloc HB1.out.size _, below_al _ _, by simp⟩
  clear hx1 hp2 hp1 hO1 hW0 s1 HB1
  generalize hW2 : w1.alloc (.cells #[.slice tat tn tct, .slice taf tfn tcf] 97) = W2 at *
  obtain ⟨p4, hp4⟩ : ∃ p, w1.heap.size = p := ⟨_, rfl⟩
  have HW2b : Hid (W2.heap[p2]? = some (.cells #[.int .i64 0, .slice none 0 0, .slice none 0 0] 25 (0, 0)) ∧ W2.heap[p4]? = some (.cells #[.slice tat tn tct, .slice taf tfn tcf] 97 (0, 0)) ∧ Below w.heap.size w W2 ∧ Below w1.heap.size w1 W2) := ⟨HW2.out.1, by rw [← hp4]; exact HW2.out.2.1, HW2.out.2.2.1, HW2.out.2.2.2.1⟩
  rw [hp4]
  clear hW2 hp4 HW2
  cases ok with
  | false =>
    have HM : Hid (Many S A) := by
      rcases HT1.out.2 with ⟨h, _⟩ | ⟨_, h⟩
      · cases h
      · exact h
    have z0 := cell_of_row _ _ 0 _ _ _ HW2b.out.1
    have z1 := cell_of_row _ _ 1 _ _ _ HW2b.out.1
    have z2 := cell_of_row _ _ 2 _ _ _ HW2b.out.1
    have f0 := frozen_of_row _ _ 0 _ _ HW2b.out.1
    have f1 := frozen_of_row _ _ 1 _ _ HW2b.out.1
    have f2 := frozen_of_row _ _ 2 _ _ HW2b.out.1
    go_wp2
    have hr := ret25 (x := .int .i64 0) (y := .slice none 0 0) (z := .slice none 0 0) HW2b.out.1 HW2b.out.2.2.1 HPP.out
    exact bodyPost_ret (results_row_tmp rfl _ _ p2 25 _ (0, 0) _ rfl hr.1 Tryd.underlying25 rfl row25) rfl ⟨_, _, _, _, _, _, _, false, rfl, hr.2, .inr ⟨rfl, HM.out⟩⟩
  | true =>
    obtain ⟨n, hD, hTl⟩ : ∃ n, Done S A n ∧ Tl w1 W0.heap.size (.slice tat tn tct) (.slice taf tfn tcf) (tab S A n).2 ((tab S A n).1.map (fi F)) := by
      rcases HT1.out.2 with ⟨_, h⟩ | ⟨h, _⟩
      · exact h
      · cases h
    obtain ⟨tos, htos⟩ : ∃ l, (tab S A n).2 = l := ⟨_, rfl⟩
    obtain ⟨fins, hfins⟩ : ∃ l, (tab S A n).1.map (fi F) = l := ⟨_, rfl⟩
    have HTT : Hid (tbl S A F n = tbo tos fins) := by show _ = _; rw [← htos, ← hfins, tbo_tbl]
    have hlt : tos.length = n := by rw [← htos]; exact tab_len S A n
    have hlf : fins.length = n := by rw [← hfins, List.length_map]; exact hD.len
    rw [htos, hfins] at hTl
    have HD : Hid (Done S A n) := hD
    have hn5 := hD.few
    have hn1 : 0 < n := by
      have h1 := (tab_pre S A 0 n (Nat.zero_le _)).length_le
      rw [hD.len] at h1
      exact h1
    have hOK : (tbo tos fins).Ok := by rw [← HTT.out]; exact tbl_ok hD
    obtain ⟨_, _, e1⟩ := oslice hTl.rows.choose_spec.1
    rw [Value.slice.injEq, hlt] at e1
    have e1n : n = tn := e1.2.1.symm
    subst e1n
    obtain ⟨_, _, e2⟩ := oslice hTl.fin
    rw [Value.slice.injEq, hlf] at e2
    have e2n : n = tfn := e2.2.1.symm
    subst e2n
    have hTl2 := hTl.below HW2b.out.2.2.2
    have K52 := unlike_any W0.heap.size n tct tcf tat taf tos fins W2 hTl2 hlt hlf hn5 hOK
    have d0 := cell_of_row _ _ 0 _ _ _ HW2b.out.2.1
    have d1 := cell_of_row _ _ 1 _ _ _ HW2b.out.2.1
    obtain ⟨N, hN⟩ : ∃ N, n + 1 = N := ⟨_, rfl⟩
    rw [hN] at K52
    have HN : Hid (n + 1 = N) := hN
    have HLT : Hid (tos.length = n ∧ fins.length = n ∧ (tbo tos fins).Ok ∧ Tl W2 W0.heap.size (.slice tat n tct) (.slice taf n tcf) tos fins) := ⟨hlt, hlf, hOK, hTl2⟩
    clear hD hTl htos hfins hlt hlf hOK e1 e2 hTl2 hN
    go_upto_region 5 with (go_at_call 52; (with_reducible refine K52.mono ?_); clear K52; rintro e w3 ⟨ub, uv, bk, U, rfl, hb3, hh3, hr3, hu3⟩; have HU3 : Hid (Below W2.heap.size W2 w3 ∧ Sqr w3 W2.heap.size ub N U ∧ ∀ i j, i ≤ n → j ≤ n → (U i j = true ↔ ¬ (tbo tos fins).Lk (stt n i) (stt n j))) := ⟨hb3, ⟨uv, bk, hh3, hr3⟩, hu3⟩; have x3 := (hb3.block p4 (lt_at HW2b.out.2.1)).trans HW2b.out.2.1; have y0 := cell_of_row _ _ 0 _ _ _ x3; clear hb3 hh3 hr3 hu3 x3)
    clear d0 d1
    go_upto_region 7 with fail
    clear y0
    have HSR : Hid (∃ tv p8, w3.heap.size = p8 ∧ Sr w (w3.alloc (.cells #[.int .i64 1, .slice none 0 0, .slice none 0 0] 25)) p2 p4 p8 ub N (.slice tat n tct) (.slice taf n tcf) (.slice none 0 0) (.slice none 0 0) (.slice none 0 0) tos tv fins U [] [] []) := by
      have hb := HU3.out.1
      have hba := below_al w3 (.cells #[.int .i64 1, .slice none 0 0, .slice none 0 0] 25)
      have hbt := hb.trans (hba.mono hb.size)
      obtain ⟨tv, ht1, ht2⟩ := HLT.out.2.2.2.rows
      have ht3 := HLT.out.2.2.2.fin
      have hW0 : w.heap.size ≤ W0.heap.size := HX0.out.2.size
      have hW2 : w.heap.size ≤ W2.heap.size := HW2b.out.2.2.1.size
      have k0 := kp_below hbt (fun _ => False)
      obtain ⟨uv, bk, hs1, hs2⟩ := HU3.out.2.1
      refine ⟨tv, _, rfl, (hbt.block _ (lt_at HW2b.out.1)).trans HW2b.out.1, (hbt.block _ (lt_at HW2b.out.2.1)).trans HW2b.out.2.1, heap_alloc_new _ _, ?_, HPP.out, Nat.le_trans hW2 hb.size, own_le (own_kp2 ht1 k0 (fun _ _ => id)) hW0, ht2.kept k0 (fun _ _ _ _ => id), own_le (own_kp2 ht3 k0 (fun _ _ => id)) hW0, ⟨uv, bk, own_le (own_kp2 hs1 (kp_below hba (fun _ => False)) (fun _ _ => id)) hW2, fun i hi => ⟨(hs2 i hi).1, own_le (own_kp2 (hs2 i hi).2 (kp_below hba (fun _ => False)) (fun _ _ => id)) hW2⟩⟩, World.ownsRow_nil _ _ _ _, World.ownsRow_nil _ _ _ _, World.ownsRow_nil _ _ _ _, fun b hb => (by cases hb), HW2b.out.2.2.1.trans (hbt.mono HW2b.out.2.2.1.size)⟩
      have h1 := lt_at ((hb.block _ (lt_at HW2b.out.1)).trans HW2b.out.1)
      omega
    generalize w3.alloc (.cells #[.int .i64 1, .slice none 0 0, .slice none 0 0] 25) = W5 at *
    obtain ⟨tv, p8, hp8, hsr⟩ := HSR.out
    rw [hp8]
    have HS0 : Hid (Sr w W5 p2 p4 p8 ub N (.slice tat n tct) (.slice taf n tcf) (.slice none 0 0) (.slice none 0 0) (.slice none 0 0) tos tv fins U [] [] []) := hsr
    clear HSR hp8 hsr
    obtain ⟨T, hT⟩ : ∃ T, tbo tos fins = T := ⟨_, rfl⟩
    have HTE : Hid (tbl S A F n = T ∧ T.n = n ∧ T.Ok ∧ tbo tos fins = T) := ⟨HTT.out.trans hT, by rw [← hT]; exact HLT.out.1, by rw [← hT]; exact HLT.out.2.2.1, hT⟩
    have HUU : Hid (∀ i j, i ≤ n → j ≤ n → (U i j = true ↔ ¬ T.Lk (stt n i) (stt n j))) := by rw [← hT]; exact HU3.out.2.2
    have hN0 : 0 < N := by have := HN.out; omega
    have hnN : n < N := by have := HN.out; omega
    obtain ⟨rb0, _, _, r0, r1⟩ := HS0.out.sqr.at hN0 hnN
    obtain ⟨x, hx⟩ : ∃ x, U 0 n = x := ⟨_, rfl⟩
    rw [hx] at r1
    have HX : Hid (U 0 n = x) := hx
    have hn0i : (0 : Int) ≤ (n : Int) := by omega
    clear hT hx HU3 HTT
    have HLV : Hid (x = true ↔ T.Live (some 0)) := by
      have h := HUU.out 0 n (Nat.zero_le _) (Nat.le_refl _)
      rw [HX.out, stt_lt hn1, stt_n, ← Tb.live_iff] at h
      exact h
    cases x with
    | false =>
      have c0 := cell_of_row _ _ 0 _ _ _ HS0.out.mac
      have c1 := cell_of_row _ _ 1 _ _ _ HS0.out.mac
      have c2 := cell_of_row _ _ 2 _ _ _ HS0.out.mac
      have z0 := cell_of_row _ _ 0 _ _ _ HS0.out.out
      have z1 := cell_of_row _ _ 1 _ _ _ HS0.out.out
      have z2 := cell_of_row _ _ 2 _ _ _ HS0.out.out
      have f0 := frozen_of_row _ _ 0 _ _ HS0.out.out
      have f1 := frozen_of_row _ _ 1 _ _ HS0.out.out
      have f2 := frozen_of_row _ _ 2 _ _ HS0.out.out
      have HND : Hid (¬ T.Live (some 0)) := fun h => by have := HLV.out.2 h; cases this
      go_wp2
      have hr := ret25 (x := .int .i64 1) (y := .slice none 0 0) (z := .slice none 0 0) HS0.out.out HS0.out.below HPP.out
      exact bodyPost_ret (results_row_tmp rfl _ _ p2 25 _ (0, 0) _ rfl hr.1 Tryd.underlying25 rfl row25) rfl ⟨_, _, _, _, _, _, _, true, rfl, hr.2, .inl ⟨rfl, n, ⟨1, [], []⟩, HD.out, .inl ⟨by rw [HTE.out.1]; exact HND.out, rfl⟩, _, _, rfl, ⟨rfl, none, 0, rfl, Nat.zero_le _, .inl rfl⟩, ⟨rfl, none, 0, rfl, Nat.zero_le _, .inl rfl⟩⟩⟩
    | true =>
      have HLI : Hid (T.Live (some 0)) := HLV.out.1 rfl
      have HS1 : Hid (Sr w (W5.alloc (.cells #[.int .i64 0] 3)) p2 p4 p8 ub N (.slice tat n tct) (.slice taf n tcf) (.slice (some ⟨W5.heap.size, 0, none⟩) 1 1) (.slice none 0 0) (.slice none 0 0) tos tv fins U (jn T 0).1 ((jn T 0).2.map arcOf) ((jf T (jn T 0).1 0).map finOf)) := by
        have h := HS0.out.laid (below_al W5 (.cells #[.int .i64 0] 3))
        exact ⟨h.out, h.tab, h.mac, h.ne, h.le2, h.le8, h.trow, h.ttl, h.frow, h.sqr, own_nil_new W5 (.int .i64 0) w.heap.size 3 HS0.out.below.size, h.arow, h.grow, fun b hb v hv e => by
          have e2 : some W5.heap.size = some b := hb
          have e3 : W5.heap.size = b := by simpa using e2
          obtain ⟨d, hd⟩ := HS0.out.ttl.ty hv e
          have := lt_at hd
          omega, h.below⟩
      go_upto_region 11 with fail
      clear r0 r1 HS0 HLV HX
      generalize hW6 : W5.alloc (.cells #[.int .i64 0] 3) = W6 at *
      clear hW6
      have hTn1 : 0 < T.n := by rw [HTE.out.2.1]; exact hn1
      have HRW : Hid (∀ k, Rows T (jn T k).1) := fun k => jn_rows HTE.out.2.2.1 hTn1 k
      go_loopw [9, 10] (fun a b wr => ∃ (k : Nat) (vl va vg : Value), a = vl ∧ b = .int .i64 (k : Int) ∧ Sr w wr p2 p4 p8 ub N (.slice tat n tct) (.slice taf n tcf) vl va vg tos tv fins U (jn T k).1 ((jn T k).2.map arcOf) ((jf T (jn T k).1 k).map finOf) ∧ JAt T k) (fun _ b _ => 600 - (intOf b).toNat)
      case atStart => exact ⟨0, _, _, _, rfl, rfl, HS1.out, fun i hi => absurd hi (Nat.not_lt_zero i)⟩
      case round =>
        clear HS1
        obtain ⟨k, vl, va, vg, rfl, rfl, hsr, hat⟩ := hrel
        obtain ⟨L, hL⟩ : ∃ L, (jn T k).1 = L := ⟨_, rfl⟩
        obtain ⟨AR, hAR⟩ : ∃ L, (jn T k).2 = L := ⟨_, rfl⟩
        have HJ : Hid ((jn T k).1 = L ∧ (jn T k).2 = AR) := ⟨hL, hAR⟩
        obtain ⟨an1, han1⟩ : ∃ a, (AR.map arcOf).length = a := ⟨_, rfl⟩
        have HAT : Hid (JAt T k) := hat
        rw [hL, hAR] at hsr
        obtain ⟨al, cl, rfl⟩ := oslice hsr.lrow
        obtain ⟨aA, cA, rfl⟩ := oslice hsr.arow
        obtain ⟨aG, cG, rfl⟩ := oslice hsr.grow
        obtain ⟨m, hm⟩ : ∃ m, L.length = m := ⟨_, rfl⟩
        have HM : Hid (L.length = m) := hm
        have hmn : m ≤ n := by
          have h := (HRW.out k).len
          rw [hL, HTE.out.2.1] at h
          omega
        have hkm : k ≤ m := by have h := hat.le; rw [hL, hm] at h; exact h
        obtain ⟨fs, hfs⟩ : ∃ l, (jf T L k).map finOf = l := ⟨_, rfl⟩
        have HFS : Hid ((jf T L k).map finOf = fs ∧ fs.length ≤ 600) := ⟨hfs, by rw [← hfs, List.length_map]; have := jf_len T L k; omega⟩
        have HAL : Hid (AR.length ≤ 60 * k) := by have h := jn_arcs T k; rw [hAR] at h; exact h
        rw [hfs] at hsr
        have HS : Hid (Sr w wr p2 p4 p8 ub N (.slice tat n tct) (.slice taf n tcf) (.slice al m cl) (.slice aA an1 cA) (.slice aG fs.length cG) tos tv fins U L (AR.map arcOf) fs) := by have h := hsr; rw [hm, han1] at h; exact h
        rw [hm]
        clear hsr hat hL hAR hm hfs han1
        by_cases hlt : k < m
        · obtain ⟨r, hr⟩ : ∃ r, L[k]? = some r := ⟨_, List.getElem?_eq_getElem (by rw [HM.out]; exact hlt)⟩
          have hrn : r < n := by
            have h := (HRW.out k).1 r (by rw [HJ.out.1]; exact List.mem_of_getElem? hr)
            rw [HTE.out.2.1] at h
            exact h
          have HR : Hid (L[k]? = some r ∧ (jn T k).1.getD k 0 = r) := ⟨hr, by rw [HJ.out.1]; exact getD_some hr⟩
          obtain ⟨s0, hs0⟩ : ∃ s, jn T k = s := ⟨_, rfl⟩
          have HS2 : Hid (Sr w wr p2 p4 p8 ub N (.slice tat n tct) (.slice taf n tcf) (.slice al m cl) (.slice aA an1 cA) (.slice aG fs.length cG) tos tv fins U (jr T k r s0 0).1 ((jr T k r s0 0).2.map arcOf) fs) := by have h := HS.out; rw [← HJ.out.1, ← HJ.out.2, hs0] at h; exact h
          have HJ0 : Hid (jn T k = s0) := hs0
          clear hr hs0
          go_upto_region 14 with fail
          clear HS
          go_loopw [9, 11] (fun a c wx => ∃ (y cc : Nat) (vl va : Value), a = vl ∧ c = .int .i64 (cc : Int) ∧ cc = y + 1 ∧ y ≤ 60 ∧ Sr w wx p2 p4 p8 ub N (.slice tat n tct) (.slice taf n tcf) vl va (.slice aG fs.length cG) tos tv fins U (jr T k r s0 y).1 ((jr T k r s0 y).2.map arcOf) fs) (fun _ c _ => 62 - (intOf c).toNat)
          case atStart => exact ⟨0, 1, _, _, rfl, rfl, rfl, by omega, HS2.out⟩
          case round =>
            clear HS2
            obtain ⟨y, cc, vl, va, rfl, rfl, hcc, hy, hsr⟩ := hrel
            obtain ⟨al2, cl2, rfl⟩ := oslice hsr.lrow
            obtain ⟨aA2, cA2, rfl⟩ := oslice hsr.arow
            obtain ⟨L2, hL2⟩ : ∃ L, (jr T k r s0 y).1 = L := ⟨_, rfl⟩
            obtain ⟨AR2, hAR2⟩ : ∃ L, (jr T k r s0 y).2 = L := ⟨_, rfl⟩
            have HJ2 : Hid ((jr T k r s0 y).1 = L2 ∧ (jr T k r s0 y).2 = AR2) := ⟨hL2, hAR2⟩
            obtain ⟨a2, ha2⟩ : ∃ a, (AR2.map arcOf).length = a := ⟨_, rfl⟩
            have HAA : Hid ((AR2.map arcOf).length = a2) := ha2
            have HRW2 : Hid (Rows T L2) := by
              rw [← hL2, ← HJ0.out]
              exact jr_rows HTE.out.2.2.1 (HRW.out k) (by rw [HTE.out.2.1]; exact hrn) y
            obtain ⟨m2, hm2⟩ : ∃ m, L2.length = m := ⟨_, rfl⟩
            have HM2 : Hid (L2.length = m2) := hm2
            have hm2n : m2 ≤ n := by have h := HRW2.out.len; rw [HTE.out.2.1] at h; omega
            have hrl2 : L2[k]? = some r := by
              rw [← hL2]
              exact pre_at (jr_pre T k r s0 0 y (Nat.zero_le _)) (by rw [← HJ0.out]; show (jn T k).1[k]? = some r; rw [HJ.out.1]; exact HR.out.1)
            have hkm2 : k < m2 := by rw [← hm2]; exact (List.getElem?_eq_some_iff.1 hrl2).1
            have HA2 : Hid (AR2.length ≤ 60 * 500 + 60) := by
              have h1 := jr_arcs T k r s0 y
              rw [hAR2, ← HJ0.out, HJ.out.2] at h1
              have h2 := HAL.out
              show _ ≤ _
              omega
            rw [hL2, hAR2] at hsr
            rw [hL2, hm2]
            have HS : Hid (Sr w wr p2 p4 p8 ub N (.slice tat n tct) (.slice taf n tcf) (.slice al2 m2 cl2) (.slice aA2 a2 cA2) (.slice aG fs.length cG) tos tv fins U L2 (AR2.map arcOf) fs) := by have h := hsr; rw [hm2, ha2] at h; exact h
            have HAN : Hid (a2 ≤ 60 * 500 + 60) := by have h := HA2.out; show _ ≤ _; rw [← HAA.out, List.length_map]; exact h
            have HCC : Hid (cc = y + 1) := hcc
            have HRL : Hid (L2[k]? = some r) := hrl2
            have hcb : cc ≤ 61 := by omega
            clear hsr hL2 hAR2 hm2 hrl2 ha2
            by_cases hy60 : y < 60
            · have hc60 : (cc : Int) ≤ 60 := by omega
              have hc1 : 1 ≤ cc ∧ cc ≤ 60 := by omega
              clear hcc
              have hlrow := HS.out.lrow
              rw [HM2.out] at hlrow
              obtain ⟨lg, lc, hle, _, _⟩ := own_some hlrow (by omega)
              rw [Value.slice.injEq] at hle
              obtain ⟨ha1, _, ha2⟩ := hle
              subst ha1 ha2
              clear hlrow
              obtain ⟨o, ho⟩ : ∃ o, T.to r cc = o := ⟨_, rfl⟩
              have hTl : Tl wr w.heap.size (.slice tat tos.length tct) (.slice taf n tcf) tos fins := by rw [HLT.out.1]; exact ⟨⟨tv, HS.out.trow, HS.out.ttl⟩, HS.out.frow⟩
              obtain ⟨tb, rb, rc, htat, htb, hrb, e0, e1⟩ := hTl.at (i := r) (c := cc) (by rw [HLT.out.1]; exact hrn) hc1
              subst htat
              rw [HTE.out.2.2.2, ho] at e1
              have HO : Hid (T.to r cc = o) := ho
              have hcc0 : (0 : Int) ≤ (cc : Int) := by omega
              have hr0 : (0 : Int) ≤ (r : Int) := by omega
              clear hTl ho
              go_upto_region 16 with fail
              go_cut [12] from 47 to 57 (fun s wx => s = .int .i64 (enc o) ∧ Below wr.heap.size wr wx)
              case first =>
                have f1 := fun p : After wr => cell_of_row _ _ 0 _ _ _ (HS.out.laid p.h).tab
                have f2 : ∀ p : After wr, p.W.cell? ⟨lg, k, none⟩ = some (.int .i64 (r : Int)) := fun p => by
                  have h := HS.out.laid p.h
                  rw [← HM2.out] at h
                  exact h.lAt HRL.out
                have f3 := fun p : After wr => (p.h.cell (p := ⟨tb, r, none⟩) htb).trans e0
                have f4 := fun p : After wr => (p.h.cell (p := ⟨rb, cc, none⟩) hrb).trans e1
                clear e0 e1
                haveI : Inhabited (After wr) := ⟨⟨_, Below.refl _ _⟩⟩
                refine wp_region_after (by kernel_rfl) (by kernel_rfl) ?_
                repeat (go_big_quiet_step (fail))
                refine wpQuiet_nil ?_
                intro W hw'
                obtain ⟨⟨w13, h13⟩, rfl⟩ := hw'
                go_wp2_with fail
                go_meet
                exact ⟨rfl, h13⟩
              case rest =>
              obtain ⟨rfl, hbc⟩ := hcut
              have HS3 : Hid (Sr w wc p2 p4 p8 ub N (.slice (some ⟨tb, 0, none⟩) n tct) (.slice taf n tcf) (.slice (some ⟨lg, 0, none⟩) m2 cl2) (.slice aA2 a2 cA2) (.slice aG fs.length cG) tos tv fins U L2 (AR2.map arcOf) fs) := HS.out.laid hbc
              clear hbc e0 e1 htb hrb HS
              cases o with
              | none =>
                have HCN : Hid (T.cut.to r cc = none) := cut_dead (by rw [HO.out]; exact not_live_none T)
                rw [show enc none = -1 from rfl]
                go_wp2
                repeat (go_quiet (fail); go_wp2)
                go_roundw
                case rel =>
                  refine ⟨y + 1, cc + 1, .slice (some ⟨lg, 0, none⟩) m2 cl2, .slice aA2 a2 cA2, rfl, by go_num, by rw [HCC.out], hy60, ?_⟩
                  rw [jr_up, ← HCC.out, js_none HCN.out, HJ2.out.1, HJ2.out.2]
                  first | exact HS3.out | exact HS3.out.laid (below_drewN (Below.refl _ _) _)
                case measure => simp [intOf]; omega
              | some x =>
                have hxn : x < n := by have h := HTE.out.2.2.1 r cc x (by rw [HTE.out.2.1]; exact hrn) HO.out; rw [HTE.out.2.1] at h; exact h
                rw [show enc (some x) = (x : Int) from rfl]
                have hx0 : ¬ (x : Int) < 0 := by omega
                have hxN : x < N := by omega
                obtain ⟨rx, _, _, g0, g1⟩ := HS3.out.sqr.at hxN hnN
                obtain ⟨b, hb⟩ : ∃ b, U x n = b := ⟨_, rfl⟩
                rw [hb] at g1
                have HLX : Hid (b = true ↔ T.Live (some x)) := by
                  have h := HUU.out x n (Nat.le_of_lt hxn) (Nat.le_refl _)
                  rw [hb, stt_lt hxn, stt_n, ← Tb.live_iff] at h
                  exact h
                clear hb
                cases b with
                | false =>
                  have HCN : Hid (T.cut.to r cc = none) := cut_dead (by rw [HO.out]; exact fun h => by have := HLX.out.2 h; cases this)
                  go_wp2
                  repeat (go_quiet (fail); go_wp2)
                  go_roundw
                  case rel =>
                    refine ⟨y + 1, cc + 1, .slice (some ⟨lg, 0, none⟩) m2 cl2, .slice aA2 a2 cA2, rfl, by go_num, by rw [HCC.out], hy60, ?_⟩
                    rw [jr_up, ← HCC.out, js_none HCN.out, HJ2.out.1, HJ2.out.2]
                    first | exact HS3.out | exact HS3.out.laid (below_drewN (Below.refl _ _) _)
                  case measure => simp [intOf]; omega
                | true =>
                  have HCS : Hid (T.cut.to r cc = some x) := cut_of HO.out (HLX.out.1 rfl)
                  go_upto_region 19 with fail
                  clear g0 g1
                  have hm2i : (0 : Int) ≤ (m2 : Int) := by omega
                  go_loopw [13] (fun a wx => ∃ q : Nat, a = .int .i64 (q : Int) ∧ q ≤ m2 ∧ Below wc.heap.size wc wx ∧ ∀ j z, j < q → L2[j]? = some z → ¬ T.Lk (some z) (some x)) (fun a _ => m2 - (intOf a).toNat)
                  case atStart => exact ⟨0, rfl, Nat.zero_le _, (by first | exact Below.refl _ _ | exact below_drewN (Below.refl _ _) _), fun j z h => absurd h (Nat.not_lt_zero j)⟩
                  case round =>
                    obtain ⟨q, rfl, hq, hbw, hno⟩ := hrel
                    have HS4 : Hid (Sr w wr p2 p4 p8 ub N (.slice (some ⟨tb, 0, none⟩) n tct) (.slice taf n tcf) (.slice (some ⟨lg, 0, none⟩) m2 cl2) (.slice aA2 a2 cA2) (.slice aG fs.length cG) tos tv fins U L2 (AR2.map arcOf) fs) := HS3.out.laid hbw
                    have HBW : Hid (Below wc.heap.size wc wr) := hbw
                    have HNO : Hid (∀ j z, j < q → L2[j]? = some z → ¬ T.Lk (some z) (some x)) := hno
                    have c8 := cell_of_row _ _ 1 _ _ _ HS4.out.mac
                    clear hbw hno
                    by_cases hqm : q < m2
                    · obtain ⟨z, hz⟩ : ∃ z, L2[q]? = some z := ⟨_, List.getElem?_eq_getElem (by rw [HM2.out]; exact hqm)⟩
                      have hzn : z < n := by have h := HRW2.out.1 z (List.mem_of_getElem? hz); rw [HTE.out.2.1] at h; exact h
                      have l0 : wr.cell? ⟨lg, q, none⟩ = some (.int .i64 (z : Int)) := by have h := HS4.out; rw [← HM2.out] at h; exact h.lAt hz
                      obtain ⟨rz, _, _, g0, g1⟩ := HS4.out.sqr.at (show z < N by omega) hxN
                      obtain ⟨b, hb⟩ : ∃ b, U z x = b := ⟨_, rfl⟩
                      rw [hb] at g1
                      have hz0 : (0 : Int) ≤ (z : Int) := by omega
                      have HLZ : Hid (b = true ↔ ¬ T.Lk (some z) (some x)) := by
                        have h := HUU.out z x (Nat.le_of_lt hzn) (Nat.le_of_lt hxn)
                        rw [hb, stt_lt hzn, stt_lt hxn] at h
                        exact h
                      clear hb
                      cases b with
                      | true =>
                        have HX2 : Hid (∀ j z, j < q + 1 → L2[j]? = some z → ¬ T.Lk (some z) (some x)) := fun j z' hj hz' => by
                          by_cases e : j = q
                          · subst e; rw [hz] at hz'; cases hz'; exact HLZ.out.1 rfl
                          · exact HNO.out j z' (by omega) hz'
                        clear hz
                        go_wp2
                        repeat (go_quiet (fail); go_wp2)
                        go_roundw
                        case rel => exact ⟨q + 1, by go_num, hqm, by first | exact HBW.out | exact HBW.out.trans ((below_drewN (Below.refl _ _) _).mono HBW.out.size), HX2.out⟩
                        case measure => simp [intOf]; omega
                      | false =>
                        have HWH : Hid (wh T L2 x = q) := wh_at HRW2.out hz (Classical.byContradiction fun h => by have := HLZ.out.2 h; cases this)
                        clear hz
                        have har : Hid (wr.ownsRow w.heap.size 64 5 (.slice aA2 a2 cA2) a2 (acs (AR2.map arcOf))) := by have h := HS4.out.arow; rw [HAA.out] at h; exact h
                        have hqm2 : ((q : Int) == (m2 : Int)) = false := by have h : ¬ (q : Int) = (m2 : Int) := (by omega); simpa using h
                        go_wp2_with (refine wpList_append_own_at _ rfl _ _ 22 rfl w.heap.size 64 i64 (.agg #[.int .i64 0, .int .i64 0, .int .i64 0, .int .i64 0, .int .i64 0]) 5 40 Tryd.underlying22 hi64 hy0 hy1 hy2 rfl (by decide) _ _ _ rfl (har.out.alloc _) ⟨_, 0, none⟩ 1 1 [.int .i64 (k : Int), .int .i64 (q : Int), .int .i64 (cc : Int), .int .i64 (cc : Int), .int .i64 0] rfl rfl (cell_five_new _ _ _ _ _ _ _) (ac_one ((k : Int), (q : Int), (cc : Int), (cc : Int), 0)) (by have := HAN.out; unfold maxLen; omega) (by have := HAN.out; omega) (by have := HS4.out.below.size; simp; omega) ?_; intro v15 w15 ho15 hg15 _ hl15; obtain ⟨g15, c15, rfl, _, _⟩ := own_some ho15 (Nat.succ_pos _); have hld := HS4.out.laid (below_al _ (.cells #[.int .i64 (k : Int), .int .i64 (q : Int), .int .i64 (cc : Int), .int .i64 (cc : Int), .int .i64 0] 64)); have x15 := hld.macGrown hld.arow (by decide) hg15; have y15 := cell_of_row _ _ 1 _ _ _ x15; have z15 := frozen_of_row _ _ 1 _ _ x15; have HSN : Hid _ := hld.addA (a := arcOf (k, cc, q)) (by rw [HAA.out]; exact ho15) hg15; clear ho15 hg15 hl15 x15 hld)
                        go_roundw
                        case rel =>
                          refine ⟨y + 1, cc + 1, .slice (some ⟨lg, 0, none⟩) m2 cl2, .slice (some ⟨g15, 0, none⟩) (a2 + 1) c15, rfl, by go_num, by rw [HCC.out], hy60, ?_⟩
                          rw [jr_up, ← HCC.out, js_some HCS.out, HJ2.out.1, HJ2.out.2, HWH.out, if_neg (by rw [HM2.out]; omega)]
                          dsimp only
                          rw [List.map_append]
                          exact HSN.out
                        case measure => simp [intOf]; omega
                    · obtain rfl : m2 = q := by omega
                      have HWH : Hid (wh T L2 x = L2.length) := wh_new.2 (fun z hz => by
                        obtain ⟨j, hj, rfl⟩ := List.getElem_of_mem hz
                        exact HNO.out j _ (by rw [← HM2.out]; exact hj) (List.getElem?_eq_getElem hj))
                      have hlr : Hid (wr.ownsRow w.heap.size 3 1 (.slice (some ⟨lg, 0, none⟩) m2 cl2) m2 (ic (L2.map fun (x : Nat) => (x : Int)))) := by have h := HS4.out.lrow; rw [HM2.out] at h; exact h
                      go_upto_region 22 with fail
                      go_upto_region 23 with (refine wpList_append_own_at _ rfl _ _ 26 rfl w.heap.size 3 i3 (.int .i64 0) 1 8 Tryd.underlying26 hi3 hx0' hx1' hx2' rfl (by decide) _ _ _ rfl (hlr.out.alloc _) ⟨_, 0, none⟩ 1 1 [.int .i64 (x : Int)] rfl rfl (cell_one_new _ _ _) (sl_one _ rfl) (by unfold maxLen; omega) (by omega) (by have := HS4.out.below.size; simp; omega) ?_; intro v14 w14 ho14 hg14 _ hl14; obtain ⟨g14, c14, rfl, _, _⟩ := own_some ho14 (Nat.succ_pos _); have HS5 : Hid _ := (HS4.out.laid (below_al _ (.cells #[.int .i64 (x : Int)] 3))).addL (x := x) (by rw [HM2.out]; exact ho14) hg14 hl14; have c9 := cell_of_row _ _ 1 _ _ _ HS5.out.mac; clear ho14 hg14 hl14)
                      clear c8
                      have har : Hid (w14.ownsRow w.heap.size 64 5 (.slice aA2 a2 cA2) a2 (acs (AR2.map arcOf))) := by have h := HS5.out.arow; rw [HAA.out] at h; exact h
                      go_wp2_with (refine wpList_append_own_at _ rfl _ _ 22 rfl w.heap.size 64 i64 (.agg #[.int .i64 0, .int .i64 0, .int .i64 0, .int .i64 0, .int .i64 0]) 5 40 Tryd.underlying22 hi64 hy0 hy1 hy2 rfl (by decide) _ _ _ rfl (har.out.alloc _) ⟨_, 0, none⟩ 1 1 [.int .i64 (k : Int), .int .i64 (m2 : Int), .int .i64 (cc : Int), .int .i64 (cc : Int), .int .i64 0] rfl rfl (cell_five_new _ _ _ _ _ _ _) (ac_one ((k : Int), (m2 : Int), (cc : Int), (cc : Int), 0)) (by have := HAN.out; unfold maxLen; omega) (by have := HAN.out; omega) (by have := HS5.out.below.size; simp; omega) ?_; intro v15 w15 ho15 hg15 _ hl15; obtain ⟨g15, c15, rfl, _, _⟩ := own_some ho15 (Nat.succ_pos _); have hld := HS5.out.laid (below_al _ (.cells #[.int .i64 (k : Int), .int .i64 (m2 : Int), .int .i64 (cc : Int), .int .i64 (cc : Int), .int .i64 0] 64)); have x15 := hld.macGrown hld.arow (by decide) hg15; have y15 := cell_of_row _ _ 1 _ _ _ x15; have z15 := frozen_of_row _ _ 1 _ _ x15; have HSN : Hid _ := hld.addA (a := arcOf (k, cc, m2)) (by rw [HAA.out]; exact ho15) hg15; clear ho15 hg15 hl15 x15 hld)
                      go_roundw
                      case rel =>
                        refine ⟨y + 1, cc + 1, .slice (some ⟨g14, 0, none⟩) (m2 + 1) c14, .slice (some ⟨g15, 0, none⟩) (a2 + 1) c15, rfl, by go_num, by rw [HCC.out], hy60, ?_⟩
                        rw [jr_up, ← HCC.out, js_some HCS.out, HJ2.out.1, HJ2.out.2, HWH.out, if_pos rfl, HM2.out]
                        dsimp only
                        rw [List.map_append]
                        exact HSN.out
                      case measure => simp [intOf]; omega
            · have hc60 : ¬ (cc : Int) ≤ 60 := by omega
              obtain rfl : y = 60 := by omega
              clear hcc
              have HE : Hid ((jn T (k + 1)).1 = L2 ∧ (jn T (k + 1)).2 = AR2 ∧ (jf T L2 (k + 1)).map finOf = fs ++ (if T.fin r = true then [finOf k] else [])) := by
                have e0 : jn T (k + 1) = jr T k r s0 60 := by
                  show jr T k ((jn T k).1.getD k 0) (jn T k) 60 = _
                  rw [HR.out.2, HJ0.out]
                have e1 : L <+: L2 := by
                  have h := jr_pre T k r s0 0 60 (Nat.zero_le _)
                  rw [HJ2.out.1, jr_zero, ← HJ0.out, HJ.out.1] at h
                  exact h
                refine ⟨by rw [e0]; exact HJ2.out.1, by rw [e0]; exact HJ2.out.2, ?_⟩
                rw [jf_up, ← jf_pre T e1 k (by rw [HM.out]; omega), List.map_append, HFS.out.1, getD_some HRL.out]
                congr 1
                split <;> rfl
              have HJU : Hid (JAt T (k + 1)) := HAT.out.up (by rw [HJ.out.1, HM.out]; exact hlt)
              have hlrow := HS.out.lrow
              rw [HM2.out] at hlrow
              obtain ⟨lg, lc, hle, _, _⟩ := own_some hlrow (by omega)
              rw [Value.slice.injEq] at hle
              obtain ⟨ha1, _, ha2⟩ := hle
              subst ha1 ha2
              clear hlrow
              have hTl : Tl wr w.heap.size (.slice tat tos.length tct) (.slice taf n tcf) tos fins := by rw [HLT.out.1]; exact ⟨⟨tv, HS.out.trow, HS.out.ttl⟩, HS.out.frow⟩
              obtain ⟨fgb, htaf, hfgb, e1⟩ := hTl.finAt' HLT.out.2.1 hrn
              subst htaf
              rw [HTE.out.2.2.2] at e1
              have hr0 : (0 : Int) ≤ (r : Int) := by omega
              obtain ⟨bf, hbf⟩ : ∃ b, T.fin r = b := ⟨_, rfl⟩
              have HBF : Hid (T.fin r = bf) := hbf
              rw [hbf] at e1
              clear hTl hbf
              go_upto_region 24 with fail
              go_cut [113] from 106 to 112 (fun s wx => s = .bool bf ∧ Below wr.heap.size wr wx)
              case first =>
                have f1 := fun p : After wr => cell_of_row _ _ 1 _ _ _ (HS.out.laid p.h).tab
                have f2 : ∀ p : After wr, p.W.cell? ⟨lg, k, none⟩ = some (.int .i64 (r : Int)) := fun p => by
                  have h := HS.out.laid p.h
                  rw [← HM2.out] at h
                  exact h.lAt HRL.out
                have f4 := fun p : After wr => (p.h.cell (p := ⟨fgb, r, none⟩) hfgb).trans e1
                clear e1
                haveI : Inhabited (After wr) := ⟨⟨_, Below.refl _ _⟩⟩
                refine wp_region_after (by kernel_rfl) (by kernel_rfl) ?_
                repeat (go_big_quiet_step (fail))
                refine wpQuiet_nil ?_
                intro W hw'
                obtain ⟨⟨w13, h13⟩, rfl⟩ := hw'
                go_wp2_with fail
                go_meet
                exact ⟨rfl, h13⟩
              case rest =>
              obtain ⟨rfl, hbc⟩ := hcut
              have HS3 : Hid (Sr w wc p2 p4 p8 ub N (.slice tat n tct) (.slice (some ⟨fgb, 0, none⟩) n tcf) (.slice (some ⟨lg, 0, none⟩) m2 cl2) (.slice aA2 a2 cA2) (.slice aG fs.length cG) tos tv fins U L2 (AR2.map arcOf) fs) := HS.out.laid hbc
              clear hbc e1 hfgb HS
              cases bf with
              | false =>
                have HE2 : Hid ((jf T (jn T (k + 1)).1 (k + 1)).map finOf = fs) := by show _ = _; rw [HE.out.1, HE.out.2.2, HBF.out]; simp
                go_wp2
                go_roundw
                case rel =>
                  refine ⟨k + 1, .slice (some ⟨lg, 0, none⟩) m2 cl2, .slice aA2 a2 cA2, .slice aG fs.length cG, rfl, by go_num, ?_, HJU.out⟩
                  rw [HE2.out, HE.out.1, HE.out.2.1]
                  exact HS3.out
                case measure => simp [intOf]; omega
              | true =>
                have HE2 : Hid ((jf T (jn T (k + 1)).1 (k + 1)).map finOf = fs ++ [finOf k]) := by show _ = _; rw [HE.out.1, HE.out.2.2, HBF.out]; simp
                have c8 := cell_of_row _ _ 2 _ _ _ HS3.out.mac
                have hfl := HFS.out.2
                go_wp2_with (refine wpList_append_own_at _ rfl _ _ 23 rfl w.heap.size 66 i66 (.agg #[.int .i64 0, .int .i64 0]) 2 16 Tryd.underlying23 hi66 hz0 hz1 hz2 rfl (by decide) _ _ _ rfl (HS3.out.grow.alloc _) ⟨_, 0, none⟩ 1 1 [.int .i64 (k : Int), .int .i64 0] rfl rfl (cell_two_new _ _ _ _) (fc_one ((k : Int), 0)) (by unfold maxLen; omega) (by omega) (by have := HS3.out.below.size; simp; omega) ?_; intro v15 w15 ho15 hg15 _ hl15; obtain ⟨g15, c15, rfl, _, _⟩ := own_some ho15 (Nat.succ_pos _); have hld := HS3.out.laid (below_al _ (.cells #[.int .i64 (k : Int), .int .i64 0] 66)); have x15 := hld.macGrown hld.grow (by decide) hg15; have y15 := cell_of_row _ _ 2 _ _ _ x15; have z15 := frozen_of_row _ _ 2 _ _ x15; have HSN : Hid _ := hld.addG (f := finOf k) ho15 hg15; clear ho15 hg15 hl15 x15 hld)
                go_roundw
                case rel =>
                  refine ⟨k + 1, .slice (some ⟨lg, 0, none⟩) m2 cl2, .slice aA2 a2 cA2, .slice (some ⟨g15, 0, none⟩) (fs.length + 1) c15, rfl, by go_num, ?_, HJU.out⟩
                  rw [HE2.out, HE.out.1, HE.out.2.1]
                  exact HSN.out
                case measure => simp [intOf]; omega
        · obtain rfl : k = m := by omega
          have HSU : Hid (IsSure (tbl S A F n) ⟨(k : Int), AR.map arcOf, fs⟩) := by
            show IsSure _ _
            rw [HTE.out.1]
            exact .inr ⟨HLI.out, k, HAT.out, by rw [HJ.out.1, HM.out], by rw [HJ.out.1, HJ.out.2, HFS.out.1]⟩
          have HFN : Hid _ := Sr.fin (m := k) HS.out (by rw [List.length_map]; have := HAL.out; omega) (by have := HFS.out.2; omega)
          have c0 := cell_of_row _ _ 0 _ _ _ HS.out.mac
          have f8 := frozen_of_row _ _ 0 _ _ HS.out.mac
          go_upto_region 27 with fail
          clear c0 f8 HS
          generalize wr.setCell ⟨p8, 0, none⟩ (.int .i64 (k : Int)) = W9 at *
          have c0 := cell_of_row _ _ 0 _ _ _ HFN.out.2.1
          have c1 := cell_of_row _ _ 1 _ _ _ HFN.out.2.1
          have c2 := cell_of_row _ _ 2 _ _ _ HFN.out.2.1
          have z0 := cell_of_row _ _ 0 _ _ _ HFN.out.1
          have z1 := cell_of_row _ _ 1 _ _ _ HFN.out.1
          have z2 := cell_of_row _ _ 2 _ _ _ HFN.out.1
          have f0 := frozen_of_row _ _ 0 _ _ HFN.out.1
          have f1 := frozen_of_row _ _ 1 _ _ HFN.out.1
          have f2 := frozen_of_row _ _ 2 _ _ HFN.out.1
          go_wp2
          have hr := ret25 (x := .int .i64 (k : Int)) (y := .slice aA an1 cA) (z := .slice aG fs.length cG) HFN.out.1 HFN.out.2.2.1 HPP.out
          have hk1 : Kp (fun b => b = p2) W9 (W9.setCell ⟨p2, 0, none⟩ (.int .i64 (k : Int))) := (Kp.refl _ W9).setCell _ _ _ (fun _ => rfl)
          have hk2 : Kp (fun b => b = p2) W9 ((W9.setCell ⟨p2, 0, none⟩ (.int .i64 (k : Int))).setCell ⟨p2, 1, none⟩ (.slice aA an1 cA)) := hk1.setCell _ _ _ (fun _ => rfl)
          have hkk : Kp (fun b => b = p2) W9 (((W9.setCell ⟨p2, 0, none⟩ (.int .i64 (k : Int))).setCell ⟨p2, 1, none⟩ (.slice aA an1 cA)).setCell ⟨p2, 2, none⟩ (.slice aG fs.length cG)) := hk2.setCell _ _ _ (fun _ => rfl)
          exact bodyPost_ret (results_row_tmp rfl _ _ p2 25 _ (0, 0) _ rfl hr.1 Tryd.underlying25 rfl row25) rfl ⟨_, _, _, _, _, _, _, true, rfl, hr.2, .inl ⟨rfl, n, ⟨(k : Int), AR.map arcOf, fs⟩, HD.out, HSU.out, HFN.out.2.2.2 _ hkk⟩⟩
end Go.Proofs.YtfjocafepigijaaDoor.Su
