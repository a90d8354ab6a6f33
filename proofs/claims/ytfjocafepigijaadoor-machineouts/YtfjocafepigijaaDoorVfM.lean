/- told (14): the level at hand and the next one: how they lie, a text more. No conditions. -/
import Derived.Test.YtfjocafepigijaaDoorVbM
import Derived.Laws.AppendOwnNone
namespace Go.Proofs.YtfjocafepigijaaDoor.Ot
open Go.RowKit Mv Sy Po Ps Cm Pa Am Wd St Ra Set

/-- the symbols, the texts of the level at hand, those of the next one so far -/
structure Lq (w wr : World) (bx : Nat) (mb : Array Value) (vs vl vn : Value) (u : List Int) (lev nx : List (List Int)) (lvs nvs : List Value) : Prop where
  box : wr.heap[bx]? = some (.cells mb 25 (0, 0))
  syms : wr.ownsRow w.heap.size 3 1 vs u.length (ints u)
  lrow : wr.ownsRow w.heap.size 26 1 vl lev.length lvs
  ltl : Tls wr lvs lev
  nrow : wr.ownsRow w.heap.size 26 1 vn nx.length nvs
  ntl : Tls wr nvs nx
  apart : ∀ b, vn.ownBlock = some b → vl.ownBlock ≠ some b
  below : Below w.heap.size w wr
theorem Lq.laid {w wr w1 : World} {bx : Nat} {mb : Array Value} {vs vl vn : Value} {u : List Int} {lev nx : List (List Int)} {lvs nvs : List Value} (h : Lq w wr bx mb vs vl vn u lev nx lvs nvs) (hb : Below wr.heap.size wr w1) : Lq w w1 bx mb vs vl vn u lev nx lvs nvs :=
  ⟨(hb.block _ (lt_at h.box)).trans h.box, own_kp2 h.syms (kp_below hb (fun _ => False)) (fun _ _ => id), own_kp2 h.lrow (kp_below hb (fun _ => False)) (fun _ _ => id), h.ltl.kept (kp_below hb (fun _ => False)) (fun _ _ _ => id), own_kp2 h.nrow (kp_below hb (fun _ => False)) (fun _ _ => id), h.ntl.kept (kp_below hb (fun _ => False)) (fun _ _ _ => id), h.apart, h.below.trans (hb.mono h.below.size)⟩
/-- a text more in the next level -/
theorem Lq.more {w wr w1 : World} {bx : Nat} {mb : Array Value} {vs vl vn v1 tv : Value} {u t : List Int} {lev nx : List (List Int)} {lvs nvs : List Value} (h : Lq w wr bx mb vs vl vn u lev nx lvs nvs) (ho : w1.ownsRow w.heap.size 26 1 v1 (nx.length + 1) (nvs ++ [tv])) (hg : wr.grownBy w1 vn.ownBlock) (hl : v1.ownBlock = vn.ownBlock ∨ v1.ownBlock = some wr.heap.size) (ht : Tx wr tv t) : Lq w w1 bx mb vs vl v1 u lev (nx ++ [t]) lvs (nvs ++ [tv]) := by
  have hk : Kp (fun b => vn.ownBlock = some b) wr w1 := (Kp.refl _ wr).grown hg (fun b hb _ => hb)
  have nt : ∀ {b : Nat} {c : Array Value} {ty : TypeId}, wr.heap[b]? = some (.cells c ty (0, 0)) → ty ≠ 26 → ¬ vn.ownBlock = some b := fun {b c ty} hb hne e => by
    obtain ⟨d, hd⟩ := own_ty h.nrow e; exact ty_ne hb hd hne
  refine ⟨(hk.block _ (lt_at h.box) (nt h.box (by decide))).trans h.box, own_kp2 h.syms hk (fun b hb => by obtain ⟨d, hd⟩ := own_ty h.syms hb; exact nt hd (by decide)), own_kp2 h.lrow hk (fun b hb e => h.apart b e hb), h.ltl.kept hk (fun b cs hb => nt hb (by decide)), by rw [List.length_append]; exact ho, (h.ntl.kept hk (fun b cs hb => nt hb (by decide))).add (ht.kept hk (fun b cs hb => nt hb (by decide))), fun b hb => ?_, h.below.grown hg h.below.size (fun b hb => (h.nrow.lt _ hb).1)⟩
  rcases hl with hl | hl
  · rw [hl] at hb; exact h.apart b hb
  · rw [hl] at hb
    cases hb
    intro e
    have := (h.lrow.lt _ e).2
    omega
/-- the next level becomes the one at hand -/
theorem Lq.turn {w wr : World} {bx : Nat} {mb : Array Value} {vs vl vn : Value} {u : List Int} {lev nx : List (List Int)} {lvs nvs : List Value} (h : Lq w wr bx mb vs vl vn u lev nx lvs nvs) : Lq w wr bx mb vs vn (.slice none 0 0) u nx [] nvs [] :=
  ⟨h.box, h.syms, h.nrow, h.ntl, World.ownsRow_nil _ _ _ _, Tls.nil _, fun b hb => (by cases hb), h.below⟩
end Go.Proofs.YtfjocafepigijaaDoor.Ot
/- told (14) in plain words, step by step: how many answers so far, the next level so far, their bounds; what the law needs of the count. No program text; no conditions. -/
namespace Go.Proofs.YtfjocafepigijaaDoor.Ot
open Mv Wk Bw Wd Ra

open Classical in
/-- how many of these are answers -/
noncomputable def cf (E : Int → Nat → Nat → Prop) (F : List Nat) (T : List (List Int)) : Nat := (T.filter fun t => decide (An E F t)).length
open Classical in
theorem cf_yes {E : Int → Nat → Nat → Prop} {F : List Nat} {T : List (List Int)} {t : List Int} (h : An E F t) : cf E F (T ++ [t]) = cf E F T + 1 := by
  unfold cf
  rw [List.filter_append, List.length_append]
  simp [h]
open Classical in
theorem cf_no {E : Int → Nat → Nat → Prop} {F : List Nat} {T : List (List Int)} {t : List Int} (h : ¬ An E F t) : cf E F (T ++ [t]) = cf E F T := by
  unfold cf
  rw [List.filter_append, List.length_append]
  simp [h]
open Classical in
theorem cf_nil (E : Int → Nat → Nat → Prop) (F : List Nat) : cf E F [] = 0 := rfl
open Classical in
theorem cf_le {E : Int → Nat → Nat → Prop} {F : List Nat} {T : List (List Int)} : cf E F T ≤ T.length := List.length_filter_le _ _
open Classical in
/-- a level is done -/
theorem alls_cf (E : Int → Nat → Nat → Prop) (F : List Nat) (s : List Int) (k : Nat) : (alls E F s (k + 1)).length = (alls E F s k).length + cf E F (lv s k) := by
  rw [alls_up, List.length_append]
  rfl
open Classical in
theorem alls_len {E : Int → Nat → Nat → Prop} {F : List Nat} {s : List Int} {b : Nat} : ∀ k, (∀ j, j < k → (lv s j).length ≤ b) → (alls E F s k).length ≤ k * b
  | 0, _ => by unfold alls; simp
  | k + 1, h => by
    rw [alls_cf, Nat.succ_mul]
    have h1 := alls_len (E := E) (F := F) k (fun j hj => h j (by omega))
    have h2 := cf_le (E := E) (F := F) (T := lv s k)
    have h3 := h k (by omega)
    omega
/-- the next level, as far as these texts go -/
def nxl (s : List Int) (T : List (List Int)) : List (List Int) := T.flatMap fun t => s.map fun c => t ++ [c]
theorem nxl_nil (s : List Int) : nxl s [] = [] := rfl
theorem nxl_up (s : List Int) (T : List (List Int)) (t : List Int) : nxl s (T ++ [t]) = nxl s T ++ s.map fun c => t ++ [c] := by simp [nxl]
theorem lv_nxl (s : List Int) (k : Nat) : lv s (k + 1) = nxl s (lv s k) := rfl
theorem nxl_len (s : List Int) (T : List (List Int)) : (nxl s T).length = T.length * s.length := by
  unfold nxl
  induction T with
  | nil => simp
  | cons t T ih => rw [List.flatMap_cons, List.length_append, ih, List.length_map, List.length_cons, Nat.succ_mul]; omega
/-- what told is asked: the list's length and the error fit the count -/
theorem count_fit {S : Nat} {tx : List Int} {A : List A5} {F : List Nat} {L : Nat} {bad : Bool} {l : List (List Int)} (h0 : ∀ a ∈ A, 0 ≤ a.2.2.2.1) (h : OutP (Eg S tx A) F L bad l) : (bad = false ∧ l.length = (alls (Eg S tx A) F (usd A) (L + 1)).length ∧ l.length ≤ 500) ∨ (bad = true ∧ l = [] ∧ 500 < (alls (Eg S tx A) F (usd A) (L + 1)).length) := by
  rcases h.count (alls_nodup (usd_nodup A) (L + 1)) (fun t => alls_mem h0 L t) with ⟨h1, h2, h3⟩ | h1
  · exact .inl ⟨h1, h2, by omega⟩
  · exact .inr h1
/-- a text has a cost below dear just if it is an answer -/
theorem cost_an {m : M} {S v : Nat} {tx t : List Int} (h : Rgt S m.arcs) (hf : ∀ f ∈ m.fins, (∃ s : Nat, f.1 = (s : Int) ∧ s < S) ∧ 0 ≤ f.2) (hc : IsCost m tx t true v) : v < dear ↔ An (Eg S tx m.arcs) (fn S tx m.fins) t := by
  rw [← acc_an h hf]
  rcases (isCost_iff (fun f hfm => (hf f hfm).2)).1 hc with ⟨h1, h2⟩ | ⟨h1, h2, _⟩
  · constructor
    · intro h3; omega
    · rintro ⟨x, hx⟩; exact absurd hx (h2 x)
  · exact ⟨fun _ => ⟨v, h2⟩, fun _ => h1⟩
end Go.Proofs.YtfjocafepigijaaDoor.Ot
/- told (14): append of a text as it lies (nil or not) onto a row of the call's own, at a step of a region that draws. Conditions: the bounds of the law that it leans on. -/
namespace Go.Proofs.YtfjocafepigijaaDoor.Ot
open Go.RowKit Mv Sy Po Ps Cm Pa Am Wd St Ra Set

theorem run_tx (w : World) (base : Nat) (v : Value) (n : Nat) (xs : List Value) (hown : w.ownsRow base 3 1 v n xs) (y : Value) (t : List Int) (hx : Tx w y t) (h63 : n + t.length ≤ 100000) (hbase : base ≤ w.heap.size) :
    ∃ v' w', (Builtin.append_ #[26, 26] 26 #[v, y]).run Tryd.prog w = .ok v' w' ∧ w'.ownsRow base 3 1 v' (n + t.length) (xs ++ ints t) ∧ w.grownBy w' v.ownBlock ∧ (v'.ownBlock = v.ownBlock ∨ v'.ownBlock = some w.heap.size) := by
  obtain ⟨i3, hi3, hz0, hz1, hz2⟩ := info_parts inf3
  obtain ⟨a, c, rfl, h⟩ := hx
  rcases h with ⟨rfl, e⟩ | ⟨b, off, cs, rfl, hb, hc⟩
  · rw [e]
    exact ⟨v, w, run_append_owned_none (P := Tryd.prog) w base 26 26 3 i3 1 Tryd.underlying26 hi3 v n xs hown, by simpa [ints] using hown, ⟨rfl, rfl, rfl, Nat.le_refl _, fun _ _ _ => rfl⟩, .inl rfl⟩
  · obtain ⟨v', w', hr, h2, h3, h4, h5⟩ := run_append_own_at (P := Tryd.prog) w base 26 26 3 i3 (.int .i64 0) 1 8 Tryd.underlying26 hi3 hz0 hz1 hz2 rfl (by decide) v n xs hown ⟨b, off, none⟩ t.length c (ints t) (by simp [ints]) (fun j u hu => by
      have hadd : (⟨b, off, none⟩ : Addr).add j = ⟨b, off + j, none⟩ := by unfold Addr.add; split <;> simp_all
      rw [hadd]
      exact hc j u hu) (ints_all t) (by unfold maxLen; omega) (by omega) hbase
    exact ⟨v', w', hr, h2, h3, h5⟩
theorem step_tx {ops : Array Oper} {o : Oper} {a : Act} {w : World} {K : Act → World → Prop} {Q : Exit → Act → World → Prop} {E : Prop}
    (hgd : o.guard = none) (s x : Operand) (ho : o.op = .call { callee := .builtin .append, args := #[s, x], argTypes := #[26, 26] }) (ht : o.type = 26)
    (base : Nat) (v : Value) (n : Nat) (xs : List Value) (hs : a.eval s = v) (hown : w.ownsRow base 3 1 v n xs)
    (y : Value) (t : List Int) (hx : a.eval x = y) (htx : Tx w y t) (h63 : n + t.length ≤ 100000) (hbase : base ≤ w.heap.size)
    (h : ∀ v' w', w'.ownsRow base 3 1 v' (n + t.length) (xs ++ ints t) → w.grownBy w' v.ownBlock → (v'.ownBlock = v.ownBlock ∨ v'.ownBlock = some w.heap.size) → K (a.put o.dst v') w') :
    if Region.wanted o (yielded ops a.tmps) = true then Oper.wp Tryd.prog o a w K Q else E := by
  have hw : Region.wanted o (yielded ops a.tmps) = true := by simp [Region.wanted, hgd]
  rw [if_pos hw]
  obtain ⟨v', w', hr, h2, h3, h5⟩ := run_tx w base v n xs hown y t htx h63 hbase
  unfold Oper.wp execOp
  simp only [ho, ht, resolve, invoke, builtin, Sem.run_bind, Sem.run_pure, Result.andThen_ok, List.map_toArray, List.map_cons, List.map_nil, hs, hx, hr]
  exact h v' w' h2 h3 h5
end Go.Proofs.YtfjocafepigijaaDoor.Ot
