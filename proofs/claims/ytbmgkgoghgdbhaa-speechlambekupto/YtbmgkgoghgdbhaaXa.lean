/- Lists that are put together in a region that draws its order, whatever comes first. Condition: at most 100000000 parts. -/
import Derived.Test.YtbmgkgoghgdbhaaTk
import Derived.Test.YtbmgkgoghgdbhaaVq
namespace Go.Proofs.Ytbmgkgoghgdbhaa.Te
open Go.RowKit

theorem app_big {P : Nat → Prop} (w w0 : World) (ty : TypeId) (base : Nat) (v : Value) (xs : List Value) (n : Nat) (hown : w.ownsRow base 24 3 v n xs) {d : Nat} {l : List Ty} {a : Option Addr} {ys : List Value} (c : Nat) (hsrc : Src P w0 d l a ys) (hb : Below w0.heap.size w0 w) (hle : n + l.length ≤ 100000000) (hbase : base ≤ w.heap.size) :
    ∃ v' w', (Builtin.append_ #[22, 22] ty #[v, .slice a l.length c]).run Try.prog w = .ok v' w' ∧ w'.ownsRow base 24 3 v' (n + l.length) (xs ++ ys) ∧ w.grownBy w' v.ownBlock ∧ (v'.ownBlock = v.ownBlock ∨ v'.ownBlock = some w.heap.size) := by
  obtain ⟨i0, hi, hz0, hz1, hz2⟩ := info_parts info24
  obtain ⟨h1, h2, _, h4⟩ := hsrc
  cases a with
  | none =>
    have e0 : l.length = 0 := by
      rcases h4 with h4 | ⟨g, off, h4, _⟩
      · exact h4
      · cases h4
    have e2 : ys = [] := List.length_eq_zero_iff.1 (by omega)
    subst e2
    rw [e0]
    exact ⟨v, w, run_none w base 22 ty 24 i0 3 Try.underlying22 hi v n xs c hown, by simpa using hown, ⟨rfl, rfl, rfl, Nat.le_refl _, fun _ _ _ => rfl⟩, .inl rfl⟩
  | some ad =>
    obtain ⟨v', w', hr, h5, h6, _, h7⟩ := run_append_own_at (P := Try.prog) w base 22 ty 24 i0 _ 3 40 Try.underlying22 hi hz0 hz1 hz2 rfl (by decide) v n xs hown ad l.length c ys h1 (by
      intro j u hu
      rcases h4 with h4 | ⟨b, off, hb', hlt, hc⟩
      · have : ys = [] := List.length_eq_zero_iff.1 (by rw [h1, h4])
        subst this
        simp at hu
      · simp only [Option.some.injEq] at hb'
        subst hb'
        have hadd : (⟨b, off, none⟩ : Addr).add j = ⟨b, off + j, none⟩ := by unfold Addr.add; split <;> simp_all
        rw [hadd]
        exact (hb.cell (p := ⟨b, _, none⟩) hlt).trans (hc j u hu)) h2 (by unfold maxLen; omega) (by omega) hbase
    exact ⟨v', w', hr, h5, h6, h7⟩
/-- an append of a list that lay ahead, as one step of a region that draws -/
theorem step_src {P : Nat → Prop} {ops : Array Oper} {o : Oper} {a : Act} {w : World} {K : Act → World → Prop} {Q : Exit → Act → World → Prop} {E : Prop} (w0 : World)
    (hgd : o.guard = none) (s x : Operand) (ho : o.op = .call { callee := .builtin .append, args := #[s, x], argTypes := #[22, 22] })
    (base : Nat) (v : Value) (n : Nat) (xs : List Value) (hs : a.eval s = v) (hown : w.ownsRow base 24 3 v n xs)
    {d : Nat} {l : List Ty} {ad : Option Addr} {ys : List Value} (c : Nat) (hx : a.eval x = .slice ad l.length c) (hsrc : Src P w0 d l ad ys) (hb : Below w0.heap.size w0 w) (hle : n + l.length ≤ 100000000) (hbase : base ≤ w.heap.size)
    (h : ∀ v' w', w'.ownsRow base 24 3 v' (n + l.length) (xs ++ ys) → w.grownBy w' v.ownBlock → (v'.ownBlock = v.ownBlock ∨ v'.ownBlock = some w.heap.size) → K (a.put o.dst v') w') :
    if Region.wanted o (yielded ops a.tmps) = true then Oper.wp Try.prog o a w K Q else E := by
  have hw : Region.wanted o (yielded ops a.tmps) = true := by simp [Region.wanted, hgd]
  rw [if_pos hw]
  obtain ⟨v', w', hr, h2, h3, h5⟩ := app_big w w0 o.type base v xs n hown c hsrc hb hle hbase
  unfold Oper.wp execOp
  simp only [ho, resolve, invoke, builtin, Sem.run_bind, Sem.run_pure, Result.andThen_ok, List.map_toArray, List.map_cons, List.map_nil, hs, hx, hr]
  exact h v' w' h2 h3 h5
/-- what has been laid so far: a list, a part by itself, a box for a proof -/
structure Lk (w0 : World) (d : Nat) (xt : Ty) (ax : Option Addr) (cx : Nat) (row : Option (Value × List Ty)) (one pr : Option Nat) (W : World) : Prop where
  bel : Below w0.heap.size w0 W
  fr : ∀ v L, row = some (v, L) → ∃ xs, W.ownsRow w0.heap.size 24 3 v L.length xs ∧ RowOf (fun _ => True) w0 d L L.length xs
  fo : ∀ B, one = some B → w0.heap.size ≤ B ∧ W.heap[B]? = some (.cells #[.int .i64 xt.kind, .int .i64 xt.n, .slice ax xt.kids.length cx] 24 (0, 0)) ∧ ∀ v L, row = some (v, L) → some B ≠ v.ownBlock
  fp : ∀ B, pr = some B → w0.heap.size ≤ B ∧ W.heap[B]? = some (.cells #[.int .i64 0, .slice none 0 0, .int .i64 0, .int .i64 0, .slice none 0 0, .int .i64 0, .int .i64 0, .slice none 0 0] 37 (0, 0)) ∧ ∀ v L, row = some (v, L) → some B ≠ v.ownBlock
theorem Lk.start {w0 W : World} {d : Nat} {xt : Ty} {ax : Option Addr} {cx : Nat} (hb : Below w0.heap.size w0 W) : Lk w0 d xt ax cx none none none W := ⟨hb, (fun _ _ e => by cases e), (fun _ e => by cases e), (fun _ e => by cases e)⟩
theorem Lk.below {w0 W W' : World} {d : Nat} {xt : Ty} {ax : Option Addr} {cx : Nat} {row : Option (Value × List Ty)} {one pr : Option Nat} (h : Lk w0 d xt ax cx row one pr W) (hb : Below W.heap.size W W') : Lk w0 d xt ax cx row one pr W' := by
  refine ⟨h.bel.trans (hb.mono h.bel.size), fun v L e => ?_, fun B e => ?_, fun B e => ?_⟩
  · obtain ⟨xs, h1, h2⟩ := h.fr v L e
    exact ⟨xs, own_below h1 hb, h2⟩
  · obtain ⟨h1, h2, h3⟩ := h.fo B e
    exact ⟨h1, (hb.block _ (lt_of_get h2)).trans h2, h3⟩
  · obtain ⟨h1, h2, h3⟩ := h.fp B e
    exact ⟨h1, (hb.block _ (lt_of_get h2)).trans h2, h3⟩
theorem Lk.mkrow {w0 W : World} {d : Nat} {xt : Ty} {ax : Option Addr} {cx : Nat} {one pr : Option Nat} (h : Lk w0 d xt ax cx none one pr W) : Lk w0 d xt ax cx (some (.slice (some ⟨W.heap.size, 0, none⟩) 0 0, [])) one pr (W.alloc (.cells #[] 24)) := by
  have hb : Below W.heap.size W (W.alloc (.cells #[] 24)) := (Below.refl _ W).alloc (Nat.le_refl _) _
  have h' := h.below hb
  have hn := heap_alloc_new W (.cells #[] 24)
  refine ⟨h'.bel, fun v L e => ?_, fun B e => ?_, fun B e => ?_⟩
  · simp only [Option.some.injEq, Prod.mk.injEq] at e
    obtain ⟨rfl, rfl⟩ := e
    exact ⟨[], ⟨rfl, .inr ⟨W.heap.size, 0, #[], rfl, h.bel.size, hn, Nat.le_refl _, by unfold maxLen; omega, rfl, rfl⟩⟩, fun i hi => by simp at hi⟩
  · obtain ⟨h1, h2, _⟩ := h.fo B e
    refine ⟨h1, (h'.fo B e).2.1, fun v L e' => ?_⟩
    simp only [Option.some.injEq, Prod.mk.injEq] at e'
    obtain ⟨rfl, rfl⟩ := e'
    intro e2
    have := lt_of_get h2
    simp only [Value.ownBlock, Option.some.injEq] at e2
    omega
  · obtain ⟨h1, h2, _⟩ := h.fp B e
    refine ⟨h1, (h'.fp B e).2.1, fun v L e' => ?_⟩
    simp only [Option.some.injEq, Prod.mk.injEq] at e'
    obtain ⟨rfl, rfl⟩ := e'
    intro e2
    have := lt_of_get h2
    simp only [Value.ownBlock, Option.some.injEq] at e2
    omega
theorem Lk.new_ne {w0 W : World} {d : Nat} {xt : Ty} {ax : Option Addr} {cx : Nat} {row : Option (Value × List Ty)} {one pr : Option Nat} (h : Lk w0 d xt ax cx row one pr W) : ∀ v L, row = some (v, L) → some W.heap.size ≠ v.ownBlock := fun v L e e2 => by
  obtain ⟨xs, h1, _⟩ := h.fr v L e
  have := (h1.lt _ e2.symm).2
  omega
theorem Lk.mkone {w0 W : World} {d : Nat} {xt : Ty} {ax : Option Addr} {cx : Nat} {row : Option (Value × List Ty)} {pr : Option Nat} (h : Lk w0 d xt ax cx row none pr W) : Lk w0 d xt ax cx row (some W.heap.size) pr (W.alloc (.cells #[.int .i64 xt.kind, .int .i64 xt.n, .slice ax xt.kids.length cx] 24)) := by
  have h' := h.below ((Below.refl _ W).alloc (Nat.le_refl _) (.cells #[.int .i64 xt.kind, .int .i64 xt.n, .slice ax xt.kids.length cx] 24))
  refine ⟨h'.bel, h'.fr, fun B e => ?_, h'.fp⟩
  simp only [Option.some.injEq] at e
  subst e
  exact ⟨h.bel.size, heap_alloc_new W _, h.new_ne⟩
theorem Lk.mkpr {w0 W : World} {d : Nat} {xt : Ty} {ax : Option Addr} {cx : Nat} {row : Option (Value × List Ty)} {one : Option Nat} (h : Lk w0 d xt ax cx row one none W) : Lk w0 d xt ax cx row one (some W.heap.size) (W.alloc (.cells #[.int .i64 0, .slice none 0 0, .int .i64 0, .int .i64 0, .slice none 0 0, .int .i64 0, .int .i64 0, .slice none 0 0] 37)) := by
  have h' := h.below ((Below.refl _ W).alloc (Nat.le_refl _) (.cells #[.int .i64 0, .slice none 0 0, .int .i64 0, .int .i64 0, .slice none 0 0, .int .i64 0, .int .i64 0, .slice none 0 0] 37))
  refine ⟨h'.bel, h'.fr, h'.fo, fun B e => ?_⟩
  simp only [Option.some.injEq] at e
  subst e
  exact ⟨h.bel.size, heap_alloc_new W _, h.new_ne⟩
/-- an append onto the list -/
theorem Lk.app {w0 W W' : World} {d : Nat} {xt : Ty} {ax : Option Addr} {cx : Nat} {v v' : Value} {L M : List Ty} {one pr : Option Nat} (h : Lk w0 d xt ax cx (some (v, L)) one pr W) {xs ys : List Value} (hown : W.ownsRow w0.heap.size 24 3 v L.length xs) (hrow : RowOf (fun _ => True) w0 d L L.length xs) (hys : RowOf (fun _ => True) w0 d M M.length ys)
    (ho : W'.ownsRow w0.heap.size 24 3 v' (L.length + M.length) (xs ++ ys)) (hg : W.grownBy W' v.ownBlock) (hat : v'.ownBlock = v.ownBlock ∨ v'.ownBlock = some W.heap.size) : Lk w0 d xt ax cx (some (v', L ++ M)) one pr W' := by
  have ne : ∀ {B : Nat} {o : Obj}, W.heap[B]? = some o → some B ≠ v.ownBlock → some B ≠ v'.ownBlock := fun hB hn e => by
    rcases hat with h' | h'
    · exact hn (e.trans h')
    · rw [h'] at e
      have := lt_of_get hB
      simp only [Option.some.injEq] at e
      omega
  refine ⟨h.bel.grown hg h.bel.size (fun q hq => (hown.lt q hq).1), fun u K e => ?_, fun B e => ?_, fun B e => ?_⟩
  · simp only [Option.some.injEq, Prod.mk.injEq] at e
    obtain ⟨rfl, rfl⟩ := e
    exact ⟨xs ++ ys, by rw [List.length_append]; exact ho, hrow.join hown.1 hys⟩
  · obtain ⟨h1, h2, h3⟩ := h.fo B e
    have hn := h3 v L rfl
    refine ⟨h1, (hg.block B (lt_of_get h2) hn).trans h2, fun u K e' => ?_⟩
    simp only [Option.some.injEq, Prod.mk.injEq] at e'
    obtain ⟨rfl, rfl⟩ := e'
    exact ne h2 hn
  · obtain ⟨h1, h2, h3⟩ := h.fp B e
    have hn := h3 v L rfl
    refine ⟨h1, (hg.block B (lt_of_get h2) hn).trans h2, fun u K e' => ?_⟩
    simp only [Option.some.injEq, Prod.mk.injEq] at e'
    obtain ⟨rfl, rfl⟩ := e'
    exact ne h2 hn
/-- the list as it lies in the end -/
theorem Lk.list {w0 W : World} {d : Nat} {xt : Ty} {ax : Option Addr} {cx : Nat} {v : Value} {L : List Ty} {one pr : Option Nat} (h : Lk w0 d xt ax cx (some (v, L)) one pr W) (hL : L.length ≤ 140737488355328) : ∃ a c, v = .slice a L.length c ∧ L.length ≤ c ∧ TyAt W (d + 1) ⟨0, 0, L⟩ a c := by
  obtain ⟨xs, h1, h2⟩ := h.fr v L rfl
  have hv : ∃ a c, v = .slice a L.length c ∧ L.length ≤ c := by
    rcases h1.2 with ⟨rfl, h0⟩ | ⟨g, cap, cur, rfl, _, _, hcap, _⟩
    · exact ⟨none, 0, by rw [h0], by omega⟩
    · exact ⟨_, _, rfl, hcap⟩
  obtain ⟨a, c, rfl, hc⟩ := hv
  exact ⟨a, c, rfl, hc, (RowOf.all (h2.keep (Q := fun _ => True) (w' := W) h.bel.size (fun g hg _ => ⟨trivial, h.bel.block g hg⟩)) h1 zi zi hL (fun _ _ _ => trivial)).at⟩
end Go.Proofs.Ytbmgkgoghgdbhaa.Te
