/- Fronts: how the starts, the sets and their ends lie; a set, an end, a start more. No conditions. -/
import Derived.Test.YtfjocafepigijaaDoorUlM
import Derived.Test.YtfjocafepigijaaDoorUm
namespace Go.Proofs.YtfjocafepigijaaDoor.Ot
open Go.RowKit Mv Sy Po Ps Cm Pa Am Wd St Ra Set

def stc (l : List (Value × Nat)) : List Value := l.flatMap fun p => [p.1, .int .i64 ((p.2 : Nat) : Int)]
/-- a front lies at f -/
structure Fr (base : Nat) (w : World) (f : Nat) (vs vk ve : Value) (sts : List (Value × Nat)) (ks : List (Value × List Nat)) (es : List Bool) (M : Nat) : Prop where
  row : w.heap[f]? = some (.cells #[vs, vk, ve] 122 (0, 0))
  fge : base ≤ f
  starts : w.ownsRow base 125 2 vs sts.length (stc sts)
  sets : w.ownsRow base 77 1 vk ks.length (ks.map Prod.fst)
  ends : w.ownsRow base 4 1 ve es.length (es.map Value.bool)
  each : ∀ p ∈ ks, IsSet w base p.1 M p.2 ∧ p.2.length = (M + 63) / 64
  apart : ks.Pairwise fun p q => ∀ b, p.1.ownBlock = some b → q.1.ownBlock ≠ some b
def FrX (f : Nat) (vs vk ve : Value) (ks : List (Value × List Nat)) (b : Nat) : Prop := b = f ∨ vs.ownBlock = some b ∨ vk.ownBlock = some b ∨ ve.ownBlock = some b ∨ ∃ p ∈ ks, p.1.ownBlock = some b
section
variable {base : Nat} {w w1 w' : World} {f M : Nat} {vs vk ve : Value} {sts : List (Value × Nat)} {ks : List (Value × List Nat)} {es : List Bool}
theorem Fr.kept {X : Nat → Prop} (h : Fr base w f vs vk ve sts ks es M) (hk : Kp X w w') (hX : ∀ b, X b → ¬ FrX f vs vk ve ks b) : Fr base w' f vs vk ve sts ks es M :=
  ⟨(hk.block _ (lt_at h.row) (fun e => hX _ e (.inl rfl))).trans h.row, h.fge, own_kp2 h.starts hk (fun b hb e => hX b e (.inr (.inl hb))), own_kp2 h.sets hk (fun b hb e => hX b e (.inr (.inr (.inl hb)))), own_kp2 h.ends hk (fun b hb e => hX b e (.inr (.inr (.inr (.inl hb))))), fun p hp => ⟨⟨own_kp2 (h.each p hp).1.1 hk (fun b hb e => hX b e (.inr (.inr (.inr (.inr ⟨p, hp, hb⟩))))), (h.each p hp).1.2⟩, (h.each p hp).2⟩, h.apart⟩
theorem Fr.below (h : Fr base w f vs vk ve sts ks es M) (hb : Below w.heap.size w w') : Fr base w' f vs vk ve sts ks es M := h.kept (kp_below hb (fun _ => False)) (fun _ e => e.elim)
theorem Fr.X (h : Fr base w f vs vk ve sts ks es M) {b : Nat} (hb : FrX f vs vk ve ks b) : base ≤ b ∧ ∃ c ty, w.heap[b]? = some (.cells c ty (0, 0)) ∧ (ty = 122 ∨ ty = 125 ∨ ty = 77 ∨ ty = 4 ∨ ty = 136) := by
  rcases hb with rfl | hb | hb | hb | ⟨p, hp, hb⟩
  · exact ⟨h.fge, _, _, h.row, .inl rfl⟩
  · obtain ⟨c, hc⟩ := own_ty h.starts hb
    exact ⟨(h.starts.lt _ hb).1, c, _, hc, .inr (.inl rfl)⟩
  · obtain ⟨c, hc⟩ := own_ty h.sets hb
    exact ⟨(h.sets.lt _ hb).1, c, _, hc, .inr (.inr (.inl rfl))⟩
  · obtain ⟨c, hc⟩ := own_ty h.ends hb
    exact ⟨(h.ends.lt _ hb).1, c, _, hc, .inr (.inr (.inr (.inl rfl)))⟩
  · have hs := (h.each p hp).1.1
    obtain ⟨c, hc⟩ := own_ty hs hb
    exact ⟨(hs.lt _ hb).1, c, _, hc, .inr (.inr (.inr (.inr rfl)))⟩
/-- a row of a front is grown and laid into the front again: what is kept -/
theorem grow_kp {f j : Nat} {v v' : Value} (hg : w.grownBy w1 v.ownBlock) : Kp (fun b => b = f ∨ v.ownBlock = some b) w (w1.setCell ⟨f, j, none⟩ v') :=
  kp_then ((Kp.refl (fun b => b = f ∨ v.ownBlock = some b) w).grown hg (fun _ hb _ => .inr hb)) ((Kp.refl (fun b => b = f) w1).setCell _ _ _ (fun _ => rfl)) (fun _ _ e => .inl e)
theorem own_grow {e s n j : Nat} {v v' : Value} {xs : List Value} (ho : w1.ownsRow base e s v' n xs) (hf : w1.heap[f]? = some (.cells #[vs, vk, ve] 122 (0, 0))) (he : e ≠ 122) : (w1.setCell ⟨f, j, none⟩ v).ownsRow base e s v' n xs :=
  own_kp2 ho ((Kp.refl (fun b => b = f) w1).setCell _ _ _ (fun _ => rfl)) (fun b hb e1 => by subst e1; obtain ⟨c, hc⟩ := own_ty ho hb; exact ty_ne hc hf he)
theorem Fr.f1 {v : Value} {e s n : Nat} {xs : List Value} (h : Fr base w f vs vk ve sts ks es M) (hr : w.ownsRow base e s v n xs) (he : e ≠ 122) (hg : w.grownBy w1 v.ownBlock) : w1.heap[f]? = some (.cells #[vs, vk, ve] 122 (0, 0)) :=
  (((Kp.refl (fun b => v.ownBlock = some b) w).grown hg (fun b hb _ => hb)).block f (lt_at h.row) (fun e1 => by obtain ⟨c, hc⟩ := own_ty hr e1; exact ty_ne hc h.row he)).trans h.row
/-- a set more -/
theorem Fr.addSet {v v' : Value} {ws : List Nat} (h : Fr base w f vs vk ve sts ks es M) (ho : w1.ownsRow base 77 1 v' (ks.length + 1) (ks.map Prod.fst ++ [v])) (hg : w.grownBy w1 vk.ownBlock) (hs : IsSet w base v M ws) (hl : ws.length = (M + 63) / 64) (hap : ∀ p ∈ ks, ∀ b, p.1.ownBlock = some b → v.ownBlock ≠ some b) :
    Fr base (w1.setCell ⟨f, 1, none⟩ v') f vs v' ve sts (ks ++ [(v, ws)]) es M ∧ Kp (fun b => b = f ∨ vk.ownBlock = some b) w (w1.setCell ⟨f, 1, none⟩ v') := by
  have hf := h.f1 h.sets (by decide) hg
  have hk := grow_kp (f := f) (j := 1) (v' := v') hg
  have nt : ∀ {b : Nat} {c : Array Value} {ty : TypeId}, w.heap[b]? = some (.cells c ty (0, 0)) → ty ≠ 122 → ty ≠ 77 → ¬ (b = f ∨ vk.ownBlock = some b) := fun {b c ty} hb h1 h2 e => by
    rcases e with e | e
    · subst e; exact ty_ne hb h.row h1
    · obtain ⟨d, hd⟩ := own_ty h.sets e; exact ty_ne hb hd h2
  have old : ∀ {e s n : Nat} {v : Value} {xs : List Value}, w.ownsRow base e s v n xs → e ≠ 122 → e ≠ 77 → (w1.setCell ⟨f, 1, none⟩ v').ownsRow base e s v n xs := fun {e s n v xs} hr h1 h2 => own_kp2 hr hk (fun b hb => by obtain ⟨c, hc⟩ := own_ty hr hb; exact nt hc h1 h2)
  refine ⟨⟨heap_setCell_same w1 f 1 _ 122 v' hf, h.fge, old h.starts (by decide) (by decide), ?_, old h.ends (by decide) (by decide), fun p hp => ?_, List.pairwise_append.2 ⟨h.apart, List.pairwise_singleton _ _, fun p hp q hq b hb => ?_⟩⟩, hk⟩
  · rw [List.length_append, List.map_append]
    exact own_grow ho hf (by decide)
  · rcases List.mem_append.1 hp with hp | hp
    · exact ⟨⟨old (h.each p hp).1.1 (by decide) (by decide), (h.each p hp).1.2⟩, (h.each p hp).2⟩
    · rw [List.mem_singleton.1 hp]; exact ⟨⟨old hs.1 (by decide) (by decide), hs.2⟩, hl⟩
  · rw [List.mem_singleton.1 hq]; exact hap p hp b hb
/-- an end more -/
theorem Fr.addEnd {v' : Value} {b : Bool} (h : Fr base w f vs vk ve sts ks es M) (ho : w1.ownsRow base 4 1 v' (es.length + 1) (es.map Value.bool ++ [.bool b])) (hg : w.grownBy w1 ve.ownBlock) :
    Fr base (w1.setCell ⟨f, 2, none⟩ v') f vs vk v' sts ks (es ++ [b]) M ∧ Kp (fun b => b = f ∨ ve.ownBlock = some b) w (w1.setCell ⟨f, 2, none⟩ v') := by
  have hf := h.f1 h.ends (by decide) hg
  have hk := grow_kp (f := f) (j := 2) (v' := v') hg
  have nt : ∀ {b : Nat} {c : Array Value} {ty : TypeId}, w.heap[b]? = some (.cells c ty (0, 0)) → ty ≠ 122 → ty ≠ 4 → ¬ (b = f ∨ ve.ownBlock = some b) := fun {b c ty} hb h1 h2 e => by
    rcases e with e | e
    · subst e; exact ty_ne hb h.row h1
    · obtain ⟨d, hd⟩ := own_ty h.ends e; exact ty_ne hb hd h2
  have old : ∀ {e s n : Nat} {v : Value} {xs : List Value}, w.ownsRow base e s v n xs → e ≠ 122 → e ≠ 4 → (w1.setCell ⟨f, 2, none⟩ v').ownsRow base e s v n xs := fun {e s n v xs} hr h1 h2 => own_kp2 hr hk (fun b hb => by obtain ⟨c, hc⟩ := own_ty hr hb; exact nt hc h1 h2)
  refine ⟨⟨heap_setCell_same w1 f 2 _ 122 v' hf, h.fge, old h.starts (by decide) (by decide), old h.sets (by decide) (by decide), ?_, fun p hp => ⟨⟨old (h.each p hp).1.1 (by decide) (by decide), (h.each p hp).1.2⟩, (h.each p hp).2⟩, h.apart⟩, hk⟩
  rw [List.length_append, List.map_append]
  exact own_grow ho hf (by decide)
/-- a start more -/
theorem Fr.addStart {v' t : Value} {k : Nat} (h : Fr base w f vs vk ve sts ks es M) (ho : w1.ownsRow base 125 2 v' (sts.length + 1) (stc sts ++ [t, .int .i64 ((k : Nat) : Int)])) (hg : w.grownBy w1 vs.ownBlock) :
    Fr base (w1.setCell ⟨f, 0, none⟩ v') f v' vk ve (sts ++ [(t, k)]) ks es M ∧ Kp (fun b => b = f ∨ vs.ownBlock = some b) w (w1.setCell ⟨f, 0, none⟩ v') := by
  have hf := h.f1 h.starts (by decide) hg
  have hk := grow_kp (f := f) (j := 0) (v' := v') hg
  have nt : ∀ {b : Nat} {c : Array Value} {ty : TypeId}, w.heap[b]? = some (.cells c ty (0, 0)) → ty ≠ 122 → ty ≠ 125 → ¬ (b = f ∨ vs.ownBlock = some b) := fun {b c ty} hb h1 h2 e => by
    rcases e with e | e
    · subst e; exact ty_ne hb h.row h1
    · obtain ⟨d, hd⟩ := own_ty h.starts e; exact ty_ne hb hd h2
  have old : ∀ {e s n : Nat} {v : Value} {xs : List Value}, w.ownsRow base e s v n xs → e ≠ 122 → e ≠ 125 → (w1.setCell ⟨f, 0, none⟩ v').ownsRow base e s v n xs := fun {e s n v xs} hr h1 h2 => own_kp2 hr hk (fun b hb => by obtain ⟨c, hc⟩ := own_ty hr hb; exact nt hc h1 h2)
  refine ⟨⟨heap_setCell_same w1 f 0 _ 122 v' hf, h.fge, ?_, old h.sets (by decide) (by decide), old h.ends (by decide) (by decide), fun p hp => ⟨⟨old (h.each p hp).1.1 (by decide) (by decide), (h.each p hp).1.2⟩, (h.each p hp).2⟩, h.apart⟩, hk⟩
  rw [List.length_append, show stc (sts ++ [(t, k)]) = stc sts ++ [t, .int .i64 ((k : Nat) : Int)] by simp [stc]]
  exact own_grow ho hf (by decide)
end
/-- has a set a node from which nothing need be written? -/
def en (N : Nat → Nat) (ws : List Nat) : Bool := (Za.ms ws).any fun v => N v == 0
theorem en_iff {N : Nat → Nat} {ws : List Nat} {M : Nat} (hn : M ≤ 64 * ws.length) (hmb : ∀ v, mem ws v = true → v < M) : en N ws = true ↔ ∃ v, mem ws v = true ∧ N v = 0 := by
  unfold en
  rw [Za.ms_all ws M hn hmb, List.any_eq_true]
  constructor
  · rintro ⟨v, hv, h⟩
    exact ⟨v, (List.mem_filter.1 hv).2, by simpa using h⟩
  · rintro ⟨v, hv, h⟩
    exact ⟨v, List.mem_filter.2 ⟨List.mem_range.2 (hmb v hv), hv⟩, by simpa using h⟩
end Go.Proofs.YtfjocafepigijaaDoor.Ot
