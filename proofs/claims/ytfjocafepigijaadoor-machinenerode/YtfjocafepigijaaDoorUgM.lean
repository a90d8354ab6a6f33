/- on (105) in one word; the sets by symbols that write gathers: how they lie, a node more. Conditions: a track of at most 40 states and 61 symbols. -/
import Derived.Test.YtfjocafepigijaaDoorUdM
import Derived.Test.YtfjocafepigijaaDoorUc
namespace Go.Proofs.YtfjocafepigijaaDoor.Ot
open Go.RowKit Mv Sy Po Ps Cm Pa Am Wd St Ra Set

abbrev Gt := Nat → Option (Value × List Nat)
def gv (G : Gt) (c : Nat) : Value := match G c with
  | some p => p.1
  | none => .slice none 0 0
def mg (G : Gt) (c x : Nat) : Bool := match G c with
  | some p => mem p.2 x
  | none => false
def upg (G : Gt) (c : Nat) (p : Value × List Nat) : Gt := fun d => if d = c then some p else G d
/-- sets by symbols -/
structure Ar (base : Nat) (w : World) (B M : Nat) (G : Gt) : Prop where
  row : Arr w B (gv G)
  set : ∀ c p, G c = some p → IsSet w base p.1 M p.2 ∧ p.2.length = (M + 63) / 64
  apart : ∀ c c' p p', c ≠ c' → G c = some p → G c' = some p' → ∀ b, p.1.ownBlock = some b → p'.1.ownBlock ≠ some b
def ArX (B : Nat) (G : Gt) (b : Nat) : Prop := b = B ∨ ∃ c p, G c = some p ∧ p.1.ownBlock = some b
theorem Ar.X {base B M : Nat} {w : World} {G : Gt} (h : Ar base w B M G) {b : Nat} (hb : ArX B G b) : (b = B ∨ base ≤ b) ∧ ∃ c ty, w.heap[b]? = some (.cells c ty (0, 0)) ∧ (ty = 147 ∨ ty = 136) := by
  rcases hb with rfl | ⟨c, p, hp, hb⟩
  · exact ⟨.inl rfl, _, _, h.row, .inl rfl⟩
  · have hs := (h.set c p hp).1.1
    obtain ⟨d, hd⟩ := own_ty hs hb
    exact ⟨.inr (hs.lt _ hb).1, d, _, hd, .inr rfl⟩
theorem Ar.kept {base B M : Nat} {w w' : World} {G : Gt} {X : Nat → Prop} (h : Ar base w B M G) (hk : Kp X w w') (hX : ∀ b, X b → ¬ ArX B G b) : Ar base w' B M G :=
  ⟨(hk.block _ h.row.lt (fun e => hX _ e (.inl rfl))).trans h.row, fun c p hp => ⟨⟨own_kp2 (h.set c p hp).1.1 hk (fun b hb e => hX b e (.inr ⟨c, p, hp, hb⟩)), (h.set c p hp).1.2⟩, (h.set c p hp).2⟩, h.apart⟩
theorem Ar.below {base B M : Nat} {w w' : World} {G : Gt} (h : Ar base w B M G) (hb : Below w.heap.size w w') : Ar base w' B M G := h.kept (kp_below hb (fun _ => False)) (fun _ e => e.elim)
theorem gv_upg (G : Gt) (c : Nat) (p : Value × List Nat) : upv (gv G) c p.1 = gv (upg G c p) := by
  funext d
  unfold upv gv upg
  by_cases e : d = c
  · simp [e]
  · simp [e]
/-- a new set is laid at a symbol -/
theorem Ar.new {base B M c : Nat} {w w1 : World} {G : Gt} {v : Value} {ws : List Nat} (h : Ar base w B M G) (hb : Below w.heap.size w w1) (hs : IsSet w1 w.heap.size v M ws) (hl : ws.length = (M + 63) / 64) (hB : base ≤ w.heap.size) : Ar base (w1.setCell ⟨B, c, none⟩ v) B M (upg G c (v, ws)) := by
  have h1 := h.below hb
  have hlt : B < w.heap.size := h.row.lt
  have hk : Kp (fun b => b = B) w1 (w1.setCell ⟨B, c, none⟩ v) := (Kp.refl _ w1).setCell _ _ _ (fun _ => rfl)
  have hr := h1.row.set c v
  rw [gv_upg G c (v, ws)] at hr
  refine ⟨hr, fun d p hp => ?_, fun d d' p p' hne hp hp' b hb1 hb2 => ?_⟩
  · unfold upg at hp
    split at hp
    · cases hp
      exact ⟨⟨own_kp2 (own_low hs.1 hB) hk (fun b hb1 e => by have := (hs.1.lt _ hb1).1; omega), hs.2⟩, hl⟩
    · have h2 := h1.set d p hp
      refine ⟨⟨own_kp2 h2.1.1 hk (fun b hb1 e => ?_), h2.1.2⟩, h2.2⟩
      subst e
      obtain ⟨q, hq⟩ := own_ty h2.1.1 hb1
      exact ty_ne hq h1.row (by decide)
  · unfold upg at hp hp'
    have old : ∀ d q, G d = some q → ∀ b, q.1.ownBlock = some b → b < w.heap.size := fun d q hq b hb => ((h.set d q hq).1.1.lt _ hb).2
    split at hp
    · split at hp'
      · rename_i e1 e2; exact hne (e1.trans e2.symm)
      · cases hp
        have h3 := (hs.1.lt _ hb1).1
        have h4 := old d' p' hp' b hb2
        omega
    · split at hp'
      · cases hp'
        have h3 := (hs.1.lt _ hb2).1
        have h4 := old d p hp b hb1
        omega
      · exact h.apart d d' p p' hne hp hp' b hb1 hb2
/-- a set of a symbol is turned -/
theorem Ar.put {base B M c : Nat} {w w1 : World} {G : Gt} {p : Value × List Nat} {ws : List Nat} (h : Ar base w B M G) (hp : G c = some p) (hs : IsSet w1 base p.1 M ws) (hl : ws.length = (M + 63) / 64) (hg : w.grownBy w1 p.1.ownBlock) : Ar base w1 B M (upg G c (p.1, ws)) := by
  have hk : Kp (fun b => p.1.ownBlock = some b) w w1 := (Kp.refl _ w).grown hg (fun b hb _ => hb)
  have hsp := (h.set c p hp).1
  have e : gv (upg G c (p.1, ws)) = gv G := by
    funext d
    unfold gv upg
    by_cases e : d = c
    · subst e; simp [hp]
    · simp [e]
  refine ⟨?_, fun d q hq => ?_, fun d d' q q' hne hq hq' b hb1 hb2 => ?_⟩
  · rw [e]
    exact (hk.block _ h.row.lt (fun e1 => by obtain ⟨q, hq⟩ := own_ty hsp.1 e1; exact ty_ne hq h.row (by decide))).trans h.row
  · unfold upg at hq
    split at hq
    · cases hq; exact ⟨hs, hl⟩
    · rename_i hne
      have h2 := h.set d q hq
      exact ⟨⟨own_kp2 h2.1.1 hk (fun b hb1 e1 => h.apart d c q p hne hq hp b hb1 e1), h2.1.2⟩, h2.2⟩
  · unfold upg at hq hq'
    split at hq
    · split at hq'
      · rename_i e1 e2; exact hne (e1.trans e2.symm)
      · rename_i e1 e2
        cases hq
        exact h.apart c d' p q' (fun e => e2 e.symm) hp hq' b hb1 hb2
    · split at hq'
      · rename_i e1 e2
        cases hq'
        exact h.apart d c q p e1 hq hp b hb1 hb2
      · exact h.apart d d' q q' hne hq hq' b hb1 hb2
/-- what the gathering does to what is there -/
def Gat (G G' : Gt) (c v : Nat) : Prop := (∀ d x, mg G' d x = (mg G d x || (decide (d = c) && decide (x = v)))) ∧ (∀ d, (G' d).isSome = true → (G d).isSome = true ∨ d = c)
theorem gat_put {G : Gt} {c v : Nat} {p : Value × List Nat} (hp : G c = some p) (hv : v / 64 < p.2.length) : Gat G (upg G c (p.1, put p.2 v)) c v := by
  refine ⟨fun d x => ?_, fun d hd => ?_⟩
  · unfold mg upg
    by_cases e : d = c
    · subst e; simp [hp, mem_put _ _ _ hv]
    · simp [e]
  · by_cases e : d = c
    · exact .inr e
    · unfold upg at hd; rw [if_neg e] at hd; exact .inl hd
theorem gat_new {G : Gt} {c v n : Nat} {u : Value} (hp : G c = none) (hv : v / 64 < n) : Gat G (upg (upg G c (u, List.replicate n 0)) c (u, put (List.replicate n 0) v)) c v := by
  refine ⟨fun d x => ?_, fun d hd => ?_⟩
  · unfold mg upg
    by_cases e : d = c
    · subst e; simp [hp, mem_put (List.replicate n 0) v x (by simpa using hv), mem_zero]
    · simp [e]
  · by_cases e : d = c
    · exact .inr e
    · unfold upg at hd; rw [if_neg e, if_neg e] at hd; exact .inl hd
end Go.Proofs.YtfjocafepigijaaDoor.Ot
/- write$1 (104): a node is put into the set of an arc's symbol, if it does not need too much. Conditions: the track lies below b2, the sets at or above base. -/
namespace Go.Proofs.YtfjocafepigijaaDoor.Ot
open Go.RowKit Mv Sy Po Ps Cm Pa Am Wd St Ra Set

theorem eql77 (a : Addr) (n c : Nat) (W : World) : Sem.run Tryd.prog (binOp BinOp.eql 77 (.slice (some a) n c) (.slice none 0 0)) W = .ok (.bool false) W := by kernel_rfl
theorem eql77n (W : World) : Sem.run Tryd.prog (binOp BinOp.eql 77 (.slice none 0 0) (.slice none 0 0)) W = .ok (.bool true) W := by kernel_rfl
end Go.Proofs.YtfjocafepigijaaDoor.Ot
