/- spread (103): what a search along arcs that write nothing has met, in plain words; how all lies. Conditions: the arcs are right. -/
import Derived.Test.YtfjocafepigijaaDoorUhM
import Derived.Test.YtfjocafepigijaaDoorZb
namespace Go.Proofs.YtfjocafepigijaaDoor.Ot
open Go.RowKit Mv Sy Po Ps Cm Pa Am Wd St Ra Set

/-- an arc of a node is done -/
def Did (S : Nat) (tx : List Int) (N : Nat → Nat) (left : Nat) (C : Nat → Bool) (G : Nat → Nat → Bool) (u : Nat) (a : Arc) : Prop :=
  ∀ v, on S tx u a = some v → (a.2.2.2.1 = 0 → N v ≤ left → C v = true) ∧ (a.2.2.2.1 ≠ 0 → N v < left → G a.2.2.2.1.toNat v = true)
theorem Did.mono {S : Nat} {tx : List Int} {N : Nat → Nat} {left : Nat} {C C' : Nat → Bool} {G G' : Nat → Nat → Bool} {u : Nat} {a : Arc} (h : Did S tx N left C G u a) (hC : ∀ v, C v = true → C' v = true) (hG : ∀ c v, G c v = true → G' c v = true) : Did S tx N left C' G' u a :=
  fun v hv => ⟨fun h1 h2 => hC _ ((h v hv).1 h1 h2), fun h1 h2 => hG _ _ ((h v hv).2 h1 h2)⟩
/-- a search: X where it began, C what was met, T what waits, G what is gathered, P the node at hand, l its arcs that are done -/
structure Sd (S : Nat) (tx : List Int) (A : List Arc) (N : Nat → Nat) (left M : Nat) (X C : Nat → Bool) (T : List Nat) (G : Nat → Nat → Bool) (P : Option Nat) (l : List Arc) : Prop where
  inX : ∀ v, X v = true → C v = true
  bd : ∀ v, C v = true → v < M
  least : ∀ Q : Nat → Prop, (∀ v, X v = true → Q v) → (∀ u v, Q u → Eg S tx A 0 u v → N v ≤ left → Q v) → ∀ v, C v = true → Q v
  stk : ∀ v ∈ T, C v = true
  did : ∀ u, C u = true → u ∈ T ∨ P = some u ∨ ∀ a ∈ A, a.1 = ((u % S : Nat) : Int) → Did S tx N left C G u a
  now : ∀ u, P = some u → C u = true ∧ ∀ a ∈ l, Did S tx N left C G u a
  snd : ∀ c x, G c x = true → 0 < c ∧ ∃ u, C u = true ∧ Eg S tx A (c : Int) u x ∧ N x < left
theorem Sd.begin (S : Nat) (tx : List Int) (A : List Arc) (N : Nat → Nat) (left M : Nat) (X : Nat → Bool) (T : List Nat) (hb : ∀ v, X v = true → v < M) (hT : ∀ v, v ∈ T ↔ X v = true) : Sd S tx A N left M X X T (fun _ _ => false) none [] :=
  ⟨fun _ h => h, hb, fun _ h _ => h, fun v h => (hT v).1 h, fun u h => .inl ((hT u).2 h), fun _ h => (by cases h), fun _ _ h => (by cases h)⟩
theorem Sd.pop {S : Nat} {tx : List Int} {A : List Arc} {N : Nat → Nat} {left M : Nat} {X C : Nat → Bool} {T : List Nat} {G : Nat → Nat → Bool} {P : Nat} (h : Sd S tx A N left M X C (T ++ [P]) G none []) : Sd S tx A N left M X C T G (some P) [] := by
  refine ⟨h.inX, h.bd, h.least, fun v hv => h.stk v (by simp [hv]), fun u hu => ?_, fun u hu => ?_, h.snd⟩
  · rcases h.did u hu with h1 | h1 | h1
    · rcases List.mem_append.1 h1 with h1 | h1
      · exact .inl h1
      · exact .inr (.inl (by rw [List.mem_singleton.1 h1]))
    · cases h1
    · exact .inr (.inr h1)
  · cases hu
    exact ⟨h.stk P (by simp), fun a ha => (by cases ha)⟩
theorem Sd.step {S : Nat} {tx : List Int} {A : List Arc} {N : Nat → Nat} {left M : Nat} {X C C' : Nat → Bool} {T T' : List Nat} {G G' : Nat → Nat → Bool} {P : Nat} {l : List Arc} {a : Arc} (h : Sd S tx A N left M X C T G (some P) l) (hC : ∀ v, C v = true → C' v = true) (hG : ∀ c v, G c v = true → G' c v = true) (hT : ∀ v ∈ T, v ∈ T')
    (nC : ∀ v, C' v = true → C v = true ∨ (v ∈ T' ∧ Eg S tx A 0 P v ∧ N v ≤ left ∧ v < M)) (nT : ∀ v ∈ T', C' v = true) (nG : ∀ c x, G' c x = true → G c x = true ∨ (0 < c ∧ Eg S tx A (c : Int) P x ∧ N x < left)) (hd : Did S tx N left C' G' P a) : Sd S tx A N left M X C' T' G' (some P) (l ++ [a]) := by
  obtain ⟨hP, hl⟩ := h.now P rfl
  refine ⟨fun v hv => hC v (h.inX v hv), fun v hv => ?_, fun Q h1 h2 v hv => ?_, nT, fun u hu => ?_, fun u hu => ?_, fun c x hx => ?_⟩
  · rcases nC v hv with h1 | h1
    · exact h.bd v h1
    · exact h1.2.2.2
  · rcases nC v hv with h3 | ⟨_, h4, h5, _⟩
    · exact h.least Q h1 h2 v h3
    · exact h2 P v (h.least Q h1 h2 P hP) h4 h5
  · rcases nC u hu with h1 | h1
    · rcases h.did u h1 with h2 | h2 | h2
      · exact .inl (hT u h2)
      · exact .inr (.inl h2)
      · exact .inr (.inr (fun b hb hb1 => (h2 b hb hb1).mono hC hG))
    · exact .inl h1.1
  · cases hu
    refine ⟨hC P hP, fun b hb => ?_⟩
    rcases List.mem_append.1 hb with hb | hb
    · exact (hl b hb).mono hC hG
    · rw [List.mem_singleton.1 hb]; exact hd
  · rcases nG c x hx with h1 | ⟨h1, h2, h3⟩
    · obtain ⟨h4, u, h5, h6⟩ := h.snd c x h1
      exact ⟨h4, u, hC u h5, h6⟩
    · exact ⟨h1, P, hC P hP, h2, h3⟩
theorem Sd.done {S : Nat} {tx : List Int} {A : List Arc} {N : Nat → Nat} {left M : Nat} {X C : Nat → Bool} {T : List Nat} {G : Nat → Nat → Bool} {P : Nat} {l : List Arc} (h : Sd S tx A N left M X C T G (some P) l) (hl : ∀ a ∈ A, a.1 = ((P % S : Nat) : Int) → a ∈ l) : Sd S tx A N left M X C T G none [] := by
  refine ⟨h.inX, h.bd, h.least, h.stk, fun u hu => ?_, fun u hu => (by cases hu), h.snd⟩
  rcases h.did u hu with h1 | h1 | h1
  · exact .inl h1
  · cases h1
    exact .inr (.inr (fun a ha h2 => (h.now P rfl).2 a (hl a ha h2)))
  · exact .inr (.inr h1)
/-- the end of a search: just what is gathered -/
theorem Sd.fin {S : Nat} {tx : List Int} {A : List Arc} {N : Nat → Nat} {left M : Nat} {X C : Nat → Bool} {G : Nat → Nat → Bool} (h : Sd S tx A N left M X C [] G none []) : (∀ u v, C u = true → Eg S tx A 0 u v → N v ≤ left → C v = true) ∧ ∀ c x, 0 < c → (G c x = true ↔ ∃ u, C u = true ∧ Eg S tx A (c : Int) u x ∧ N x < left) := by
  have hd : ∀ u, C u = true → ∀ a ∈ A, a.1 = ((u % S : Nat) : Int) → Did S tx N left C G u a := fun u hu => by
    rcases h.did u hu with h1 | h1 | h1
    · cases h1
    · cases h1
    · exact h1
  refine ⟨fun u v hu he hn => ?_, fun c x hc => ⟨fun hx => (h.snd c x hx).2, fun hx => ?_⟩⟩
  · obtain ⟨a, ha, h0, h1, h2⟩ := he
    exact ((hd u hu a ha h1) v h2).1 h0 hn
  · obtain ⟨u, hu, ⟨a, ha, h0, h1, h2⟩, hn⟩ := hx
    have := ((hd u hu a ha h1) x h2).2 (by omega) hn
    rw [h0] at this
    exact this
theorem tr_kp {b2 T S sb ci nb cN M : Nat} {w w' : World} {ai : Option Addr} {tx : List Int} {R : Nat → List Arc} {V : Nat → Value} {N : Nat → Nat} {X : Nat → Prop} (h : Tr b2 w T S sb ci nb cN M ai tx R V N) (hk : Kp X w w') (hX : ∀ b, X b → b2 ≤ b) : Tr b2 w' T S sb ci nb cN M ai tx R V N :=
  h.below ⟨hk.os, hk.tape, hk.output, hk.size, fun k hk2 => hk.block k (Nat.lt_of_lt_of_le hk2 h.le) (fun e => by have := hX k e; omega)⟩
/-- how it lies: w is the world in which it began -/
structure Sw (b2 b0 : Nat) (w wr : World) (T S sb ci nb cN M : Nat) (ai : Option Addr) (tx : List Int) (R : Nat → List Arc) (V : Nat → Value) (N : Nat → Nat) (p3 p5 left B : Nat) (vS : Value) (ws : List Nat) (vt : Value) (st : List Nat) (G : Gt) : Prop where
  tr : Tr b2 wr T S sb ci nb cN M ai tx R V N
  x3 : wr.heap[p3]? = some (.cells #[.pointer (some ⟨T, 0, none⟩)] 60 (0, 0))
  x5 : wr.heap[p5]? = some (.cells #[.int .i64 (left : Int)] 3 (0, 0))
  p5 : p5 < w.heap.size
  ar : Ar w.heap.size wr B M G
  bge : b2 ≤ B
  set : IsSet wr b0 vS M ws
  len : ws.length = (M + 63) / 64
  vge : ∀ b, vS.ownBlock = some b → b2 ≤ b ∧ b < w.heap.size
  stk : wr.ownsRow w.heap.size 3 1 vt st.length (ns st)
  b2l : b2 ≤ w.heap.size
  kp : Kp (fun b => vS.ownBlock = some b ∨ b = B) w wr
section
variable {b2 b0 : Nat} {w wr w' : World} {T S sb ci nb cN M : Nat} {ai : Option Addr} {tx : List Int} {R : Nat → List Arc} {V : Nat → Value} {N : Nat → Nat} {p3 p5 left B : Nat} {vS : Value} {ws : List Nat} {vt : Value} {st : List Nat} {G G' : Gt}
theorem Sw.below (h : Sw b2 b0 w wr T S sb ci nb cN M ai tx R V N p3 p5 left B vS ws vt st G) (hb : Below wr.heap.size wr w') : Sw b2 b0 w w' T S sb ci nb cN M ai tx R V N p3 p5 left B vS ws vt st G :=
  ⟨h.tr.below (hb.mono h.tr.le), (hb.block _ (lt_at h.x3)).trans h.x3, (hb.block _ (lt_at h.x5)).trans h.x5, h.p5, h.ar.below hb, h.bge, ⟨own_kp2 h.set.1 (kp_below hb (fun _ => False)) (fun _ _ => id), h.set.2⟩, h.len, h.vge, own_kp2 h.stk (kp_below hb (fun _ => False)) (fun _ _ => id), h.b2l, h.kp.trans (kp_below hb _)⟩
theorem Sw.nS (h : Sw b2 b0 w wr T S sb ci nb cN M ai tx R V N p3 p5 left B vS ws vt st G) {b : Nat} (hb : vS.ownBlock = some b) : ¬ ArX B G b := fun e => by
  obtain ⟨q, hq⟩ := own_ty h.set.1 hb
  rcases (h.ar.X e).1 with e1 | e1
  · subst e1; exact ty_ne hq h.ar.row (by decide)
  · have := (h.vge b hb).2; omega
theorem Sw.tell (h : Sw b2 b0 w wr T S sb ci nb cN M ai tx R V N p3 p5 left B vS ws vt st G) (ha : Ar w.heap.size w' B M G') (hk : Kp (ArX B G) wr w') : Sw b2 b0 w w' T S sb ci nb cN M ai tx R V N p3 p5 left B vS ws vt st G' := by
  refine ⟨tr_kp h.tr hk (fun b e => ?_), (hk.block _ (lt_at h.x3) (h.ar.nX h.x3 (by decide) (by decide))).trans h.x3, (hk.block _ (lt_at h.x5) (h.ar.nX h.x5 (by decide) (by decide))).trans h.x5, h.p5, ha, h.bge, ⟨own_kp2 h.set.1 hk (fun b hb => h.nS hb), h.set.2⟩, h.len, h.vge, own_kp2 h.stk hk (fun b hb => ?_), h.b2l, kp_then h.kp hk (fun i hi e => ?_)⟩
  · rcases (h.ar.X e).1 with e1 | e1
    · rw [e1]; exact h.bge
    · exact Nat.le_trans h.b2l e1
  · obtain ⟨q, hq⟩ := own_ty h.stk hb
    exact h.ar.nX hq (by decide) (by decide)
  · rcases (h.ar.X e).1 with e1 | e1
    · exact .inr e1
    · omega
theorem Sw.add {v : Nat} (h : Sw b2 b0 w wr T S sb ci nb cN M ai tx R V N p3 p5 left B vS ws vt st G) (hs : IsSet w' b0 vS M (put ws v)) (hg : wr.grownBy w' vS.ownBlock) : Sw b2 b0 w w' T S sb ci nb cN M ai tx R V N p3 p5 left B vS (put ws v) vt st G := by
  have hk : Kp (fun b => vS.ownBlock = some b) wr w' := (Kp.refl _ wr).grown hg (fun b hb _ => hb)
  have nt : ∀ {b : Nat} {c : Array Value} {ty : TypeId}, wr.heap[b]? = some (.cells c ty (0, 0)) → ty ≠ 136 → ¬ vS.ownBlock = some b := fun {b c ty} hb hne e => by
    obtain ⟨q, hq⟩ := own_ty h.set.1 e
    exact ty_ne hb hq hne
  refine ⟨tr_kp h.tr hk (fun b e => (h.vge b e).1), (hk.block _ (lt_at h.x3) (nt h.x3 (by decide))).trans h.x3, (hk.block _ (lt_at h.x5) (nt h.x5 (by decide))).trans h.x5, h.p5, h.ar.kept hk (fun b e => h.nS e), h.bge, hs, by rw [put_len]; exact h.len, h.vge, own_kp2 h.stk hk (fun b hb => ?_), h.b2l, kp_then h.kp hk (fun i _ e => .inl e)⟩
  obtain ⟨q, hq⟩ := own_ty h.stk hb
  exact nt hq (by decide)
theorem Sw.push {v : Nat} {v1 : Value} (h : Sw b2 b0 w wr T S sb ci nb cN M ai tx R V N p3 p5 left B vS ws vt st G) (ho : w'.ownsRow w.heap.size 3 1 v1 (st.length + 1) (ns st ++ ns [v])) (hg : wr.grownBy w' vt.ownBlock) : Sw b2 b0 w w' T S sb ci nb cN M ai tx R V N p3 p5 left B vS ws v1 (st ++ [v]) G := by
  have hk : Kp (fun b => vt.ownBlock = some b) wr w' := (Kp.refl _ wr).grown hg (fun b hb _ => hb)
  have ge : ∀ b, vt.ownBlock = some b → w.heap.size ≤ b := fun b hb => (h.stk.lt _ hb).1
  have nt : ∀ {b : Nat} {c : Array Value} {ty : TypeId}, wr.heap[b]? = some (.cells c ty (0, 0)) → ty ≠ 3 → ¬ vt.ownBlock = some b := fun {b c ty} hb hne e => by
    obtain ⟨q, hq⟩ := own_ty h.stk e
    exact ty_ne hb hq hne
  refine ⟨tr_kp h.tr hk (fun b e => Nat.le_trans h.b2l (ge b e)), (hk.block _ (lt_at h.x3) (nt h.x3 (by decide))).trans h.x3, (hk.block _ (lt_at h.x5) (fun e => by have := ge _ e; have := h.p5; omega)).trans h.x5, h.p5, h.ar.kept hk (fun b e e2 => ?_), h.bge, ⟨own_kp2 h.set.1 hk (fun b hb e => by have := (h.vge b hb).2; have := ge _ e; omega), h.set.2⟩, h.len, h.vge, by rw [List.length_append, ns_snoc]; exact ho, h.b2l, kp_then h.kp hk (fun i hi e => absurd (ge i e) (Nat.not_le.2 hi))⟩
  obtain ⟨_, c, ty, hc, ht | ht⟩ := h.ar.X e2
  · subst ht; exact nt hc (by decide) e
  · subst ht; exact nt hc (by decide) e
theorem Sw.pop {k tb cap : Nat} (h : Sw b2 b0 w wr T S sb ci nb cN M ai tx R V N p3 p5 left B vS ws (.slice (some ⟨tb, 0, none⟩) (k + 1) cap) st G) (hT : st.length = k + 1) : Sw b2 b0 w wr T S sb ci nb cN M ai tx R V N p3 p5 left B vS ws (.slice (some ⟨tb, 0, none⟩) k cap) (st.take k) G := by
  refine ⟨h.tr, h.x3, h.x5, h.p5, h.ar, h.bge, h.set, h.len, h.vge, ?_, h.b2l, h.kp⟩
  rw [List.length_take, hT, Nat.min_eq_left (by omega)]
  rcases h.stk.2 with ⟨h', _⟩ | ⟨g', cap', cur, hv, hb, hg, hnc, hcm, hcs, htake⟩
  · simp at h'
  · simp only [hT, Value.slice.injEq, Option.some.injEq, Addr.mk.injEq, and_true, true_and] at hv
    obtain ⟨rfl, rfl⟩ := hv
    refine ⟨by simp [ns, hT], .inr ⟨tb, cap, cur, rfl, hb, hg, by omega, hcm, hcs, ?_⟩⟩
    rw [show ns (st.take k) = (ns st).take k by unfold ns; rw [List.map_take], ← htake, List.take_take]
    congr 1
    omega
end
end Go.Proofs.YtfjocafepigijaaDoor.Ot
/- spread (103): what an arc does to a search. No program text; conditions: the arcs are right. -/
namespace Go.Proofs.YtfjocafepigijaaDoor.Ot
open Go.RowKit Mv Sy Po Ps Cm Pa Am Wd St Ra Set

section
variable {S : Nat} {tx : List Int} {A : List Arc} {N : Nat → Nat} {left M : Nat} {X : Nat → Bool} {T : List Nat} {G G' : Gt} {P u : Nat} {l : List Arc} {a : Arc} {ws : List Nat}
theorem Sd.none_ (h : Sd S tx A N left M X (mem ws) T (mg G) (some P) l) (ho : on S tx P a = none) : Sd S tx A N left M X (mem ws) T (mg G) (some P) (l ++ [a]) :=
  h.step (fun _ h => h) (fun _ _ h => h) (fun _ h => h) (fun _ h => .inl h) h.stk (fun _ _ h => .inl h) (fun v hv => by rw [ho] at hv; cases hv)
theorem Sd.far (h : Sd S tx A N left M X (mem ws) T (mg G) (some P) l) (ho : on S tx P a = some u) (h0 : a.2.2.2.1 = 0) (hn : ¬ N u ≤ left) : Sd S tx A N left M X (mem ws) T (mg G) (some P) (l ++ [a]) :=
  h.step (fun _ h => h) (fun _ _ h => h) (fun _ h => h) (fun _ h => .inl h) h.stk (fun _ _ h => .inl h) (fun v hv => by rw [ho] at hv; cases hv; exact ⟨fun _ h => absurd h hn, fun h => absurd h0 h⟩)
theorem Sd.told (h : Sd S tx A N left M X (mem ws) T (mg G) (some P) l) {c : Nat} (hc : 0 < c) (ha : a ∈ A) (h1 : a.1 = ((P % S : Nat) : Int)) (ho : on S tx P a = some u) (h0 : a.2.2.2.1 = (c : Int)) (hy : N u < left → Gat G G' c u) (hn : ¬ N u < left → G' = G) : Sd S tx A N left M X (mem ws) T (mg G') (some P) (l ++ [a]) := by
  by_cases hlt : N u < left
  · have hg := (hy hlt).1
    refine h.step (fun _ h => h) (fun d x hx => by rw [hg, hx]; rfl) (fun _ h => h) (fun _ h => .inl h) h.stk (fun d x hx => ?_) (fun v hv => ?_)
    · rw [hg] at hx
      rcases Bool.or_eq_true_iff.1 hx with hx | hx
      · exact .inl hx
      · obtain ⟨e1, e2⟩ := Bool.and_eq_true_iff.1 hx
        have e1 := of_decide_eq_true e1
        have e2 := of_decide_eq_true e2
        subst e1 e2
        exact .inr ⟨hc, ⟨a, ha, h0, h1, ho⟩, hlt⟩
    · rw [ho] at hv; cases hv
      refine ⟨fun h => by omega, fun _ _ => ?_⟩
      rw [hg, h0]
      simp
  · rw [hn hlt]
    exact h.step (fun _ h => h) (fun _ _ h => h) (fun _ h => h) (fun _ h => .inl h) h.stk (fun _ _ h => .inl h) (fun v hv => by rw [ho] at hv; cases hv; exact ⟨fun h => by omega, fun _ h => absurd h hlt⟩)
theorem Sd.old (h : Sd S tx A N left M X (mem ws) T (mg G) (some P) l) (ho : on S tx P a = some u) (h0 : a.2.2.2.1 = 0) (hm : mem ws u = true) (hl : u / 64 < ws.length) : Sd S tx A N left M X (mem (put ws u)) T (mg G) (some P) (l ++ [a]) := by
  have e : mem (put ws u) = mem ws := by
    funext x
    rw [mem_put _ _ _ hl]
    by_cases hx : x = u
    · subst hx; rw [hm]; rfl
    · simp [hx]
  rw [e]
  exact h.step (fun _ h => h) (fun _ _ h => h) (fun _ h => h) (fun _ h => .inl h) h.stk (fun _ _ h => .inl h) (fun v hv => by rw [ho] at hv; cases hv; exact ⟨fun _ _ => hm, fun h => absurd h0 h⟩)
theorem Sd.new (h : Sd S tx A N left M X (mem ws) T (mg G) (some P) l) (ha : a ∈ A) (h1 : a.1 = ((P % S : Nat) : Int)) (ho : on S tx P a = some u) (h0 : a.2.2.2.1 = 0) (hn : N u ≤ left) (hu : u < M) (hl : u / 64 < ws.length) : Sd S tx A N left M X (mem (put ws u)) (T ++ [u]) (mg G) (some P) (l ++ [a]) := by
  have e : ∀ x, mem (put ws u) x = (mem ws x || decide (x = u)) := fun x => mem_put _ _ _ hl
  refine h.step (fun v hv => by rw [e, hv]; rfl) (fun _ _ h => h) (fun v hv => by simp [hv]) (fun v hv => ?_) (fun v hv => ?_) (fun _ _ h => .inl h) (fun v hv => ?_)
  · rw [e] at hv
    rcases Bool.or_eq_true_iff.1 hv with hv | hv
    · exact .inl hv
    · have := of_decide_eq_true hv
      subst this
      exact .inr ⟨by simp, ⟨a, ha, h0, h1, ho⟩, hn, hu⟩
  · rw [e]
    rcases List.mem_append.1 hv with hv | hv
    · rw [h.stk v hv]; rfl
    · rw [List.mem_singleton.1 hv]; simp
  · rw [ho] at hv; cases hv
    exact ⟨fun _ _ => by rw [e]; simp, fun h => absurd h0 h⟩
end
/-- what is there has something in it -/
def Ne (G : Gt) : Prop := ∀ d, (G d).isSome = true → ∃ x, mg G d x = true
theorem Ne.gat {G G' : Gt} {c v : Nat} (h : Ne G) (hg : Gat G G' c v) : Ne G' := fun d hd => by
  rcases hg.2 d hd with h1 | h1
  · obtain ⟨x, hx⟩ := h d h1
    exact ⟨x, by rw [hg.1, hx]; rfl⟩
  · subst h1
    exact ⟨v, by rw [hg.1]; simp⟩
theorem Ne.told {G G' : Gt} {c v n left : Nat} (h : Ne G) (hy : n < left → Gat G G' c v) (hn : ¬ n < left → G' = G) : Ne G' := by
  by_cases hlt : n < left
  · exact h.gat (hy hlt)
  · rw [hn hlt]; exact h
end Go.Proofs.YtfjocafepigijaaDoor.Ot
