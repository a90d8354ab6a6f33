/- spread (103): what an arc does to a search. No program text; conditions: the arcs are right. -/
import Derived.Test.YtfjocafepigijaaDoorUi
namespace Go.Proofs.YtfjocafepigijaaDoor.Ot
open Go.RowKit Mv Sy Po Ps Cm Pa Am Wd St Ra Set

section
variable {S : Nat} {tx : List Int} {A : List Arc} {N : Nat → Nat} {left M : Nat} {X : Nat → Bool} {T : List Nat} {G G' : Gt} {P u : Nat} {l : List Arc} {a : Arc} {ws : List Nat}
theorem Sd.none_ (h : Sd S tx A N left M X (mem ws) T (mg G) (some P) l) (ho : on S tx P a = none) : Sd S tx A N left M X (mem ws) T (mg G) (some P) (l ++ [a]) :=
  h.step (fun _ h => h) (fun _ _ h => h) (fun _ h => h) (fun _ h => .inl h) h.stk (fun _ _ h => .inl h) (fun v hv => by rw [ho] at hv; cases hv)
theorem Sd.far (h : Sd S tx A N left M X (mem ws) T (mg G) (some P) l) (ho : on S tx P a = some u) (h0 : a.2.2.2.1 = 0) (hn : ¬ N u ≤ left) : Sd S tx A N left M X (mem ws) T (mg G) (some P) (l ++ [a]) :=
  h.step (fun _ h => h) (fun _ _ h => h) (fun _ h => h) (fun _ h => .inl h) h.stk (fun _ _ h => .inl h) (fun v hv => by rw [ho] at hv; cases hv; exact ⟨fun _ h => absurd h hn, fun h => absurd h0 h⟩)
theorem Sd.told (h : Sd S tx A N left M X (mem ws) T (mg G) (some P) l) {c : Nat} (hc : 0 < c) (ha : a ∈ A) (h1 : a.1 = ((P % S : Nat) : Int)) (ho : on S tx P a = some u) (h0 : a.2.2.2.1 = (c : Int)) (hy : N u < left → Gat G G' c u) (hn : ¬ N u < left → G' = G) : Sd S tx A N left M X (mem ws) T (mg G') (some P) (l ++ [a]) := by
  by_cases hlt : N u < left
  · have hg := (hy hlt).1
    refine h.step (fun _ h => h) (fun d x hx => by rw [hg, hx]; rfl) (fun _ h => h) (fun _ h => .inl h) h.stk (fun d x hx => ?_) (fun v hv => ?_)
    · rw [hg] at hx
      rcases Bool.or_eq_true_iff.1 hx with hx | hx
      · exact .inl hx
      · obtain ⟨e1, e2⟩ := Bool.and_eq_true_iff.1 hx
        have e1 := of_decide_eq_true e1
        have e2 := of_decide_eq_true e2
        subst e1 e2
        exact .inr ⟨hc, ⟨a, ha, h0, h1, ho⟩, hlt⟩
    · rw [ho] at hv; cases hv
      refine ⟨fun h => by omega, fun _ _ => ?_⟩
      rw [hg, h0]
      simp
  · rw [hn hlt]
    exact h.step (fun _ h => h) (fun _ _ h => h) (fun _ h => h) (fun _ h => .inl h) h.stk (fun _ _ h => .inl h) (fun v hv => by rw [ho] at hv; cases hv; exact ⟨fun h => by omega, fun _ h => absurd h hlt⟩)
theorem Sd.old (h : Sd S tx A N left M X (mem ws) T (mg G) (some P) l) (ho : on S tx P a = some u) (h0 : a.2.2.2.1 = 0) (hm : mem ws u = true) (hl : u / 64 < ws.length) : Sd S tx A N left M X (mem (put ws u)) T (mg G) (some P) (l ++ [a]) := by
  have e : mem (put ws u) = mem ws := by
    funext x
    rw [mem_put _ _ _ hl]
    by_cases hx : x = u
    · subst hx; rw [hm]; rfl
    · simp [hx]
  rw [e]
  exact h.step (fun _ h => h) (fun _ _ h => h) (fun _ h => h) (fun _ h => .inl h) h.stk (fun _ _ h => .inl h) (fun v hv => by rw [ho] at hv; cases hv; exact ⟨fun _ _ => hm, fun h => absurd h0 h⟩)
theorem Sd.new (h : Sd S tx A N left M X (mem ws) T (mg G) (some P) l) (ha : a ∈ A) (h1 : a.1 = ((P % S : Nat) : Int)) (ho : on S tx P a = some u) (h0 : a.2.2.2.1 = 0) (hn : N u ≤ left) (hu : u < M) (hl : u / 64 < ws.length) : Sd S tx A N left M X (mem (put ws u)) (T ++ [u]) (mg G) (some P) (l ++ [a]) := by
  have e : ∀ x, mem (put ws u) x = (mem ws x || decide (x = u)) := fun x => mem_put _ _ _ hl
  refine h.step (fun v hv => by rw [e, hv]; rfl) (fun _ _ h => h) (fun v hv => by simp [hv]) (fun v hv => ?_) (fun v hv => ?_) (fun _ _ h => .inl h) (fun v hv => ?_)
  · rw [e] at hv
    rcases Bool.or_eq_true_iff.1 hv with hv | hv
    · exact .inl hv
    · have := of_decide_eq_true hv
      subst this
      exact .inr ⟨by simp, ⟨a, ha, h0, h1, ho⟩, hn, hu⟩
  · rw [e]
    rcases List.mem_append.1 hv with hv | hv
    · rw [h.stk v hv]; rfl
    · rw [List.mem_singleton.1 hv]; simp
  · rw [ho] at hv; cases hv
    exact ⟨fun _ _ => by rw [e]; simp, fun h => absurd h0 h⟩
end
/-- what is there has something in it -/
def Ne (G : Gt) : Prop := ∀ d, (G d).isSome = true → ∃ x, mg G d x = true
theorem Ne.gat {G G' : Gt} {c v : Nat} (h : Ne G) (hg : Gat G G' c v) : Ne G' := fun d hd => by
  rcases hg.2 d hd with h1 | h1
  · obtain ⟨x, hx⟩ := h d h1
    exact ⟨x, by rw [hg.1, hx]; rfl⟩
  · subst h1
    exact ⟨v, by rw [hg.1]; simp⟩
theorem Ne.told {G G' : Gt} {c v n left : Nat} (h : Ne G) (hy : n < left → Gat G G' c v) (hn : ¬ n < left → G' = G) : Ne G' := by
  by_cases hlt : n < left
  · exact h.gat (hy hlt)
  · rw [hn hlt]; exact h
end Go.Proofs.YtfjocafepigijaaDoor.Ot
