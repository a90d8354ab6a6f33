/- In plain words: the document's Follows is that no world is against the claim. No program text. -/
import Derived.Test.YtcnanbimpajonaaPq
namespace Go.Proofs.Ytcnanbimpajonaa.Fl
open Cl Co Nu Ag Cs Hd He Ua Us Bg Nd Au Ri Sn Pm Pn Po Pq

def okM (ps : List C) (x : Int) : Bool := ps.all fun p => p.1 || holdsP [x] p
def mayL (ps : List C) : List Int := people.filter (okM ps)
def noneX (ps : List C) (p : C) : Bool := !((mayL ps).any fun x => holdsP [x] p)
def sureX (ps : List C) (c p : C) : Bool := (mayL ps).all fun x => !holdsP [x] p || holdsP [x] c
def followsP (ps : List C) (c : C) : Bool := (ps.any fun p => p.1 && noneX ps p) || (if c.1 then ps.any (fun p => p.1 && sureX ps c p) else holdsP (mayL ps) c)

theorem mem_may {ps : List C} {x : Int} : x ∈ mayL ps ↔ (0 ≤ x ∧ x < 64) ∧ ∀ a b, (false, a, b) ∈ ps → isP x a = true → isP x b = true := by
  unfold mayL okM
  rw [List.mem_filter, mem_people, List.all_eq_true]
  refine and_congr Iff.rfl ⟨fun h a b hm => ?_, fun h p hp => ?_⟩
  · have := h _ hm
    simp only [Bool.false_or] at this
    exact one_all.1 this
  · obtain ⟨s, a, b⟩ := p
    cases s with
    | true => rfl
    | false => simpa using one_all.2 (h a b hp)
theorem mem_both {ps : List C} {c : C} {x : Int} : x ∈ worldL ps c ↔ x ∈ mayL ps ∧ (c.1 = true → holdsP [x] c = false) := by
  rw [mem_world, mem_may, may_iff]
  exact ⟨fun h => ⟨⟨h.1, h.2.1⟩, h.2.2⟩, fun h => ⟨h.1.1, h.1.2, h.2⟩⟩
theorem some_in {xs : List Int} {a b : Int} : holdsP xs (true, a, b) = true ↔ ∃ x ∈ xs, holdsP [x] (true, a, b) = true := by
  rw [holds_some]
  constructor
  · rintro ⟨x, hx, h1, h2⟩; exact ⟨x, hx, one_some.2 ⟨h1, h2⟩⟩
  · rintro ⟨x, hx, h⟩; exact ⟨x, hx, (one_some.1 h).1, (one_some.1 h).2⟩
theorem none_not {ps : List C} {p : C} : noneX ps p = false ↔ ∃ x ∈ mayL ps, holdsP [x] p = true := by
  unfold noneX
  rw [Bool.not_eq_false', List.any_eq_true]
theorem sure_not {ps : List C} {c p : C} : sureX ps c p = false ↔ ∃ x ∈ mayL ps, holdsP [x] p = true ∧ holdsP [x] c = false := by
  unfold sureX
  rw [List.all_eq_false]
  constructor
  · rintro ⟨x, hx, h⟩
    refine ⟨x, hx, ?_⟩
    cases h1 : holdsP [x] p <;> cases h2 : holdsP [x] c <;> simp_all
  · rintro ⟨x, hx, h1, h2⟩
    exact ⟨x, hx, by simp [h1, h2]⟩
theorem all_in {ps : List C} {c : C} : (∀ p ∈ ps, holdsP (worldL ps c) p = true) ↔ ∀ p ∈ ps, p.1 = true → ∃ x ∈ worldL ps c, holdsP [x] p = true := by
  constructor
  · intro h p hp h1
    obtain ⟨s, a, b⟩ := p
    cases h1
    exact some_in.1 (h _ hp)
  · intro h p hp
    obtain ⟨s, a, b⟩ := p
    cases s with
    | false => exact world_all hp
    | true => exact some_in.2 (h _ hp rfl)
theorem follows_no {ps : List C} {c : C} : followsP ps c = false ↔ (∀ p ∈ ps, p.1 = true → noneX ps p = false) ∧ (c.1 = true → ∀ p ∈ ps, p.1 = true → sureX ps c p = false) ∧ (c.1 = false → holdsP (mayL ps) c = false) := by
  unfold followsP
  rw [Bool.or_eq_false_iff, List.any_eq_false]
  refine and_congr ⟨fun h p hp h1 => ?_, fun h p hp => ?_⟩ ?_
  · have := h p hp
    rw [h1] at this
    simpa using this
  · cases h1 : p.1 with
    | false => simp
    | true => simpa using h p hp h1
  · cases hc : c.1 with
    | false => simp
    | true =>
      simp only [if_true, List.any_eq_false, forall_const]
      refine ⟨fun h => ⟨fun p hp h1 => ?_, fun h => (by cases h)⟩, fun h p hp => ?_⟩
      · have := h p hp
        rw [h1] at this
        simpa using this
      · cases h1 : p.1 with
        | false => simp
        | true => simpa using h.1 p hp h1
theorem against_follows (ps : List C) (c : C) : againstB ps c = !followsP ps c := by
  have key : againstB ps c = true ↔ followsP ps c = false := by
    have e : againstB ps c = true ↔ (∀ p ∈ ps, holdsP (worldL ps c) p = true) ∧ holdsP (worldL ps c) c = false := by
      unfold againstB
      rw [Bool.and_eq_true, Bool.not_eq_true', Bool.not_eq_true', List.any_eq_false]
      refine and_congr ⟨fun h p hp => ?_, fun h p hp => ?_⟩ Iff.rfl
      · simpa using h p hp
      · simp [h p hp]
    rw [e, follows_no, all_in]
    obtain ⟨s, u, v⟩ := c
    cases s with
    | false =>
      have ew : ∀ x, x ∈ worldL ps (false, u, v) ↔ x ∈ mayL ps := fun x => by rw [mem_both]; simp
      have eh : holdsP (worldL ps (false, u, v)) (false, u, v) = holdsP (mayL ps) (false, u, v) := by
        rw [Bool.eq_iff_iff, holds_all, holds_all]
        exact ⟨fun h x hx => h x ((ew x).2 hx), fun h x hx => h x ((ew x).1 hx)⟩
      rw [eh]
      constructor
      · rintro ⟨h1, h2⟩
        refine ⟨fun p hp hs => ?_, fun h => (by cases h), fun _ => h2⟩
        obtain ⟨x, hx, hh⟩ := h1 p hp hs
        exact none_not.2 ⟨x, (ew x).1 hx, hh⟩
      · rintro ⟨h1, _, h2⟩
        refine ⟨fun p hp hs => ?_, h2 rfl⟩
        obtain ⟨x, hx, hh⟩ := none_not.1 (h1 p hp hs)
        exact ⟨x, (ew x).2 hx, hh⟩
    | true =>
      have ew : ∀ x, x ∈ worldL ps (true, u, v) ↔ x ∈ mayL ps ∧ holdsP [x] (true, u, v) = false := fun x => by rw [mem_both]; simp
      have eh : holdsP (worldL ps (true, u, v)) (true, u, v) = false := by
        cases h : holdsP (worldL ps (true, u, v)) (true, u, v) with
        | false => rfl
        | true =>
          obtain ⟨x, hx, hh⟩ := some_in.1 h
          have := ((ew x).1 hx).2
          rw [hh] at this
          cases this
      rw [eh]
      constructor
      · rintro ⟨h1, _⟩
        refine ⟨fun p hp hs => ?_, fun _ p hp hs => ?_, fun h => (by cases h)⟩
        · obtain ⟨x, hx, hh⟩ := h1 p hp hs
          exact none_not.2 ⟨x, ((ew x).1 hx).1, hh⟩
        · obtain ⟨x, hx, hh⟩ := h1 p hp hs
          exact sure_not.2 ⟨x, ((ew x).1 hx).1, hh, ((ew x).1 hx).2⟩
      · rintro ⟨_, h2, _⟩
        refine ⟨fun p hp hs => ?_, rfl⟩
        obtain ⟨x, hx, hh, hn⟩ := sure_not.1 (h2 rfl p hp hs)
        exact ⟨x, (ew x).2 ⟨hx, hn⟩, hh⟩
  cases h1 : againstB ps c <;> cases h2 : followsP ps c <;> simp_all
end Go.Proofs.Ytcnanbimpajonaa.Fl
