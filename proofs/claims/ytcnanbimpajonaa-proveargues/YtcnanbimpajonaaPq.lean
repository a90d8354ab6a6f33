/- In plain words: what is kept of Argue's lines, step by step; a world against the goal is there just where the goal is not found; the document's Follows says the same. No program text. -/
import Derived.Test.YtcnanbimpajonaaPo
namespace Go.Proofs.Ytcnanbimpajonaa.Pq
open Cl Co Nu Ag Cs Hd He Ua Us Bg Nd Au Ri Sn Pm Pn Po

/-- what is kept, step by step -/
structure Inv (ps : List C) (g : C) (i : Nat) (L : List Ln) : Prop where
  good : GoodL ps L
  given : ∀ p ∈ ps, In L p
  self : ∀ x, litB x = true → In L (false, x, x)
  done : Done g L i
  more : In L g → i < L.length
theorem inv_begun {ps : List C} (g : C) (hps : ∀ p ∈ ps, okC p = true) : Inv ps g 0 (begunL ps) := by
  obtain ⟨h1, h2, h3⟩ := begun_good ps hps
  refine ⟨h1, h2, h3, done_zero g _, fun _ => ?_⟩
  obtain ⟨l, hl, _⟩ := h3 1 (by decide)
  exact List.length_pos_of_mem hl
theorem inv_next {ps : List C} {g : C} (hg : okC g = true) {i : Nat} {L : List Ln} (h : i < L.length) (hI : Inv ps g i L) (hn : idx L g = none) : Inv ps g (i + 1) (Ytcnanbimpajonaa.Fd.useL g L (L[i]).2.1) := by
  have hp : okC (L[i]).2.1 = true := hI.good.lit _ (List.getElem_mem h)
  obtain ⟨M, hM⟩ := fold_pre (jobs g (L[i]).2.1) L
  rw [← use_jobs] at hM
  refine ⟨hI.good.use hg hp, fun p hp => ?_, fun x hx => ?_, done_step hI.good h hI.done, fun hin => ?_⟩
  · rw [hM]; exact (hI.given p hp).app
  · rw [hM]; exact (hI.self x hx).app
  · rw [hM] at hin ⊢
    rw [List.length_append]
    cases M with
    | nil => rw [List.append_nil] at hin; exact absurd hin (idx_none.1 hn)
    | cons m M => rw [List.length_cons]; omega
theorem steps {ps : List C} {g : C} (hg : okC g = true) : Ytcnanbimpajonaa.Au.Steps g (Inv ps g) 288 := by
  refine ⟨fun i L hI => ?_, fun i L h hI hn => inv_next hg h hI hn⟩
  have hl := hI.good.len
  refine ⟨hl, by omega, fun l h => sm_ok (hI.good.lit l h), hI.good.ahead, fun l h => ?_⟩
  have := hI.good.few l h
  omega
theorem closed {ps : List C} {g : C} {i : Nat} {L : List Ln} (hI : Inv ps g i L) (h : L.length ≤ i) : ¬ In L g ∧ Clo (In L) ∧ NoClash (In L) := by
  have hng : ¬ In L g := fun hin => by
    have := hI.more hin
    omega
  have hd := hI.done
  have e : L.take i = L := List.take_of_length_le h
  refine ⟨hng, ⟨fun a ha => hI.self a ha, ?_, ?_, ?_, ?_, ?_, ?_, ?_⟩, ?_⟩
  · have := hd.chain; rw [e] at this; exact this
  · have := hd.turn; rw [e] at this; exact this
  · have := hd.void; rw [e] at this; exact this
  · have := hd.full; rw [e] at this; exact this
  · have := hd.swap; rw [e] at this; exact this
  · have := hd.there; rw [e] at this; exact this
  · have := hd.lead; rw [e] at this; exact this
  · have := hd.clash
    rw [e] at this
    exact fun a b h1 h2 => hng (this a b h1 h2)

/-- may somebody be in a world against a claim? -/
def mayB (ps : List C) (c : C) (x : Int) : Bool := !(ps.any fun p => !p.1 && !holdsP [x] p) && !(c.1 && holdsP [x] c)
def people : List Int := (List.range 64).map fun (n : Nat) => (n : Int)
def worldL (ps : List C) (c : C) : List Int := people.filter (mayB ps c)
def againstB (ps : List C) (c : C) : Bool := !(ps.any fun p => !holdsP (worldL ps c) p) && !holdsP (worldL ps c) c
theorem mem_people {x : Int} : x ∈ people ↔ 0 ≤ x ∧ x < 64 := by
  unfold people
  rw [List.mem_map]
  constructor
  · rintro ⟨n, hn, rfl⟩
    have := List.mem_range.1 hn
    omega
  · intro h
    exact ⟨x.toNat, List.mem_range.2 (by omega), Int.toNat_of_nonneg h.1⟩
theorem one_all {x a b : Int} : holdsP [x] (false, a, b) = true ↔ (isP x a = true → isP x b = true) := by rw [holds_all]; simp
theorem one_some {x a b : Int} : holdsP [x] (true, a, b) = true ↔ isP x a = true ∧ isP x b = true := by rw [holds_some]; simp
theorem may_iff {ps : List C} {c : C} {x : Int} : mayB ps c x = true ↔ (∀ a b, (false, a, b) ∈ ps → isP x a = true → isP x b = true) ∧ (c.1 = true → holdsP [x] c = false) := by
  unfold mayB
  rw [Bool.and_eq_true, Bool.not_eq_true', Bool.not_eq_true', List.any_eq_false]
  refine and_congr ⟨fun h a b hm => ?_, fun h p hp => ?_⟩ ?_
  · have := h _ hm
    simp only [Bool.not_false, Bool.true_and, Bool.not_eq_true', Bool.not_eq_false] at this
    exact one_all.1 this
  · obtain ⟨s, a, b⟩ := p
    cases s with
    | true => simp
    | false =>
      have := one_all.2 (h a b hp)
      simp [this]
  · cases c.1 <;> simp
theorem mem_world {ps : List C} {c : C} {x : Int} : x ∈ worldL ps c ↔ (0 ≤ x ∧ x < 64) ∧ mayB ps c x = true := by
  unfold worldL
  rw [List.mem_filter, mem_people]
/-- what is said of all holds in the world of all that may be there -/
theorem world_all {ps : List C} {c : C} {a b : Int} (h : (false, a, b) ∈ ps) : holdsP (worldL ps c) (false, a, b) = true := by
  rw [holds_all]
  intro x hx
  exact (may_iff.1 (mem_world.1 hx).2).1 a b h

/-- where the goal is not found, there is a world against it -/
theorem complete {ps : List C} {g : C} {i : Nat} {L : List Ln} (hI : Inv ps g i L) (h : L.length ≤ i) (hps : ∀ p ∈ ps, okC p = true) (hg : okC g = true) : againstB ps g = true := by
  obtain ⟨hng, hC, hN⟩ := closed hI h
  have keep : ∀ x, (∀ a b, litB a = true → litB b = true → In L (false, a, b) → isP x a = true → isP x b = true) → ∀ a b, (false, a, b) ∈ ps → isP x a = true → isP x b = true := fun x hx a b hm => hx a b (ok_fst (hps _ hm)) (ok_snd (hps _ hm)) (hI.given _ hm)
  obtain ⟨gs, gx, gy⟩ := g
  have lx : litB gx = true := ok_fst hg
  have ly : litB gy = true := ok_snd hg
  unfold againstB
  rw [Bool.and_eq_true, Bool.not_eq_true', Bool.not_eq_true', List.any_eq_false]
  cases gs with
  | false =>
    refine ⟨fun p hp => ?_, ?_⟩
    · obtain ⟨s, a, b⟩ := p
      cases s with
      | false => rw [world_all hp]; simp
      | true =>
        obtain ⟨x, hx, h1, h2, h3⟩ := some_there hC hN (ok_fst (hps _ hp)) (ok_snd (hps _ hp)) (hI.given _ hp)
        have : holdsP (worldL ps (false, gx, gy)) (true, a, b) = true := holds_some.2 ⟨x, mem_world.2 ⟨hx, may_iff.2 ⟨keep x h3, fun h => by cases h⟩⟩, h1, h2⟩
        rw [this]
        simp
    · obtain ⟨x, hx, h1, h2, h3⟩ := all_against hC lx ly hng
      cases hh : holdsP (worldL ps (false, gx, gy)) (false, gx, gy) with
      | false => rfl
      | true =>
        have := holds_all.1 hh x (mem_world.2 ⟨hx, may_iff.2 ⟨keep x h3, fun h => by cases h⟩⟩) h1
        rw [h2] at this
        cases this
  | true =>
    refine ⟨fun p hp => ?_, ?_⟩
    · obtain ⟨s, a, b⟩ := p
      cases s with
      | false => rw [world_all hp]; simp
      | true =>
        obtain ⟨x, hx, h1, h2, h4, h3⟩ := some_off hC hN (ok_fst (hps _ hp)) (ok_snd (hps _ hp)) lx ly (hI.given _ hp) hng
        have hoff : holdsP [x] (true, gx, gy) = false := by
          cases hh : holdsP [x] (true, gx, gy) with
          | false => rfl
          | true =>
            obtain ⟨e1, e2⟩ := one_some.1 hh
            rw [e1, e2] at h4
            cases h4
        have : holdsP (worldL ps (true, gx, gy)) (true, a, b) = true := holds_some.2 ⟨x, mem_world.2 ⟨hx, may_iff.2 ⟨keep x h3, fun _ => hoff⟩⟩, h1, h2⟩
        rw [this]
        simp
    · cases hh : holdsP (worldL ps (true, gx, gy)) (true, gx, gy) with
      | false => rfl
      | true =>
        obtain ⟨x, hx, h1, h2⟩ := holds_some.1 hh
        have := (may_iff.1 (mem_world.1 hx).2).2 rfl
        rw [one_some.2 ⟨h1, h2⟩] at this
        cases this
/-- where it is found there is none -/
theorem found_none {ps : List C} {g : C} {L : List Ln} (hG : GoodL ps L) (hin : In L g) (hps : ∀ p ∈ ps, okC p = true) : againstB ps g = false := by
  cases h : againstB ps g with
  | false => rfl
  | true =>
    unfold againstB at h
    rw [Bool.and_eq_true, Bool.not_eq_true', Bool.not_eq_true', List.any_eq_false] at h
    have := good_holds hG hps (xs := worldL ps g) (fun p hp => by simpa using h.1 p hp) hin
    rw [this] at h
    cases h.2
end Go.Proofs.Ytcnanbimpajonaa.Pq
