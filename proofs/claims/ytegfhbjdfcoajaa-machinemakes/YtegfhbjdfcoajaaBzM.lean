/- Plain facts for MachineMakes: the walks of a machine turned round, of a side, of either of two; what they cost. Conditions: the machines are right. -/
import Derived.Test.YtegfhbjdfcoajaaWk3M
namespace Go.Proofs.Ytegfhbjdfcoajaa.Bw
open Mv Wk

abbrev A5 := Int × Int × Int × Int × Int
theorem reachN_succ {m : M} {inn out : List Int} {told : Bool} {t s' i' j' c' : Nat} : ReachN m inn out told (t + 1) s' i' j' c' ↔ ∃ s i j c : Nat, ∃ a ∈ m.arcs, ReachN m inn out told t s i j c ∧ a.1 = (s : Int) ∧ a.2.1 = (s' : Int) ∧ Wk.Move inn out told a i j i' j' ∧ (c' : Int) = c + a.2.2.2.2 := by
  constructor
  · rintro ⟨s, i, j, c, x, hx, hr, h1, h2, h3, h4⟩
    exact ⟨s, i, j, c, m.arcs[x], List.getElem_mem hx, hr, h1, h2, h3, h4⟩
  · rintro ⟨s, i, j, c, a, ha, hr, h1, h2, h3, h4⟩
    obtain ⟨x, hx, rfl⟩ := List.getElem_of_mem ha
    exact ⟨s, i, j, c, x, hx, hr, h1, h2, h3, h4⟩
/-- a walk that ends, for so much -/
def Acc (m : M) (inn out : List Int) (told : Bool) (v : Nat) : Prop := ∃ f ∈ m.fins, ∃ s c : Nat, f.1 = (s : Int) ∧ Wk.Reach m inn out told s inn.length (cols out told - 1) c ∧ (v : Int) = c + f.2
/-- the least of what holds, or dear -/
def Least (P : Nat → Prop) (v : Nat) : Prop := (v = dear ∧ ∀ u, ¬ P u) ∨ (v < dear ∧ P v ∧ ∀ u, P u → v ≤ u)
theorem Least.congr {P Q : Nat → Prop} {v : Nat} (h : Least P v) (e : ∀ u, P u ↔ Q u) : Least Q v := by
  have : P = Q := funext fun u => propext (e u)
  rw [← this]
  exact h
theorem Least.or {P Q : Nat → Prop} {v u : Nat} (h : Least P v) (k : Least Q u) : Least (fun x => P x ∨ Q x) (min v u) := by
  rcases h with ⟨rfl, h⟩ | ⟨l, hp, h⟩ <;> rcases k with ⟨rfl, k⟩ | ⟨r, kp, k⟩
  · exact .inl ⟨by omega, fun x hx => hx.elim (h x) (k x)⟩
  · exact .inr ⟨by omega, by rw [Nat.min_eq_right (by omega)]; exact .inr kp, fun x hx => hx.elim (fun q => absurd q (h x)) (fun q => by have := k x q; omega)⟩
  · exact .inr ⟨by omega, by rw [Nat.min_eq_left (by omega)]; exact .inl hp, fun x hx => hx.elim (fun q => by have := h x q; omega) (fun q => absurd q (k x))⟩
  · refine .inr ⟨by omega, ?_, fun x hx => hx.elim (fun q => by have := h x q; omega) (fun q => by have := k x q; omega)⟩
    by_cases e : v ≤ u
    · rw [Nat.min_eq_left e]; exact .inl hp
    · rw [Nat.min_eq_right (by omega)]; exact .inr kp
theorem isCost_iff {m : M} {inn out : List Int} {told : Bool} {v : Nat} (hf : ∀ f ∈ m.fins, 0 ≤ f.2) : IsCost m inn out told v ↔ Least (Acc m inn out told) v := by
  constructor
  · rintro (⟨e, h⟩ | ⟨e, ⟨y, hy, f, c, h1, h2, h3⟩, h⟩)
    · refine .inl ⟨e, ?_⟩
      rintro u ⟨f, hm, s, c, h1, h2, _⟩
      obtain ⟨y, hy, rfl⟩ := List.getElem_of_mem hm
      exact h y hy s c h1 h2
    · refine .inr ⟨e, ⟨_, List.getElem_mem hy, f, c, h1, h2, h3⟩, ?_⟩
      rintro u ⟨g, hm, s, d, k1, k2, k3⟩
      obtain ⟨z, hz, rfl⟩ := List.getElem_of_mem hm
      have := h z hz s d k1 k2
      omega
  · rintro (⟨e, h⟩ | ⟨e, ⟨f, hm, s, c, h1, h2, h3⟩, h⟩)
    · refine .inl ⟨e, fun y hy f c h1 h2 => ?_⟩
      have h0 := hf _ (List.getElem_mem hy)
      exact h (c + (m.fins[y]).2.toNat) ⟨_, List.getElem_mem hy, f, c, h1, h2, by omega⟩
    · obtain ⟨y, hy, rfl⟩ := List.getElem_of_mem hm
      refine .inr ⟨e, ⟨y, hy, s, c, h1, h2, h3⟩, fun z hz g d k1 k2 => ?_⟩
      have h0 := hf _ (List.getElem_mem hz)
      have := h (d + (m.fins[z]).2.toNat) ⟨_, List.getElem_mem hz, g, d, k1, k2, by omega⟩
      omega

/- TURN -/
def turnA (a : A5) : A5 := (a.1, a.2.1, a.2.2.2.1, a.2.2.1, a.2.2.2.2)
def turnM (m : M) : M := ⟨m.st, m.arcs.map turnA, m.fins⟩
theorem turn_move {inn out : List Int} {a : A5} {i j i' j' : Nat} : Wk.Move inn out true (turnA a) i j i' j' ↔ Wk.Move out inn true a j i j' i' := by
  unfold Wk.Move turnA
  constructor
  · rintro ⟨h1, h2⟩
    refine ⟨?_, ?_⟩
    · rcases h2 with ⟨h | h, e⟩ | ⟨h, _, k, e⟩
      · exact .inl ⟨h, e⟩
      · cases h
      · exact .inr ⟨h, k, e⟩
    · rcases h1 with ⟨h, e⟩ | ⟨h, k, e⟩
      · exact .inl ⟨.inl h, e⟩
      · exact .inr ⟨h, rfl, k, e⟩
  · rintro ⟨h1, h2⟩
    refine ⟨?_, ?_⟩
    · rcases h2 with ⟨h | h, e⟩ | ⟨h, _, k, e⟩
      · exact .inl ⟨h, e⟩
      · cases h
      · exact .inr ⟨h, k, e⟩
    · rcases h1 with ⟨h, e⟩ | ⟨h, k, e⟩
      · exact .inl ⟨.inl h, e⟩
      · exact .inr ⟨h, rfl, k, e⟩
theorem turn_reachN {m : M} {inn out : List Int} {t s i j c : Nat} : ReachN (turnM m) inn out true t s i j c ↔ ReachN m out inn true t s j i c := by
  induction t generalizing s i j c with
  | zero => constructor <;> (rintro ⟨a, b, d, e⟩; exact ⟨a, d, b, e⟩)
  | succ t ih =>
    rw [reachN_succ, reachN_succ]
    constructor
    · rintro ⟨s0, i0, j0, c0, a, ha, hr, h1, h2, h3, h4⟩
      obtain ⟨b, hb, rfl⟩ := List.mem_map.1 ha
      exact ⟨s0, j0, i0, c0, b, hb, ih.1 hr, h1, h2, turn_move.1 h3, h4⟩
    · rintro ⟨s0, i0, j0, c0, a, ha, hr, h1, h2, h3, h4⟩
      exact ⟨s0, j0, i0, c0, turnA a, List.mem_map.2 ⟨a, ha, rfl⟩, ih.2 hr, h1, h2, turn_move.2 h3, h4⟩
theorem turn_acc {m : M} {inn out : List Int} {v : Nat} : Acc m out inn true v ↔ Acc (turnM m) inn out true v := by
  constructor
  · rintro ⟨f, hf, s, c, h1, ⟨t, h2⟩, h3⟩
    exact ⟨f, hf, s, c, h1, ⟨t, turn_reachN.2 h2⟩, h3⟩
  · rintro ⟨f, hf, s, c, h1, ⟨t, h2⟩, h3⟩
    exact ⟨f, hf, s, c, h1, ⟨t, turn_reachN.1 h2⟩, h3⟩

/- SIDE -/
def sideA (a : A5) : A5 := (a.1, a.2.1, a.2.2.1, a.2.2.1, a.2.2.2.2)
def sideM (m : M) : M := ⟨m.st, m.arcs.map sideA, m.fins⟩
/-- both texts are the same up to a place -/
theorem side_reachN {m : M} {inn out : List Int} {t s i j c : Nat} (h : ReachN (sideM m) inn out true t s i j c) : i = j ∧ (∀ k, k < i → inn[k]? = out[k]? ∧ k < inn.length) ∧ ReachN m inn [] false t s i 0 c := by
  induction t generalizing s i j c with
  | zero => obtain ⟨a, b, d, e⟩ := h; exact ⟨by omega, fun k hk => by omega, a, b, rfl, e⟩
  | succ t ih =>
    rw [reachN_succ] at h
    obtain ⟨s0, i0, j0, c0, a, ha, hr, h1, h2, ⟨h3, h5⟩, h4⟩ := h
    obtain ⟨b, hb, rfl⟩ := List.mem_map.1 ha
    obtain ⟨e, hk, hr'⟩ := ih hr
    subst e
    unfold sideA at h1 h2 h3 h4 h5
    dsimp only at h1 h2 h3 h4 h5
    rcases h3 with ⟨z, e1⟩ | ⟨z, e1, e2⟩
    · rcases h5 with ⟨_, e3⟩ | ⟨z2, _⟩
      · subst e1; subst e3
        exact ⟨rfl, hk, reachN_succ.2 ⟨s0, _, 0, c0, b, hb, hr', h1, h2, ⟨.inl ⟨z, rfl⟩, .inl ⟨.inr rfl, rfl⟩⟩, h4⟩⟩
      · omega
    · rcases h5 with ⟨z2 | z2, _⟩ | ⟨_, _, e3, e4⟩
      · omega
      · cases z2
      · subst e2; subst e4
        refine ⟨rfl, fun k hk' => ?_, reachN_succ.2 ⟨s0, i0, 0, c0, b, hb, hr', h1, h2, ⟨.inr ⟨z, e1, rfl⟩, .inl ⟨.inr rfl, rfl⟩⟩, h4⟩⟩
        by_cases ek : k = i0
        · subst ek
          exact ⟨by rw [e1, e3], (List.getElem?_eq_some_iff.1 e1).1⟩
        · exact hk k (by omega)
theorem side_back {m : M} {inn : List Int} {t s i j c : Nat} (h : ReachN m inn [] false t s i j c) : j = 0 ∧ ReachN (sideM m) inn inn true t s i i c := by
  induction t generalizing s i j c with
  | zero => obtain ⟨a, b, d, e⟩ := h; exact ⟨d, a, b, b, e⟩
  | succ t ih =>
    rw [reachN_succ] at h
    obtain ⟨s0, i0, j0, c0, a, ha, hr, h1, h2, ⟨h3, h5⟩, h4⟩ := h
    obtain ⟨e, hr'⟩ := ih hr
    subst e
    rcases h5 with ⟨_, e3⟩ | ⟨_, z2, _⟩
    · refine ⟨e3, reachN_succ.2 ⟨s0, i0, i0, c0, sideA a, List.mem_map.2 ⟨a, ha, rfl⟩, hr', h1, h2, ?_, h4⟩⟩
      rcases h3 with ⟨z, e1⟩ | ⟨z, e1, e2⟩
      · exact ⟨.inl ⟨z, e1⟩, .inl ⟨.inl z, e1⟩⟩
      · exact ⟨.inr ⟨z, e1, e2⟩, .inr ⟨z, rfl, e1, e2⟩⟩
    · cases z2
theorem side_acc {m : M} {inn : List Int} {v : Nat} : Acc m inn [] false v ↔ Acc (sideM m) inn inn true v := by
  constructor
  · rintro ⟨f, hf, s, c, h1, ⟨t, h2⟩, h3⟩
    exact ⟨f, hf, s, c, h1, ⟨t, (side_back h2).2⟩, h3⟩
  · rintro ⟨f, hf, s, c, h1, ⟨t, h2⟩, h3⟩
    exact ⟨f, hf, s, c, h1, ⟨t, (side_reachN h2).2.2⟩, h3⟩
theorem side_none {m : M} {inn out : List Int} (hne : inn ≠ out) (v : Nat) : ¬ Acc (sideM m) inn out true v := by
  rintro ⟨f, hf, s, c, h1, ⟨t, h2⟩, h3⟩
  obtain ⟨e, hk, _⟩ := side_reachN h2
  have e' : inn.length = out.length := by simpa [cols] using e
  refine hne (List.ext_getElem? fun k => ?_)
  by_cases h : k < inn.length
  · exact (hk k h).1
  · rw [List.getElem?_eq_none (by omega), List.getElem?_eq_none (by omega)]

/- EITHER -/
def mvA (d : Int) (a : A5) : A5 := (a.1 + d, a.2.1 + d, a.2.2)
def mvF (d : Int) (f : Int × Int) : Int × Int := (f.1 + d, f.2)
def eitherM (a b : M) : M := ⟨1 + a.st + b.st, (0, 1, 0, 0, 0) :: (0, 1 + a.st, 0, 0, 0) :: (a.arcs.map (mvA 1) ++ b.arcs.map (mvA (1 + a.st))), a.fins.map (mvF 1) ++ b.fins.map (mvF (1 + a.st))⟩
theorem mv_move {inn out : List Int} {told : Bool} {a : A5} {i j i' j' : Nat} {d : Int} : Wk.Move inn out told (mvA d a) i j i' j' ↔ Wk.Move inn out told a i j i' j' := Iff.rfl
end Go.Proofs.Ytegfhbjdfcoajaa.Bw
/- Plain facts for MachineMakes: the walks of either of two machines, and of one behind the other. Conditions: the machines are right. -/
namespace Go.Proofs.Ytegfhbjdfcoajaa.Bw
open Mv Wk

structure Fit (m : M) : Prop where
  pos : 1 ≤ m.st
  arcs : ∀ x ∈ m.arcs, 0 ≤ x.1 ∧ x.1 < m.st ∧ 0 ≤ x.2.1 ∧ x.2.1 < m.st ∧ 0 ≤ x.2.2.2.2
  fins : ∀ f ∈ m.fins, 0 ≤ f.1 ∧ f.1 < m.st ∧ 0 ≤ f.2

theorem still {inn out : List Int} {told : Bool} {x y w : Int} {i j i' j' : Nat} : Wk.Move inn out told (x, y, 0, 0, w) i j i' j' ↔ i' = i ∧ j' = j := by
  unfold Wk.Move
  constructor
  · rintro ⟨h1, h2⟩
    refine ⟨?_, ?_⟩
    · rcases h1 with ⟨_, e⟩ | ⟨h, _⟩
      · exact e
      · exact absurd (show (0 : Int) < 0 from h) (by decide)
    · rcases h2 with ⟨_, e⟩ | ⟨h, _⟩
      · exact e
      · exact absurd (show (0 : Int) < 0 from h) (by decide)
  · rintro ⟨rfl, rfl⟩
    exact ⟨.inl ⟨rfl, rfl⟩, .inl ⟨.inl rfl, rfl⟩⟩

theorem either_reachN {a b : M} (ha : Fit a) (hb : Fit b) {inn out : List Int} {told : Bool} {t s i j c : Nat} (h : ReachN (eitherM a b) inn out told t s i j c) :
    (s = 0 ∧ i = 0 ∧ j = 0 ∧ c = 0) ∨ (∃ s' t' : Nat, s = s' + 1 ∧ (s' : Int) < a.st ∧ ReachN a inn out told t' s' i j c) ∨ (∃ s' t' : Nat, (s : Int) = 1 + a.st + s' ∧ ReachN b inn out told t' s' i j c) := by
  have h0 := ha.pos
  induction t generalizing s i j c with
  | zero => exact .inl h
  | succ t ih =>
    rw [reachN_succ] at h
    obtain ⟨s0, i0, j0, c0, x, hx, hr, h1, h2, h3, h4⟩ := h
    have hi := ih hr
    rcases List.mem_cons.1 hx with rfl | hx
    · obtain ⟨rfl, rfl⟩ := still.1 h3
      dsimp only at h1 h2 h4
      rcases hi with ⟨e1, e2, e3, e4⟩ | ⟨s', _, e, _⟩ | ⟨s', _, e, _⟩
      · exact .inr (.inl ⟨0, 0, by omega, by omega, rfl, e2, e3, by omega⟩)
      · omega
      · omega
    rcases List.mem_cons.1 hx with rfl | hx
    · obtain ⟨rfl, rfl⟩ := still.1 h3
      dsimp only at h1 h2 h4
      rcases hi with ⟨e1, e2, e3, e4⟩ | ⟨s', _, e, _⟩ | ⟨s', _, e, _⟩
      · exact .inr (.inr ⟨0, 0, by omega, rfl, e2, e3, by omega⟩)
      · omega
      · omega
    rcases List.mem_append.1 hx with hx | hx
    · obtain ⟨y, hy, rfl⟩ := List.mem_map.1 hx
      obtain ⟨f1, f2, f3, f4⟩ := ha.arcs y hy
      unfold mvA at h1 h2 h4
      dsimp only at h1 h2 h4
      rcases hi with ⟨e1, e2, e3, e4⟩ | ⟨s', t', e, _, hr'⟩ | ⟨s', _, e, _⟩
      · omega
      · exact .inr (.inl ⟨y.2.1.toNat, t' + 1, by omega, by omega, reachN_succ.2 ⟨s', i0, j0, c0, y, hy, hr', by omega, by omega, mv_move.1 h3, h4⟩⟩)
      · omega
    · obtain ⟨y, hy, rfl⟩ := List.mem_map.1 hx
      obtain ⟨f1, f2, f3, f4⟩ := hb.arcs y hy
      unfold mvA at h1 h2 h4
      dsimp only at h1 h2 h4
      rcases hi with ⟨e1, e2, e3, e4⟩ | ⟨s', t', e, _, hr'⟩ | ⟨s', t', e, hr'⟩
      · omega
      · omega
      · exact .inr (.inr ⟨y.2.1.toNat, t' + 1, by omega, reachN_succ.2 ⟨s', i0, j0, c0, y, hy, hr', by omega, by omega, mv_move.1 h3, h4⟩⟩)
theorem either_left {a b : M} {inn out : List Int} {told : Bool} {t s i j c : Nat} (h : ReachN a inn out told t s i j c) : ReachN (eitherM a b) inn out told (t + 1) (s + 1) i j c := by
  induction t generalizing s i j c with
  | zero =>
    obtain ⟨rfl, rfl, rfl, rfl⟩ := h
    exact reachN_succ.2 ⟨0, 0, 0, 0, (0, 1, 0, 0, 0), List.mem_cons_self, ⟨rfl, rfl, rfl, rfl⟩, rfl, rfl, still.2 ⟨rfl, rfl⟩, rfl⟩
  | succ t ih =>
    rw [reachN_succ] at h
    obtain ⟨s0, i0, j0, c0, x, hx, hr, h1, h2, h3, h4⟩ := h
    exact reachN_succ.2 ⟨s0 + 1, i0, j0, c0, mvA 1 x, List.mem_cons_of_mem _ (List.mem_cons_of_mem _ (List.mem_append_left _ (List.mem_map.2 ⟨x, hx, rfl⟩))), ih hr, by unfold mvA; dsimp only; omega, by unfold mvA; dsimp only; omega, mv_move.2 h3, h4⟩
theorem either_right {a b : M} {A : Nat} (hA : a.st = (A : Int)) {inn out : List Int} {told : Bool} {t s i j c : Nat} (h : ReachN b inn out told t s i j c) : ReachN (eitherM a b) inn out told (t + 1) (1 + A + s) i j c := by
  induction t generalizing s i j c with
  | zero =>
    obtain ⟨rfl, rfl, rfl, rfl⟩ := h
    exact reachN_succ.2 ⟨0, 0, 0, 0, (0, 1 + a.st, 0, 0, 0), List.mem_cons_of_mem _ List.mem_cons_self, ⟨rfl, rfl, rfl, rfl⟩, rfl, by dsimp only; omega, still.2 ⟨rfl, rfl⟩, rfl⟩
  | succ t ih =>
    rw [reachN_succ] at h
    obtain ⟨s0, i0, j0, c0, x, hx, hr, h1, h2, h3, h4⟩ := h
    exact reachN_succ.2 ⟨1 + A + s0, i0, j0, c0, mvA (1 + a.st) x, List.mem_cons_of_mem _ (List.mem_cons_of_mem _ (List.mem_append_right _ (List.mem_map.2 ⟨x, hx, rfl⟩))), ih hr, by unfold mvA; dsimp only; omega, by unfold mvA; dsimp only; omega, mv_move.2 h3, h4⟩
theorem either_acc {a b : M} (ha : Fit a) (hb : Fit b) {inn out : List Int} {told : Bool} {v : Nat} : (Acc a inn out told v ∨ Acc b inn out told v) ↔ Acc (eitherM a b) inn out told v := by
  have h0 := ha.pos
  obtain ⟨A, hA⟩ : ∃ A : Nat, a.st = (A : Int) := ⟨a.st.toNat, by omega⟩
  constructor
  · rintro (⟨f, hf, s, c, h1, ⟨t, h2⟩, h3⟩ | ⟨f, hf, s, c, h1, ⟨t, h2⟩, h3⟩)
    · exact ⟨mvF 1 f, List.mem_append_left _ (List.mem_map.2 ⟨f, hf, rfl⟩), s + 1, c, by unfold mvF; dsimp only; omega, ⟨_, either_left h2⟩, h3⟩
    · exact ⟨mvF (1 + a.st) f, List.mem_append_right _ (List.mem_map.2 ⟨f, hf, rfl⟩), 1 + A + s, c, by unfold mvF; dsimp only; omega, ⟨_, either_right hA h2⟩, h3⟩
  · rintro ⟨f, hf, s, c, h1, ⟨t, h2⟩, h3⟩
    have hr := either_reachN ha hb h2
    rcases List.mem_append.1 hf with hf | hf
    · obtain ⟨g, hg, rfl⟩ := List.mem_map.1 hf
      obtain ⟨g1, g2, g3⟩ := ha.fins g hg
      unfold mvF at h1 h3
      dsimp only at h1 h3
      rcases hr with ⟨e, _⟩ | ⟨s', t', e, _, r⟩ | ⟨s', t', e, r⟩
      · omega
      · exact .inl ⟨g, hg, s', c, by omega, ⟨t', r⟩, h3⟩
      · omega
    · obtain ⟨g, hg, rfl⟩ := List.mem_map.1 hf
      obtain ⟨g1, g2, g3⟩ := hb.fins g hg
      unfold mvF at h1 h3
      dsimp only at h1 h3
      rcases hr with ⟨e, _⟩ | ⟨s', t', e, _, r⟩ | ⟨s', t', e, r⟩
      · omega
      · omega
      · exact .inr ⟨g, hg, s', c, by omega, ⟨t', r⟩, h3⟩

/- PARTS OF TEXTS -/
theorem move_up {inn out : List Int} {told : Bool} {a : A5} {i j i' j' : Nat} (h : Wk.Move inn out told a i j i' j') : i ≤ i' ∧ j ≤ j' := by
  obtain ⟨h1, h2⟩ := h
  constructor
  · rcases h1 with ⟨_, e⟩ | ⟨_, _, e⟩ <;> omega
  · rcases h2 with ⟨_, e⟩ | ⟨_, _, _, e⟩ <;> omega
theorem move_take {inn out : List Int} {a : A5} {p q i j i' j' : Nat} : Wk.Move (inn.take p) (out.take q) true a i j i' j' ∧ i ≤ p ∧ j ≤ q ↔ Wk.Move inn out true a i j i' j' ∧ i' ≤ p ∧ j' ≤ q := by
  constructor
  · rintro ⟨⟨h1, h2⟩, hp, hq⟩
    have k1 : ((a.2.2.1 = 0 ∧ i' = i) ∨ (0 < a.2.2.1 ∧ inn[i]? = some a.2.2.1 ∧ i' = i + 1)) ∧ i' ≤ p := by
      rcases h1 with ⟨z, e⟩ | ⟨z, k, e⟩
      · exact ⟨.inl ⟨z, e⟩, by omega⟩
      · rw [List.getElem?_take] at k
        split at k
        · exact ⟨.inr ⟨z, k, e⟩, by omega⟩
        · cases k
    have k2 : (((a.2.2.2.1 = 0 ∨ true = false) ∧ j' = j) ∨ (0 < a.2.2.2.1 ∧ true = true ∧ out[j]? = some a.2.2.2.1 ∧ j' = j + 1)) ∧ j' ≤ q := by
      rcases h2 with ⟨z, e⟩ | ⟨z, _, k, e⟩
      · exact ⟨.inl ⟨z, e⟩, by omega⟩
      · rw [List.getElem?_take] at k
        split at k
        · exact ⟨.inr ⟨z, rfl, k, e⟩, by omega⟩
        · cases k
    exact ⟨⟨k1.1, k2.1⟩, k1.2, k2.2⟩
  · rintro ⟨⟨h1, h2⟩, hp, hq⟩
    have up := move_up (show Wk.Move inn out true a i j i' j' from ⟨h1, h2⟩)
    refine ⟨⟨?_, ?_⟩, by omega, by omega⟩
    · rcases h1 with ⟨z, e⟩ | ⟨z, k, e⟩
      · exact .inl ⟨z, e⟩
      · exact .inr ⟨z, by rw [List.getElem?_take, if_pos (by omega)]; exact k, e⟩
    · rcases h2 with ⟨z, e⟩ | ⟨z, _, k, e⟩
      · exact .inl ⟨z, e⟩
      · exact .inr ⟨z, rfl, by rw [List.getElem?_take, if_pos (by omega)]; exact k, e⟩
theorem reach_take {m : M} {inn out : List Int} {p q t s i j c : Nat} : ReachN m (inn.take p) (out.take q) true t s i j c ↔ ReachN m inn out true t s i j c ∧ i ≤ p ∧ j ≤ q := by
  induction t generalizing s i j c with
  | zero =>
    constructor
    · rintro ⟨a, b, d, e⟩; exact ⟨⟨a, b, d, e⟩, by omega, by omega⟩
    · exact fun h => h.1
  | succ t ih =>
    rw [reachN_succ, reachN_succ]
    constructor
    · rintro ⟨s0, i0, j0, c0, x, hx, hr, h1, h2, h3, h4⟩
      obtain ⟨r, rp, rq⟩ := ih.1 hr
      obtain ⟨k, kp, kq⟩ := move_take.1 ⟨h3, rp, rq⟩
      exact ⟨⟨s0, i0, j0, c0, x, hx, r, h1, h2, k, h4⟩, kp, kq⟩
    · rintro ⟨⟨s0, i0, j0, c0, x, hx, hr, h1, h2, h3, h4⟩, hp, hq⟩
      obtain ⟨k, kp, kq⟩ := move_take.2 ⟨h3, hp, hq⟩
      exact ⟨s0, i0, j0, c0, x, hx, ih.2 ⟨hr, kp, kq⟩, h1, h2, k, h4⟩
theorem move_drop {inn out : List Int} {told : Bool} {a : A5} {p q i j i' j' : Nat} : Wk.Move (inn.drop p) (out.drop q) told a i j i' j' ↔ Wk.Move inn out told a (p + i) (q + j) (p + i') (q + j') := by
  unfold Wk.Move
  rw [List.getElem?_drop, List.getElem?_drop]
  constructor
  · rintro ⟨h1, h2⟩
    refine ⟨?_, ?_⟩
    · rcases h1 with ⟨z, e⟩ | ⟨z, k, e⟩
      · exact .inl ⟨z, by omega⟩
      · exact .inr ⟨z, k, by omega⟩
    · rcases h2 with ⟨z, e⟩ | ⟨z, y, k, e⟩
      · exact .inl ⟨z, by omega⟩
      · exact .inr ⟨z, y, k, by omega⟩
  · rintro ⟨h1, h2⟩
    refine ⟨?_, ?_⟩
    · rcases h1 with ⟨z, e⟩ | ⟨z, k, e⟩
      · exact .inl ⟨z, by omega⟩
      · exact .inr ⟨z, k, by omega⟩
    · rcases h2 with ⟨z, e⟩ | ⟨z, y, k, e⟩
      · exact .inl ⟨z, by omega⟩
      · exact .inr ⟨z, y, k, by omega⟩
end Go.Proofs.Ytegfhbjdfcoajaa.Bw
/- Plain facts for MachineMakes: the walks of one machine behind another (Chain); what 'parted' must answer. Conditions: the machines are right. -/
namespace Go.Proofs.Ytegfhbjdfcoajaa.Bw
open Mv Wk

/-- a walk that ends at a place of both texts, for so much -/
def AccAt (m : M) (inn out : List Int) (i j v : Nat) : Prop := ∃ f ∈ m.fins, ∃ s c : Nat, f.1 = (s : Int) ∧ Wk.Reach m inn out true s i j c ∧ (v : Int) = c + f.2
theorem reach_bd {m : M} {inn out : List Int} {t s i j c : Nat} (h : ReachN m inn out true t s i j c) : i ≤ inn.length ∧ j ≤ out.length := by
  induction t generalizing s i j c with
  | zero => obtain ⟨_, b, d, _⟩ := h; omega
  | succ t ih =>
    rw [reachN_succ] at h
    obtain ⟨s0, i0, j0, c0, x, _, hr, _, _, h3, _⟩ := h
    obtain ⟨k1, k2⟩ := ih hr
    have := h3.bd (by omega) (show j0 < cols out true by unfold cols; simp; omega)
    unfold cols at this
    simp at this
    omega
theorem acc_at {m : M} {inn out : List Int} {v : Nat} : AccAt m inn out inn.length out.length v ↔ Acc m inn out true v := Iff.rfl
theorem accAt_take {m : M} {inn out : List Int} {p q v : Nat} (hp : p ≤ inn.length) (hq : q ≤ out.length) : AccAt m inn out p q v ↔ Acc m (inn.take p) (out.take q) true v := by
  have e1 : (inn.take p).length = p := by rw [List.length_take]; omega
  have e2 : cols (out.take q) true - 1 = q := by unfold cols; rw [if_pos rfl, List.length_take]; omega
  unfold Acc AccAt
  rw [e1, e2]
  constructor
  · rintro ⟨f, hf, s, c, h1, ⟨t, h2⟩, h3⟩
    exact ⟨f, hf, s, c, h1, ⟨t, reach_take.2 ⟨h2, Nat.le_refl _, Nat.le_refl _⟩⟩, h3⟩
  · rintro ⟨f, hf, s, c, h1, ⟨t, h2⟩, h3⟩
    exact ⟨f, hf, s, c, h1, ⟨t, (reach_take.1 h2).1⟩, h3⟩
theorem accAt_bd {m : M} {inn out : List Int} {p q v : Nat} (h : AccAt m inn out p q v) : p ≤ inn.length ∧ q ≤ out.length := by
  obtain ⟨_, _, _, _, _, ⟨_, h2⟩, _⟩ := h
  exact reach_bd h2

def chainM (a b : M) : M := ⟨a.st + b.st, a.arcs.map (mvA 0) ++ b.arcs.map (mvA a.st) ++ a.fins.map (fun f => (f.1, a.st, 0, 0, f.2)), b.fins.map (mvF a.st)⟩
theorem chain_reachN {a b : M} (ha : Fit a) (hb : Fit b) {inn out : List Int} {t s i j c : Nat} (h : ReachN (chainM a b) inn out true t s i j c) :
    ((s : Int) < a.st ∧ ∃ t', ReachN a inn out true t' s i j c) ∨ (∃ s' p q i1 j1 u w t' : Nat, (s : Int) = a.st + s' ∧ i = p + i1 ∧ j = q + j1 ∧ c = u + w ∧ AccAt a inn out p q u ∧ ReachN b (inn.drop p) (out.drop q) true t' s' i1 j1 w) := by
  have h0 := ha.pos
  induction t generalizing s i j c with
  | zero => exact .inl ⟨by obtain ⟨e, _⟩ := h; omega, 0, h⟩
  | succ t ih =>
    rw [reachN_succ] at h
    obtain ⟨s0, i0, j0, c0, x, hx, hr, h1, h2, h3, h4⟩ := h
    have hi := ih hr
    rcases List.mem_append.1 hx with hx | hx
    · rcases List.mem_append.1 hx with hx | hx
      · obtain ⟨y, hy, rfl⟩ := List.mem_map.1 hx
        obtain ⟨f1, f2, f3, f4⟩ := ha.arcs y hy
        unfold mvA at h1 h2 h4
        dsimp only at h1 h2 h4
        rcases hi with ⟨_, t', r⟩ | ⟨s', _, _, _, _, _, _, _, e, _⟩
        · exact .inl ⟨by omega, t' + 1, reachN_succ.2 ⟨s0, i0, j0, c0, y, hy, r, by omega, by omega, mv_move.1 h3, h4⟩⟩
        · omega
      · obtain ⟨y, hy, rfl⟩ := List.mem_map.1 hx
        obtain ⟨f1, f2, f3, f4⟩ := hb.arcs y hy
        unfold mvA at h1 h2 h4
        dsimp only at h1 h2 h4
        rcases hi with ⟨e, _⟩ | ⟨s', p, q, i1, j1, u, w, t', e, rfl, rfl, rfl, hacc, r⟩
        · omega
        · have up := move_up h3
          obtain ⟨i2, rfl⟩ : ∃ i2, i = p + i2 := ⟨i - p, by omega⟩
          obtain ⟨j2, rfl⟩ : ∃ j2, j = q + j2 := ⟨j - q, by omega⟩
          exact .inr ⟨y.2.1.toNat, p, q, i2, j2, u, w + y.2.2.2.2.toNat, t' + 1, by omega, rfl, rfl, by omega, hacc, reachN_succ.2 ⟨s', i1, j1, w, y, hy, r, by omega, by omega, move_drop.2 (mv_move.1 h3), by omega⟩⟩
    · obtain ⟨f, hf, rfl⟩ := List.mem_map.1 hx
      obtain ⟨f1, f2, f3⟩ := ha.fins f hf
      obtain ⟨rfl, rfl⟩ := still.1 h3
      dsimp only at h1 h2 h4
      rcases hi with ⟨_, t', r⟩ | ⟨s', _, _, _, _, _, _, _, e, _⟩
      · exact .inr ⟨0, i, j, 0, 0, c, 0, 0, by omega, rfl, rfl, rfl, ⟨f, hf, s0, c0, h1, ⟨t', r⟩, h4⟩, rfl, rfl, rfl, rfl⟩
      · omega
theorem chain_left {a b : M} {inn out : List Int} {t s i j c : Nat} (h : ReachN a inn out true t s i j c) : ReachN (chainM a b) inn out true t s i j c := by
  induction t generalizing s i j c with
  | zero => exact h
  | succ t ih =>
    rw [reachN_succ] at h
    obtain ⟨s0, i0, j0, c0, x, hx, hr, h1, h2, h3, h4⟩ := h
    exact reachN_succ.2 ⟨s0, i0, j0, c0, mvA 0 x, List.mem_append_left _ (List.mem_append_left _ (List.mem_map.2 ⟨x, hx, rfl⟩)), ih hr, by unfold mvA; dsimp only; omega, by unfold mvA; dsimp only; omega, mv_move.2 h3, h4⟩
theorem chain_right {a b : M} {A : Nat} (hA : a.st = (A : Int)) {inn out : List Int} {p q u t s i j w : Nat} (hacc : AccAt a inn out p q u) (h : ReachN b (inn.drop p) (out.drop q) true t s i j w) : Wk.Reach (chainM a b) inn out true (A + s) (p + i) (q + j) (u + w) := by
  induction t generalizing s i j w with
  | zero =>
    obtain ⟨rfl, rfl, rfl, rfl⟩ := h
    obtain ⟨f, hf, s, c, h1, ⟨t, h2⟩, h3⟩ := hacc
    exact ⟨t + 1, reachN_succ.2 ⟨s, p, q, c, (f.1, a.st, 0, 0, f.2), List.mem_append_right _ (List.mem_map.2 ⟨f, hf, rfl⟩), chain_left h2, h1, by dsimp only; omega, still.2 ⟨rfl, rfl⟩, h3⟩⟩
  | succ t ih =>
    rw [reachN_succ] at h
    obtain ⟨s0, i0, j0, c0, x, hx, hr, h1, h2, h3, h4⟩ := h
    obtain ⟨t', r⟩ := ih hr
    exact ⟨t' + 1, reachN_succ.2 ⟨A + s0, p + i0, q + j0, u + c0, mvA a.st x, List.mem_append_left _ (List.mem_append_right _ (List.mem_map.2 ⟨x, hx, rfl⟩)), r, by unfold mvA; dsimp only; omega, by unfold mvA; dsimp only; omega, mv_move.2 (move_drop.1 h3), by unfold mvA; dsimp only; omega⟩⟩
/-- what is walked by one, and by the other behind it -/
def Parted (a b : M) (inn out : List Int) (v : Nat) : Prop := ∃ p q u w : Nat, p ≤ inn.length ∧ q ≤ out.length ∧ v = u + w ∧ Acc a (inn.take p) (out.take q) true u ∧ Acc b (inn.drop p) (out.drop q) true w
theorem chain_acc {a b : M} (ha : Fit a) (hb : Fit b) {inn out : List Int} {v : Nat} : Parted a b inn out v ↔ Acc (chainM a b) inn out true v := by
  have h0 := ha.pos
  obtain ⟨A, hA⟩ : ∃ A : Nat, a.st = (A : Int) := ⟨a.st.toNat, by omega⟩
  have e2 : ∀ l : List Int, cols l true - 1 = l.length := fun l => by unfold cols; rw [if_pos rfl]; omega
  constructor
  · rintro ⟨p, q, u, w, hp, hq, rfl, hacc, f, hf, s, c, h1, ⟨t, h2⟩, h3⟩
    rw [e2, List.length_drop, List.length_drop] at h2
    have r := chain_right hA ((accAt_take hp hq).2 hacc) h2
    rw [Nat.add_sub_of_le hp, Nat.add_sub_of_le hq] at r
    exact ⟨mvF a.st f, List.mem_map.2 ⟨f, hf, rfl⟩, A + s, u + c, by unfold mvF; dsimp only; omega, by rw [e2]; exact r, by unfold mvF; dsimp only; omega⟩
  · rintro ⟨f, hf, s, c, h1, ⟨t, h2⟩, h3⟩
    rw [e2] at h2
    obtain ⟨g, hg, rfl⟩ := List.mem_map.1 hf
    obtain ⟨g1, g2, g3⟩ := hb.fins g hg
    unfold mvF at h1 h3
    dsimp only at h1 h3
    rcases chain_reachN ha hb h2 with ⟨e, _⟩ | ⟨s', p, q, i1, j1, u, w, t', e, k1, k2, rfl, hacc, r⟩
    · omega
    · obtain ⟨b1, b2⟩ := accAt_bd hacc
      refine ⟨p, q, u, w + g.2.toNat, b1, b2, by omega, (accAt_take b1 b2).1 hacc, g, hg, s', w, by omega, ⟨t', ?_⟩, by omega⟩
      rw [e2, List.length_drop, List.length_drop, k1, k2, Nat.add_sub_cancel_left, Nat.add_sub_cancel_left]
      exact r
end Go.Proofs.Ytegfhbjdfcoajaa.Bw
/- Plain facts for MachineMakes: any number of walks one behind the other (Repeat); what 'again' must answer. Conditions: the machine is right. -/
namespace Go.Proofs.Ytegfhbjdfcoajaa.Bw
open Mv Wk

def repeatM (a : M) : M := ⟨1 + a.st, a.arcs.map (mvA 1) ++ [(0, 1, 0, 0, 0)] ++ a.fins.map (fun f => (1 + f.1, 0, 0, 0, f.2)), [(0, 0)]⟩
/-- so many walks one behind the other come to a place of both texts, for so much -/
def RoundsN (a : M) (inn out : List Int) : Nat → Nat → Nat → Nat → Prop
  | 0, i, j, c => i = 0 ∧ j = 0 ∧ c = 0
  | k + 1, i, j, c => ∃ p q u i1 j1 w : Nat, RoundsN a inn out k p q u ∧ i = p + i1 ∧ j = q + j1 ∧ c = u + w ∧ AccAt a (inn.drop p) (out.drop q) i1 j1 w
theorem repeat_reachN {a : M} (ha : Fit a) {inn out : List Int} {t s i j c : Nat} (h : ReachN (repeatM a) inn out true t s i j c) :
    (s = 0 ∧ ∃ k, RoundsN a inn out k i j c) ∨ (∃ s' k p q u i1 j1 w t' : Nat, s = s' + 1 ∧ RoundsN a inn out k p q u ∧ i = p + i1 ∧ j = q + j1 ∧ c = u + w ∧ ReachN a (inn.drop p) (out.drop q) true t' s' i1 j1 w) := by
  induction t generalizing s i j c with
  | zero => obtain ⟨e1, e2, e3, e4⟩ := h; exact .inl ⟨e1, 0, e2, e3, e4⟩
  | succ t ih =>
    rw [reachN_succ] at h
    obtain ⟨s0, i0, j0, c0, x, hx, hr, h1, h2, h3, h4⟩ := h
    have hi := ih hr
    rcases List.mem_append.1 hx with hx | hx
    · rcases List.mem_append.1 hx with hx | hx
      · obtain ⟨y, hy, rfl⟩ := List.mem_map.1 hx
        obtain ⟨f1, f2, f3, f4, f5⟩ := ha.arcs y hy
        unfold mvA at h1 h2 h4
        dsimp only at h1 h2 h4
        rcases hi with ⟨e, _⟩ | ⟨s', k, p, q, u, i1, j1, w, t', e, hk, rfl, rfl, rfl, r⟩
        · omega
        · have up := move_up h3
          obtain ⟨i2, rfl⟩ : ∃ i2, i = p + i2 := ⟨i - p, by omega⟩
          obtain ⟨j2, rfl⟩ : ∃ j2, j = q + j2 := ⟨j - q, by omega⟩
          exact .inr ⟨y.2.1.toNat, k, p, q, u, i2, j2, w + y.2.2.2.2.toNat, t' + 1, by omega, hk, rfl, rfl, by omega, reachN_succ.2 ⟨s', i1, j1, w, y, hy, r, by omega, by omega, move_drop.2 (mv_move.1 h3), by omega⟩⟩
      · rw [List.mem_singleton] at hx
        subst hx
        obtain ⟨rfl, rfl⟩ := still.1 h3
        dsimp only at h1 h2 h4
        rcases hi with ⟨e, k, hk⟩ | ⟨s', _, _, _, _, _, _, _, _, e, _⟩
        · exact .inr ⟨0, k, i, j, c0, 0, 0, 0, 0, by omega, hk, rfl, rfl, by omega, rfl, rfl, rfl, rfl⟩
        · omega
    · obtain ⟨f, hf, rfl⟩ := List.mem_map.1 hx
      obtain ⟨f1, f2, f3⟩ := ha.fins f hf
      obtain ⟨rfl, rfl⟩ := still.1 h3
      dsimp only at h1 h2 h4
      rcases hi with ⟨e, _⟩ | ⟨s', k, p, q, u, i1, j1, w, t', e, hk, e1, e2, e3, r⟩
      · omega
      · exact .inl ⟨by omega, k + 1, p, q, u, i1, j1, w + f.2.toNat, hk, e1, e2, by omega, f, hf, s', w, by omega, ⟨t', r⟩, by omega⟩
theorem repeat_in {a : M} {inn out : List Int} {p q u t s i j w : Nat} (h0 : Wk.Reach (repeatM a) inn out true 0 p q u) (h : ReachN a (inn.drop p) (out.drop q) true t s i j w) : Wk.Reach (repeatM a) inn out true (s + 1) (p + i) (q + j) (u + w) := by
  induction t generalizing s i j w with
  | zero =>
    obtain ⟨rfl, rfl, rfl, rfl⟩ := h
    obtain ⟨t, h2⟩ := h0
    exact ⟨t + 1, reachN_succ.2 ⟨0, p, q, u, (0, 1, 0, 0, 0), List.mem_append_left _ (List.mem_append_right _ (List.mem_singleton.2 rfl)), h2, rfl, rfl, still.2 ⟨rfl, rfl⟩, by dsimp only; omega⟩⟩
  | succ t ih =>
    rw [reachN_succ] at h
    obtain ⟨s0, i0, j0, c0, x, hx, hr, h1, h2, h3, h4⟩ := h
    obtain ⟨t', r⟩ := ih hr
    exact ⟨t' + 1, reachN_succ.2 ⟨s0 + 1, p + i0, q + j0, u + c0, mvA 1 x, List.mem_append_left _ (List.mem_append_left _ (List.mem_map.2 ⟨x, hx, rfl⟩)), r, by unfold mvA; dsimp only; omega, by unfold mvA; dsimp only; omega, mv_move.2 (move_drop.1 h3), by unfold mvA; dsimp only; omega⟩⟩
theorem repeat_rounds {a : M} {inn out : List Int} {k i j c : Nat} (h : RoundsN a inn out k i j c) : Wk.Reach (repeatM a) inn out true 0 i j c := by
  induction k generalizing i j c with
  | zero => obtain ⟨e2, e3, e4⟩ := h; exact ⟨0, rfl, e2, e3, e4⟩
  | succ k ih =>
    obtain ⟨p, q, u, i1, j1, w, hr, rfl, rfl, rfl, f, hf, s, c, h1, ⟨t, h2⟩, h3⟩ := h
    obtain ⟨t', r⟩ := repeat_in (ih hr) h2
    exact ⟨t' + 1, reachN_succ.2 ⟨s + 1, p + i1, q + j1, u + c, (1 + f.1, 0, 0, 0, f.2), List.mem_append_right _ (List.mem_map.2 ⟨f, hf, rfl⟩), r, by dsimp only; omega, rfl, still.2 ⟨rfl, rfl⟩, by dsimp only; omega⟩⟩
/-- any number of walks -/
def Rounds (a : M) (inn out : List Int) (i j v : Nat) : Prop := ∃ k, RoundsN a inn out k i j v
theorem repeat_acc {a : M} (ha : Fit a) {inn out : List Int} {v : Nat} : Rounds a inn out inn.length out.length v ↔ Acc (repeatM a) inn out true v := by
  have e2 : cols out true - 1 = out.length := by unfold cols; rw [if_pos rfl]; omega
  constructor
  · rintro ⟨k, h⟩
    exact ⟨(0, 0), List.mem_singleton.2 rfl, 0, v, rfl, by rw [e2]; exact repeat_rounds h, by dsimp only; omega⟩
  · rintro ⟨f, hf, s, c, h1, ⟨t, h2⟩, h3⟩
    rw [e2] at h2
    rw [List.mem_singleton.1 hf] at h1 h3
    dsimp only at h1 h3
    rcases repeat_reachN ha h2 with ⟨_, k, hk⟩ | ⟨s', _, _, _, _, _, _, _, _, e, _⟩
    · have : v = c := by omega
      subst this
      exact ⟨k, hk⟩
    · omega

/- ONE WALK MORE, THAT IS NOT OF NOTHING -/
/-- what a piece of both texts costs: the texts from one place to another -/
def Seg (a : M) (inn out : List Int) (r w i j c : Nat) : Prop := Acc a ((inn.take i).drop r) ((out.take j).drop w) true c
theorem seg_at {a : M} {inn out : List Int} {r w i1 j1 c : Nat} (hi : r + i1 ≤ inn.length) (hj : w + j1 ≤ out.length) : AccAt a (inn.drop r) (out.drop w) i1 j1 c ↔ Seg a inn out r w (r + i1) (w + j1) c := by
  unfold Seg
  rw [accAt_take (by rw [List.length_drop]; omega) (by rw [List.length_drop]; omega), List.drop_take, List.drop_take, Nat.add_sub_cancel_left, Nat.add_sub_cancel_left]
theorem rounds_bd {a : M} {inn out : List Int} {k i j c : Nat} (h : RoundsN a inn out k i j c) : i ≤ inn.length ∧ j ≤ out.length := by
  cases k with
  | zero => obtain ⟨e, e', _⟩ := h; omega
  | succ k =>
    obtain ⟨p, q, u, i1, j1, w, hr, rfl, rfl, rfl, hacc⟩ := h
    have hp : p ≤ inn.length ∧ q ≤ out.length := by
      have := reach_bd (repeat_rounds hr).choose_spec
      exact this
    obtain ⟨b1, b2⟩ := accAt_bd hacc
    rw [List.length_drop] at b1 b2
    omega
/-- a last walk that is not of nothing, or no walk -/
def Last (a : M) (inn out : List Int) (i j v : Nat) : Prop := (i = 0 ∧ j = 0 ∧ v = 0) ∨ ∃ r w u c : Nat, r ≤ i ∧ w ≤ j ∧ ¬ (r = i ∧ w = j) ∧ Rounds a inn out r w u ∧ Seg a inn out r w i j c ∧ v = u + c
theorem last_rounds {a : M} {inn out : List Int} {i j v : Nat} (hi : i ≤ inn.length) (hj : j ≤ out.length) (h : Last a inn out i j v) : Rounds a inn out i j v := by
  rcases h with ⟨e1, e2, e3⟩ | ⟨r, w, u, c, hr, hw, _, ⟨k, hk⟩, hs, rfl⟩
  · exact ⟨0, e1, e2, e3⟩
  · refine ⟨k + 1, r, w, u, i - r, j - w, c, hk, by omega, by omega, rfl, (seg_at (by omega) (by omega)).2 ?_⟩
    rw [Nat.add_sub_of_le hr, Nat.add_sub_of_le hw]
    exact hs
theorem rounds_last {a : M} {inn out : List Int} {k i j v : Nat} (h : RoundsN a inn out k i j v) : ∃ v', v' ≤ v ∧ Last a inn out i j v' := by
  induction k generalizing i j v with
  | zero => exact ⟨v, Nat.le_refl _, .inl h⟩
  | succ k ih =>
    have hbd := rounds_bd h
    obtain ⟨p, q, u, i1, j1, w, hr, rfl, rfl, rfl, hacc⟩ := h
    by_cases e : i1 = 0 ∧ j1 = 0
    · obtain ⟨rfl, rfl⟩ := e
      obtain ⟨v', hv, hl⟩ := ih hr
      exact ⟨v', by omega, hl⟩
    · exact ⟨u + w, Nat.le_refl _, .inr ⟨p, q, u, w, by omega, by omega, by omega, ⟨k, hr⟩, (seg_at hbd.1 hbd.2).1 hacc, rfl⟩⟩
theorem Least.sub {P Q : Nat → Prop} {v : Nat} (h : Least P v) (h1 : ∀ u, P u → Q u) (h2 : ∀ u, Q u → ∃ u', u' ≤ u ∧ P u') : Least Q v := by
  rcases h with ⟨e, h⟩ | ⟨l, hp, h⟩
  · exact .inl ⟨e, fun u hu => by obtain ⟨u', _, hu'⟩ := h2 u hu; exact h u' hu'⟩
  · exact .inr ⟨l, h1 v hp, fun u hu => by obtain ⟨u', hle, hu'⟩ := h2 u hu; have := h u' hu'; omega⟩
theorem rounds_least {a : M} {inn out : List Int} {i j v : Nat} (hi : i ≤ inn.length) (hj : j ≤ out.length) (h : Least (Last a inn out i j) v) : Least (Rounds a inn out i j) v :=
  h.sub (fun _ hu => last_rounds hi hj hu) (fun _ ⟨_, hk⟩ => rounds_last hk)
end Go.Proofs.Ytegfhbjdfcoajaa.Bw
