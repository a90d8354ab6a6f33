/- Plain facts on the cheapest end of a table of least costs. No conditions beyond that the machine is right. -/
import Derived.Test.YtfjocafepigijaaDoorWk3
namespace Go.Proofs.YtfjocafepigijaaDoor.Wk
open Mv

/-- what may be come to has a cost in a table that no arc betters -/
theorem reached {m : M} {inn out : List Int} {told : Bool} {S : Nat} {B : List Nat} (hr : Right m S) (h : Inv m inn out told S B) (hN : B.length ≤ 100000000) (hf : ∀ x (hx : x < m.arcs.length), ∀ i j, i < inn.length + 1 → j < cols out told → Rel inn out told B m.arcs[x] i j) :
    ∀ t s i j c, ReachN m inn out told t s i j c → val B (idx (inn.length + 1) (cols out told) s i j) < dear
  | 0, s, i, j, c, h0 => by
    obtain ⟨rfl, rfl, rfl, _⟩ := h0
    have e : idx (inn.length + 1) (cols out told) 0 0 0 = 0 := by unfold idx; simp
    rw [e, h.zero]
    unfold dear
    omega
  | t + 1, s', i', j', c', h1 => by
    obtain ⟨s, i, j, c, x, hx, h1, e1, e2, hm, ec⟩ := h1
    have ih := reached hr h hN hf t s i j c h1
    have bd := reach_bd hr t s i j c h1
    have ha := hr.2.2 x hx
    unfold arcB at ha
    simp only [decide_eq_true_eq] at ha
    have h2 := hf x hx i j bd.2.1 bd.2.2 s s' i' j' e1 e2 hm ih
    have h3 := h.small _ ih
    have h4 := cnt_le B
    generalize val B (idx (inn.length + 1) (cols out told) s i j) = p at *
    generalize val B (idx (inn.length + 1) (cols out told) s' i' j') = q at *
    unfold dear
    omega

/-- the least of the first y ends -/
structure Lst (fins : List (Int × Int)) (inn out : List Int) (B : List Nat) (y v : Nat) : Prop where
  top : v ≤ dear
  low : ∀ y' (h : y' < fins.length), y' < y → ∀ f : Nat, (fins[y']).1 = (f : Int) → val B (idx (inn.length + 1) (cols out true) f inn.length (cols out true - 1)) < dear → (v : Int) ≤ val B (idx (inn.length + 1) (cols out true) f inn.length (cols out true - 1)) + (fins[y']).2
  real : v < dear → ∃ y', ∃ h : y' < fins.length, ∃ f : Nat, (fins[y']).1 = (f : Int) ∧ val B (idx (inn.length + 1) (cols out true) f inn.length (cols out true - 1)) < dear ∧ (v : Int) = val B (idx (inn.length + 1) (cols out true) f inn.length (cols out true - 1)) + (fins[y']).2
theorem Lst.start (fins : List (Int × Int)) (inn out : List Int) (B : List Nat) : Lst fins inn out B 0 dear :=
  ⟨Nat.le_refl _, fun _ _ h => absurd h (Nat.not_lt_zero _), fun h => absurd h (Nat.lt_irrefl _)⟩
theorem Lst.keep {fins : List (Int × Int)} {inn out : List Int} {B : List Nat} {y v f : Nat} (h : Lst fins inn out B y v) (hy : y < fins.length) (hf : (fins[y]).1 = (f : Int))
    (hk : val B (idx (inn.length + 1) (cols out true) f inn.length (cols out true - 1)) < dear → (v : Int) ≤ val B (idx (inn.length + 1) (cols out true) f inn.length (cols out true - 1)) + (fins[y]).2) : Lst fins inn out B (y + 1) v := by
  refine ⟨h.top, fun y' h' hlt f' e hd => ?_, h.real⟩
  by_cases e' : y' = y
  · subst e'
    obtain rfl : f' = f := by omega
    exact hk hd
  · exact h.low y' h' (by omega) f' e hd
theorem Lst.took {fins : List (Int × Int)} {inn out : List Int} {B : List Nat} {y v f p W : Nat} (h : Lst fins inn out B y v) (hy : y < fins.length) (hf : (fins[y]).1 = (f : Int)) (hW : (fins[y]).2 = (W : Int))
    (hp : val B (idx (inn.length + 1) (cols out true) f inn.length (cols out true - 1)) = p) (hpd : p < dear) (hlt : p + W < v) : Lst fins inn out B (y + 1) (p + W) := by
  refine ⟨by have := h.top; omega, fun y' h' hlt' f' e hd => ?_, fun _ => ⟨y, hy, f, hf, by rw [hp]; exact hpd, by rw [hp, hW]; omega⟩⟩
  by_cases e' : y' = y
  · subst e'
    obtain rfl : f' = f := by omega
    rw [hp, hW]
    omega
  · have := h.low y' h' (by omega) f' e hd
    omega
theorem Lst.fin {S : Nat} {arcs : List (Int × Int × Int × Int × Int)} {fins : List (Int × Int)} {inn out : List Int} {B : List Nat} {v : Nat} (h : Lst fins inn out B fins.length v) (hr : Right ⟨(S : Int), arcs, fins⟩ S) (hN : B.length ≤ 100000000)
    (hF : ∀ x (h : x < fins.length), finB (S : Int) fins[x] = true) (hI : Inv ⟨(S : Int), arcs, fins⟩ inn out true S B) (hX : Fix arcs inn out B) : IsCost ⟨(S : Int), arcs, fins⟩ inn out true v := by
  have hc : 0 < cols out true := by show 0 < out.length + 1; omega
  have key : ∀ y (hy : y < fins.length), ∀ f c : Nat, (fins[y]).1 = (f : Int) → Reach ⟨(S : Int), arcs, fins⟩ inn out true f inn.length (cols out true - 1) c → (v : Int) ≤ c + (fins[y]).2 ∧ v < dear := by
    intro y hy f c e hR
    obtain ⟨t, ht⟩ := hR
    have h1 := reached hr hI hN hX t _ _ _ _ ht
    have h2 := least hr hI hX t _ _ _ _ ht
    have h3 := h.low y hy hy f e h1
    have h4 := hI.small _ h1
    have h5 := cnt_le B
    have h6 := hF y hy
    unfold finB at h6
    simp only [decide_eq_true_eq] at h6
    generalize val B (idx (inn.length + 1) (cols out true) f inn.length (cols out true - 1)) = p at *
    refine ⟨by omega, ?_⟩
    unfold dear
    omega
  by_cases hd : v < dear
  · refine .inr ⟨hd, ?_, fun y hy f c e hR => (key y hy f c e hR).1⟩
    obtain ⟨y, hy, f, e, hv, ev⟩ := h.real hd
    have hb := hF y hy
    unfold finB at hb
    simp only [decide_eq_true_eq] at hb
    exact ⟨y, hy, f, _, e, hI.real f inn.length (cols out true - 1) (by omega) (by omega) (by omega) hv, ev⟩
  · refine .inl ⟨Nat.le_antisymm h.top (Nat.not_lt.1 hd), fun y hy f c e hR => absurd (key y hy f c e hR).2 hd⟩
/-- what is not dear is not much -/
theorem Lst.bound {S : Nat} {arcs : List (Int × Int × Int × Int × Int)} {fins : List (Int × Int)} {inn out : List Int} {B : List Nat} {v : Nat} (h : Lst fins inn out B fins.length v) (hN : B.length ≤ 11532000)
    (hF : ∀ x (h : x < fins.length), finB (S : Int) fins[x] = true) (hI : Inv ⟨(S : Int), arcs, fins⟩ inn out true S B) : v = dear ∨ v ≤ 11532001000000 := by
  by_cases hd : v < dear
  · obtain ⟨y, hy, f, _, hv, ev⟩ := h.real hd
    have h4 := hI.small _ hv
    have h5 := cnt_le B
    have h6 := hF y hy
    unfold finB at h6
    simp only [decide_eq_true_eq] at h6
    generalize val B (idx (inn.length + 1) (cols out true) f inn.length (cols out true - 1)) = p at *
    exact .inr (by omega)
  · exact .inl (Nat.le_antisymm h.top (Nat.not_lt.1 hd))
end Go.Proofs.YtfjocafepigijaaDoor.Wk
