/- How far nodes are from an end, in plain words: what measure (62) does to a table of numbers, round by round. No program text; no conditions. -/
import Derived.Test.YtfjocafepigijaaDoorCkRM
import Derived.Laws.ResultCell
import Derived.Deep.LoopGhost
import Derived.Deep.QuietTactic
import Derived.BigQuiet
import Derived.Deep.RegionHeld
import Derived.Deep.CutRange
import Derived.Test.YtfjocafepigijaaDoorCJM
namespace Go.Proofs.YtfjocafepigijaaDoor.Ot

/-- from u an end is come to in at most n steps, and k symbols are written; u ∈ p0 v: a step from u to v that writes nothing, u ∈ p1 v: one that writes one -/
def Dn (p0 p1 : Nat → List Nat) (F : List Nat) : Nat → Nat → Nat → Prop
  | 0, k, u => k = 0 ∧ u ∈ F
  | n + 1, k, u => (k = 0 ∧ u ∈ F) ∨ (∃ v, u ∈ p0 v ∧ Dn p0 p1 F n k v) ∨ (∃ v j, k = j + 1 ∧ u ∈ p1 v ∧ Dn p0 p1 F n j v)
def Di (p0 p1 : Nat → List Nat) (F : List Nat) (k u : Nat) : Prop := ∃ n, Dn p0 p1 F n k u
theorem Di.ends {p0 p1 : Nat → List Nat} {F : List Nat} {u : Nat} (h : u ∈ F) : Di p0 p1 F 0 u := ⟨0, rfl, h⟩
theorem Di.zero {p0 p1 : Nat → List Nat} {F : List Nat} {k u v : Nat} (h : u ∈ p0 v) (hd : Di p0 p1 F k v) : Di p0 p1 F k u := by
  obtain ⟨n, hd⟩ := hd
  exact ⟨n + 1, .inr (.inl ⟨v, h, hd⟩)⟩
theorem Di.one {p0 p1 : Nat → List Nat} {F : List Nat} {k u v : Nat} (h : u ∈ p1 v) (hd : Di p0 p1 F k v) : Di p0 p1 F (k + 1) u := by
  obtain ⟨n, hd⟩ := hd
  exact ⟨n + 1, .inr (.inr ⟨v, k, rfl, h, hd⟩)⟩
/-- a round: N the table, w what is written, st the nodes that wait, mo those of the next round, L + 1 what is not measured -/
structure Ms (p0 p1 : Nat → List Nat) (F : List Nat) (L : Nat) (N : Nat → Nat) (w : Nat) (st mo : List Nat) : Prop where
  dom : ∀ v, N v ≤ w ∨ N v = L + 1
  snd : ∀ v, N v ≤ w → Di p0 p1 F (N v) v
  ist : ∀ v ∈ st, Di p0 p1 F w v
  imo : ∀ v ∈ mo, Di p0 p1 F (w + 1) v
  low : ∀ k v, k < w → Di p0 p1 F k v → N v ≤ k
  fin : ∀ v ∈ F, N v ≤ w ∨ v ∈ st
  cl0 : ∀ v, N v ≤ w → ∀ u ∈ p0 v, N u ≤ w ∨ u ∈ st
  cl1 : ∀ v, N v < w → ∀ u ∈ p1 v, N u ≤ w ∨ u ∈ st
  nx1 : ∀ v, N v = w → ∀ u ∈ p1 v, u ∈ mo
theorem Ms.begin (p0 p1 : Nat → List Nat) (F : List Nat) (L : Nat) : Ms p0 p1 F L (fun _ => L + 1) 0 F [] :=
  ⟨fun _ => .inr rfl, fun v h => by omega, fun v h => Di.ends h, fun v h => (by cases h), fun k v h => by omega, fun v h => .inr h, fun v h => by omega, fun v h => by omega, fun v h => by omega⟩
/-- a node that is measured already is left -/
theorem Ms.skip {p0 p1 : Nat → List Nat} {F : List Nat} {L : Nat} {N : Nat → Nat} {w v : Nat} {st mo : List Nat} (h : Ms p0 p1 F L N w (st ++ [v]) mo) (hv : N v ≤ w) : Ms p0 p1 F L N w st mo := by
  have out : ∀ u, N u ≤ w ∨ u ∈ st ++ [v] → N u ≤ w ∨ u ∈ st := fun u hu => by
    rcases hu with hu | hu
    · exact .inl hu
    · rcases List.mem_append.1 hu with hu | hu
      · exact .inr hu
      · rw [List.mem_singleton.1 hu]; exact .inl hv
  exact ⟨h.dom, h.snd, fun u hu => h.ist u (List.mem_append_left _ hu), h.imo, h.low, fun u hu => out u (h.fin u hu), fun x hx u hu => out u (h.cl0 x hx u hu), fun x hx u hu => out u (h.cl1 x hx u hu), h.nx1⟩
/-- one that is not measured yet is, and the nodes behind it wait -/
theorem Ms.take {p0 p1 : Nat → List Nat} {F : List Nat} {L : Nat} {N : Nat → Nat} {w v : Nat} {st mo : List Nat} (h : Ms p0 p1 F L N w (st ++ [v]) mo) (hv : ¬ N v ≤ w) : Ms p0 p1 F L (fun x => if x = v then w else N x) w (st ++ p0 v) (mo ++ p1 v) := by
  have dv := h.ist v (by simp)
  have eq : ∀ x, x ≠ v → (if x = v then w else N x) = N x := fun x hx => if_neg hx
  have ev : (if v = v then w else N v) = w := if_pos rfl
  have out : ∀ u, N u ≤ w ∨ u ∈ st ++ [v] → (if u = v then w else N u) ≤ w ∨ u ∈ st ++ p0 v := fun u hu => by
    by_cases huv : u = v
    · subst huv; exact .inl (Nat.le_of_eq ev)
    · rw [eq u huv]
      rcases hu with hu | hu
      · exact .inl hu
      · rcases List.mem_append.1 hu with hu | hu
        · exact .inr (List.mem_append_left _ hu)
        · exact absurd (List.mem_singleton.1 hu) huv
  refine ⟨fun x => ?_, fun x hx => ?_, fun u hu => ?_, fun u hu => ?_, fun k x hk hd => ?_, fun u hu => out u (h.fin u hu), fun x hx u hu => ?_, fun x hx u hu => ?_, fun x hx u hu => ?_⟩
  · by_cases hxv : x = v
    · subst hxv; exact .inl (Nat.le_of_eq ev)
    · rw [eq x hxv]; exact h.dom x
  · by_cases hxv : x = v
    · subst hxv; rw [ev]; exact dv
    · rw [eq x hxv] at hx ⊢; exact h.snd x hx
  · rcases List.mem_append.1 hu with hu | hu
    · exact h.ist u (List.mem_append_left _ hu)
    · exact Di.zero hu dv
  · rcases List.mem_append.1 hu with hu | hu
    · exact h.imo u hu
    · exact Di.one hu dv
  · have h1 := h.low k x hk hd
    by_cases hxv : x = v
    · subst hxv; omega
    · rw [eq x hxv]; exact h1
  · by_cases hxv : x = v
    · subst hxv; exact .inr (List.mem_append_right _ hu)
    · rw [eq x hxv] at hx; exact out u (h.cl0 x hx u hu)
  · by_cases hxv : x = v
    · subst hxv; rw [ev] at hx; omega
    · rw [eq x hxv] at hx; exact out u (h.cl1 x hx u hu)
  · by_cases hxv : x = v
    · subst hxv; exact List.mem_append_right _ hu
    · rw [eq x hxv] at hx; exact List.mem_append_left _ (h.nx1 x hx u hu)
/-- when nobody waits, all that are so near are measured -/
theorem Ms.near {p0 p1 : Nat → List Nat} {F : List Nat} {L : Nat} {N : Nat → Nat} {w : Nat} {mo : List Nat} (h : Ms p0 p1 F L N w [] mo) (k v : Nat) (hk : k ≤ w) (hd : Di p0 p1 F k v) : N v ≤ k := by
  rcases Nat.lt_or_ge k w with hlt | hge
  · exact h.low k v hlt hd
  obtain rfl : k = w := by omega
  have none : ∀ u, N u ≤ k ∨ u ∈ ([] : List Nat) → N u ≤ k := fun u hu => hu.elim id (fun h => by cases h)
  obtain ⟨n, hd⟩ := hd
  induction n generalizing v with
  | zero => exact none v (h.fin v hd.2)
  | succ n ih =>
    rcases hd with ⟨_, hF⟩ | ⟨x, hx, hd⟩ | ⟨x, j, hj, hx, hd⟩
    · exact none v (h.fin v hF)
    · exact none v (h.cl0 x (ih x hd) v hx)
    · have := h.low j x (by omega) ⟨n, hd⟩
      exact none v (h.cl1 x (by omega) v hx)
/-- the next round -/
theorem Ms.next {p0 p1 : Nat → List Nat} {F : List Nat} {L : Nat} {N : Nat → Nat} {w : Nat} {mo : List Nat} (h : Ms p0 p1 F L N w [] mo) (hw : w + 1 ≤ L) : Ms p0 p1 F L N (w + 1) mo [] := by
  have small : ∀ v, N v ≤ w + 1 → N v ≤ w := fun v hv => by rcases h.dom v with h1 | h1 <;> omega
  have none : ∀ u, N u ≤ w ∨ u ∈ ([] : List Nat) → N u ≤ w := fun u hu => hu.elim id (fun h => by cases h)
  refine ⟨fun v => (h.dom v).imp (fun h => by omega) id, fun v hv => h.snd v (small v hv), h.imo, fun v hv => (by cases hv), fun k v hk hd => h.near k v (by omega) hd, fun v hv => .inl (by have := none v (h.fin v hv); omega), fun v hv u hu => .inl (by have := none u (h.cl0 v (small v hv) u hu); omega), fun v hv u hu => ?_, fun v hv => by have := small v (by omega); omega⟩
  rcases Nat.lt_or_ge (N v) w with h1 | h1
  · exact .inl (by have := none u (h.cl1 v h1 u hu); omega)
  · exact .inr (h.nx1 v (by omega) u hu)
/-- at last: the table says how far each node is -/
theorem Ms.done {p0 p1 : Nat → List Nat} {F : List Nat} {L : Nat} {N : Nat → Nat} {mo : List Nat} (h : Ms p0 p1 F L N L [] mo) (v k : Nat) (hk : k ≤ L) : N v ≤ k ↔ ∃ j, j ≤ k ∧ Di p0 p1 F j v :=
  ⟨fun hv => ⟨N v, hv, h.snd v (by omega)⟩, fun ⟨j, hj, hd⟩ => Nat.le_trans (h.near j v (by omega) hd) hj⟩
end Go.Proofs.YtfjocafepigijaaDoor.Ot
/- groupOf, has, usefulPairs' all, visit. Conditions: the numbers lie in their rows. -/
namespace Go.Proofs.YtfjocafepigijaaDoor.Pa
open Go.RowKit Mv Set

end Go.Proofs.YtfjocafepigijaaDoor.Pa
/- Plain facts on the cheapest end of a table of least costs. No conditions beyond that the machine is right. -/
namespace Go.Proofs.YtfjocafepigijaaDoor.Wk
open Mv

/-- what may be come to has a cost in a table that no arc betters -/
theorem reached {m : M} {inn out : List Int} {told : Bool} {S : Nat} {B : List Nat} (hr : Right m S) (h : Inv m inn out told S B) (hN : B.length ≤ 100000000) (hf : ∀ x (hx : x < m.arcs.length), ∀ i j, i < inn.length + 1 → j < cols out told → Rel inn out told B m.arcs[x] i j) :
    ∀ t s i j c, ReachN m inn out told t s i j c → val B (idx (inn.length + 1) (cols out told) s i j) < dear
  | 0, s, i, j, c, h0 => by
    obtain ⟨rfl, rfl, rfl, _⟩ := h0
    have e : idx (inn.length + 1) (cols out told) 0 0 0 = 0 := by unfold idx; simp
    rw [e, h.zero]
    unfold dear
    omega
  | t + 1, s', i', j', c', h1 => by
    obtain ⟨s, i, j, c, x, hx, h1, e1, e2, hm, ec⟩ := h1
    have ih := reached hr h hN hf t s i j c h1
    have bd := reach_bd hr t s i j c h1
    have ha := hr.2.2 x hx
    unfold arcB at ha
    simp only [decide_eq_true_eq] at ha
    have h2 := hf x hx i j bd.2.1 bd.2.2 s s' i' j' e1 e2 hm ih
    have h3 := h.small _ ih
    have h4 := cnt_le B
    generalize val B (idx (inn.length + 1) (cols out told) s i j) = p at *
    generalize val B (idx (inn.length + 1) (cols out told) s' i' j') = q at *
    unfold dear
    omega

/-- the least of the first y ends -/
structure Lst (fins : List (Int × Int)) (inn out : List Int) (B : List Nat) (y v : Nat) : Prop where
  top : v ≤ dear
  low : ∀ y' (h : y' < fins.length), y' < y → ∀ f : Nat, (fins[y']).1 = (f : Int) → val B (idx (inn.length + 1) (cols out true) f inn.length (cols out true - 1)) < dear → (v : Int) ≤ val B (idx (inn.length + 1) (cols out true) f inn.length (cols out true - 1)) + (fins[y']).2
  real : v < dear → ∃ y', ∃ h : y' < fins.length, ∃ f : Nat, (fins[y']).1 = (f : Int) ∧ val B (idx (inn.length + 1) (cols out true) f inn.length (cols out true - 1)) < dear ∧ (v : Int) = val B (idx (inn.length + 1) (cols out true) f inn.length (cols out true - 1)) + (fins[y']).2
theorem Lst.start (fins : List (Int × Int)) (inn out : List Int) (B : List Nat) : Lst fins inn out B 0 dear :=
  ⟨Nat.le_refl _, fun _ _ h => absurd h (Nat.not_lt_zero _), fun h => absurd h (Nat.lt_irrefl _)⟩
theorem Lst.keep {fins : List (Int × Int)} {inn out : List Int} {B : List Nat} {y v f : Nat} (h : Lst fins inn out B y v) (hy : y < fins.length) (hf : (fins[y]).1 = (f : Int))
    (hk : val B (idx (inn.length + 1) (cols out true) f inn.length (cols out true - 1)) < dear → (v : Int) ≤ val B (idx (inn.length + 1) (cols out true) f inn.length (cols out true - 1)) + (fins[y]).2) : Lst fins inn out B (y + 1) v := by
  refine ⟨h.top, fun y' h' hlt f' e hd => ?_, h.real⟩
  by_cases e' : y' = y
  · subst e'
    obtain rfl : f' = f := by omega
    exact hk hd
  · exact h.low y' h' (by omega) f' e hd
theorem Lst.took {fins : List (Int × Int)} {inn out : List Int} {B : List Nat} {y v f p W : Nat} (h : Lst fins inn out B y v) (hy : y < fins.length) (hf : (fins[y]).1 = (f : Int)) (hW : (fins[y]).2 = (W : Int))
    (hp : val B (idx (inn.length + 1) (cols out true) f inn.length (cols out true - 1)) = p) (hpd : p < dear) (hlt : p + W < v) : Lst fins inn out B (y + 1) (p + W) := by
  refine ⟨by have := h.top; omega, fun y' h' hlt' f' e hd => ?_, fun _ => ⟨y, hy, f, hf, by rw [hp]; exact hpd, by rw [hp, hW]; omega⟩⟩
  by_cases e' : y' = y
  · subst e'
    obtain rfl : f' = f := by omega
    rw [hp, hW]
    omega
  · have := h.low y' h' (by omega) f' e hd
    omega
theorem Lst.fin {S : Nat} {arcs : List (Int × Int × Int × Int × Int)} {fins : List (Int × Int)} {inn out : List Int} {B : List Nat} {v : Nat} (h : Lst fins inn out B fins.length v) (hr : Right ⟨(S : Int), arcs, fins⟩ S) (hN : B.length ≤ 100000000)
    (hF : ∀ x (h : x < fins.length), finB (S : Int) fins[x] = true) (hI : Inv ⟨(S : Int), arcs, fins⟩ inn out true S B) (hX : Fix arcs inn out B) : IsCost ⟨(S : Int), arcs, fins⟩ inn out true v := by
  have hc : 0 < cols out true := by show 0 < out.length + 1; omega
  have key : ∀ y (hy : y < fins.length), ∀ f c : Nat, (fins[y]).1 = (f : Int) → Reach ⟨(S : Int), arcs, fins⟩ inn out true f inn.length (cols out true - 1) c → (v : Int) ≤ c + (fins[y]).2 ∧ v < dear := by
    intro y hy f c e hR
    obtain ⟨t, ht⟩ := hR
    have h1 := reached hr hI hN hX t _ _ _ _ ht
    have h2 := least hr hI hX t _ _ _ _ ht
    have h3 := h.low y hy hy f e h1
    have h4 := hI.small _ h1
    have h5 := cnt_le B
    have h6 := hF y hy
    unfold finB at h6
    simp only [decide_eq_true_eq] at h6
    generalize val B (idx (inn.length + 1) (cols out true) f inn.length (cols out true - 1)) = p at *
    refine ⟨by omega, ?_⟩
    unfold dear
    omega
  by_cases hd : v < dear
  · refine .inr ⟨hd, ?_, fun y hy f c e hR => (key y hy f c e hR).1⟩
    obtain ⟨y, hy, f, e, hv, ev⟩ := h.real hd
    have hb := hF y hy
    unfold finB at hb
    simp only [decide_eq_true_eq] at hb
    exact ⟨y, hy, f, _, e, hI.real f inn.length (cols out true - 1) (by omega) (by omega) (by omega) hv, ev⟩
  · refine .inl ⟨Nat.le_antisymm h.top (Nat.not_lt.1 hd), fun y hy f c e hR => absurd (key y hy f c e hR).2 hd⟩
/-- what is not dear is not much -/
theorem Lst.bound {S : Nat} {arcs : List (Int × Int × Int × Int × Int)} {fins : List (Int × Int)} {inn out : List Int} {B : List Nat} {v : Nat} (h : Lst fins inn out B fins.length v) (hN : B.length ≤ 11532000)
    (hF : ∀ x (h : x < fins.length), finB (S : Int) fins[x] = true) (hI : Inv ⟨(S : Int), arcs, fins⟩ inn out true S B) : v = dear ∨ v ≤ 11532001000000 := by
  by_cases hd : v < dear
  · obtain ⟨y, hy, f, _, hv, ev⟩ := h.real hd
    have h4 := hI.small _ hv
    have h5 := cnt_le B
    have h6 := hF y hy
    unfold finB at h6
    simp only [decide_eq_true_eq] at h6
    generalize val B (idx (inn.length + 1) (cols out true) f inn.length (cols out true - 1)) = p at *
    exact .inr (by omega)
  · exact .inl (Nat.le_antisymm h.top (Nat.not_lt.1 hd))
end Go.Proofs.YtfjocafepigijaaDoor.Wk
