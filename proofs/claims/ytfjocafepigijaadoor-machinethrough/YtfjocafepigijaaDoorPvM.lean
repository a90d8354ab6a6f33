/- Couples of machines in plain words: the arcs that lead on from a pair; they are those of the machine of pairs; how many there are. No program text. -/
import Derived.Test.YtfjocafepigijaaDoorSkM
import Derived.Test.YtfjocafepigijaaDoorAtM
import Derived.Test.YtfjocafepigijaaDoorRc
import Derived.Test.YtfjocafepigijaaDoorCmM
import Derived.Test.YtfjocafepigijaaDoorTdM
import Derived.Test.YtfjocafepigijaaDoorTe
import Derived.Test.YtfjocafepigijaaDoorSyM
import Derived.Laws.ResultCell
import Derived.Deep.LoopGhost
import Derived.Deep.QuietTactic
import Derived.BigQuiet
import Derived.Deep.RegionHeld
import Derived.Deep.CutRange
import Derived.Maps.AppendAt
namespace Go.Proofs.YtfjocafepigijaaDoor.Cu
open Mv Wk Bw Th Am Ra

/-- of the second machine: the arcs of a state that read a symbol -/
def gr (R : Nat → List A5) (q : Nat) (s : Int) : List A5 := (R q).filter fun y => y.2.2.1 == s
def fA (SB k : Nat) (x : A5) : A5 := ((k : Int), x.2.1 * (SB : Int) + ((k % SB : Nat) : Int), x.2.2.1, 0, x.2.2.2.2)
def fX (SB k : Nat) (x y : A5) : A5 := ((k : Int), x.2.1 * (SB : Int) + y.2.1, x.2.2.1, y.2.2.2.1, x.2.2.2.2 + y.2.2.2.2)
def fB (SB k : Nat) (y : A5) : A5 := ((k : Int), ((k / SB : Nat) : Int) * (SB : Int) + y.2.1, 0, y.2.2.2.1, y.2.2.2.2)
def onX (R : Nat → List A5) (SB k : Nat) (x : A5) : List A5 := if x.2.2.2.1 = 0 then [fA SB k x] else (gr R (k % SB) x.2.2.2.1).map (fX SB k x)
/-- the arcs that lead on from a pair -/
def arcsP (F R : Nat → List A5) (SB k : Nat) : List A5 := (F (k / SB)).flatMap (onX R SB k) ++ (gr R (k % SB) 0).map (fB SB k)
theorem mem_rws {A : List A5} {x : A5} {p : Nat} : x ∈ rws (fun a => a) A p ↔ x ∈ A ∧ x.1 = (p : Int) := by
 unfold rws
 simp
theorem mem_tn {A : List A5} {x : A5} {p : Nat} (hx : x ∈ A) (h : x.2.1 = (p : Int)) : tn x ∈ rws tn A p := by
 unfold rws
 rw [List.mem_filter]
 exact ⟨List.mem_map_of_mem hx, by simp [tn, h]⟩
theorem mem_gr {R : Nat → List A5} {q : Nat} {s : Int} {y : A5} : y ∈ gr R q s ↔ y ∈ R q ∧ y.2.2.1 = s := by
 unfold gr
 simp
theorem pd {s t SB : Nat} (h : t < SB) : (s * SB + t) / SB = s ∧ (s * SB + t) % SB = t := by
 have h0 : 0 < SB := by omega
 constructor
 ·rw [Nat.mul_comm, Nat.mul_add_div h0, Nat.div_eq_of_lt h]; rfl
 ·rw [Nat.mul_comm, Nat.mul_add_mod, Nat.mod_eq_of_lt h]
/-- what is right about a list of arcs -/
def Okl (S : Nat) (A : List A5) : Prop := ∀ x ∈ A, ∃ f t : Nat, x.1 = (f : Int) ∧ x.2.1 = (t : Int) ∧ f < S ∧ t < S
theorem Okl.nn {S : Nat} {A : List A5} (h : Okl S A) {st : Int} {fs : List (Int × Int)} : NN ⟨st, A, fs⟩ := fun x hx => by
 obtain ⟨f, t, h1, h2, _⟩ := h x hx
 rw [h1, h2]
 omega
theorem pair_lt {SA SB p q : Nat} (hp : p < SA) (hq : q < SB) : p * SB + q < SA * SB := by
 have h1 : (p + 1) * SB ≤ SA * SB := Nat.mul_le_mul_right _ hp
 rw [Nat.succ_mul] at h1
 omega
/-- each arc that leads on is an arc of the machine of pairs -/
theorem on_sub {a b : M} {SA SB k : Nat} (hA : Okl SA a.arcs) (hB : Okl SB b.arcs) (hk : k < SA * SB) {e : A5} (he : e ∈ arcsP (rws (fun a => a) a.arcs) (rws (fun a => a) b.arcs) SB k) :
  e.1 = (k : Int) ∧ ∃ q : Nat, e.2.1 = (q : Int) ∧ q < SA * SB ∧ PE a b SA SB k q e.2.2.1 e.2.2.2.1 e.2.2.2.2 := by
 have h0 : 0 < SB := by
  rcases Nat.eq_zero_or_pos SB with h | h
  ·subst h; simp at hk
  ·exact h
 have hd : k / SB < SA := Nat.div_lt_of_lt_mul (by rw [Nat.mul_comm]; exact hk)
 have hm : k % SB < SB := Nat.mod_lt _ h0
 have hk2 : k = k / SB * SB + k % SB := by have := Nat.div_add_mod k SB; rw [Nat.mul_comm] at this; omega
 rcases List.mem_append.1 he with h | h
 ·obtain ⟨x, hx, h⟩ := List.mem_flatMap.1 h
  obtain ⟨hx, hx1⟩ := mem_rws.1 hx
  obtain ⟨f, t, e1, e2, hf, ht⟩ := hA x hx
  unfold onX at h
  by_cases hz : x.2.2.2.1 = 0
  ·rw [if_pos hz, List.mem_singleton] at h
   subst h
   refine ⟨rfl, t * SB + k % SB, by simp [fA, e2], pair_lt ht hm, .inl ⟨x, hx, hz, k / SB, t, k % SB, hx1, e2, hm, hk2, rfl, rfl, rfl, rfl⟩⟩
  ·rw [if_neg hz] at h
   obtain ⟨y, hy, rfl⟩ := List.mem_map.1 h
   obtain ⟨hy, hyi⟩ := mem_gr.1 hy
   obtain ⟨hy, hy1⟩ := mem_rws.1 hy
   obtain ⟨f', t', e1', e2', hf', ht'⟩ := hB y hy
   refine ⟨rfl, t * SB + t', by simp [fX, e2, e2'], pair_lt ht ht', .inr (.inl ⟨x, hx, y, hy, hz, hyi, k / SB, t, k % SB, t', hx1, e2, hy1, e2', hk2, rfl, rfl, rfl, rfl⟩)⟩
 ·obtain ⟨y, hy, rfl⟩ := List.mem_map.1 h
  obtain ⟨hy, hyi⟩ := mem_gr.1 hy
  obtain ⟨hy, hy1⟩ := mem_rws.1 hy
  obtain ⟨f', t', e1', e2', hf', ht'⟩ := hB y hy
  refine ⟨rfl, k / SB * SB + t', by simp [fB, e2'], pair_lt hd ht', .inr (.inr ⟨y, hy, hyi, k / SB, k % SB, t', hy1, e2', hd, hk2, rfl, rfl, rfl, rfl⟩)⟩
/-- each arc of the machine of pairs leads on -/
theorem on_sup {a b : M} {SA SB p q : Nat} {i o w : Int} (hB : Okl SB b.arcs) (h : PE a b SA SB p q i o w) : ((p : Int), (q : Int), i, o, w) ∈ arcsP (rws (fun a => a) a.arcs) (rws (fun a => a) b.arcs) SB p := by
 unfold arcsP
 rcases h with ⟨x, hx, h0, s, s', t, e1, e2, ht, rfl, rfl, rfl, rfl, rfl⟩ | ⟨x, hx, y, hy, h0, h1, s, s', t, t', e1, e2, e3, e4, rfl, rfl, rfl, rfl, rfl⟩ | ⟨y, hy, h0, s, t, t', e1, e2, hs, rfl, rfl, rfl, rfl, rfl⟩
 ·obtain ⟨d1, d2⟩ := pd (s := s) ht
  refine List.mem_append.2 (.inl (List.mem_flatMap.2 ⟨x, ?_, ?_⟩))
  ·rw [d1]; exact mem_rws.2 ⟨hx, e1⟩
  ·unfold onX
   rw [if_pos h0, List.mem_singleton]
   unfold fA
   rw [d2, e2]
   simp
 ·have ht : t < SB := by obtain ⟨f, t0, g1, g2, g3, g4⟩ := hB y hy; omega
  obtain ⟨d1, d2⟩ := pd (s := s) ht
  refine List.mem_append.2 (.inl (List.mem_flatMap.2 ⟨x, ?_, ?_⟩))
  ·rw [d1]; exact mem_rws.2 ⟨hx, e1⟩
  ·unfold onX
   rw [if_neg h0, d2]
   refine List.mem_map.2 ⟨y, mem_gr.2 ⟨mem_rws.2 ⟨hy, e3⟩, h1⟩, ?_⟩
   unfold fX
   rw [e2, e4]
   simp
 ·have ht : t < SB := by obtain ⟨f, t0, g1, g2, g3, g4⟩ := hB y hy; omega
  obtain ⟨d1, d2⟩ := pd (s := s) ht
  refine List.mem_append.2 (.inr ?_)
  rw [d2]
  refine List.mem_map.2 ⟨y, mem_gr.2 ⟨mem_rws.2 ⟨hy, e1⟩, h0⟩, ?_⟩
  unfold fB
  rw [d1, e2]
  simp
/-- each arc of the machine of pairs leads back, in the couple that is turned round -/
theorem back_sup {a b : M} {SA SB p q : Nat} {i o w : Int} (hB : Okl SB b.arcs) (h : PE a b SA SB p q i o w) : ∃ e ∈ arcsP (rws tn a.arcs) (rws tn b.arcs) SB q, e.2.1 = (p : Int) := by
 unfold arcsP
 rcases h with ⟨x, hx, h0, s, s', t, e1, e2, ht, rfl, rfl, rfl, rfl, rfl⟩ | ⟨x, hx, y, hy, h0, h1, s, s', t, t', e1, e2, e3, e4, rfl, rfl, rfl, rfl, rfl⟩ | ⟨y, hy, h0, s, t, t', e1, e2, hs, rfl, rfl, rfl, rfl, rfl⟩
 ·obtain ⟨d1, d2⟩ := pd (s := s') ht
  refine ⟨fA SB (s' * SB + t) (tn x), List.mem_append.2 (.inl (List.mem_flatMap.2 ⟨tn x, ?_, ?_⟩)), ?_⟩
  ·rw [d1]; exact mem_tn hx e2
  ·unfold onX
   rw [if_pos (show (tn x).2.2.2.1 = 0 from h0), List.mem_singleton]
  ·unfold fA tn
   rw [d2]
   simp [e1]
 ·have ht : t' < SB := by obtain ⟨f, t0, g1, g2, g3, g4⟩ := hB y hy; omega
  obtain ⟨d1, d2⟩ := pd (s := s') ht
  refine ⟨fX SB (s' * SB + t') (tn x) (tn y), List.mem_append.2 (.inl (List.mem_flatMap.2 ⟨tn x, ?_, ?_⟩)), ?_⟩
  ·rw [d1]; exact mem_tn hx e2
  ·unfold onX
   rw [if_neg (show ¬ (tn x).2.2.2.1 = 0 from h0), d2]
   exact List.mem_map.2 ⟨tn y, mem_gr.2 ⟨mem_tn hy e4, h1⟩, rfl⟩
  ·unfold fX tn
   simp [e1, e3]
 ·have ht : t' < SB := by obtain ⟨f, t0, g1, g2, g3, g4⟩ := hB y hy; omega
  obtain ⟨d1, d2⟩ := pd (s := s) ht
  refine ⟨fB SB (s * SB + t') (tn y), List.mem_append.2 (.inr ?_), ?_⟩
  ·rw [d2]
   exact List.mem_map.2 ⟨tn y, mem_gr.2 ⟨mem_tn hy e2, h0⟩, rfl⟩
  ·unfold fB tn
   rw [d1]
   simp [e1]
/-- all that lead to an end are among what is closed backwards -/
theorem leads_all {m : M} {L : Nat → Prop} (h0 : ∀ f ∈ m.fins, ∀ p : Nat, f.1 = (p : Int) → L p) (h1 : ∀ p q, Ed m p q → L q → L p) : ∀ p, Leads m p → L p := by
 rintro p ⟨n, h⟩
 induction n generalizing p with
 | zero => obtain ⟨f, hf, e⟩ := h; exact h0 f hf p e
 | succ n ih => obtain ⟨q, he, h⟩ := h; exact h1 p q he (ih q h)
/-- more arcs, or none that cost more -/
theorem PE.sub {a b a' b' : M} {SA SB p q : Nat} {i o w : Int} (h : PE a b SA SB p q i o w) (hA : ∀ x ∈ a.arcs, x ∈ a'.arcs) (hB : ∀ x ∈ b.arcs, x ∈ b'.arcs) : PE a' b' SA SB p q i o w := by
 rcases h with ⟨x, hx, h⟩ | ⟨x, hx, y, hy, h⟩ | ⟨y, hy, h⟩
 ·exact .inl ⟨x, hA x hx, h⟩
 ·exact .inr (.inl ⟨x, hA x hx, y, hB y hy, h⟩)
 ·exact .inr (.inr ⟨y, hB y hy, h⟩)
theorem PE.low {a b a' b' : M} {SA SB p q : Nat} {i o w : Int} (h : PE a b SA SB p q i o w) (hA : ∀ x ∈ a.arcs, ∃ c ∈ a'.arcs, nam c = nam x ∧ c.2.2.2.2 ≤ x.2.2.2.2) (hB : ∀ x ∈ b.arcs, ∃ c ∈ b'.arcs, nam c = nam x ∧ c.2.2.2.2 ≤ x.2.2.2.2) : ∃ w', w' ≤ w ∧ PE a' b' SA SB p q i o w' := by
 rcases h with ⟨x, hx, h0, s, s', t, e1, e2, ht, rfl, rfl, rfl, rfl, rfl⟩ | ⟨x, hx, y, hy, h0, h1, s, s', t, t', e1, e2, e3, e4, rfl, rfl, rfl, rfl, rfl⟩ | ⟨y, hy, h0, s, t, t', e1, e2, hs, rfl, rfl, rfl, rfl, rfl⟩
 ·obtain ⟨c, hc, hn, hw⟩ := hA x hx
  simp only [nam, Prod.mk.injEq] at hn
  obtain ⟨n1, n2, n3, n4⟩ := hn
  exact ⟨_, hw, .inl ⟨c, hc, by rw [n4]; exact h0, s, s', t, by rw [n1]; exact e1, by rw [n2]; exact e2, ht, rfl, rfl, n3.symm, rfl, rfl⟩⟩
 ·obtain ⟨c, hc, hn, hw⟩ := hA x hx
  obtain ⟨d, hd, hn', hw'⟩ := hB y hy
  simp only [nam, Prod.mk.injEq] at hn hn'
  obtain ⟨n1, n2, n3, n4⟩ := hn
  obtain ⟨m1, m2, m3, m4⟩ := hn'
  exact ⟨c.2.2.2.2 + d.2.2.2.2, by omega, .inr (.inl ⟨c, hc, d, hd, by rw [n4]; exact h0, by rw [m3, n4]; exact h1, s, s', t, t', by rw [n1]; exact e1, by rw [n2]; exact e2, by rw [m1]; exact e3, by rw [m2]; exact e4, rfl, rfl, n3.symm, m4.symm, rfl⟩)⟩
 ·obtain ⟨c, hc, hn, hw⟩ := hB y hy
  simp only [nam, Prod.mk.injEq] at hn
  obtain ⟨n1, n2, n3, n4⟩ := hn
  exact ⟨_, hw, .inr (.inr ⟨c, hc, by rw [n3]; exact h0, s, t, t', by rw [n1]; exact e1, by rw [n2]; exact e2, hs, rfl, rfl, rfl, n4.symm, rfl⟩)⟩

/-- a sum over numbers -/
def sm (n : Nat) (h : Nat → Nat) : Nat := ((List.range n).map h).sum
theorem sm_up (n : Nat) (h : Nat → Nat) : sm (n + 1) h = sm n h + h n := by unfold sm; rw [List.range_succ]; simp
theorem sm_add (n : Nat) (h g : Nat → Nat) : sm n (fun k => h k + g k) = sm n h + sm n g := by
 induction n with
 | zero => rfl
 | succ n ih => rw [sm_up, sm_up, sm_up, ih]; omega
theorem sm_two (m r : Nat) (h : Nat → Nat) : sm (m + r) h = sm m h + sm r (fun i => h (m + i)) := by
 induction r with
 | zero => simp [sm]
 | succ r ih => rw [← Nat.add_assoc, sm_up, sm_up, ih]; omega
theorem sm_le {n : Nat} {h g : Nat → Nat} (hl : ∀ k, k < n → h k ≤ g k) : sm n h ≤ sm n g := by
 induction n with
 | zero => exact Nat.le_refl _
 | succ n ih => rw [sm_up, sm_up]; have := ih (fun k hk => hl k (by omega)); have := hl n (by omega); omega
theorem sm_eq {n : Nat} {h g : Nat → Nat} (hl : ∀ k, k < n → h k = g k) : sm n h = sm n g := Nat.le_antisymm (sm_le fun k hk => Nat.le_of_eq (hl k hk)) (sm_le fun k hk => Nat.le_of_eq (hl k hk).symm)
theorem sm_zero {n : Nat} {h : Nat → Nat} (hl : ∀ k, k < n → h k = 0) : sm n h = 0 := by
 induction n with
 | zero => rfl
 | succ n ih => rw [sm_up, ih (fun k hk => hl k (by omega)), hl n (by omega)]
theorem sm_one (n : Nat) : sm n (fun _ => 1) = n := by
 induction n with
 | zero => rfl
 | succ n ih => rw [sm_up, ih]
/-- all pairs with one first state -/
theorem sm_row (SA SB : Nat) (f : Int) (c : Nat → Nat) : sm (SA * SB) (fun k => if f = ((k / SB : Nat) : Int) then c (k % SB) else 0) ≤ if f < (SA : Int) then sm SB c else 0 := by
 induction SA with
 | zero => simp [sm]
 | succ SA ih =>
  rw [Nat.succ_mul, sm_two]
  have e : sm SB (fun i => if f = (((SA * SB + i) / SB : Nat) : Int) then c ((SA * SB + i) % SB) else 0) = if f = (SA : Int) then sm SB c else 0 := by
   have e1 : ∀ i, i < SB → (if f = (((SA * SB + i) / SB : Nat) : Int) then c ((SA * SB + i) % SB) else 0) = if f = (SA : Int) then c i else 0 := fun i hi => by rw [(pd hi).1, (pd hi).2]
   rw [sm_eq e1]
   by_cases hf : f = (SA : Int)
   ·simp only [hf, if_true]
   ·simp only [hf, if_false]
    exact sm_zero (fun _ _ => rfl)
  rw [e]
  by_cases hf : f = (SA : Int)
  ·subst hf
   rw [if_neg (Int.lt_irrefl _)] at ih
   rw [if_pos rfl, if_pos (by omega)]
   omega
  ·rw [if_neg hf]
   by_cases hl : f < (SA : Int)
   ·rw [if_pos hl] at ih
    rw [if_pos (by omega)]
    omega
   ·rw [if_neg hl] at ih
    omega
theorem sm_col (SA SB : Nat) (c : Nat → Nat) : sm (SA * SB) (fun k => c (k % SB)) = SA * sm SB c := by
 induction SA with
 | zero => simp [sm]
 | succ SA ih =>
  rw [Nat.succ_mul, sm_two, ih, Nat.succ_mul]
  congr 1
  exact sm_eq fun i hi => by rw [(pd hi).2]
theorem sm_gr (SB : Nat) (B : List A5) (s : Int) : sm SB (fun q => (gr (rws (fun a => a) B) q s).length) ≤ (B.filter fun y => y.2.2.1 == s).length := by
 induction B with
 | nil => exact Nat.le_of_eq (sm_zero fun _ _ => rfl)
 | cons y B ih =>
  have e : ∀ q, (gr (rws (fun a => a) (y :: B)) q s).length = (if y.1 = (q : Int) then (if y.2.2.1 = s then 1 else 0) else 0) + (gr (rws (fun a => a) B) q s).length := by
   intro q
   unfold gr rws
   by_cases h1 : y.1 = (q : Int)
   ·by_cases h2 : y.2.2.1 = s
    ·simp [h1, h2]; omega
    ·simp [h1, h2]
   ·simp [h1]
  have e2 : sm SB (fun q => if y.1 = (q : Int) then (if y.2.2.1 = s then 1 else 0) else 0) ≤ if y.2.2.1 = s then 1 else 0 := by
   have h := sm_row SB 1 y.1 (fun _ => if y.2.2.1 = s then 1 else 0)
   simp only [Nat.mul_one, Nat.div_one] at h
   refine Nat.le_trans h ?_
   split
   ·unfold sm; simp
   ·exact Nat.zero_le _
  rw [sm_eq (fun q _ => e q), sm_add, List.filter_cons]
  by_cases h2 : y.2.2.1 = s
  ·simp only [h2, beq_self_eq_true, if_true, List.length_cons] at e2 ⊢
   omega
  ·have hb : ¬ (y.2.2.1 == s) = true := by simp [h2]
   rw [if_neg hb]
   simp only [h2, if_false] at e2 ⊢
   omega
theorem sm_first (SA SB : Nat) (A B : List A5) : sm (SA * SB) (fun k => ((rws (fun a => a) A (k / SB)).flatMap (onX (rws (fun a => a) B) SB k)).length) ≤ (A.map fun x => if x.2.2.2.1 = 0 then SB else (B.filter fun y => y.2.2.1 == x.2.2.2.1).length).sum := by
 induction A with
 | nil => exact Nat.le_of_eq (sm_zero fun _ _ => rfl)
 | cons x A ih =>
  have e : ∀ k, ((rws (fun a => a) (x :: A) (k / SB)).flatMap (onX (rws (fun a => a) B) SB k)).length = (if x.1 = ((k / SB : Nat) : Int) then (fun q => if x.2.2.2.1 = 0 then 1 else (gr (rws (fun a => a) B) q x.2.2.2.1).length) (k % SB) else 0) + ((rws (fun a => a) A (k / SB)).flatMap (onX (rws (fun a => a) B) SB k)).length := by
   intro k
   have e1 : rws (fun a => a) (x :: A) (k / SB) = (if x.1 = ((k / SB : Nat) : Int) then [x] else []) ++ rws (fun a => a) A (k / SB) := by
    unfold rws
    by_cases h1 : x.1 = ((k / SB : Nat) : Int)
    ·simp [h1]
    ·rw [List.map_cons, List.filter_cons, if_neg (by simpa using h1), if_neg h1]; rfl
   rw [e1, List.flatMap_append, List.length_append]
   congr 1
   by_cases h1 : x.1 = ((k / SB : Nat) : Int)
   ·rw [if_pos h1, if_pos h1]
    unfold onX
    by_cases h2 : x.2.2.2.1 = 0
    ·simp [h2]
    ·simp [h2]
   ·rw [if_neg h1, if_neg h1]; rfl
  rw [sm_eq (fun k _ => e k), sm_add, List.map_cons, List.sum_cons]
  refine Nat.add_le_add ?_ ih
  refine Nat.le_trans (sm_row SA SB x.1 (fun q => if x.2.2.2.1 = 0 then 1 else (gr (rws (fun a => a) B) q x.2.2.2.1).length)) ?_
  by_cases hl : x.1 < (SA : Int)
  ·rw [if_pos hl]
   by_cases h2 : x.2.2.2.1 = 0
   ·rw [if_pos h2, sm_eq (fun q _ => if_pos h2), sm_one]
    exact Nat.le_refl _
   ·rw [if_neg h2, sm_eq (fun q _ => if_neg h2)]
    exact sm_gr SB B x.2.2.2.1
  ·rw [if_neg hl]
   exact Nat.zero_le _
theorem fil_two (B : List A5) (s : Int) (hs : s ≠ 0) : (B.filter fun y => y.2.2.1 == s).length + (B.filter fun y => y.2.2.1 == 0).length ≤ B.length := by
 induction B with
 | nil => exact Nat.le_refl _
 | cons y B ih =>
  rw [List.filter_cons, List.filter_cons]
  by_cases h1 : y.2.2.1 = s
  ·have : ¬ s = 0 := hs
   simp only [h1, beq_self_eq_true, if_true, List.length_cons, beq_iff_eq, this, if_false]
   omega
  ·simp only [beq_iff_eq, h1, if_false]
   split <;> simp only [List.length_cons] <;> omega
/-- there are never too many -/
theorem few_arcs (SA SB : Nat) (A B : List A5) (hSA : SA ≤ 40) (hSB : SB ≤ 40) (hA : A.length ≤ 120) (hB : B.length ≤ 120) : sm (SA * SB) (fun k => (arcsP (rws (fun a => a) A) (rws (fun a => a) B) SB k).length) ≤ 19200 := by
 have e : ∀ k, (arcsP (rws (fun a => a) A) (rws (fun a => a) B) SB k).length = ((rws (fun a => a) A (k / SB)).flatMap (onX (rws (fun a => a) B) SB k)).length + (fun q => (gr (rws (fun a => a) B) q 0).length) (k % SB) := fun k => by
  unfold arcsP
  rw [List.length_append, List.length_map]
 rw [sm_eq (fun k _ => e k), sm_add, sm_col SA SB (fun q => (gr (rws (fun a => a) B) q 0).length)]
 have h1 := sm_first SA SB A B
 have h2 := sm_gr SB B 0
 generalize hz : (B.filter fun y => y.2.2.1 == (0 : Int)).length = z at h2
 have hzl : z ≤ 120 := by rw [← hz]; exact Nat.le_trans (List.length_filter_le _ _) hB
 have h3 : (A.map fun x => if x.2.2.2.1 = 0 then SB else (B.filter fun y => y.2.2.1 == x.2.2.2.1).length).sum ≤ A.length * (160 - z) := by
  clear h1 hA
  induction A with
  | nil => simp
  | cons x A ih =>
   rw [List.map_cons, List.sum_cons, List.length_cons, Nat.succ_mul]
   have : (if x.2.2.2.1 = 0 then SB else (B.filter fun y => y.2.2.1 == x.2.2.2.1).length) ≤ 160 - z := by
    split
    ·omega
    ·rename_i hs
     have := fil_two B _ hs
     rw [hz] at this
     omega
   have := ih (by
    intro k
    unfold arcsP
    rw [List.length_append, List.length_map])
   omega
 have h4 : A.length * (160 - z) ≤ 120 * (160 - z) := Nat.mul_le_mul_right _ hA
 have h5 : SA * sm SB (fun q => (gr (rws (fun a => a) B) q 0).length) ≤ 40 * z := Nat.mul_le_mul hSA h2
 omega
theorem flat_len {P : List Nat} {n : Nat} (hP : P.Sublist (List.range n)) (f : Nat → List A5) : (P.flatMap f).length ≤ sm n (fun k => (f k).length) := by
 have e : ∀ l : List Nat, (l.flatMap f).length = (l.map fun k => (f k).length).sum := fun l => by induction l with
  | nil => rfl
  | cons a l ih => rw [List.flatMap_cons, List.length_append, ih]; rfl
 have key : ∀ {l l' : List Nat}, l.Sublist l' → (l.flatMap f).length ≤ (l'.flatMap f).length := fun {l l'} h => by
  induction h with
  | slnil => exact Nat.le_refl _
  | cons a _ ih => rw [List.flatMap_cons, List.length_append]; omega
  | cons_cons a _ ih => rw [List.flatMap_cons, List.flatMap_cons, List.length_append, List.length_append]; omega
 refine Nat.le_trans (key hP) ?_
 rw [e]
 exact Nat.le_refl _
end Go.Proofs.YtfjocafepigijaaDoor.Cu
/- endCosts: what it costs to end in each state. Conditions: few states; the ends are right. -/
namespace Go.Proofs.YtfjocafepigijaaDoor.Ec
open Go.RowKit Mv Wk Po Wd Se St Wg Nw
open CR (nc)

/-- the costs to end; the last word for a state stands -/
def endP (S : Nat) (F : List (Int × Int)) : List Nat := F.foldl (fun R f => R.set f.1.toNat f.2.toNat) (List.replicate S far)
theorem endP_up (S : Nat) (F : List (Int × Int)) (f : Int × Int) : endP S (F ++ [f]) = (endP S F).set f.1.toNat f.2.toNat := by unfold endP; rw [List.foldl_append]; rfl
structure Er (w wr : World) (C S : Nat) (R : List Nat) : Prop where
 row : wr.ownsRow (w.heap.size + 1) 3 1 (.slice (some ⟨C, 0, none⟩) S S) S (nc R)
 len : R.length = S
 bel : Below w.heap.size w wr
theorem Er.alloc {w wr : World} {C S : Nat} {R : List Nat} (h : Er w wr C S R) (o : Obj) : Er w (wr.alloc o) C S R := ⟨h.row.alloc o, h.len, h.bel.alloc h.bel.size o⟩
theorem Er.put {w wr : World} {C S : Nat} {R : List Nat} (h : Er w wr C S R) (q v : Nat) : Er w (wr.setCell ⟨C, q, none⟩ (.int .i64 (v : Int))) C S (R.set q v) := by
 have h1 := (h.row.stored q (.int .i64 (v : Int))).1
 rw [nc_set] at h1
 have hlt := (h.row.lt C rfl).1
 exact ⟨h1, by rw [List.length_set]; exact h.len, h.bel.setCell (p := ⟨C, q, none⟩) (by show w.heap.size ≤ C; omega) _⟩

set_option maxHeartbeats 1000000 in
set_option maxRecDepth 100000 in
theorem ends_any (S : Nat) (va vf : Value) (fins : List (Int × Int)) (w : World) (hrow : Mv.Row w vf 2 fins.length (fcs fins)) (hfin : ∀ x (h : x < fins.length), finB (S : Int) fins[x] = true) (h0 : 0 < S) (hS : S ≤ 40) :
  Calls Tryd.prog 73 #[.agg #[.int .i64 S, va, vf]] w fun e w' => ∃ C, e = .returned (.slice (some ⟨C, 0, none⟩) S S) ∧ Er w w' C S (endP S fins) := by
 obtain ⟨hxl, af, cf, rfl, _, hF⟩ := hrow
 have HFt : Hid (∀ x (h : x < fins.length), finB (S : Int) fins[x] = true) := hfin
 have HFx : Hid (fins.length = 0 ∨ ∃ b off, af = some ⟨b, off, none⟩ ∧ b < w.heap.size ∧ ∀ j u, (fcs fins)[j]? = some u → w.cell? ⟨b, off + j, none⟩ = some u) := hF
 clear hfin hF hxl
 have hb0 : Below w.heap.size w (w.alloc (.cells #[.int .i64 S, va, .slice af fins.length cf] 25)) := (Below.refl _ w).alloc (Nat.le_refl _) _
 have x0 := heap_alloc_new w (.cells #[.int .i64 S, va, .slice af fins.length cf] 25)
 have KN := nowhere_any S (w.alloc (.cells #[.int .i64 S, va, .slice af fins.length cf] 25)) h0 hS
 have hs1 : (w.alloc (.cells #[.int .i64 S, va, .slice af fins.length cf] 25)).heap.size = w.heap.size + 1 := by simp
 rw [hs1] at KN
 go_enter Tryd.func73, Tryd.ntmps73
 go_upto_region 2 with (go_at_call 87; (with_reducible refine KN.mono ?_); rintro e w1 ⟨rfl, ho1, hb1⟩; have x1 := (hb1.block w.heap.size (by omega)).trans x0; have hE1 : Er w w1 (w.heap.size + 1) S (List.replicate S far) := ⟨ho1, by simp, hb0.trans (hb1.mono (by omega))⟩; clear ho1 hb1 KN)
 have u2 := cell_of_row _ _ 2 _ _ _ x1
 clear hs1 hb0 x0
 generalize w.heap.size + 1 = C at *
 go_wp2
 go_loopw [12] (fun a wr => ∃ X : Nat, a = .int .i64 X ∧ X ≤ fins.length ∧ Er w wr C S (endP S (fins.take X))) (fun a _ => fins.length - (intOf a).toNat)
 case atStart => exact ⟨0, rfl, Nat.zero_le _, hE1⟩
 case round =>
  clear hE1 u2 x1
  obtain ⟨X, rfl, hX, hN⟩ := hrel
  have HN : Hid (Er w wr C S (endP S (fins.take X))) := hN
  by_cases hlt : X < fins.length
  ·obtain ⟨b, off, rfl, hbl, hcs⟩ : ∃ b off, af = some ⟨b, off, none⟩ ∧ b < w.heap.size ∧ ∀ j u, (fcs fins)[j]? = some u → wr.cell? ⟨b, off + j, none⟩ = some u := by
    obtain ⟨b, off, e, hb, hc⟩ := HFx.out.resolve_left (by omega)
    exact ⟨b, off, e, hb, fun j u hu => (hN.bel.cell hb).trans (hc j u hu)⟩
   have u := fcs_at fins X hlt
   have hab := HFt.out X hlt
   obtain ⟨f, x, ea⟩ : ∃ f x, fins[X] = (f, x) := ⟨_, _, rfl⟩
   have htk : endP S (fins.take (X + 1)) = (endP S (fins.take X)).set f.toNat x.toNat := by
    have := endP_up S (fins.take X) (f, x)
    rw [← ea, List.take_append_getElem hlt, ea] at this
    exact this
   have HTK : Hid (endP S (fins.take (X + 1)) = (endP S (fins.take X)).set f.toNat x.toNat) := htk
   rw [ea] at u hab
   unfold finB at hab
   simp only [decide_eq_true_eq] at hab
   obtain ⟨g0, g1, g2, g3⟩ := hab
   obtain ⟨f, rfl⟩ : ∃ n : Nat, f = (n : Int) := ⟨f.toNat, by omega⟩
   obtain ⟨x, rfl⟩ : ∃ n : Nat, x = (n : Int) := ⟨x.toNat, by omega⟩
   have hf : f < S := Int.ofNat_lt.1 g1
   have p0 := hcs _ _ u.1
   have p1 := hcs _ _ u.2
   rw [← Nat.add_assoc] at p1
   clear u hcs ea hN htk g0 g2 g3
   go_upto_region 5 with fail
   have hN2 := HN.out.alloc (.cells #[.int .i64 (f : Int), .int .i64 (x : Int)] 66)
   have HN2 : Hid _ := hN2
   have xb := heap_alloc_new wr (.cells #[.int .i64 (f : Int), .int .i64 (x : Int)] 66)
   clear p0 p1
   generalize hV : wr.alloc (.cells #[.int .i64 (f : Int), .int .i64 (x : Int)] 66) = V at *
   clear hV
   have q0 := cell_of_row _ _ 0 _ _ _ xb
   have q1 := cell_of_row _ _ 1 _ _ _ xb
   obtain ⟨z2, c2⟩ : ∃ z, V.cell? ⟨C, f, none⟩ = some z := ⟨_, by rw [hN2.row.cellAt f (by omega)]; exact nc_at (by rw [hN2.len]; exact hf)⟩
   have f2 := hN2.row.frozenAt f
   clear hN2
   go_wp2
   go_roundw
   case rel => exact ⟨X + 1, by go_num, hlt, by rw [HTK.out]; exact HN2.out.put f x⟩
   case measure => simp [intOf]; omega
  ·obtain rfl : X = fins.length := by omega
   have HN3 : Hid (Er w wr C S (endP S fins)) := by have := hN; rw [List.take_length] at this; exact this
   clear hN
   go_wp2
   go_ret
   exact ⟨_, rfl, HN3.out⟩
end Go.Proofs.YtfjocafepigijaaDoor.Ec
/- newCouple: how a couple lies, while it is made and when it is done. No conditions. -/
namespace Go.Proofs.YtfjocafepigijaaDoor.Cu
open Go.RowKit Mv Qp Sk Po Ps Wd Se Mp St Cm Nm Nx Ra Am
open CR (nc)

/-- rows of arcs, to be read -/
def Rws (w : World) (sb S : Nat) (R : Nat → List Arc) : Prop := sb < w.heap.size ∧ ∀ q, q < S → ∃ a c, w.cell? ⟨sb, q, none⟩ = some (.slice a (R q).length c) ∧ Mv.Row w (.slice a (R q).length c) 5 (R q).length (acs (R q))
theorem Rws.below {w w' : World} {sb S : Nat} {R : Nat → List Arc} (h : Rws w sb S R) (hb : Below w.heap.size w w') : Rws w' sb S R :=
 ⟨Nat.lt_of_lt_of_le h.1 hb.size, fun q hq => by
  obtain ⟨a, c, h1, h2⟩ := h.2 q hq
  exact ⟨a, c, (hb.cell (p := ⟨sb, q, none⟩) h.1).trans h1, h2.below hb⟩⟩
theorem row_of_own {w : World} {base n : Nat} {v : Value} {L : List Arc} (h : w.ownsRow base 64 5 v n (acs L)) (hn : n = L.length) (hl : L.length ≤ 20000) : ∃ a c, v = .slice a L.length c ∧ Mv.Row w (.slice a L.length c) 5 L.length (acs L) := by
 subst hn
 obtain ⟨a, c, rfl⟩ := Am.own_slice h
 refine ⟨a, c, rfl, acs_length L, a, c, rfl, by omega, ?_⟩
 rcases Nat.eq_zero_or_pos L.length with h0 | h0
 ·exact .inl h0
 ·obtain ⟨g, cap, e, hg1, hg2⟩ := own_some h h0
  cases e
  refine .inr ⟨g, 0, rfl, hg2, fun j u hu => ?_⟩
  have hj : j < (acs L).length := by
   rcases Nat.lt_or_ge j (acs L).length with hj | hj
   ·exact hj
   ·rw [List.getElem?_eq_none hj] at hu; cases hu
  rw [Nat.zero_add, h.cellAt j (by rw [acs_length] at hj; omega)]
  exact hu
theorem Rws.of_rt {w0 w : World} {sb S : Nat} {R : Nat → List Arc} {V : Nat → Value} {vs : List Value} (h : Rt w0 w sb S R V vs) (hl : ∀ q, (R q).length ≤ 20000) : Rws w sb S R :=
 ⟨(h.heads.lt sb rfl).2, fun q hq => by
  obtain ⟨a, c, e, hr⟩ := row_of_own (h.rows q) rfl (hl q)
  exact ⟨a, c, by rw [h.cell hq, e], hr⟩⟩

/-- what the numbers of groups mean -/
structure Sem (SB m : Nat) (gs : List Nat) (G R : Nat → List Arc) : Prop where
 pos : 0 < m
 zero : G 0 = []
 out : ∀ k, m ≤ k → G k = []
 lt : ∀ i, i < SB * 61 → gs.getD i 0 < m
 inj : ∀ i j, i < SB * 61 → j < SB * 61 → gs.getD i 0 = gs.getD j 0 → gs.getD i 0 ≠ 0 → i = j
 val : ∀ q s : Nat, q < SB → s ≤ 60 → G (gs.getD (q * 61 + s) 0) = gr R q (s : Int)
theorem getD_set (gs : List Nat) (i j x : Nat) (hi : i < gs.length) : (gs.set i x).getD j 0 = if j = i then x else gs.getD j 0 := by
 simp only [List.getD_eq_getElem?_getD, List.getElem?_set]
 by_cases e : i = j
 ·subst e; simp [hi]
 ·rw [if_neg e, if_neg (fun h => e h.symm)]
theorem at_lt {SB q s : Nat} (hq : q < SB) (hs : s ≤ 60) : q * 61 + s < SB * 61 := by omega
theorem Sem.begun (SB : Nat) : Sem SB 1 (List.replicate (SB * 61) 0) (fun _ => []) (fun _ => []) := by
 have e : ∀ i, (List.replicate (SB * 61) 0).getD i 0 = 0 := fun i => by
  rw [List.getD_eq_getElem?_getD, List.getElem?_replicate]
  split <;> rfl
 exact ⟨by decide, rfl, fun _ _ => rfl, fun i _ => by rw [e]; decide, fun i j _ _ _ h => absurd (e i) h, fun _ _ _ _ => rfl⟩
theorem Sem.fresh {SB m : Nat} {gs : List Nat} {G R : Nat → List Arc} (h : Sem SB m gs G R) {i : Nat} (hi : i < SB * 61) (hl : gs.length = SB * 61) (h0 : gs.getD i 0 = 0) : Sem SB (m + 1) (gs.set i m) G R := by
 have e := fun j => getD_set gs i j m (by omega)
 refine ⟨Nat.succ_pos _, h.zero, fun k hk => h.out k (by omega), fun j hj => ?_, fun j k hj hk => ?_, fun q s hq hs => ?_⟩
 ·rw [e]; split
  ·omega
  ·have := h.lt j hj; omega
 ·rw [e, e]
  by_cases h1 : j = i
  ·by_cases h2 : k = i
   ·intro _ _; omega
   ·rw [if_pos h1, if_neg h2]
    intro h3 _
    have := h.lt k hk
    omega
  ·by_cases h2 : k = i
   ·rw [if_neg h1, if_pos h2]
    intro h3 _
    have := h.lt j hj
    omega
   ·rw [if_neg h1, if_neg h2]
    exact h.inj j k hj hk
 ·rw [e]
  have hv := h.val q s hq hs
  split
  ·rename_i h1
   rw [h1, h0, h.zero] at hv
   rw [← hv]
   exact h.out m (Nat.le_refl _)
  ·exact hv
theorem gr_adn {R : Nat → List Arc} {q0 q s : Nat} {a : Arc} : gr (adn R q0 a) q (s : Int) = if q = q0 ∧ a.2.2.1 = (s : Int) then gr R q (s : Int) ++ [a] else gr R q (s : Int) := by
 unfold gr adn
 by_cases h1 : q = q0
 ·rw [if_pos h1, List.filter_append]
  by_cases h2 : a.2.2.1 = (s : Int)
  ·rw [if_pos ⟨h1, h2⟩]; simp [h2]
  ·rw [if_neg (fun h => h2 h.2)]; simp [h2]
 ·rw [if_neg h1, if_neg (fun h => h1 h.1)]
theorem Sem.more {SB m : Nat} {gs : List Nat} {G R : Nat → List Arc} (h : Sem SB m gs G R) {q s g : Nat} {a : Arc} (hq : q < SB) (hs : s ≤ 60) (ha : a.2.2.1 = (s : Int)) (hg : gs.getD (q * 61 + s) 0 = g) (h0 : g ≠ 0) : Sem SB m gs (adn G g a) (adn R q a) := by
 have hgm : g < m := by rw [← hg]; exact h.lt _ (at_lt hq hs)
 refine ⟨h.pos, ?_, fun k hk => ?_, h.lt, h.inj, fun q' s' hq' hs' => ?_⟩
 ·unfold adn; rw [if_neg (fun e => h0 e.symm)]; exact h.zero
 ·unfold adn; rw [if_neg (by omega)]; exact h.out k hk
 ·rw [gr_adn]
  have hv := h.val q' s' hq' hs'
  by_cases h1 : q' = q ∧ a.2.2.1 = (s' : Int)
  ·obtain ⟨e1, e2⟩ := h1
   have e3 : s' = s := by omega
   subst e1 e3
   rw [if_pos ⟨rfl, e2⟩]
   unfold adn
   rw [hg] at hv ⊢
   rw [if_pos rfl, hv]
  ·rw [if_neg h1]
   unfold adn
   rw [if_neg ?_]
   ·exact hv
   ·intro e
    have := h.inj _ _ (at_lt hq' hs') (at_lt hq hs) (e.trans hg.symm) (by rw [e]; exact h0)
    refine h1 ⟨by omega, ?_⟩
    rw [ha]
    omega
/-- the rows that have been gone through -/
def Rr (R : Nat → List Arc) (q0 y : Nat) : Nat → List Arc := fun q => if q < q0 then R q else if q = q0 then (R q0).take y else []
theorem Rr_up (R : Nat → List Arc) (q0 y : Nat) (h : y < (R q0).length) : Rr R q0 (y + 1) = adn (Rr R q0 y) q0 (R q0)[y] := by
 funext q
 unfold adn
 dsimp only [Rr]
 by_cases h1 : q < q0
 ·rw [if_pos h1, if_pos h1, if_neg (by omega)]
 ·rw [if_neg h1, if_neg h1]
  by_cases h2 : q = q0
  ·rw [if_pos h2, if_pos h2, if_pos h2, List.take_succ_eq_append_getElem h]
  ·rw [if_neg h2, if_neg h2, if_neg h2]
theorem Rr_row (R : Nat → List Arc) (q0 : Nat) : Rr R q0 (R q0).length = Rr R (q0 + 1) 0 := by
 funext q
 unfold Rr
 by_cases h1 : q < q0
 ·rw [if_pos h1, if_pos (by omega)]
 ·rw [if_neg h1]
  by_cases h2 : q = q0
  ·rw [if_pos h2, if_pos (by omega), h2, List.take_length]
  ·rw [if_neg h2, if_neg (by omega)]
   split
   ·rw [List.take_zero]
   ·rfl
theorem Rr_zero (R : Nat → List Arc) : Rr R 0 0 = fun _ => [] := by
 funext q
 unfold Rr
 rw [if_neg (by omega)]
 split <;> simp
theorem Sem.full {SB m : Nat} {gs : List Nat} {G R : Nat → List Arc} (h : Sem SB m gs G (Rr R SB 0)) : Sem SB m gs G R :=
 ⟨h.pos, h.zero, h.out, h.lt, h.inj, fun q s hq hs => by
  have := h.val q s hq hs
  rw [this]
  unfold gr Rr
  rw [if_pos hq]⟩

/-- a couple that is being made -/
structure Nc (w wr : World) (C nb SB N m : Nat) (vf vg : Value) (gs : List Nat) (G : Nat → List Arc) (V : Nat → Value) (vs : List Value) : Prop where
 row : wr.heap[C]? = some (.cells #[.int .i64 (SB : Int), vf, vg, .slice (some ⟨nb, 0, none⟩) N N] 129 (0, 0))
 cge : w.heap.size ≤ C
 heads : wr.ownsRow w.heap.size 22 1 vg m vs
 len : vs.length = m
 head : ∀ f, f < m → vs[f]? = some (V f)
 vout : ∀ k, m ≤ k → V k = nilS
 nums : wr.ownsRow w.heap.size 3 1 (.slice (some ⟨nb, 0, none⟩) N N) N (nc gs)
 nlen : gs.length = N
 rows : ∀ k, wr.ownsRow w.heap.size 64 5 (V k) (G k).length (acs (G k))
 apart : ∀ k k', k ≠ k' → ∀ b, (V k).ownBlock = some b → (V k').ownBlock ≠ some b
 below : Below w.heap.size w wr
theorem Nc.alloc {w wr : World} {C nb SB N m : Nat} {vf vg : Value} {gs : List Nat} {G : Nat → List Arc} {V : Nat → Value} {vs : List Value} (h : Nc w wr C nb SB N m vf vg gs G V vs) (o : Obj) : Nc w (wr.alloc o) C nb SB N m vf vg gs G V vs :=
 ⟨(heap_alloc_old _ _ (lt_at h.row)).trans h.row, h.cge, h.heads.alloc o, h.len, h.head, h.vout, h.nums.alloc o, h.nlen, fun k => (h.rows k).alloc o, h.apart, h.below.alloc h.below.size o⟩
theorem Nc.drew {w wr : World} {C nb SB N m : Nat} {vf vg : Value} {gs : List Nat} {G : Nat → List Arc} {V : Nat → Value} {vs : List Value} (h : Nc w wr C nb SB N m vf vg gs G V vs) : Nc w wr.drew C nb SB N m vf vg gs G V vs :=
 ⟨h.row, h.cge, h.heads, h.len, h.head, h.vout, h.nums, h.nlen, h.rows, h.apart, h.below.drew⟩
theorem Nc.ne {w wr : World} {C nb SB N m : Nat} {vf vg : Value} {gs : List Nat} {G : Nat → List Arc} {V : Nat → Value} {vs : List Value} (h : Nc w wr C nb SB N m vf vg gs G V vs) : C ≠ nb ∧ vg.ownBlock ≠ some nb ∧ vg.ownBlock ≠ some C ∧ (∀ k, (V k).ownBlock ≠ some nb) ∧ (∀ k, (V k).ownBlock ≠ some C) ∧ ∀ k b, vg.ownBlock = some b → (V k).ownBlock ≠ some b := by
 obtain ⟨c, hc⟩ := own_ty h.nums (k := nb) rfl
 refine ⟨fun e => ?_, fun e => ?_, fun e => ?_, fun k e => ?_, fun k e => ?_, fun k b e1 e2 => ?_⟩
 ·subst e; exact ty_ne hc h.row (by decide)
 ·obtain ⟨d, hd⟩ := own_ty h.heads e; exact ty_ne hd hc (by decide)
 ·obtain ⟨d, hd⟩ := own_ty h.heads e; exact ty_ne hd h.row (by decide)
 ·obtain ⟨d, hd⟩ := own_ty (h.rows k) e; exact ty_ne hd hc (by decide)
 ·obtain ⟨d, hd⟩ := own_ty (h.rows k) e; exact ty_ne hd h.row (by decide)
 ·obtain ⟨d, hd⟩ := own_ty h.heads e1
  obtain ⟨d', hd'⟩ := own_ty (h.rows k) e2
  exact ty_ne hd hd' (by decide)
/-- a number is written -/
theorem Nc.num {w wr : World} {C nb SB N m : Nat} {vf vg : Value} {gs : List Nat} {G : Nat → List Arc} {V : Nat → Value} {vs : List Value} (h : Nc w wr C nb SB N m vf vg gs G V vs) (i x : Nat) : Nc w (wr.setCell ⟨nb, i, none⟩ (.int .i64 (x : Int))) C nb SB N m vf vg (gs.set i x) G V vs := by
 obtain ⟨n1, n2, n3, n4, n5, n6⟩ := h.ne
 have hk : Kp (fun b => b = nb) wr (wr.setCell ⟨nb, i, none⟩ (.int .i64 (x : Int))) := (Kp.refl _ wr).setCell _ _ _ (fun _ => rfl)
 have h1 := (h.nums.stored i (.int .i64 (x : Int))).1
 rw [nc_set] at h1
 exact ⟨(hk.block _ (lt_at h.row) n1).trans h.row, h.cge, own_kp2 h.heads hk (fun k e1 e2 => n2 (by rw [← e2]; exact e1)), h.len, h.head, h.vout, h1, by rw [List.length_set]; exact h.nlen, fun k => own_kp2 (h.rows k) hk (fun b e1 e2 => n4 k (by rw [← e2]; exact e1)), h.apart, h.below.setCell (p := ⟨nb, i, none⟩) (h.nums.lt nb rfl).1 _⟩
/-- a group more -/
theorem Nc.grow {w wr w1 : World} {C nb SB N m : Nat} {vf vg v1 : Value} {gs : List Nat} {G : Nat → List Arc} {V : Nat → Value} {vs : List Value} (h : Nc w wr C nb SB N m vf vg gs G V vs) (ho : w1.ownsRow w.heap.size 22 1 v1 (m + 1) (vs ++ [nilS])) (hg : wr.grownBy w1 vg.ownBlock) :
  w1.heap[C]? = some (.cells #[.int .i64 (SB : Int), vf, vg, .slice (some ⟨nb, 0, none⟩) N N] 129 (0, 0)) ∧ Nc w (w1.setCell ⟨C, 2, none⟩ v1) C nb SB N (m + 1) vf v1 gs G V (vs ++ [nilS]) := by
 obtain ⟨n1, n2, n3, n4, n5, n6⟩ := h.ne
 have hk1 : Kp (fun b => vg.ownBlock = some b) wr w1 := (Kp.refl _ wr).grown hg (fun b hb _ => hb)
 have r1 := (hk1.block _ (lt_at h.row) n3).trans h.row
 have hk2 : Kp (fun b => b = C) w1 (w1.setCell ⟨C, 2, none⟩ v1) := (Kp.refl _ w1).setCell _ _ _ (fun _ => rfl)
 have nums1 := own_kp2 h.nums hk1 (fun b e1 e2 => n2 (by cases e1; exact e2))
 have rows1 := fun k => own_kp2 (h.rows k) hk1 (fun b e1 e2 => n6 k b e2 e1)
 refine ⟨r1, ?_, h.cge, own_kp2 ho hk2 (fun b e1 e2 => ?_), by rw [List.length_append, h.len]; rfl, fun f hf => ?_, fun k hk => h.vout k (by omega), own_kp2 nums1 hk2 (fun b e1 e2 => n1 (by cases e1; exact e2.symm)), h.nlen, fun k => own_kp2 (rows1 k) hk2 (fun b e1 e2 => n5 k (by rw [← e2]; exact e1)), h.apart, (h.below.grown hg h.below.size (fun b hb => (h.heads.lt b hb).1)).setCell (p := ⟨C, 2, none⟩) h.cge _⟩
 ·have := heap_setCell_same w1 C 2 _ 129 v1 r1
  simpa using this
 ·subst e2
  obtain ⟨c, hc⟩ := own_ty ho e1
  exact ty_ne hc r1 (by decide)
 ·rcases Nat.lt_or_ge f m with hfm | hfm
  ·rw [List.getElem?_append_left (by rw [h.len]; exact hfm)]; exact h.head f hfm
  ·obtain rfl : f = m := by omega
   rw [List.getElem?_append_right (by rw [h.len]; exact Nat.le_refl _), h.len, Nat.sub_self, h.vout f (Nat.le_refl _)]
   rfl
/-- an arc more in a group -/
theorem Nc.add {w wr w1 : World} {C nb SB N m g gb cap : Nat} {vf v1 : Value} {gs : List Nat} {G : Nat → List Arc} {V : Nat → Value} {vs : List Value} {a : Arc} (h : Nc w wr C nb SB N m vf (.slice (some ⟨gb, 0, none⟩) m cap) gs G V vs) (hf : g < m) (ho : w1.ownsRow w.heap.size 64 5 v1 ((G g).length + 1) (acs (G g) ++ ac a)) (hg : wr.grownBy w1 (V g).ownBlock) (hl : v1.ownBlock = (V g).ownBlock ∨ ∃ g', v1.ownBlock = some g' ∧ wr.heap.size ≤ g') :
  (w1.cell? ⟨gb, g, none⟩ = some (V g) ∧ w1.frozen? ⟨gb, g, none⟩ = false) ∧ Nc w (w1.setCell ⟨gb, g, none⟩ v1) C nb SB N m vf (.slice (some ⟨gb, 0, none⟩) m cap) gs (adn G g a) (upn V g v1) (vs.set g v1) := by
 obtain ⟨n1, n2, n3, n4, n5, n6⟩ := h.ne
 have hk1 : Kp (fun b => (V g).ownBlock = some b) wr w1 := (Kp.refl _ wr).grown hg (fun b hb _ => hb)
 have heads1 := own_kp h.heads hk1 (fun e => n6 g gb rfl e)
 obtain ⟨cs1, hcs1⟩ := own_ty heads1 (k := gb) rfl
 have r1 := (hk1.block _ (lt_at h.row) (n5 g)).trans h.row
 have nums1 := own_kp2 h.nums hk1 (fun b e1 e2 => n4 g (by cases e1; exact e2))
 have hlt : ∀ k b, (V k).ownBlock = some b → b < wr.heap.size := fun k b hb => ((h.rows k).lt b hb).2
 have hsl : w.heap.size ≤ gb := (h.heads.lt gb rfl).1
 have hk2 : Kp (fun b => b = gb) w1 (w1.setCell ⟨gb, g, none⟩ v1) := (Kp.refl _ w1).setCell _ _ _ (fun _ => rfl)
 have rows1 : ∀ k, k ≠ g → w1.ownsRow w.heap.size 64 5 (V k) (G k).length (acs (G k)) := fun k hne => own_kp2 (h.rows k) hk1 (fun b hb e => h.apart k _ hne b hb e)
 have nsb : ∀ {v : Value} {m : Nat} {xs : List Value}, w1.ownsRow w.heap.size 64 5 v m xs → ∀ b, v.ownBlock = some b → ¬ b = gb := fun {v m xs} hr b hb e => by
  obtain ⟨c, hc⟩ := own_ty hr hb
  subst e
  exact ty_ne hc hcs1 (by decide)
 refine ⟨⟨?_, heads1.frozenAt g⟩, (hk2.block _ (lt_at r1) (fun e => n3 (by rw [e]; rfl))).trans r1, h.cge, (heads1.stored g v1).1, by rw [List.length_set]; exact h.len, fun f hg' => ?_, fun k hk => ?_, own_kp2 nums1 hk2 (fun b e1 e2 => n2 (by have e3 : nb = b := Option.some.inj e1; rw [e3, e2]; rfl)), h.nlen, fun k => ?_, apart_upn h.apart hlt hl, ?_⟩
 ·rw [heads1.cellAt g (by omega)]
  exact h.head g hf
 ·rw [List.getElem?_set]
  unfold upn
  by_cases e : g = f
  ·subst e
   simp [h.len, hf]
  ·rw [if_neg e, if_neg (fun e2 => e e2.symm)]
   exact h.head f hg'
 ·unfold upn
  rw [if_neg (by omega)]
  exact h.vout k hk
 ·unfold upn adn
  by_cases e : k = g
  ·rw [if_pos e, if_pos e]
   subst e
   rw [← acs_snoc, List.length_append]
   exact own_kp2 ho hk2 (nsb ho)
  ·rw [if_neg e, if_neg e]
   exact own_kp2 (rows1 k e) hk2 (nsb (rows1 k e))
 ·exact (h.below.grown hg h.below.size (fun b hb => ((h.rows _).lt b hb).1)).setCell hsl _
theorem Nc.cellN {w wr : World} {C nb SB N m : Nat} {vf vg : Value} {gs : List Nat} {G : Nat → List Arc} {V : Nat → Value} {vs : List Value} (h : Nc w wr C nb SB N m vf vg gs G V vs) {i : Nat} (hi : i < N) : wr.cell? ⟨nb, i, none⟩ = some (.int .i64 (gs.getD i 0 : Nat)) := by
 rw [h.nums.cellAt i (by omega)]
 have := h.nlen
 unfold nc
 rw [List.getElem?_map, List.getElem?_eq_getElem (by omega)]
 simp [List.getD_eq_getElem?_getD, List.getElem?_eq_getElem (show i < gs.length by omega)]
theorem Nc.cellG {w wr : World} {C nb SB N m g gb cap : Nat} {vf : Value} {gs : List Nat} {G : Nat → List Arc} {V : Nat → Value} {vs : List Value} (h : Nc w wr C nb SB N m vf (.slice (some ⟨gb, 0, none⟩) m cap) gs G V vs) (hf : g < m) : wr.cell? ⟨gb, g, none⟩ = some (V g) := by
 rw [h.heads.cellAt g (by omega)]
 exact h.head g hf
theorem Nc.head_slice {w wr : World} {C nb SB N m : Nat} {vf vg : Value} {gs : List Nat} {G : Nat → List Arc} {V : Nat → Value} {vs : List Value} (h : Nc w wr C nb SB N m vf vg gs G V vs) (hm : 0 < m) : ∃ gb cap, vg = .slice (some ⟨gb, 0, none⟩) m cap := by
 obtain ⟨g, cap, e, _⟩ := own_some h.heads hm
 exact ⟨g, cap, e⟩

theorem heads_new (W : World) (base : Nat) (hb : base ≤ W.heap.size) : (W.alloc (.cells (mc 1) 22)).ownsRow base 22 1 (.slice (some ⟨W.heap.size, 0, none⟩) 1 1) 1 [nilS] := by
 refine ⟨by simp, .inr ⟨W.heap.size, 1, mc 1, rfl, hb, heap_alloc_new _ _, Nat.le_refl _, by unfold maxLen; omega, ?_, ?_⟩⟩
 ·rw [← Array.length_toList, mc_list]; simp
 ·rw [mc_list]; simp
theorem nums_new (W : World) (base N : Nat) (hb : base ≤ W.heap.size) (hN : N ≤ 129600) : (W.alloc (.cells (madeCells #[.int .i64 0] N) 3)).ownsRow base 3 1 (.slice (some ⟨W.heap.size, 0, none⟩) N N) N (nc (List.replicate N 0)) := by
 have e : (madeCells #[.int .i64 0] N).toList = List.replicate N (.int .i64 0) := by rw [toList_madeCells_one]
 have e2 : nc (List.replicate N 0) = List.replicate N (.int .i64 0) := by unfold nc; rw [List.map_replicate]; rfl
 refine ⟨by rw [e2]; simp, .inr ⟨W.heap.size, N, madeCells #[.int .i64 0] N, rfl, hb, heap_alloc_new _ _, Nat.le_refl _, by unfold maxLen; omega, ?_, ?_⟩⟩
 ·rw [← Array.length_toList, e]; simp
 ·rw [e, e2]; simp
theorem info3c : (Tryd.prog.info? 3).map (fun i => (i.zero, i.size, i.bytes)) = some (some (.int .i64 0), 1, 8) := by kernel_rfl
theorem run_mk26 (N : Nat) (hN : N ≤ 129600) (W : World) : (Instr.makeSlice 26 (.int .i64 (N : Int)) (.int .i64 (N : Int))).run Tryd.prog W = .ok (.slice (some ⟨W.heap.size, 0, none⟩) N N) (W.alloc (.cells (madeCells #[.int .i64 0] N) 3)) := by
 obtain ⟨i0, hi, hz0, hz1, hz2⟩ := info_parts info3c
 have hr := run_make (P := Tryd.prog) W 26 3 i0 (.int .i64 0) Tryd.underlying26 hi hz0 .i64 .i64 (N : Int) (N : Int) (by omega) (Int.le_refl _) (by rw [hz2]; omega) (by omega)
 simp only [Int.toNat_natCast, hz1, Nat.mul_one] at hr
 exact hr
theorem Nc.first {w V : World} {nb SB N : Nat} {vf vg : Value} (hh : V.ownsRow w.heap.size 22 1 vg 1 [nilS]) (hn : V.ownsRow w.heap.size 3 1 (.slice (some ⟨nb, 0, none⟩) N N) N (nc (List.replicate N 0))) (hb : Below w.heap.size w V) : Nc w (V.alloc (.cells #[.int .i64 (SB : Int), vf, vg, .slice (some ⟨nb, 0, none⟩) N N] 129)) V.heap.size nb SB N 1 vf vg (List.replicate N 0) (fun _ => []) (fun _ => nilS) [nilS] :=
 ⟨heap_alloc_new _ _, hb.size, hh.alloc _, rfl, fun f hf => (by obtain rfl : f = 0 := (by omega); rfl), fun _ _ => rfl, hn.alloc _, by simp, fun k => ⟨rfl, .inl ⟨rfl, rfl⟩⟩, fun k k' _ b hb => (by cases hb), hb.alloc hb.size _⟩
theorem ncA (w : World) (SB N : Nat) (vf : Value) (hN : N ≤ 129600) : Nc w (((w.alloc (.cells (mc 1) 22)).alloc (.cells (madeCells #[.int .i64 0] N) 3)).alloc (.cells #[.int .i64 (SB : Int), vf, .slice (some ⟨w.heap.size, 0, none⟩) 1 1, .slice (some ⟨w.heap.size + 1, 0, none⟩) N N] 129)) (w.heap.size + 2) (w.heap.size + 1) SB N 1 vf (.slice (some ⟨w.heap.size, 0, none⟩) 1 1) (List.replicate N 0) (fun _ => []) (fun _ => nilS) [nilS] := by
 have b1 : Below w.heap.size w (w.alloc (.cells (mc 1) 22)) := (Below.refl _ w).alloc (Nat.le_refl _) _
 have s1 : (w.alloc (.cells (mc 1) 22)).heap.size = w.heap.size + 1 := by simp
 have s2 : ((w.alloc (.cells (mc 1) 22)).alloc (.cells (madeCells #[.int .i64 0] N) 3)).heap.size = w.heap.size + 2 := by simp
 have h2 := nums_new (w.alloc (.cells (mc 1) 22)) w.heap.size N b1.size hN
 rw [s1] at h2
 have := Nc.first (SB := SB) (vf := vf) ((heads_new w w.heap.size (Nat.le_refl _)).alloc (.cells (madeCells #[.int .i64 0] N) 3)) h2 (b1.alloc b1.size _)
 rw [s2] at this
 exact this
theorem ncB (w : World) (SB N : Nat) (vf : Value) (hN : N ≤ 129600) : Nc w (((w.alloc (.cells (madeCells #[.int .i64 0] N) 3)).alloc (.cells (mc 1) 22)).alloc (.cells #[.int .i64 (SB : Int), vf, .slice (some ⟨w.heap.size + 1, 0, none⟩) 1 1, .slice (some ⟨w.heap.size, 0, none⟩) N N] 129)) (w.heap.size + 2) w.heap.size SB N 1 vf (.slice (some ⟨w.heap.size + 1, 0, none⟩) 1 1) (List.replicate N 0) (fun _ => []) (fun _ => nilS) [nilS] := by
 have b1 : Below w.heap.size w (w.alloc (.cells (madeCells #[.int .i64 0] N) 3)) := (Below.refl _ w).alloc (Nat.le_refl _) _
 have s1 : (w.alloc (.cells (madeCells #[.int .i64 0] N) 3)).heap.size = w.heap.size + 1 := by simp
 have s2 : ((w.alloc (.cells (madeCells #[.int .i64 0] N) 3)).alloc (.cells (mc 1) 22)).heap.size = w.heap.size + 2 := by simp
 have h1 := heads_new (w.alloc (.cells (madeCells #[.int .i64 0] N) 3)) w.heap.size b1.size
 rw [s1] at h1
 have := Nc.first (SB := SB) (vf := vf) h1 ((nums_new w w.heap.size N (Nat.le_refl _) hN).alloc (.cells (mc 1) 22)) (b1.alloc b1.size _)
 rw [s2] at this
 exact this
/-- a couple that is done -/
structure IsCp (w : World) (C SA SB : Nat) (F R : Nat → List Arc) (fb gb gc nb m : Nat) (gs : List Nat) (G : Nat → List Arc) : Prop where
 row : w.heap[C]? = some (.cells #[.int .i64 (SB : Int), .slice (some ⟨fb, 0, none⟩) SA SA, .slice (some ⟨gb, 0, none⟩) m gc, .slice (some ⟨nb, 0, none⟩) (SB * 61) (SB * 61)] 129 (0, 0))
 first : Rws w fb SA F
 grps : Rws w gb m G
 nbl : nb < w.heap.size
 nums : ∀ i, i < SB * 61 → w.cell? ⟨nb, i, none⟩ = some (.int .i64 (gs.getD i 0 : Nat))
 sem : Sem SB m gs G R
 small : m ≤ 4801
theorem IsCp.on {w w' : World} {C SA SB : Nat} {F R : Nat → List Arc} {fb gb gc nb m : Nat} {gs : List Nat} {G : Nat → List Arc} (h : IsCp w C SA SB F R fb gb gc nb m gs G) (hb : Below w.heap.size w w') : IsCp w' C SA SB F R fb gb gc nb m gs G :=
 ⟨(hb.block _ (lt_at h.row)).trans h.row, h.first.below hb, h.grps.below hb, Nat.lt_of_lt_of_le h.nbl hb.size, fun i hi => (hb.cell (p := ⟨nb, i, none⟩) h.nbl).trans (h.nums i hi), h.sem, h.small⟩
theorem IsCp.of {w wr : World} {C nb SA SB m fb gb cap : Nat} {F R : Nat → List Arc} {gs : List Nat} {G : Nat → List Arc} {V : Nat → Value} {vs : List Value} (h : Nc w wr C nb SB (SB * 61) m (.slice (some ⟨fb, 0, none⟩) SA SA) (.slice (some ⟨gb, 0, none⟩) m cap) gs G V vs) (hF : Rws w fb SA F) (hs : Sem SB m gs G R) (hm : m ≤ 4801) (hl : ∀ k, (G k).length ≤ 20000) : IsCp wr C SA SB F R fb gb cap nb m gs G :=
 ⟨h.row, hF.below h.below, ⟨(h.heads.lt gb rfl).2, fun q hq => by
  obtain ⟨a, c, e, hr⟩ := row_of_own (h.rows q) rfl (hl q)
  exact ⟨a, c, by rw [h.cellG hq, e], hr⟩⟩, (h.nums.lt nb rfl).2, fun i hi => h.cellN hi, hs, hm⟩
end Go.Proofs.YtfjocafepigijaaDoor.Cu
/- groupOf, has, usefulPairs' all, visit. Conditions: the numbers lie in their rows. -/
namespace Go.Proofs.YtfjocafepigijaaDoor.Pa
open Go.RowKit Mv Set

set_option maxHeartbeats 400000 in
theorem all_any (p : Int) (w : World) : Calls Tryd.prog 66 #[.int .i64 p] w fun e w' => e = .returned (.bool true) ∧ w' = w := by
 go_enter Tryd.func66, Tryd.ntmps66
 go_wp2
 go_ret
 exact ⟨rfl, rfl⟩

set_option maxHeartbeats 400000 in
/-- groupOf: what the row of groups has there -/
theorem group_any (C : Nat) (g off n cap q s : Nat) (x : Int) (w : World) (hC : w.cell? ⟨C, 3, none⟩ = some (.slice (some ⟨g, off, none⟩) n cap)) (hq : q ≤ 3000) (hs : s ≤ 60) (hn : q * 61 + s < n) (hx : w.cell? ⟨g, off + (q * 61 + s), none⟩ = some (.int .i64 x)) :
  Calls Tryd.prog 95 #[.pointer (some ⟨C, 0, none⟩), .int .i64 (q : Int), .int .i64 (s : Int)] w fun e w' => e = .returned (.int .i64 x) ∧ w' = w := by
 have hn' : (q : Int) * 61 + (s : Int) < (n : Int) := by omega
 have hn0 : 0 ≤ (q : Int) * 61 + (s : Int) := by omega
 go_enter Tryd.func95, Tryd.ntmps95
 go_wp2
 go_ret
 exact ⟨rfl, rfl⟩
end Go.Proofs.YtfjocafepigijaaDoor.Pa
/- visit: a pair is met. Condition: its number lies in the set. -/
namespace Go.Proofs.YtfjocafepigijaaDoor.Pa
open Go.RowKit Mv Set Po Ps Cm Am

theorem inf3 : (Tryd.prog.info? 3).map (fun i => (i.zero, i.size, i.bytes)) = some (some (.int .i64 0), 1, 8) := by kernel_rfl
def ns (T : List Nat) : List Value := T.map fun (k : Nat) => Value.int .i64 (k : Int)
/-- a search: what was met, how many, what is to be done -/
structure Sr (base : Nat) (w : World) (F n : Nat) (ws : List Nat) (cnt : Nat) (T : List Nat) (vm vt : Value) : Prop where
 row : w.heap[F]? = some (.cells #[vm, .int .i64 (cnt : Int), vt] 183 (0, 0))
 set : IsSet w base vm n ws
 todo : w.ownsRow base 3 1 vt T.length (ns T)
theorem Sr.apart {base : Nat} {w : World} {F n cnt : Nat} {ws T : List Nat} {vm vt : Value} (h : Sr base w F n ws cnt T vm vt) : vm.ownBlock ≠ some F ∧ vt.ownBlock ≠ some F ∧ ∀ b, vm.ownBlock = some b → vt.ownBlock ≠ some b := by
 refine ⟨fun e => ?_, fun e => ?_, fun b e1 e2 => ?_⟩
 ·obtain ⟨c, hc⟩ := own_ty h.set.1 e
  exact ty_ne hc h.row (by decide)
 ·obtain ⟨c, hc⟩ := own_ty h.todo e
  exact ty_ne hc h.row (by decide)
 ·obtain ⟨c, hc⟩ := own_ty h.set.1 e1
  obtain ⟨d, hd⟩ := own_ty h.todo e2
  exact ty_ne hc hd (by decide)
def OwnS (F : Nat) (vm vt : Value) (b : Nat) : Prop := b = F ∨ vm.ownBlock = some b ∨ vt.ownBlock = some b
theorem Sr.added {base : Nat} {w w1 : World} {F n cnt : Nat} {ws ws' T : List Nat} {vm vt : Value} (h : Sr base w F n ws cnt T vm vt) (hs : IsSet w1 base vm n ws') (hg : w.grownBy w1 vm.ownBlock) : Sr base w1 F n ws' cnt T vm vt ∧ Kp (OwnS F vm vt) w w1 := by
 obtain ⟨n1, n2, n3⟩ := h.apart
 have hk : Kp (fun b => vm.ownBlock = some b) w w1 := (Kp.refl _ w).grown hg (fun k hk _ => hk)
 exact ⟨⟨(hk.block _ (lt_at h.row) n1).trans h.row, hs, own_kp2 h.todo hk (fun k e1 e2 => n3 k e2 e1)⟩, hk.mono (fun k _ e => .inr (.inl e))⟩
theorem Sr.count {base : Nat} {w : World} {F n cnt : Nat} {ws T : List Nat} {vm vt : Value} (h : Sr base w F n ws cnt T vm vt) (c : Nat) : Sr base (w.setCell ⟨F, 1, none⟩ (.int .i64 (c : Int))) F n ws c T vm vt ∧ Kp (OwnS F vm vt) w (w.setCell ⟨F, 1, none⟩ (.int .i64 (c : Int))) := by
 obtain ⟨n1, n2, n3⟩ := h.apart
 have hk : Kp (fun b => b = F) w (w.setCell ⟨F, 1, none⟩ (.int .i64 (c : Int))) := (Kp.refl _ w).setCell _ _ _ (fun _ => rfl)
 refine ⟨⟨?_, ⟨own_kp2 h.set.1 hk (fun k e1 e2 => n1 (by rw [← e2]; exact e1)), h.set.2⟩, own_kp2 h.todo hk (fun k e1 e2 => n2 (by rw [← e2]; exact e1))⟩, hk.mono (fun k _ e => .inl e)⟩
 have := heap_setCell_same w F 1 _ 183 (.int .i64 (c : Int)) h.row
 simpa using this
theorem Sr.alloc {base : Nat} {w : World} {F n cnt : Nat} {ws T : List Nat} {vm vt : Value} (h : Sr base w F n ws cnt T vm vt) (o : Obj) : Sr base (w.alloc o) F n ws cnt T vm vt :=
 ⟨(heap_alloc_old _ _ (lt_at h.row)).trans h.row, ⟨h.set.1.alloc o, h.set.2⟩, h.todo.alloc o⟩
theorem Sr.more {base : Nat} {w w1 : World} {F n cnt : Nat} {ws T : List Nat} {vm vt v1 : Value} {k : Nat} (h : Sr base w F n ws cnt T vm vt) (ho : w1.ownsRow base 3 1 v1 (T.length + 1) (ns T ++ ns [k])) (hg : w.grownBy w1 vt.ownBlock) :
  (w1.heap[F]? = some (.cells #[vm, .int .i64 (cnt : Int), vt] 183 (0, 0))) ∧ Sr base (w1.setCell ⟨F, 2, none⟩ v1) F n ws cnt (T ++ [k]) vm v1 ∧ Kp (OwnS F vm vt) w (w1.setCell ⟨F, 2, none⟩ v1) := by
 obtain ⟨n1, n2, n3⟩ := h.apart
 have hk : Kp (fun b => vt.ownBlock = some b) w w1 := (Kp.refl _ w).grown hg (fun k hk _ => hk)
 have r1 := (hk.block _ (lt_at h.row) n2).trans h.row
 have s1 := own_kp2 h.set.1 hk (fun k e1 e2 => n3 k e1 e2)
 have hk2 : Kp (fun b => b = F) w1 (w1.setCell ⟨F, 2, none⟩ v1) := (Kp.refl _ w1).setCell _ _ _ (fun _ => rfl)
 refine ⟨r1, ⟨?_, ⟨own_kp2 s1 hk2 (fun k e1 e2 => n1 (by rw [← e2]; exact e1)), h.set.2⟩, ?_⟩, (hk.mono (fun k _ e => .inr (.inr e))).trans (hk2.mono (fun k _ e => .inl e))⟩
 ·have := heap_setCell_same w1 F 2 _ 183 v1 r1
  simpa using this
 ·have e : ns (T ++ [k]) = ns T ++ ns [k] := by simp [ns]
  rw [e, List.length_append]
  refine own_kp2 ho hk2 (fun b e1 e2 => ?_)
  subst e2
  obtain ⟨c, hc⟩ := own_ty ho e1
  exact ty_ne hc r1 (by decide)
theorem cell_one_at (w : World) (g k : Nat) (hg : g = w.heap.size) : ∀ j u, (ns [k])[j]? = some u → (w.alloc (.cells #[.int .i64 (k : Int)] 3)).cell? ((⟨g, 0, none⟩ : Addr).add j) = some u := by
 intro j u hj
 subst hg
 match j, hj with
 | 0, hj => simp [ns] at hj; subst hj; simp [Addr.add]
theorem ns_one (k : Nat) : ∀ x ∈ ns [k], x.oneCell' = true := by
 intro x hx
 simp [ns] at hx
 subst hx
 rfl

set_option maxHeartbeats 2000000 in
set_option maxRecDepth 100000 in
theorem visit_any (base F n cnt k : Nat) (ws T : List Nat) (vm vt : Value) (w : World) (h : Sr base w F n ws cnt T vm vt) (hk : k < n) (hk2 : k < 1000000000) (hc : cnt ≤ 1000000) (hT : T.length ≤ 1000000) (hb : base ≤ w.heap.size) :
  Calls Tryd.prog 94 #[.pointer (some ⟨F, 0, none⟩), .int .i64 (k : Int)] w fun e w' => e = .returned (.tuple #[]) ∧ ∃ vt', Sr base w' F n (put ws k) (if mem ws k then cnt else cnt + 1) (if mem ws k then T else T ++ [k]) vm vt' ∧ Kp (OwnS F vm vt) w w' ∧ (vt'.ownBlock = vt.ownBlock ∨ ∃ g, vt'.ownBlock = some g ∧ w.heap.size ≤ g) := by
 obtain ⟨i0, hi, hz0, hz1, hz2⟩ := info_parts inf3
 have u0 := cell_of_row _ _ 0 _ _ _ h.row
 have HH : Hid (Sr base w F n ws cnt T vm vt) := h
 have KA := add_any base vm n k ws w h.set hk hk2
 cases hm : mem ws k with
 | true =>
  rw [hm] at KA
  clear hm h
  go_enter Tryd.func94, Tryd.ntmps94
  go_wp2_with (go_at_call 60; (with_reducible refine KA.mono ?_); rintro e w1 ⟨rfl, hs1, hg1⟩; have HS1 : Hid _ := HH.out.added hs1 hg1; clear hs1 hg1 KA)
  go_end0
  exact ⟨rfl, vt, HS1.out.1, HS1.out.2, .inl rfl⟩
 | false =>
  rw [hm] at KA
  clear hm h
  go_enter Tryd.func94, Tryd.ntmps94
  go_upto_region 1 with (go_at_call 60; (with_reducible refine KA.mono ?_); rintro e w1 ⟨rfl, hs1, hg1⟩; have HS1 : Hid _ := HH.out.added hs1 hg1; clear hs1 hg1 KA u0)
  have u1 := cell_of_row _ _ 1 _ _ _ HS1.out.1.row
  have f1 := frozen_of_row _ _ 1 _ 183 HS1.out.1.row
  have HS2 : Hid _ := HS1.out.1.count (cnt + 1)
  have e1 : wrap64 ((cnt : Int) + 1) = ((cnt + 1 : Nat) : Int) := by unfold wrap64; omega
  rw [show (((cnt + 1 : Nat) : Int)) = (cnt : Int) + 1 by simp] at HS2 e1
  go_upto_region 2 with fail
  clear u1 f1 e1
  have HK2 : Hid (Kp (OwnS F vm vt) w (w1.setCell ⟨F, 1, none⟩ (.int .i64 ((cnt : Int) + 1)))) := HS1.out.2.trans HS2.out.2
  have HS3 : Hid _ := HS2.out.1
  clear HS2 HS1
  generalize hV : w1.setCell ⟨F, 1, none⟩ (.int .i64 ((cnt : Int) + 1)) = V at *
  clear hV
  have u2 := cell_of_row _ _ 2 _ _ _ HS3.out.row
  go_wp2_with (refine wpList_append_own_at _ rfl _ _ 26 rfl base 3 i0 (.int .i64 0) 1 8 Tryd.underlying26 hi hz0 hz1 hz2 rfl (by decide) _ _ _ rfl (HS3.out.todo.alloc _) ⟨_, 0, none⟩ 1 1 (ns [k]) rfl rfl (cell_one_at _ _ _ rfl) (ns_one _) (by unfold maxLen; omega) (by omega) (by have := HK2.out.size; simp; omega) ?_; intro v1 w2 ho1 hg1 _ hl1; have hN := (HS3.out.alloc _).more ho1 hg1; have m2 := cell_of_row _ _ 2 _ _ _ hN.1; have f2 := frozen_of_row _ _ 2 _ 183 hN.1; have HN : Hid _ := hN.2; have HFR : Hid (v1.ownBlock = vt.ownBlock ∨ ∃ g, v1.ownBlock = some g ∧ w.heap.size ≤ g) := hl1.imp id (fun h => ⟨_, h, Nat.le_trans HK2.out.size (by simp)⟩); obtain ⟨gg, cc, rfl, _, _⟩ := own_some ho1 (Nat.succ_pos _); clear hN ho1 hg1 hl1)
  go_end0
  exact ⟨rfl, _, HN.out.1, (HK2.out.alloc _).trans HN.out.2, HFR.out⟩
end Go.Proofs.YtfjocafepigijaaDoor.Pa
