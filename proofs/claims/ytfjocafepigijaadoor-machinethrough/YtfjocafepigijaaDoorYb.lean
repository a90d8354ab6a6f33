/- What Through makes, in plain words: it has the pairs that matter, and costs what the machine of pairs costs; it is right, but for costs that are too great. No program text. -/
import Derived.Test.YtfjocafepigijaaDoorMlM
namespace Go.Proofs.YtfjocafepigijaaDoor.Cu
open Mv Wk Bw Th Am Ra Wd Mp Mc

theorem mem_jl {U : Nat → Bool} {A : Nat → List Arc} {L : List Nat} {n : Nat} {e : Arc} : e ∈ jl U A L n ↔ ∃ i, i < n ∧ ∃ e0 ∈ A (L.getD i 0), U e0.2.1.toNat = true ∧ e = ((i : Int), ((L.idxOf e0.2.1.toNat : Nat) : Int), e0.2.2) := by
 unfold jl
 rw [List.mem_flatMap]
 constructor
 ·rintro ⟨i, hi, h⟩
  obtain ⟨e0, h0, h⟩ := List.mem_flatMap.1 h
  unfold jm at h
  cases hu : U e0.2.1.toNat with
  | false => rw [hu] at h; cases h
  | true => rw [hu] at h; exact ⟨i, List.mem_range.1 hi, e0, h0, hu, by simpa using h⟩
 ·rintro ⟨i, hi, e0, h0, hu, rfl⟩
  refine ⟨i, List.mem_range.2 hi, List.mem_flatMap.2 ⟨e0, h0, ?_⟩⟩
  unfold jm
  rw [hu]
  simp
theorem chP_sub0 {A : List Arc} {b : Arc} (h : b ∈ chP A) : b ∈ A := (chP_sub A [] h).elim (fun h => by cases h) id
theorem chP_low0 {A : List Arc} {b : Arc} (h : b ∈ A) : ∃ c ∈ chP A, nam c = nam b ∧ c.2.2.2.2 ≤ b.2.2.2.2 := chP_low A [] (.inr h)
theorem Rgt.chP {S : Nat} {A : List Arc} (h : Rgt S A) : Rgt S (chP A) := fun a ha => h a (chP_sub0 ha)
/-- right ends -/
def Fgt (S : Nat) (F : List (Int × Int)) : Prop := ∀ f ∈ F, finB (S : Int) f = true
theorem end_fold : ∀ (F : List (Int × Int)) (R : List Nat) (s : Nat), s < R.length → (∃ f ∈ F, f.1.toNat = s ∧ (F.foldl (fun R f => R.set f.1.toNat f.2.toNat) R).getD s far = f.2.toNat) ∨ ((∀ f ∈ F, f.1.toNat ≠ s) ∧ (F.foldl (fun R f => R.set f.1.toNat f.2.toNat) R).getD s far = R.getD s far)
 | [], _, _, _ => .inr ⟨fun _ h => (by cases h), rfl⟩
 | f :: F, R, s, hs => by
  rcases end_fold F (R.set f.1.toNat f.2.toNat) s (by rw [List.length_set]; exact hs) with ⟨g, h1, h2, h3⟩ | ⟨h1, h2⟩
  ·exact .inl ⟨g, List.mem_cons_of_mem _ h1, h2, h3⟩
  ·by_cases e : f.1.toNat = s
   ·refine .inl ⟨f, List.mem_cons_self, e, ?_⟩
    rw [List.foldl_cons, h2, List.getD_eq_getElem?_getD, List.getElem?_set, if_pos e, if_pos (by rw [e]; exact hs)]
    rfl
   ·refine .inr ⟨fun g hg => (List.mem_cons.1 hg).elim (fun h => by rw [h]; exact e) (h1 g), ?_⟩
    rw [List.foldl_cons, h2, List.getD_eq_getElem?_getD, List.getElem?_set, if_neg e, List.getD_eq_getElem?_getD]
theorem end_some {S : Nat} {F : List (Int × Int)} {s : Nat} (hs : s < S) (hF : Fgt S F) (h : cv (Ec.endP S F) s ≠ far) : ((s : Int), ((cv (Ec.endP S F) s : Nat) : Int)) ∈ F := by
 rcases end_fold F (List.replicate S far) s (by simp [hs]) with ⟨f, h1, h2, h3⟩ | ⟨_, h2⟩
 ·obtain ⟨t, x, e, _⟩ := fin_nat (hF f h1)
  have h4 : cv (Ec.endP S F) s = f.2.toNat := h3
  rw [h4]
  subst e
  simp only [Int.toNat_natCast] at h2 ⊢
  subst h2
  exact h1
 ·refine absurd ?_ h
  have h4 : cv (Ec.endP S F) s = (List.replicate S far).getD s far := h2
  rw [h4, List.getD_eq_getElem?_getD, List.getElem?_replicate]
  split <;> rfl
def Onc (F : List (Int × Int)) : Prop := ∀ f ∈ F, ∀ g ∈ F, f.1 = g.1 → f = g
theorem onc_of {m : M} (h : onceK m m.fins.length) : Onc m.fins := by
 intro f hf g hg e
 obtain ⟨i, hi, rfl⟩ := List.getElem_of_mem hf
 obtain ⟨j, hj, rfl⟩ := List.getElem_of_mem hg
 rcases Nat.lt_trichotomy i j with h1 | h1 | h1
 ·exact absurd e (h i j hi hj h1 hj)
 ·subst h1; rfl
 ·exact absurd e.symm (h j i hj hi h1 hi)
theorem end_is {S : Nat} {F : List (Int × Int)} (hF : Fgt S F) (ho : Onc F) {s x : Nat} (h : ((s : Int), (x : Int)) ∈ F) : cv (Ec.endP S F) s = x ∧ cv (Ec.endP S F) s ≠ far := by
 obtain ⟨s', x', e, hs, hx⟩ := fin_nat (hF _ h)
 simp only [Prod.mk.injEq] at e
 have hs' : s < S := by omega
 have key : cv (Ec.endP S F) s = x := by
  rcases end_fold F (List.replicate S far) s (by simp [hs']) with ⟨f, h1, h2, h3⟩ | ⟨h1, _⟩
  ·obtain ⟨t, y, e2, _⟩ := fin_nat (hF f h1)
   have h4 : cv (Ec.endP S F) s = f.2.toNat := h3
   subst e2
   simp only [Int.toNat_natCast] at h2 h4
   subst h2
   have := ho _ h _ h1 rfl
   simp only [Prod.mk.injEq] at this
   omega
  ·exact absurd (by simp) (h1 _ h)
 refine ⟨key, ?_⟩
 rw [key]
 unfold far
 omega
/-- what Through makes -/
def thA (a b : M) (SB : Nat) (U : Nat → Bool) (L : List Nat) : List Arc := chP (jl U (arcsP (rws (fun a => a) (chP a.arcs)) (rws (fun a => a) (chP b.arcs)) SB) L L.length)
def thM (a b : M) (SA SB : Nat) (U : Nat → Bool) (L : List Nat) : M := ⟨(L.length : Int), thA a b SB U L, Jf.jfP (Ec.endP SA a.fins) (Ec.endP SB b.fins) SB L L.length⟩
/-- what is known of the pairs that are useful -/
structure Usf (a b : M) (SA SB : Nat) (U W : Nat → Bool) : Prop where
 hA : Rgt SA a.arcs
 hB : Rgt SB b.arcs
 hFA : Fgt SA a.fins
 hFB : Fgt SB b.fins
 oA : Onc a.fins
 oB : Onc b.fins
 pA : 0 < SA
 pB : 0 < SB
 zero : U 0 = true
 ends : ∀ k ∈ eL SB a.fins b.fins a.fins.length, W k = true
 back : ∀ k, W k = true → ∀ k' : Nat, (∃ e ∈ arcsP (rws tn a.arcs) (rws tn b.arcs) SB k, e.2.1 = (k' : Int)) → W k' = true
 on : ∀ k, U k = true → ∀ k' : Nat, (∃ e ∈ arcsP (rws (fun a => a) (chP a.arcs)) (rws (fun a => a) (chP b.arcs)) SB k, e.2.1 = (k' : Int)) → W k' = true → U k' = true
def Ls (U : Nat → Bool) (n : Nat) : List Nat := (List.range n).filter U
theorem mem_Ls {U : Nat → Bool} {n k : Nat} : k ∈ Ls U n ↔ k < n ∧ U k = true := by unfold Ls; rw [List.mem_filter, List.mem_range]
theorem getD_of {L : List Nat} {u p : Nat} (h : L[u]? = some p) : L.getD u 0 = p := by rw [List.getD_eq_getElem?_getD, h]; rfl
theorem mem_prF {a b : M} {SB : Nat} {f : Int × Int} : f ∈ prF a b SB ↔ ∃ x ∈ a.fins, ∃ y ∈ b.fins, f = (x.1 * SB + y.1, x.2 + y.2) := by
 unfold prF
 rw [List.mem_flatMap]
 constructor
 ·rintro ⟨x, hx, h⟩
  obtain ⟨y, hy, rfl⟩ := List.mem_map.1 h
  exact ⟨x, hx, y, hy, rfl⟩
 ·rintro ⟨x, hx, y, hy, rfl⟩
  exact ⟨x, hx, List.mem_map.2 ⟨y, hy, rfl⟩⟩
/-- an arc of what Through makes -/
theorem th_arc {a b : M} {SA SB : Nat} {U W : Nat → Bool} (h : Usf a b SA SB U W) {e : Arc} (he : e ∈ jl U (arcsP (rws (fun a => a) (chP a.arcs)) (rws (fun a => a) (chP b.arcs)) SB) (Ls U (SA * SB)) (Ls U (SA * SB)).length) : ∃ u v p q : Nat, (Ls U (SA * SB))[u]? = some p ∧ (Ls U (SA * SB))[v]? = some q ∧ e.1 = (u : Int) ∧ e.2.1 = (v : Int) ∧ PE ⟨a.st, chP a.arcs, a.fins⟩ ⟨b.st, chP b.arcs, b.fins⟩ SA SB p q e.2.2.1 e.2.2.2.1 e.2.2.2.2 := by
 obtain ⟨i, hi, e0, h0, hu, rfl⟩ := mem_jl.1 he
 have hp : (Ls U (SA * SB))[i]? = some (Ls U (SA * SB))[i] := List.getElem?_eq_getElem hi
 obtain ⟨p, hpe⟩ : ∃ p, (Ls U (SA * SB))[i] = p := ⟨_, rfl⟩
 rw [hpe] at hp
 rw [getD_of hp] at h0
 have hpm := mem_Ls.1 (List.mem_of_getElem? hp)
 obtain ⟨h1, q, h2, h3, h4⟩ := on_sub (a := ⟨a.st, chP a.arcs, a.fins⟩) (b := ⟨b.st, chP b.arcs, b.fins⟩) (SA := SA) h.hA.chP.okl h.hB.chP.okl hpm.1 h0
 rw [h2] at hu
 simp only [Int.toNat_natCast] at hu
 have hq : q ∈ Ls U (SA * SB) := mem_Ls.2 ⟨h3, hu⟩
 refine ⟨i, (Ls U (SA * SB)).idxOf q, p, q, hp, ?_, rfl, ?_, h4⟩
 ·have := List.idxOf_lt_length_of_mem hq
  rw [List.getElem?_eq_getElem this, List.getElem_idxOf]
 ·dsimp only
  rw [h2]
  simp
theorem cut_of {a b : M} {SA SB : Nat} {U W : Nat → Bool} (h : Usf a b SA SB U W) : Cut (prM a b SA SB) (thM a b SA SB U (Ls U (SA * SB))) (Ls U (SA * SB)) := by
 have hn : 0 < SA * SB := Nat.mul_pos h.pA h.pB
 have hnd : (Ls U (SA * SB)).Nodup := List.nodup_range.filter _
 have nnA : NN a := h.hA.okl.nn (st := a.st) (fs := a.fins)
 have nnB : NN b := h.hB.okl.nn (st := b.st) (fs := b.fins)
 have lowA := fun x (hx : x ∈ a.arcs) => chP_low0 hx
 have lowB := fun x (hx : x ∈ b.arcs) => chP_low0 hx
 have step : ∀ {p q : Nat} {i o w : Int}, PE a b SA SB p q i o w → ∃ w', w' ≤ w ∧ ((p : Int), (q : Int), i, o, w') ∈ arcsP (rws (fun a => a) (chP a.arcs)) (rws (fun a => a) (chP b.arcs)) SB p := fun hp => by
  obtain ⟨w', hw, hp'⟩ := PE.low (a' := ⟨a.st, chP a.arcs, a.fins⟩) (b' := ⟨b.st, chP b.arcs, b.fins⟩) hp lowA lowB
  exact ⟨w', hw, on_sup (a := ⟨a.st, chP a.arcs, a.fins⟩) (b := ⟨b.st, chP b.arcs, b.fins⟩) h.hB.chP.okl hp'⟩
 have lead : ∀ p, Leads (prM a b SA SB) p → W p = true := leads_all (fun f hf p e => by
  obtain ⟨x, hx, y, hy, rfl⟩ := mem_prF.1 hf
  obtain ⟨s, u, e1, _⟩ := fin_nat (h.hFA x hx)
  obtain ⟨t, v, e2, _⟩ := fin_nat (h.hFB y hy)
  refine h.ends p ?_
  unfold eL
  rw [List.take_length]
  refine List.mem_flatMap.2 ⟨x, hx, List.mem_map.2 ⟨y, hy, ?_⟩⟩
  subst e1 e2
  unfold en
  dsimp only at e ⊢
  simp only [Int.toNat_natCast]
  have : ((s * SB + t : Nat) : Int) = (p : Int) := by rw [← e]; simp
  omega) (fun p q he hq => by
  obtain ⟨e, he, e1, e2⟩ := he
  obtain ⟨p', q', f1, f2, hpe⟩ := prA_pe nnA nnB he
  obtain rfl : p' = p := by omega
  obtain rfl : q' = q := by omega
  obtain ⟨c, hc, hc2⟩ := back_sup h.hB.okl hpe
  exact h.back q' hq p' ⟨c, hc, hc2⟩)
 refine ⟨hnd, ?_, fun e he => ?_, fun e he u v p q hu hv e1 e2 => ?_, fun f hf => ?_, fun f hf u p hu e1 => ?_, fun p q hp hed hl => ?_⟩
 ·unfold Ls
  obtain ⟨k, hk⟩ : ∃ k, SA * SB = k + 1 := ⟨SA * SB - 1, by omega⟩
  rw [hk, List.range_succ_eq_map, List.filter_cons, if_pos h.zero]
  rfl
 ·obtain ⟨u, v, p, q, h1, h2, h3, h4, h5⟩ := th_arc h (chP_sub0 he)
  exact ⟨u, v, p, q, h1, h2, h3, h4, (prA_iff nnA nnB).2 (PE.sub h5 (fun x hx => chP_sub0 hx) (fun x hx => chP_sub0 hx))⟩
 ·obtain ⟨p', q', f1, f2, hpe⟩ := prA_pe nnA nnB he
  obtain rfl : p' = p := by omega
  obtain rfl : q' = q := by omega
  obtain ⟨w', hw, hin⟩ := step hpe
  have hum : u < (Ls U (SA * SB)).length := by
   rcases Nat.lt_or_ge u (Ls U (SA * SB)).length with h1 | h1
   ·exact h1
   ·rw [List.getElem?_eq_none h1] at hu; cases hu
  have hq := List.mem_of_getElem? hv
  have hiv : (Ls U (SA * SB)).idxOf q' = v := by
   obtain ⟨hv1, hv2⟩ := List.getElem?_eq_some_iff.1 hv
   rw [← hv2]
   exact hnd.idxOf_getElem v hv1
  have hj : ((u : Int), (v : Int), e.2.2.1, e.2.2.2.1, w') ∈ jl U (arcsP (rws (fun a => a) (chP a.arcs)) (rws (fun a => a) (chP b.arcs)) SB) (Ls U (SA * SB)) (Ls U (SA * SB)).length := mem_jl.2 ⟨u, hum, _, by rw [getD_of hu]; exact hin, by simpa using (mem_Ls.1 hq).2, by simp [hiv]⟩
  obtain ⟨c, hc, hnm, hcw⟩ := chP_low0 hj
  obtain ⟨c1, c2, c3, c4, c5⟩ := c
  simp only [nam, Prod.mk.injEq] at hnm
  obtain ⟨rfl, rfl, rfl, rfl⟩ := hnm
  exact ⟨c5, Int.le_trans hcw hw, hc⟩
 ·obtain ⟨i, hi, hf⟩ := List.mem_flatMap.1 hf
  have hi := List.mem_range.1 hi
  have hp : (Ls U (SA * SB))[i]? = some (Ls U (SA * SB))[i] := List.getElem?_eq_getElem hi
  obtain ⟨p, hpe⟩ : ∃ p, (Ls U (SA * SB))[i] = p := ⟨_, rfl⟩
  rw [hpe] at hp
  have hpn := (mem_Ls.1 (List.mem_of_getElem? hp)).1
  rw [Jf.jf1_at _ _ _ _ i p hi hpe] at hf
  split at hf
  ·rename_i hc
   rw [List.mem_singleton] at hf
   subst hf
   refine ⟨i, p, hp, rfl, mem_prF.2 ⟨_, end_some (Nat.div_lt_of_lt_mul (by rw [Nat.mul_comm]; exact hpn)) h.hFA hc.1, _, end_some (Nat.mod_lt p h.pB) h.hFB hc.2, ?_⟩⟩
   simp only [Prod.mk.injEq]
   have := Nat.div_add_mod p SB
   constructor
   ·rw [← show ((p / SB * SB + p % SB : Nat) : Int) = ((p / SB : Nat) : Int) * (SB : Int) + ((p % SB : Nat) : Int) by simp]
    rw [Nat.mul_comm] at this
    omega
   ·simp
  ·cases hf
 ·obtain ⟨x, hx, y, hy, rfl⟩ := mem_prF.1 hf
  obtain ⟨s, cx, e3, hs, _⟩ := fin_nat (h.hFA x hx)
  obtain ⟨t, cy, e4, ht, _⟩ := fin_nat (h.hFB y hy)
  subst e3 e4
  dsimp only at e1 ⊢
  have hpe : p = s * SB + t := by
   have : ((s * SB + t : Nat) : Int) = (p : Int) := by rw [← e1]; simp
   omega
  obtain ⟨k1, k2⟩ := end_is h.hFA h.oA hx
  obtain ⟨k3, k4⟩ := end_is h.hFB h.oB hy
  obtain ⟨hu1, hu2⟩ := List.getElem?_eq_some_iff.1 hu
  refine List.mem_flatMap.2 ⟨u, List.mem_range.2 hu1, ?_⟩
  rw [Jf.jf1_at _ _ _ _ u p hu1 hu2, hpe, (pd ht).1, (pd ht).2, if_pos ⟨k2, k4⟩, k1, k3]
  simp
 ·obtain ⟨e, he, e1, e2⟩ := hed
  obtain ⟨p', q', f1, f2, hpe⟩ := prA_pe nnA nnB he
  obtain rfl : p' = p := by omega
  obtain rfl : q' = q := by omega
  obtain ⟨w', hw, hin⟩ := step hpe
  have hpm := mem_Ls.1 hp
  obtain ⟨_, q2, g1, g2, _⟩ := on_sub (a := ⟨a.st, chP a.arcs, a.fins⟩) (b := ⟨b.st, chP b.arcs, b.fins⟩) (SA := SA) h.hA.chP.okl h.hB.chP.okl hpm.1 hin
  dsimp only at g1
  obtain rfl : q' = q2 := by omega
  exact mem_Ls.2 ⟨g2, h.on p' hpm.2 q' ⟨_, hin, rfl⟩ (lead q' hl)⟩
/-- what an arc of pairs reads, writes and costs -/
theorem PE.nums {a b : M} {SA SB p q : Nat} {i o w : Int} (hA : Rgt SA a.arcs) (hB : Rgt SB b.arcs) (h : PE a b SA SB p q i o w) : 0 ≤ i ∧ i ≤ 60 ∧ 0 ≤ o ∧ o ≤ 60 ∧ 0 ≤ w ∧ ((∀ x ∈ a.arcs, x.2.2.2.2 ≤ 500000) → (∀ x ∈ b.arcs, x.2.2.2.2 ≤ 500000) → w ≤ 1000000) := by
 rcases h with ⟨x, hx, h0, s, s', t, e1, e2, ht, rfl, rfl, rfl, rfl, rfl⟩ | ⟨x, hx, y, hy, h0, h1, s, s', t, t', e1, e2, e3, e4, rfl, rfl, rfl, rfl, rfl⟩ | ⟨y, hy, h0, s, t, t', e1, e2, hs, rfl, rfl, rfl, rfl, rfl⟩
 ·obtain ⟨f, t2, i, o, u, rfl, _, _, _, _, _⟩ := arc_nat (hA _ hx)
  refine ⟨by dsimp only; omega, by dsimp only; omega, by omega, by omega, by dsimp only; omega, fun h1 _ => ?_⟩
  have := h1 _ hx
  dsimp only at this ⊢
  omega
 ·obtain ⟨f, t2, i, o, u, rfl, _, _, _, _, _⟩ := arc_nat (hA _ hx)
  obtain ⟨f', t2', i', o', u', rfl, _, _, _, _, _⟩ := arc_nat (hB _ hy)
  refine ⟨by dsimp only; omega, by dsimp only; omega, by dsimp only; omega, by dsimp only; omega, by dsimp only; omega, fun h1 h2 => ?_⟩
  have := h1 _ hx
  have := h2 _ hy
  dsimp only at *
  omega
 ·obtain ⟨f', t2', i', o', u', rfl, _, _, _, _, _⟩ := arc_nat (hB _ hy)
  refine ⟨by omega, by omega, by dsimp only; omega, by dsimp only; omega, by dsimp only; omega, fun _ h2 => ?_⟩
  have := h2 _ hy
  dsimp only at this ⊢
  omega
theorem jf_state {Ea Eb : List Nat} {SB : Nat} {L : List Nat} {n : Nat} {f : Int × Int} (h : f ∈ Jf.jfP Ea Eb SB L n) : ∃ i : Nat, i < n ∧ f.1 = (i : Int) ∧ f ∈ Jf.jf1 Ea Eb SB L i := by
 obtain ⟨i, hi, hf⟩ := List.mem_flatMap.1 h
 refine ⟨i, List.mem_range.1 hi, ?_, hf⟩
 unfold Jf.jf1 at hf
 split at hf
 ·rw [List.mem_singleton] at hf; subst hf; rfl
 ·cases hf
theorem jf_once (Ea Eb : List Nat) (SB : Nat) (L : List Nat) : ∀ n i j (hi : i < (Jf.jfP Ea Eb SB L n).length) (hj : j < (Jf.jfP Ea Eb SB L n).length), i < j → ((Jf.jfP Ea Eb SB L n)[i]).1 < ((Jf.jfP Ea Eb SB L n)[j]).1
 | 0, _, _, hi, _, _ => by simp [Jf.jfP] at hi
 | n + 1, i, j, hi, hj, hij => by
  have hup := Jf.jfP_up Ea Eb SB L n
  have h1 : (Jf.jf1 Ea Eb SB L n).length ≤ 1 := by unfold Jf.jf1; split <;> simp
  have hlen := congrArg List.length hup
  rw [List.length_append] at hlen
  have hi' : i < (Jf.jfP Ea Eb SB L n).length := by omega
  have ei : (Jf.jfP Ea Eb SB L (n + 1))[i] = (Jf.jfP Ea Eb SB L n)[i] := by
   have : (Jf.jfP Ea Eb SB L (n + 1))[i]? = (Jf.jfP Ea Eb SB L n)[i]? := by rw [hup, List.getElem?_append_left hi']
   rw [List.getElem?_eq_getElem hi, List.getElem?_eq_getElem hi'] at this
   exact Option.some.inj this
  rw [ei]
  rcases Nat.lt_or_ge j (Jf.jfP Ea Eb SB L n).length with hj' | hj'
  ·have ej : (Jf.jfP Ea Eb SB L (n + 1))[j] = (Jf.jfP Ea Eb SB L n)[j] := by
    have : (Jf.jfP Ea Eb SB L (n + 1))[j]? = (Jf.jfP Ea Eb SB L n)[j]? := by rw [hup, List.getElem?_append_left hj']
    rw [List.getElem?_eq_getElem hj, List.getElem?_eq_getElem hj'] at this
    exact Option.some.inj this
   rw [ej]
   exact jf_once Ea Eb SB L n i j hi' hj' hij
  ·have hm : (Jf.jfP Ea Eb SB L (n + 1))[j] ∈ Jf.jf1 Ea Eb SB L n := by
    have : (Jf.jfP Ea Eb SB L (n + 1))[j]? = (Jf.jf1 Ea Eb SB L n)[j - (Jf.jfP Ea Eb SB L n).length]? := by rw [hup, List.getElem?_append_right hj']
    rw [List.getElem?_eq_getElem hj] at this
    exact List.mem_of_getElem? this.symm
   have hs : ((Jf.jfP Ea Eb SB L (n + 1))[j]).1 = (n : Int) := by
    unfold Jf.jf1 at hm
    split at hm
    ·rw [List.mem_singleton] at hm; rw [hm]
    ·cases hm
   obtain ⟨k, hk, e, _⟩ := jf_state (List.getElem_mem hi')
   rw [hs, e]
   omega
theorem Ls_len (U : Nat → Bool) (n : Nat) : (Ls U n).length ≤ n := by unfold Ls; exact Nat.le_trans (List.length_filter_le _ _) (by simp)
/-- few pairs have few arcs -/
theorem th_few {a b : M} {SA SB : Nat} {U W : Nat → Bool} (hSA : SA ≤ 40) (hSB : SB ≤ 40) (hA : a.arcs.length ≤ 120) (hB : b.arcs.length ≤ 120) : (jl U (arcsP (rws (fun a => a) (chP a.arcs)) (rws (fun a => a) (chP b.arcs)) SB) (Ls U (SA * SB)) (Ls U (SA * SB)).length).length ≤ 19200 := by
 have := (W : Nat → Bool)
 refine Nat.le_trans (flat_bound _ _ _) (Nat.le_trans (flat_len (n := SA * SB) (by unfold Ls; exact List.filter_sublist) _) ?_)
 exact few_arcs SA SB (chP a.arcs) (chP b.arcs) hSA hSB (Nat.le_trans (chP_len _) hA) (Nat.le_trans (chP_len _) hB)
theorem th_check {a b : M} {SA SB : Nat} {U W : Nat → Bool} (h : Usf a b SA SB U W) (hSA : SA ≤ 40) (hSB : SB ≤ 40) (hA : a.arcs.length ≤ 120) (hB : b.arcs.length ≤ 120) : checkP (thM a b SA SB U (Ls U (SA * SB))) 0 ∨ (checkP (thM a b SA SB U (Ls U (SA * SB))) 3 ∧ ¬ (lightP a = true ∧ lightP b = true)) := by
 have hn : SA * SB ≤ 1600 := Nat.le_trans (Nat.mul_le_mul hSA hSB) (by decide)
 have hL := Ls_len U (SA * SB)
 have h0 : 0 ∈ Ls U (SA * SB) := mem_Ls.2 ⟨Nat.mul_pos h.pA h.pB, h.zero⟩
 have hLp : 0 < (Ls U (SA * SB)).length := List.length_pos_of_mem h0
 have hfew := th_few (U := U) (W := W) hSA hSB hA hB
 have hal : (thA a b SB U (Ls U (SA * SB))).length ≤ 20000 := Nat.le_trans (chP_len _) (Nat.le_trans hfew (by decide))
 have hsz : sizeB (thM a b SA SB U (Ls U (SA * SB))) = true := by
  unfold sizeB thM
  refine decide_eq_true ?_
  have := Jf.jf_len (Ec.endP SA a.fins) (Ec.endP SB b.fins) SB (Ls U (SA * SB)) (Ls U (SA * SB)).length
  dsimp only
  omega
 have arcF : ∀ e ∈ thA a b SB U (Ls U (SA * SB)), (e.2.2.2.2 ≤ 1000000 → arcB ((Ls U (SA * SB)).length : Int) e = true) ∧ ((∀ x ∈ a.arcs, x.2.2.2.2 ≤ 500000) → (∀ x ∈ b.arcs, x.2.2.2.2 ≤ 500000) → e.2.2.2.2 ≤ 1000000) := fun e he => by
  obtain ⟨u, v, p, q, h1, h2, h3, h4, h5⟩ := th_arc h (chP_sub0 he)
  have hu := (List.getElem?_eq_some_iff.1 h1).1
  have hv := (List.getElem?_eq_some_iff.1 h2).1
  obtain ⟨n1, n2, n3, n4, n5, n6⟩ := PE.nums h.hA.chP h.hB.chP h5
  refine ⟨fun hw => ?_, fun k1 k2 => n6 (fun x hx => k1 x (chP_sub0 hx)) (fun x hx => k2 x (chP_sub0 hx))⟩
  unfold arcB
  refine decide_eq_true ?_
  rw [h3, h4]
  omega
 have finF : ∀ f ∈ (thM a b SA SB U (Ls U (SA * SB))).fins, (f.2 ≤ 1000000 → finB ((Ls U (SA * SB)).length : Int) f = true) ∧ ((∀ x ∈ a.fins, x.2 ≤ 500000) → (∀ x ∈ b.fins, x.2 ≤ 500000) → f.2 ≤ 1000000) := fun f hf => by
  obtain ⟨u, p, h1, h2, h3⟩ := (cut_of h).fsub f hf
  have hu := (List.getElem?_eq_some_iff.1 h1).1
  obtain ⟨x, hx, y, hy, e⟩ := mem_prF.1 h3
  obtain ⟨s, cx, e3, _, _⟩ := fin_nat (h.hFA x hx)
  obtain ⟨t, cy, e4, _, _⟩ := fin_nat (h.hFB y hy)
  simp only [Prod.mk.injEq] at e
  subst e3 e4
  dsimp only at e
  refine ⟨fun hw => ?_, fun k1 k2 => ?_⟩
  ·unfold finB
   refine decide_eq_true ?_
   rw [h2]
   omega
  ·have := k1 _ hx
   have := k2 _ hy
   dsimp only at *
   omega
 have honce : onceK (thM a b SA SB U (Ls U (SA * SB))) (thM a b SA SB U (Ls U (SA * SB))).fins.length := fun i j hi hj hij _ e => by
  have := jf_once (Ec.endP SA a.fins) (Ec.endP SB b.fins) SB (Ls U (SA * SB)) (Ls U (SA * SB)).length i j hi hj hij
  exact absurd e (Int.ne_of_lt this)
 have lightF : ∀ {m : M}, lightP m = true → (∀ x ∈ m.arcs, x.2.2.2.2 ≤ 500000) ∧ (∀ x ∈ m.fins, x.2 ≤ 500000) := fun {m} hl => by
  unfold lightP at hl
  simp only [Bool.and_eq_true, List.all_eq_true, decide_eq_true_eq] at hl
  exact ⟨hl.1.2, hl.2⟩
 by_cases ha : ∀ e ∈ thA a b SB U (Ls U (SA * SB)), e.2.2.2.2 ≤ 1000000
 ·have harc : ∀ k (hk : k < (thM a b SA SB U (Ls U (SA * SB))).arcs.length), arcB (thM a b SA SB U (Ls U (SA * SB))).st (thM a b SA SB U (Ls U (SA * SB))).arcs[k] = true := fun k hk => (arcF _ (List.getElem_mem hk)).1 (ha _ (List.getElem_mem hk))
  by_cases hf : ∀ f ∈ (thM a b SA SB U (Ls U (SA * SB))).fins, f.2 ≤ 1000000
  ·exact .inl (.inr (.inr (.inr (.inr ⟨hsz, harc, fun k hk => (finF _ (List.getElem_mem hk)).1 (hf _ (List.getElem_mem hk)), honce, rfl⟩))))
  ·refine .inr ⟨.inr (.inr (.inl ⟨hsz, harc, ?_, rfl⟩)), fun hl => hf fun f hfm => (finF f hfm).2 (lightF hl.1).2 (lightF hl.2).2⟩
   have ⟨f, hfm, hfw⟩ : ∃ f, f ∈ (thM a b SA SB U (Ls U (SA * SB))).fins ∧ ¬ f.2 ≤ 1000000 := Classical.byContradiction fun hc => hf fun f hfm => Classical.byContradiction fun hw => hc ⟨f, hfm, hw⟩
   obtain ⟨k, hk, rfl⟩ := List.getElem_of_mem hfm
   refine ⟨k, hk, ?_⟩
   unfold finB
   exact decide_eq_false (fun hd => hfw hd.2.2.2)
 ·refine .inr ⟨.inr (.inl ⟨hsz, ?_, rfl⟩), fun hl => ha fun e he => (arcF e he).2 (lightF hl.1).1 (lightF hl.2).1⟩
  have ⟨f, hfm, hfw⟩ : ∃ f, f ∈ thA a b SB U (Ls U (SA * SB)) ∧ ¬ f.2.2.2.2 ≤ 1000000 := Classical.byContradiction fun hc => ha fun f hfm => Classical.byContradiction fun hw => hc ⟨f, hfm, hw⟩
  obtain ⟨k, hk, rfl⟩ := List.getElem_of_mem hfm
  refine ⟨k, hk, ?_⟩
  unfold arcB
  exact decide_eq_false (fun hd => hfw hd.2.2.2.2.2.2.2.2.2)
/-- it costs what the machine of pairs costs -/
theorem th_cost {a b : M} {SA SB : Nat} {U W : Nat → Bool} (h : Usf a b SA SB U W) {inn out : List Int} {v : Nat} (hc : IsCost (prM a b SA SB) inn out true v) : IsCost (thM a b SA SB U (Ls U (SA * SB))) inn out true v := by
 have hf1 : ∀ f ∈ (prM a b SA SB).fins, 0 ≤ f.2 := fun f hf => by
  obtain ⟨x, hx, y, hy, rfl⟩ := mem_prF.1 hf
  obtain ⟨s, cx, rfl, _, _⟩ := fin_nat (h.hFA x hx)
  obtain ⟨t, cy, rfl, _, _⟩ := fin_nat (h.hFB y hy)
  dsimp only
  omega
 have hf2 : ∀ f ∈ (thM a b SA SB U (Ls U (SA * SB))).fins, 0 ≤ f.2 := fun f hf => by
  obtain ⟨u, p, _, _, h3⟩ := (cut_of h).fsub f hf
  have := hf1 ((p : Int), f.2) h3
  exact this
 refine (isCost_iff hf2).2 (cut_least (cut_of h) (fun e he => ?_) hf1 ((isCost_iff hf1).1 hc))
 obtain ⟨u, v, p, q, h1, h2, h3, h4, h5⟩ := th_arc h (chP_sub0 he)
 exact (PE.nums h.hA.chP h.hB.chP h5).2.2.2.2.1
end Go.Proofs.YtfjocafepigijaaDoor.Cu
