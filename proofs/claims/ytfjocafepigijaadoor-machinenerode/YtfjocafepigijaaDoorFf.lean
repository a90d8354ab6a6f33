/- A set closed by a list of states that wait, in plain words; what is read from a set. No program text; no conditions. -/
import Derived.Test.YtfjocafepigijaaDoorFe
import Derived.Test.YtfjocafepigijaaDoorRbM
import Derived.Test.YtfjocafepigijaaDoorDa
namespace Go.Proofs.YtfjocafepigijaaDoor.Su
open Go.RowKit Mv Po Ps Cm Ra

abbrev AL := List (Int × Int × Int × Int × Int)
theorem rw_mem {A : AL} {x : Nat} {a : Int × Int × Int × Int × Int} : a ∈ rws (fun a => a) A x ↔ a ∈ A ∧ a.1 = (x : Int) := by
  unfold rws
  rw [List.map_id', List.mem_filter]
  simp
structure Wl (S : Nat) (A : AL) (bs : List Bool) (ws st : List Nat) : Prop where
  sub : ∀ v, has bs v → Set.mem ws v = true
  snd : ∀ v, Set.mem ws v = true → v < S ∧ ∃ u, has bs u ∧ Cl A u v
  stk : ∀ x ∈ st, Set.mem ws x = true
  cls : ∀ u, Set.mem ws u = true → u ∉ st → ∀ v, Ed A 0 u v → Set.mem ws v = true
  wl : ws.length = (S + 63) / 64
  wd : ∀ x ∈ ws, x < 18446744073709551616
structure Wi (S : Nat) (A : AL) (bs : List Bool) (x y : Nat) (ws st : List Nat) : Prop where
  sub : ∀ v, has bs v → Set.mem ws v = true
  snd : ∀ v, Set.mem ws v = true → v < S ∧ ∃ u, has bs u ∧ Cl A u v
  stk : ∀ x ∈ st, Set.mem ws x = true
  cls : ∀ u, Set.mem ws u = true → u ∉ st → u ≠ x → ∀ v, Ed A 0 u v → Set.mem ws v = true
  don : ∀ j a, j < y → (rws (fun a => a) A x)[j]? = some a → a.2.2.1 = 0 → ∀ t : Nat, a.2.1 = (t : Int) → Set.mem ws t = true
  xm : Set.mem ws x = true
  wl : ws.length = (S + 63) / 64
  wd : ∀ x ∈ ws, x < 18446744073709551616
theorem Ag.begin {S : Nat} {A : AL} {ws : List Nat} {bs : List Bool} (h : Ag S ws bs) {st : List Nat} (hs : ∀ v, v ∈ st ↔ Set.mem ws v = true) : Wl S A bs ws st :=
  ⟨fun v => (h.iff_ v).2, fun v hv => ⟨h.lt hv, v, (h.iff_ v).1 hv, Cl.refl v⟩, fun x hx => (hs x).1 hx, fun u hu hn => absurd ((hs u).2 hu) hn, h.wl, h.wd⟩
theorem ag_of {S : Nat} {A : AL} {ws : List Nat} {bs : List Bool} (h : Wl S A bs ws []) : Ag S ws (clo S A bs) := by
  refine ⟨clo_len _ _ _, h.wl, h.wd, fun v => ?_⟩
  unfold clo
  rw [mk_has]
  refine ⟨h.snd v, ?_⟩
  rintro ⟨_, u, hu, n, hc⟩
  have key : ∀ n v, ClN A n u v → Set.mem ws v = true := by
    intro n
    induction n with
    | zero => intro v hv; cases hv; exact h.sub u hu
    | succ n ih =>
      rintro v ⟨x, hx, he⟩
      exact h.cls x (ih x hx) (by simp) v he
  exact key n v hc
theorem Wl.pop {S : Nat} {A : AL} {bs : List Bool} {ws st : List Nat} {x : Nat} (h : Wl S A bs ws (st ++ [x])) : Wi S A bs x 0 ws st :=
  ⟨h.sub, h.snd, fun y hy => h.stk y (by simp [hy]), fun u hu hn hne => h.cls u hu (by simp [hn, hne]), fun j a hj => absurd hj (Nat.not_lt_zero j), h.stk x (by simp), h.wl, h.wd⟩
theorem Wi.fin {S : Nat} {A : AL} {bs : List Bool} {ws st : List Nat} {x y : Nat} (h : Wi S A bs x y ws st) (hy : (rws (fun a => a) A x).length ≤ y) : Wl S A bs ws st := by
  refine ⟨h.sub, h.snd, h.stk, fun u hu hn v he => ?_, h.wl, h.wd⟩
  by_cases e : u = x
  · subst e
    obtain ⟨a, ha, e1, e2, e3⟩ := he
    obtain ⟨j, hj, rfl⟩ := List.getElem_of_mem (rw_mem.2 ⟨ha, e1⟩)
    exact h.don j _ (by omega) (List.getElem?_eq_getElem hj) e3 v e2
  · exact h.cls u hu hn e v he
theorem Wi.skip {S : Nat} {A : AL} {bs : List Bool} {ws st : List Nat} {x y : Nat} {a : Int × Int × Int × Int × Int} (h : Wi S A bs x y ws st) (ha : (rws (fun a => a) A x)[y]? = some a) (hz : a.2.2.1 ≠ 0) : Wi S A bs x (y + 1) ws st :=
  ⟨h.sub, h.snd, h.stk, h.cls, fun j b hj hb hb0 => by
    by_cases e : j = y
    · subst e; rw [ha] at hb; cases hb; exact absurd hb0 hz
    · exact h.don j b (by omega) hb hb0, h.xm, h.wl, h.wd⟩
theorem put_len (ws : List Nat) (k : Nat) : (Set.put ws k).length = ws.length := by unfold Set.put; rw [List.length_set]
theorem Wi.old {S : Nat} {A : AL} {bs : List Bool} {ws st : List Nat} {x y t : Nat} {a : Int × Int × Int × Int × Int} (h : Wi S A bs x y ws st) (ha : (rws (fun a => a) A x)[y]? = some a) (ht : a.2.1 = (t : Int)) (hm : Set.mem ws t = true) : Wi S A bs x (y + 1) (Set.put ws t) st := by
  have hb : t / 64 < ws.length := by have := (h.snd t hm).1; have := h.wl; omega
  have he : ∀ v, Set.mem (Set.put ws t) v = Set.mem ws v := fun v => by
    rw [Set.mem_put ws t v hb]
    by_cases e : v = t
    · subst e; rw [hm]; rfl
    · simp [e]
  refine ⟨fun v => by rw [he]; exact h.sub v, fun v => by rw [he]; exact h.snd v, fun z hz => by rw [he]; exact h.stk z hz, fun u hu hn hne v hv => by rw [he] at hu ⊢; exact h.cls u hu hn hne v hv, fun j b hj hb2 hb0 t' ht' => ?_, by rw [he]; exact h.xm, by rw [put_len]; exact h.wl, Set.put_bd ws t h.wd⟩
  rw [he]
  by_cases e : j = y
  · subst e
    rw [ha] at hb2
    cases hb2
    have : t = t' := by rw [ht] at ht'; omega
    subst this
    exact hm
  · exact h.don j b (by omega) hb2 hb0 t' ht'
theorem Wi.new {S : Nat} {A : AL} {bs : List Bool} {ws st : List Nat} {x y t : Nat} {a : Int × Int × Int × Int × Int} (h : Wi S A bs x y ws st) (ha : (rws (fun a => a) A x)[y]? = some a) (ht : a.2.1 = (t : Int)) (hz : a.2.2.1 = 0) (hS : t < S) : Wi S A bs x (y + 1) (Set.put ws t) (st ++ [t]) := by
  have hb : t / 64 < ws.length := by have := h.wl; omega
  have he : ∀ v, Set.mem (Set.put ws t) v = true ↔ Set.mem ws v = true ∨ v = t := fun v => by
    rw [Set.mem_put ws t v hb]
    simp
  obtain ⟨hA, hx⟩ := rw_mem.1 (List.mem_of_getElem? ha)
  refine ⟨fun v hv => (he v).2 (.inl (h.sub v hv)), fun v hv => ?_, fun z hz2 => ?_, fun u hu hn hne v hv => ?_, fun j b hj hb2 hb0 t' ht' => ?_, (he x).2 (.inl h.xm), by rw [put_len]; exact h.wl, Set.put_bd ws t h.wd⟩
  · rcases (he v).1 hv with hv | rfl
    · exact h.snd v hv
    · obtain ⟨_, u, hu, hc⟩ := h.snd x h.xm
      exact ⟨hS, u, hu, hc.step ⟨a, hA, hx, ht, hz⟩⟩
  · rcases List.mem_append.1 hz2 with hz2 | hz2
    · exact (he z).2 (.inl (h.stk z hz2))
    · rw [List.mem_singleton.1 hz2]; exact (he t).2 (.inr rfl)
  · rcases (he u).1 hu with hu | rfl
    · exact (he v).2 (.inl (h.cls u hu (fun hm => hn (by simp [hm])) hne v hv))
    · exact absurd (by simp) hn
  · by_cases e : j = y
    · subst e
      rw [ha] at hb2
      cases hb2
      rw [ht] at ht'
      exact (he t').2 (.inr (by omega))
    · exact (he t').2 (.inl (h.don j b (by omega) hb2 hb0 t' ht'))
/-- how many are not in the set -/
def un (S : Nat) (ws : List Nat) : Nat := ((List.range S).map (Set.mem ws)).count false
theorem un_le (S : Nat) (ws : List Nat) : un S ws ≤ S := by
  unfold un
  exact Nat.le_trans List.count_le_length (by simp)
theorem un_put {S : Nat} {ws : List Nat} {t : Nat} (ht : t < S) (hl : t / 64 < ws.length) (hn : Set.mem ws t = false) : un S (Set.put ws t) < un S ws := by
  unfold un
  have e : (List.range S).map (Set.mem (Set.put ws t)) = ((List.range S).map (Set.mem ws)).set t true := by
    apply List.ext_getElem?
    intro v
    by_cases hv : v < S
    · rw [List.getElem?_map, List.getElem?_range hv]
      by_cases e : t = v
      · subst e
        rw [List.getElem?_set_self (by simp; exact hv)]
        show some (Set.mem (Set.put ws t) t) = some true
        rw [Set.mem_put ws t t hl]
        simp
      · rw [List.getElem?_set_ne e, List.getElem?_map, List.getElem?_range hv]
        show some (Set.mem (Set.put ws t) v) = some (Set.mem ws v)
        rw [Set.mem_put ws t v hl]
        have e2 : ¬ v = t := fun h => e h.symm
        simp [e2]
    · rw [List.getElem?_eq_none (by simp; omega), List.getElem?_eq_none (by simp; omega)]
  rw [e]
  exact outs_set (by rw [List.getElem?_map, List.getElem?_range ht]; show some (Set.mem ws t) = some false; rw [hn])
theorem un_same {S : Nat} {ws : List Nat} {t : Nat} (hl : t / 64 < ws.length) (hn : Set.mem ws t = true) : un S (Set.put ws t) = un S ws := by
  unfold un
  congr 1
  apply List.map_congr_left
  intro v _
  rw [Set.mem_put ws t v hl]
  by_cases e : v = t
  · subst e; rw [hn]; rfl
  · simp [e]
end Go.Proofs.YtfjocafepigijaaDoor.Su
