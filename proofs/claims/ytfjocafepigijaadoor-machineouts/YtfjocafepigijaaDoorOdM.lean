/- How far nodes are from an end, in plain words: what measure (62) does to a table of numbers, round by round. No program text; no conditions. -/
namespace Go.Proofs.YtfjocafepigijaaDoor.Ot

/-- from u an end is come to in at most n steps, and k symbols are written; u ∈ p0 v: a step from u to v that writes nothing, u ∈ p1 v: one that writes one -/
def Dn (p0 p1 : Nat → List Nat) (F : List Nat) : Nat → Nat → Nat → Prop
  | 0, k, u => k = 0 ∧ u ∈ F
  | n + 1, k, u => (k = 0 ∧ u ∈ F) ∨ (∃ v, u ∈ p0 v ∧ Dn p0 p1 F n k v) ∨ (∃ v j, k = j + 1 ∧ u ∈ p1 v ∧ Dn p0 p1 F n j v)
def Di (p0 p1 : Nat → List Nat) (F : List Nat) (k u : Nat) : Prop := ∃ n, Dn p0 p1 F n k u
theorem Di.ends {p0 p1 : Nat → List Nat} {F : List Nat} {u : Nat} (h : u ∈ F) : Di p0 p1 F 0 u := ⟨0, rfl, h⟩
theorem Di.zero {p0 p1 : Nat → List Nat} {F : List Nat} {k u v : Nat} (h : u ∈ p0 v) (hd : Di p0 p1 F k v) : Di p0 p1 F k u := by
  obtain ⟨n, hd⟩ := hd
  exact ⟨n + 1, .inr (.inl ⟨v, h, hd⟩)⟩
theorem Di.one {p0 p1 : Nat → List Nat} {F : List Nat} {k u v : Nat} (h : u ∈ p1 v) (hd : Di p0 p1 F k v) : Di p0 p1 F (k + 1) u := by
  obtain ⟨n, hd⟩ := hd
  exact ⟨n + 1, .inr (.inr ⟨v, k, rfl, h, hd⟩)⟩
/-- a round: N the table, w what is written, st the nodes that wait, mo those of the next round, L + 1 what is not measured -/
structure Ms (p0 p1 : Nat → List Nat) (F : List Nat) (L : Nat) (N : Nat → Nat) (w : Nat) (st mo : List Nat) : Prop where
  dom : ∀ v, N v ≤ w ∨ N v = L + 1
  snd : ∀ v, N v ≤ w → Di p0 p1 F (N v) v
  ist : ∀ v ∈ st, Di p0 p1 F w v
  imo : ∀ v ∈ mo, Di p0 p1 F (w + 1) v
  low : ∀ k v, k < w → Di p0 p1 F k v → N v ≤ k
  fin : ∀ v ∈ F, N v ≤ w ∨ v ∈ st
  cl0 : ∀ v, N v ≤ w → ∀ u ∈ p0 v, N u ≤ w ∨ u ∈ st
  cl1 : ∀ v, N v < w → ∀ u ∈ p1 v, N u ≤ w ∨ u ∈ st
  nx1 : ∀ v, N v = w → ∀ u ∈ p1 v, u ∈ mo
theorem Ms.begin (p0 p1 : Nat → List Nat) (F : List Nat) (L : Nat) : Ms p0 p1 F L (fun _ => L + 1) 0 F [] :=
  ⟨fun _ => .inr rfl, fun v h => by omega, fun v h => Di.ends h, fun v h => (by cases h), fun k v h => by omega, fun v h => .inr h, fun v h => by omega, fun v h => by omega, fun v h => by omega⟩
/-- a node that is measured already is left -/
theorem Ms.skip {p0 p1 : Nat → List Nat} {F : List Nat} {L : Nat} {N : Nat → Nat} {w v : Nat} {st mo : List Nat} (h : Ms p0 p1 F L N w (st ++ [v]) mo) (hv : N v ≤ w) : Ms p0 p1 F L N w st mo := by
  have out : ∀ u, N u ≤ w ∨ u ∈ st ++ [v] → N u ≤ w ∨ u ∈ st := fun u hu => by
    rcases hu with hu | hu
    · exact .inl hu
    · rcases List.mem_append.1 hu with hu | hu
      · exact .inr hu
      · rw [List.mem_singleton.1 hu]; exact .inl hv
  exact ⟨h.dom, h.snd, fun u hu => h.ist u (List.mem_append_left _ hu), h.imo, h.low, fun u hu => out u (h.fin u hu), fun x hx u hu => out u (h.cl0 x hx u hu), fun x hx u hu => out u (h.cl1 x hx u hu), h.nx1⟩
/-- one that is not measured yet is, and the nodes behind it wait -/
theorem Ms.take {p0 p1 : Nat → List Nat} {F : List Nat} {L : Nat} {N : Nat → Nat} {w v : Nat} {st mo : List Nat} (h : Ms p0 p1 F L N w (st ++ [v]) mo) (hv : ¬ N v ≤ w) : Ms p0 p1 F L (fun x => if x = v then w else N x) w (st ++ p0 v) (mo ++ p1 v) := by
  have dv := h.ist v (by simp)
  have eq : ∀ x, x ≠ v → (if x = v then w else N x) = N x := fun x hx => if_neg hx
  have ev : (if v = v then w else N v) = w := if_pos rfl
  have out : ∀ u, N u ≤ w ∨ u ∈ st ++ [v] → (if u = v then w else N u) ≤ w ∨ u ∈ st ++ p0 v := fun u hu => by
    by_cases huv : u = v
    · subst huv; exact .inl (Nat.le_of_eq ev)
    · rw [eq u huv]
      rcases hu with hu | hu
      · exact .inl hu
      · rcases List.mem_append.1 hu with hu | hu
        · exact .inr (List.mem_append_left _ hu)
        · exact absurd (List.mem_singleton.1 hu) huv
  refine ⟨fun x => ?_, fun x hx => ?_, fun u hu => ?_, fun u hu => ?_, fun k x hk hd => ?_, fun u hu => out u (h.fin u hu), fun x hx u hu => ?_, fun x hx u hu => ?_, fun x hx u hu => ?_⟩
  · by_cases hxv : x = v
    · subst hxv; exact .inl (Nat.le_of_eq ev)
    · rw [eq x hxv]; exact h.dom x
  · by_cases hxv : x = v
    · subst hxv; rw [ev]; exact dv
    · rw [eq x hxv] at hx ⊢; exact h.snd x hx
  · rcases List.mem_append.1 hu with hu | hu
    · exact h.ist u (List.mem_append_left _ hu)
    · exact Di.zero hu dv
  · rcases List.mem_append.1 hu with hu | hu
    · exact h.imo u hu
    · exact Di.one hu dv
  · have h1 := h.low k x hk hd
    by_cases hxv : x = v
    · subst hxv; omega
    · rw [eq x hxv]; exact h1
  · by_cases hxv : x = v
    · subst hxv; exact .inr (List.mem_append_right _ hu)
    · rw [eq x hxv] at hx; exact out u (h.cl0 x hx u hu)
  · by_cases hxv : x = v
    · subst hxv; rw [ev] at hx; omega
    · rw [eq x hxv] at hx; exact out u (h.cl1 x hx u hu)
  · by_cases hxv : x = v
    · subst hxv; exact List.mem_append_right _ hu
    · rw [eq x hxv] at hx; exact List.mem_append_left _ (h.nx1 x hx u hu)
/-- when nobody waits, all that are so near are measured -/
theorem Ms.near {p0 p1 : Nat → List Nat} {F : List Nat} {L : Nat} {N : Nat → Nat} {w : Nat} {mo : List Nat} (h : Ms p0 p1 F L N w [] mo) (k v : Nat) (hk : k ≤ w) (hd : Di p0 p1 F k v) : N v ≤ k := by
  rcases Nat.lt_or_ge k w with hlt | hge
  · exact h.low k v hlt hd
  obtain rfl : k = w := by omega
  have none : ∀ u, N u ≤ k ∨ u ∈ ([] : List Nat) → N u ≤ k := fun u hu => hu.elim id (fun h => by cases h)
  obtain ⟨n, hd⟩ := hd
  induction n generalizing v with
  | zero => exact none v (h.fin v hd.2)
  | succ n ih =>
    rcases hd with ⟨_, hF⟩ | ⟨x, hx, hd⟩ | ⟨x, j, hj, hx, hd⟩
    · exact none v (h.fin v hF)
    · exact none v (h.cl0 x (ih x hd) v hx)
    · have := h.low j x (by omega) ⟨n, hd⟩
      exact none v (h.cl1 x (by omega) v hx)
/-- the next round -/
theorem Ms.next {p0 p1 : Nat → List Nat} {F : List Nat} {L : Nat} {N : Nat → Nat} {w : Nat} {mo : List Nat} (h : Ms p0 p1 F L N w [] mo) (hw : w + 1 ≤ L) : Ms p0 p1 F L N (w + 1) mo [] := by
  have small : ∀ v, N v ≤ w + 1 → N v ≤ w := fun v hv => by rcases h.dom v with h1 | h1 <;> omega
  have none : ∀ u, N u ≤ w ∨ u ∈ ([] : List Nat) → N u ≤ w := fun u hu => hu.elim id (fun h => by cases h)
  refine ⟨fun v => (h.dom v).imp (fun h => by omega) id, fun v hv => h.snd v (small v hv), h.imo, fun v hv => (by cases hv), fun k v hk hd => h.near k v (by omega) hd, fun v hv => .inl (by have := none v (h.fin v hv); omega), fun v hv u hu => .inl (by have := none u (h.cl0 v (small v hv) u hu); omega), fun v hv u hu => ?_, fun v hv => by have := small v (by omega); omega⟩
  rcases Nat.lt_or_ge (N v) w with h1 | h1
  · exact .inl (by have := none u (h.cl1 v h1 u hu); omega)
  · exact .inr (h.nx1 v (by omega) u hu)
/-- at last: the table says how far each node is -/
theorem Ms.done {p0 p1 : Nat → List Nat} {F : List Nat} {L : Nat} {N : Nat → Nat} {mo : List Nat} (h : Ms p0 p1 F L N L [] mo) (v k : Nat) (hk : k ≤ L) : N v ≤ k ↔ ∃ j, j ≤ k ∧ Di p0 p1 F j v :=
  ⟨fun hv => ⟨N v, hv, h.snd v (by omega)⟩, fun ⟨j, hj, hd⟩ => Nat.le_trans (h.near j v (by omega) hd) hj⟩
end Go.Proofs.YtfjocafepigijaaDoor.Ot
/- The key of a set in plain words: eight bytes a word; two sets with one key are the same. No program text; no conditions. -/
namespace Go.Proofs.YtfjocafepigijaaDoor.Ot

/-- a word's bytes, the lowest first -/
def bs (a : Nat) : List Nat := [a % 256, a / 256 % 256, a / 65536 % 256, a / 16777216 % 256, a / 4294967296 % 256, a / 1099511627776 % 256, a / 281474976710656 % 256, a / 72057594037927936 % 256]
def kb (ws : List Nat) : List Nat := ws.flatMap bs
theorem bs_len (a : Nat) : (bs a).length = 8 := rfl
theorem bs_byte (a : Nat) : ∀ x ∈ bs a, x < 256 := fun x h => by
  unfold bs at h
  simp only [List.mem_cons, List.not_mem_nil, or_false] at h
  omega
theorem bs_inj {a b : Nat} (ha : a < 18446744073709551616) (hb : b < 18446744073709551616) (h : bs a = bs b) : a = b := by
  unfold bs at h
  simp only [List.cons.injEq, and_true] at h
  omega
theorem kb_len (ws : List Nat) : (kb ws).length = ws.length * 8 := by
  induction ws with
  | nil => rfl
  | cons a l ih => simp only [kb, List.flatMap_cons, List.length_append, bs_len, List.length_cons] at ih ⊢; omega
theorem kb_byte (ws : List Nat) : ∀ x ∈ kb ws, x < 256 := fun x h => by
  obtain ⟨a, _, h⟩ := List.mem_flatMap.1 h
  exact bs_byte a x h
theorem kb_up (ws : List Nat) (a : Nat) : kb (ws ++ [a]) = kb ws ++ bs a := by simp [kb]
theorem kb_inj : ∀ {ws vs : List Nat}, (∀ a ∈ ws, a < 18446744073709551616) → (∀ a ∈ vs, a < 18446744073709551616) → kb ws = kb vs → ws = vs
  | [], [], _, _, _ => rfl
  | [], b :: vs, _, _, h => by
    have := congrArg List.length h
    rw [kb_len, kb_len] at this
    simp at this
  | a :: ws, [], _, _, h => by
    have := congrArg List.length h
    rw [kb_len, kb_len] at this
    simp at this
  | a :: ws, b :: vs, ha, hb, h => by
    have h1 : bs a ++ kb ws = bs b ++ kb vs := h
    obtain ⟨e1, e2⟩ := List.append_inj h1 (by rw [bs_len, bs_len])
    rw [bs_inj (ha a (by simp)) (hb b (by simp)) e1, kb_inj (fun x hx => ha x (by simp [hx])) (fun x hx => hb x (by simp [hx])) e2]
end Go.Proofs.YtfjocafepigijaaDoor.Ot
