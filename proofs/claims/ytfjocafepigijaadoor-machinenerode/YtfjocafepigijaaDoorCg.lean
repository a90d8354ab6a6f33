/- What a plain machine costs at a text and the same text: there is a cost just if the text is read. In plain words: no program text. Condition: the machine is right and plain, the text of at most 60 symbols. -/
import Derived.Test.YtfjocafepigijaaDoorCeM
import Derived.Test.YtfjocafepigijaaDoorFaM
import Derived.Test.YtfjocafepigijaaDoorRz
namespace Go.Proofs.YtfjocafepigijaaDoor.Su
open Mv Sy

/-- a text as numbers -/
def nt9 (t : List Nat) : List Int := t.map fun (k : Nat) => (k : Int)
theorem nt9_len (t : List Nat) : (nt9 t).length = t.length := by simp [nt9]
theorem nt9_at {t : List Nat} {i : Nat} {x : Int} (h : (nt9 t)[i]? = some x) : ∃ c : Nat, x = (c : Int) ∧ t[i]? = some c := by
  unfold nt9 at h
  rw [List.getElem?_map] at h
  cases e : t[i]? with
  | none => rw [e] at h; cases h
  | some c => rw [e] at h; cases h; exact ⟨c, rfl, rfl⟩
theorem drop_at {t : List Nat} {i c : Nat} (h : t[i]? = some c) : t.drop i = c :: t.drop (i + 1) := by
  obtain ⟨h1, h2⟩ := List.getElem?_eq_some_iff.1 h
  rw [← h2, ← List.drop_eq_getElem_cons h1]
theorem pl_arc {A : List (Int × Int × Int × Int × Int)} {F : List (Int × Int)} (hp : plB A F = true) {a : Int × Int × Int × Int × Int} (ha : a ∈ A) : a.2.2.1 = a.2.2.2.1 ∧ a.2.2.2.2 = 0 := by
  unfold plB at hp
  rw [Bool.and_eq_true, List.all_eq_true] at hp
  have h := hp.1 a ha
  unfold plA at h
  simpa using h
/-- a walk through a plain machine reads what is read -/
theorem reach_rd {m : M} {t : List Nat} (hp : plB m.arcs m.fins = true) : ∀ (n s i j c : Nat), Wk.ReachN m (nt9 t) (nt9 t) true n s i j c → i = j ∧ i ≤ t.length ∧ c = 0 ∧ (Rd m.arcs m.fins s (t.drop i) → Rd m.arcs m.fins 0 t)
  | 0, s, i, j, c, ⟨h1, h2, h3, h4⟩ => by
    subst h1 h2 h3 h4
    exact ⟨rfl, Nat.zero_le _, rfl, fun h => h⟩
  | n + 1, s', i', j', c', ⟨s, i, j, c, x, hx, hr, e1, e2, ⟨hm1, hm2⟩, e3⟩ => by
    obtain ⟨rfl, hil, rfl, hk⟩ := reach_rd hp n s i j c hr
    obtain ⟨p1, p2⟩ := pl_arc hp (List.getElem_mem hx)
    rw [p2] at e3
    rcases hm1 with ⟨z1, rfl⟩ | ⟨z1, z2, rfl⟩
    · rcases hm2 with ⟨_, rfl⟩ | ⟨y1, _, y2, rfl⟩
      · refine ⟨rfl, hil, by omega, fun h => hk (rd_cl ?_ h)⟩
        exact (Cl.refl s).step ⟨_, List.getElem_mem hx, e1, e2, z1⟩
      · omega
    · rcases hm2 with ⟨y1, rfl⟩ | ⟨y1, _, y2, rfl⟩
      · rcases y1 with y1 | y1
        · omega
        · cases y1
      · obtain ⟨d, hd, hd2⟩ := nt9_at z2
        have hlt := (List.getElem?_eq_some_iff.1 hd2).1
        refine ⟨rfl, hlt, by omega, fun h => hk ?_⟩
        rw [drop_at hd2]
        exact ⟨s, s', Cl.refl s, ⟨_, List.getElem_mem hx, e1, e2, hd⟩, h⟩
theorem reach_step {m : M} {t : List Nat} (hp : plB m.arcs m.fins = true) {s v i : Nat} (h : Wk.Reach m (nt9 t) (nt9 t) true s i i 0) : (Ed m.arcs 0 s v → Wk.Reach m (nt9 t) (nt9 t) true v i i 0) ∧ ∀ c, 1 ≤ c → t[i]? = some c → Ed m.arcs (c : Int) s v → Wk.Reach m (nt9 t) (nt9 t) true v (i + 1) (i + 1) 0 := by
  obtain ⟨n, h⟩ := h
  constructor
  · rintro ⟨a, ha, e1, e2, e3⟩
    obtain ⟨x, hx, rfl⟩ := List.getElem_of_mem ha
    obtain ⟨p1, p2⟩ := pl_arc hp ha
    exact ⟨n + 1, s, i, i, 0, x, hx, h, e1, e2, ⟨.inl ⟨e3, rfl⟩, .inl ⟨.inl (p1.symm.trans e3), rfl⟩⟩, by rw [p2]; rfl⟩
  · rintro c hc hti ⟨a, ha, e1, e2, e3⟩
    obtain ⟨x, hx, rfl⟩ := List.getElem_of_mem ha
    obtain ⟨p1, p2⟩ := pl_arc hp ha
    have hI : (nt9 t)[i]? = some (c : Int) := by unfold nt9; rw [List.getElem?_map, hti]; rfl
    exact ⟨n + 1, s, i, i, 0, x, hx, h, e1, e2, ⟨.inr ⟨by omega, by rw [e3]; exact hI, rfl⟩, .inr ⟨by omega, rfl, by rw [← p1, e3]; exact hI, rfl⟩⟩, by rw [p2]; rfl⟩
theorem reach_cl {m : M} {t : List Nat} (hp : plB m.arcs m.fins = true) {s i : Nat} (h : Wk.Reach m (nt9 t) (nt9 t) true s i i 0) : ∀ (n v : Nat), ClN m.arcs n s v → Wk.Reach m (nt9 t) (nt9 t) true v i i 0
  | 0, v, e => by have e2 : s = v := e; subst e2; exact h
  | n + 1, v, ⟨x, h1, h2⟩ => (reach_step hp (reach_cl hp h n x h1)).1 h2
/-- what is read, a walk reads -/
theorem rd_reach {m : M} {t : List Nat} (hp : plB m.arcs m.fins = true) (ht : Tt t) : ∀ (u : List Nat) (s i : Nat), t.drop i = u → i ≤ t.length → Wk.Reach m (nt9 t) (nt9 t) true s i i 0 → Rd m.arcs m.fins s u → ∃ f ∈ m.fins, ∃ s' : Nat, f.1 = (s' : Int) ∧ Wk.Reach m (nt9 t) (nt9 t) true s' t.length t.length 0
  | [], s, i, hd, hi, h, ⟨v, ⟨n, hc⟩, f, hf, e⟩ => by
    have e2 : t.length - i = 0 := by rw [← List.length_drop, hd]; rfl
    obtain rfl : i = t.length := by omega
    exact ⟨f, hf, v, e, reach_cl hp h n v hc⟩
  | c :: u, s, i, hd, hi, h, ⟨v, v', ⟨n, hc⟩, he, hr⟩ => by
    have hti : t[i]? = some c := by
      have h1 : (t.drop i)[0]? = some c := by rw [hd]; rfl
      rw [List.getElem?_drop] at h1
      exact h1
    have hlt := (List.getElem?_eq_some_iff.1 hti).1
    have hd2 : t.drop (i + 1) = u := by
      have h1 := drop_at hti
      rw [hd] at h1
      exact (List.cons.inj h1).2.symm
    exact rd_reach hp ht u v' (i + 1) hd2 hlt ((reach_step hp (reach_cl hp h n v hc)).2 c (ht c (List.mem_of_getElem? hti)).1 hti he) hr
/-- the walk that ends, and the text that is read -/
theorem acc_rd {m : M} {t : List Nat} (hp : plB m.arcs m.fins = true) (ht : Tt t) : (∃ f ∈ m.fins, ∃ s c : Nat, f.1 = (s : Int) ∧ Wk.Reach m (nt9 t) (nt9 t) true s t.length t.length c) ↔ Rd m.arcs m.fins 0 t := by
  constructor
  · rintro ⟨f, hf, s, c, e, n, h⟩
    obtain ⟨_, _, _, h4⟩ := reach_rd hp n s _ _ c h
    refine h4 ?_
    rw [List.drop_length]
    exact ⟨s, Cl.refl s, f, hf, e⟩
  · intro h
    obtain ⟨f, hf, s, e, hr⟩ := rd_reach hp ht t 0 0 rfl (Nat.zero_le _) ⟨0, rfl, rfl, rfl, rfl⟩ h
    exact ⟨f, hf, s, 0, e, hr⟩
theorem okS_nt {t : List Nat} (ht : Tt t) : allS (nt9 t) = true := by
  unfold allS
  rw [List.all_eq_true]
  intro x hx
  unfold nt9 at hx
  obtain ⟨c, hc, rfl⟩ := List.mem_map.1 hx
  have := ht c hc
  unfold okS
  simp
  omega
/-- Cost at a plain machine and one text -/
theorem cost_rd {m : M} {t : List Nat} (hx : checkP m 0) (hp : plB m.arcs m.fins = true) (ht : Tt t) (hl : t.length ≤ 60) {c e : Int} {ok : Bool} (h : Rz.Res m (nt9 t) (nt9 t) c ok e) : e = 0 ∧ (ok = true ↔ Rd m.arcs m.fins 0 t) := by
  have hj : Sy.jn (nt9 t) (nt9 t) = 0 := Rz.jn_ok (by rw [nt9_len]; omega) (by rw [nt9_len]; omega) (okS_nt ht) (okS_nt ht)
  have hk := acc_rd hp ht
  rcases h with ⟨h1, h2, _⟩ | ⟨_, h1, h2, _⟩ | ⟨_, _, he, h3⟩
  · exact absurd (checkP_one h1 hx) h2
  · exact absurd (h1.symm.trans hj) h2
  · refine ⟨he, ?_⟩
    rw [← hk]
    rcases h3 with ⟨h4, _, rfl⟩ | ⟨v, ⟨⟨y, hy, f, d, h5, h6, _⟩, _⟩, _, rfl⟩
    · refine ⟨fun h => (by cases h), ?_⟩
      rintro ⟨f, hf, s, d, h5, h6⟩
      obtain ⟨y, hy, rfl⟩ := List.getElem_of_mem hf
      have h7 := h4 y hy s d h5
      rw [nt9_len] at h7
      exact absurd h6 h7
    · refine ⟨fun _ => ?_, fun _ => rfl⟩
      rw [nt9_len] at h6
      exact ⟨_, List.getElem_mem hy, f, d, h5, h6⟩
end Go.Proofs.YtfjocafepigijaaDoor.Su
