/- In plain words: the lines that Argue keeps are few, right, and hold wherever the premises do; where the goal does not come they are closed under the rules. No program text. -/
import Derived.Test.YtcnanbimpajonaaPm
import Derived.Test.YtcnanbimpajonaaAu
import Derived.Test.YtcnanbimpajonaaSn
namespace Go.Proofs.Ytcnanbimpajonaa.Pn
open Cl Co Nu Ag Cs Hd He Ua Us Bg Nd Au Ri Sn Pm

/-- a line has that claim -/
def In (L : List Ln) (c : C) : Prop := ∃ l ∈ L, l.2.1 = c
theorem idx_none {L : List Ln} {c : C} : idx L c = none ↔ ¬ In L c := by
  unfold idx In
  rw [List.findIdx?_eq_none_iff]
  constructor
  · rintro h ⟨l, hl, e⟩
    have := h l hl
    simp [e] at this
  · intro h l hl
    cases e : (l.2.1 == c) with
    | false => rfl
    | true => exact absurd ⟨l, hl, eq_of_beq e⟩ h
theorem idx_in {L : List Ln} {c : C} (h : In L c) : ∃ n, idx L c = some n := by
  cases e : idx L c with
  | none => exact absurd h (idx_none.1 e)
  | some n => exact ⟨n, rfl⟩
theorem in_of_idx {L : List Ln} {c : C} {n : Nat} (h : idx L c = some n) : In L c := by
  apply Classical.byContradiction
  intro hc
  rw [idx_none.2 hc] at h
  cases h
theorem idx_at {L : List Ln} {c : C} {n : Nat} (h : idx L c = some n) : ∃ l, L[n]? = some l ∧ l.2.1 = c := by
  unfold idx at h
  rw [List.findIdx?_eq_some_iff_getElem] at h
  obtain ⟨hn, he, _⟩ := h
  exact ⟨L[n], List.getElem?_eq_getElem hn, eq_of_beq he⟩
theorem mapM_idx {L : List Ln} : ∀ {of : List C}, (∀ p ∈ of, In L p) → ∃ fr, of.mapM (idx L) = some fr
  | [], _ => ⟨[], rfl⟩
  | p :: of, h => by
    obtain ⟨n, hn⟩ := idx_in (h p List.mem_cons_self)
    obtain ⟨fr, hf⟩ := mapM_idx (of := of) (fun q hq => h q (List.mem_cons_of_mem _ hq))
    exact ⟨n :: fr, by rw [List.mapM_cons, hn, hf]; rfl⟩

theorem put_cases (L : List Ln) (r : Int) (c : C) (fr : List Int) : (In L c ∧ putL L r c fr = L) ∨ (¬ In L c ∧ putL L r c fr = L ++ [(r, c, fr)]) := by
  unfold putL
  by_cases h : In L c
  · obtain ⟨n, hn⟩ := idx_in h
    exact .inl ⟨h, by rw [hn]; rfl⟩
  · exact .inr ⟨h, by rw [idx_none.2 h]; rfl⟩
theorem come_cases (L : List Ln) (r : Int) (c : C) (of : List C) : comeL L r c of = L ∨ ∃ fr : List Nat, of.mapM (idx L) = some fr ∧ comesP r c of = true ∧ ¬ In L c ∧ comeL L r c of = L ++ [(r, c, fr.map fun (n : Nat) => (n : Int))] := by
  unfold comeL
  split
  · exact .inl rfl
  · rename_i fr hf
    by_cases h : comesP r c of = true
    · rw [if_pos h]
      rcases put_cases L r c (fr.map fun (n : Nat) => (n : Int)) with ⟨_, e⟩ | ⟨hn, e⟩
      · exact .inl e
      · exact .inr ⟨fr, hf, h, hn, e⟩
    · rw [if_neg h]
      exact .inl rfl
theorem come_in {L : List Ln} {r : Int} {c : C} {of : List C} (h : ∀ p ∈ of, In L p) (hc : comesP r c of = true) : In (comeL L r c of) c := by
  obtain ⟨fr, hf⟩ := mapM_idx h
  unfold comeL
  rw [hf]
  dsimp only
  rw [if_pos hc]
  rcases put_cases L r c (fr.map fun (n : Nat) => (n : Int)) with ⟨h1, e⟩ | ⟨_, e⟩
  · rw [e]; exact h1
  · rw [e]; exact ⟨_, List.mem_append_right _ List.mem_cons_self, rfl⟩
theorem come_pre (L : List Ln) (r : Int) (c : C) (of : List C) : ∃ M, comeL L r c of = L ++ M := by
  rcases come_cases L r c of with e | ⟨fr, _, _, _, e⟩
  · exact ⟨[], by rw [e, List.append_nil]⟩
  · exact ⟨_, e⟩
theorem In.app {L M : List Ln} {c : C} (h : In L c) : In (L ++ M) c := by
  obtain ⟨l, hl, e⟩ := h
  exact ⟨l, List.mem_append_left _ hl, e⟩

/-- what is tried of a claim: rule, claim, of which -/
def jobA1 (p : C) (x : Int) : List (Int × C × List C) :=
  [(5, (false, p.2.1, x), [p]), (6, (false, x, p.2.2), [p]), (3, (false, p.2.1, x), [p, (false, p.2.2, x)]), (3, (false, x, p.2.2), [(false, x, p.2.1), p]), (9, (true, x, p.2.2), [(true, x, p.2.1), p])]
def jobS1 (p : C) (x : Int) : List (Int × C × List C) := [(9, (true, p.2.1, x), [p, (false, p.2.2, x)])]
def jobsA (g p : C) : List (Int × C × List C) := (4, (false, -p.2.2, -p.2.1), [p]) :: (10, g, [p, (true, p.2.1, -p.2.2)]) :: lits.flatMap (jobA1 p)
def jobsS (g p : C) : List (Int × C × List C) := (7, (true, p.2.2, p.2.1), [p]) :: (8, (true, p.2.1, p.2.1), [p]) :: (10, g, [(false, p.2.1, -p.2.2), p]) :: lits.flatMap (jobS1 p)
def jobs (g p : C) : List (Int × C × List C) := if p.1 then jobsS g p else jobsA g p
def come1 (L : List Ln) (j : Int × C × List C) : List Ln := comeL L j.1 j.2.1 j.2.2
theorem fold_flat (f : Int → List (Int × C × List C)) (u : List Ln → Int → List Ln) (hu : ∀ L x, u L x = (f x).foldl come1 L) (xs : List Int) (L : List Ln) : xs.foldl u L = (xs.flatMap f).foldl come1 L := by
  induction xs generalizing L with
  | nil => rfl
  | cons x xs ih => rw [List.foldl_cons, List.flatMap_cons, List.foldl_append, hu, ih]
theorem use_jobs (g : C) (L : List Ln) (p : C) : Ytcnanbimpajonaa.Fd.useL g L p = (jobs g p).foldl come1 L := by
  unfold Ytcnanbimpajonaa.Fd.useL jobs
  split
  · unfold useSomeL jobsS
    rw [List.foldl_cons, List.foldl_cons, List.foldl_cons]
    exact fold_flat (jobS1 p) (uS p) (fun L x => rfl) lits _
  · unfold useAllL jobsA
    rw [List.foldl_cons, List.foldl_cons]
    exact fold_flat (jobA1 p) (uA p) (fun L x => rfl) lits _
theorem fold_pre (js : List (Int × C × List C)) (L : List Ln) : ∃ M, js.foldl come1 L = L ++ M := by
  induction js generalizing L with
  | nil => exact ⟨[], by simp⟩
  | cons j js ih =>
    obtain ⟨M1, e1⟩ := come_pre L j.1 j.2.1 j.2.2
    obtain ⟨M2, e2⟩ := ih (come1 L j)
    refine ⟨M1 ++ M2, ?_⟩
    rw [List.foldl_cons, e2]
    unfold come1
    rw [e1, List.append_assoc]
theorem fold_in {js : List (Int × C × List C)} {L : List Ln} {j : Int × C × List C} (hj : j ∈ js) (h : ∀ p ∈ j.2.2, In L p) (hc : comesP j.1 j.2.1 j.2.2 = true) : In (js.foldl come1 L) j.2.1 := by
  induction js generalizing L with
  | nil => cases hj
  | cons k js ih =>
    rw [List.foldl_cons]
    rcases List.mem_cons.1 hj with rfl | hj
    · obtain ⟨M, e⟩ := fold_pre js (come1 L j)
      rw [e]
      exact (come_in h hc).app
    · obtain ⟨M, e⟩ := come_pre L k.1 k.2.1 k.2.2
      refine ih hj fun p hp => ?_
      unfold come1
      rw [e]
      exact (h p hp).app

/-- what all lines keep -/
structure GoodL (ps : List C) (L : List Ln) : Prop where
  lit : ∀ l ∈ L, okC l.2.1 = true
  nd : (L.map fun l => l.2.1).Nodup
  snd : ∀ i (h : i < L.length), soundL ps (L.take i) L[i] = true
  few : ∀ l ∈ L, l.2.2.length ≤ 2
theorem GoodL.snoc {ps : List C} {L : List Ln} (h : GoodL ps L) {r : Int} {c : C} {fr : List Int} (hok : okC c = true) (hn : ¬ In L c) (hs : soundL ps L (r, c, fr) = true) (hf : fr.length ≤ 2) : GoodL ps (L ++ [(r, c, fr)]) := by
  refine ⟨fun l hl => ?_, ?_, fun i hi => ?_, fun l hl => ?_⟩
  · rcases List.mem_append.1 hl with hl | hl
    · exact h.lit l hl
    · rw [List.mem_singleton.1 hl]; exact hok
  · rw [List.map_append, List.nodup_append]
    refine ⟨h.nd, by simp, fun a ha b hb => ?_⟩
    simp only [List.map_cons, List.map_nil, List.mem_singleton] at hb
    subst hb
    intro e
    subst e
    obtain ⟨l, hl, e⟩ := List.mem_map.1 ha
    exact hn ⟨l, hl, e⟩
  · by_cases hlt : i < L.length
    · rw [List.getElem_append_left hlt, List.take_append_of_le_length (Nat.le_of_lt hlt)]
      exact h.snd i hlt
    · have e : i = L.length := by
        rw [List.length_append, List.length_singleton] at hi
        omega
      subst e
      rw [List.getElem_append_right (Nat.le_refl _)]
      simpa using hs
  · rcases List.mem_append.1 hl with hl | hl
    · exact h.few l hl
    · rw [List.mem_singleton.1 hl]; exact hf
theorem pick_idx {ps : List C} {L : List Ln} {r : Int} (hr : r ≠ 1) : ∀ {of : List C} {fr : List Nat}, of.mapM (idx L) = some fr → (fr.map fun (n : Nat) => (n : Int)).mapM (pickA ps L r) = some of
  | [], fr, h => by
    simp at h
    subst h
    rfl
  | p :: of, fr, h => by
    rw [List.mapM_cons] at h
    cases hp : idx L p with
    | none => rw [hp] at h; cases h
    | some n =>
      rw [hp] at h
      cases hf : of.mapM (idx L) with
      | none => rw [hf] at h; cases h
      | some fr' =>
        rw [hf] at h
        cases h
        obtain ⟨l, hl, e⟩ := idx_at hp
        have e1 : pickA ps L r (n : Int) = some p := by
          unfold pickA
          rw [if_neg (by omega), if_neg hr, Int.toNat_natCast, hl]
          show some l.2.1 = some p
          rw [e]
        rw [List.map_cons, List.mapM_cons, e1, pick_idx hr hf]
        rfl
theorem len_idx {L : List Ln} : ∀ {of : List C} {fr : List Nat}, of.mapM (idx L) = some fr → fr.length = of.length
  | [], fr, h => by
    simp at h
    subst h
    rfl
  | p :: of, fr, h => by
    rw [List.mapM_cons] at h
    cases hp : idx L p with
    | none => rw [hp] at h; cases h
    | some n =>
      rw [hp] at h
      cases hf : of.mapM (idx L) with
      | none => rw [hf] at h; cases h
      | some fr' =>
        rw [hf] at h
        cases h
        simp [len_idx hf]
theorem GoodL.come {ps : List C} {L : List Ln} (h : GoodL ps L) {r : Int} {c : C} {of : List C} (hr : r ≠ 1) (hl : of.length ≤ 2) (hok : okC c = true) : GoodL ps (comeL L r c of) := by
  rcases come_cases L r c of with e | ⟨fr, hf, hc, hn, e⟩
  · rw [e]; exact h
  · rw [e]
    refine h.snoc hok hn ?_ (by rw [List.length_map, len_idx hf]; exact hl)
    unfold soundL
    dsimp only
    rw [pick_idx hr hf]
    dsimp only
    rw [if_neg hr]
    exact hc
/-- a job of literals -/
def JobOk (j : Int × C × List C) : Prop := j.1 ≠ 1 ∧ j.2.2.length ≤ 2 ∧ okC j.2.1 = true
theorem GoodL.fold {ps : List C} {js : List (Int × C × List C)} (hj : ∀ j ∈ js, JobOk j) {L : List Ln} (h : GoodL ps L) : GoodL ps (js.foldl come1 L) := by
  induction js generalizing L with
  | nil => exact h
  | cons j js ih =>
    rw [List.foldl_cons]
    obtain ⟨h1, h2, h3⟩ := hj j List.mem_cons_self
    exact ih (fun k hk => hj k (List.mem_cons_of_mem _ hk)) (h.come h1 h2 h3)
theorem mem_lits {x : Int} : x ∈ lits ↔ litB x = true := by
  unfold lits litB
  simp only [List.mem_cons, List.not_mem_nil, or_false, decide_eq_true_eq]
  omega
theorem ok_mk {s : Bool} {a b : Int} (ha : litB a = true) (hb : litB b = true) : okC (s, a, b) = true := by
  unfold okC
  rw [ha, hb]
  rfl
theorem ok_fst {c : C} (h : okC c = true) : litB c.2.1 = true := by unfold okC at h; exact (Bool.and_eq_true _ _ ▸ h).1
theorem ok_snd {c : C} (h : okC c = true) : litB c.2.2 = true := by unfold okC at h; exact (Bool.and_eq_true _ _ ▸ h).2
theorem jobs_ok {g p : C} (hg : okC g = true) (hp : okC p = true) : ∀ j ∈ jobs g p, JobOk j := by
  intro j hj
  have h1 := ok_fst hp
  have h2 := ok_snd hp
  unfold jobs at hj
  split at hj
  · unfold jobsS at hj
    simp only [List.mem_cons, List.mem_flatMap, jobS1, List.not_mem_nil, or_false] at hj
    rcases hj with rfl | rfl | rfl | ⟨x, hx, rfl⟩
    · exact ⟨by simp, by simp, ok_mk h2 h1⟩
    · exact ⟨by simp, by simp, ok_mk h1 h1⟩
    · exact ⟨by simp, by simp, hg⟩
    · exact ⟨by simp, by simp, ok_mk h1 (mem_lits.1 hx)⟩
  · unfold jobsA at hj
    simp only [List.mem_cons, List.mem_flatMap, jobA1, List.not_mem_nil, or_false] at hj
    rcases hj with rfl | rfl | ⟨x, hx, rfl | rfl | rfl | rfl | rfl⟩
    · exact ⟨by simp, by simp, ok_mk (lit_neg h2) (lit_neg h1)⟩
    · exact ⟨by simp, by simp, hg⟩
    · exact ⟨by simp, by simp, ok_mk h1 (mem_lits.1 hx)⟩
    · exact ⟨by simp, by simp, ok_mk (mem_lits.1 hx) h2⟩
    · exact ⟨by simp, by simp, ok_mk h1 (mem_lits.1 hx)⟩
    · exact ⟨by simp, by simp, ok_mk (mem_lits.1 hx) h2⟩
    · exact ⟨by simp, by simp, ok_mk (mem_lits.1 hx) h2⟩
theorem GoodL.use {ps : List C} {L : List Ln} {g p : C} (h : GoodL ps L) (hg : okC g = true) (hp : okC p = true) : GoodL ps (Ytcnanbimpajonaa.Fd.useL g L p) := by
  rw [use_jobs]
  exact h.fold (jobs_ok hg hp)

theorem nodup_le {α : Type} [BEq α] [LawfulBEq α] : ∀ (A B : List α), A.Nodup → (∀ a ∈ A, a ∈ B) → A.length ≤ B.length
  | [], _, _, _ => Nat.zero_le _
  | a :: A, B, hn, h => by
    have ha := h a List.mem_cons_self
    obtain ⟨hna, hn'⟩ := List.nodup_cons.1 hn
    have := nodup_le A (B.erase a) hn' (fun b hb => (List.mem_erase_of_ne (fun (e : b = a) => hna (e ▸ hb))).2 (h b (List.mem_cons_of_mem _ hb)))
    have e := List.length_erase_of_mem ha
    have : 0 < B.length := List.length_pos_of_mem ha
    rw [List.length_cons]
    omega
def allClaims : List C := [false, true].flatMap fun s => lits.flatMap fun a => lits.map fun b => (s, a, b)
theorem all_len : allClaims.length = 288 := by decide +kernel
theorem ok_mem {c : C} (h : okC c = true) : c ∈ allClaims := by
  obtain ⟨s, a, b⟩ := c
  unfold allClaims
  refine List.mem_flatMap.2 ⟨s, by cases s <;> simp, List.mem_flatMap.2 ⟨a, mem_lits.2 (ok_fst h), List.mem_map.2 ⟨b, mem_lits.2 (ok_snd h), rfl⟩⟩⟩
theorem GoodL.len {ps : List C} {L : List Ln} (h : GoodL ps L) : L.length ≤ 288 := by
  have := nodup_le (L.map fun l => l.2.1) allClaims h.nd (fun c hc => by
    obtain ⟨l, hl, rfl⟩ := List.mem_map.1 hc
    exact ok_mem (h.lit l hl))
  rw [all_len, List.length_map] at this
  exact this
theorem GoodL.ahead {ps : List C} {L : List Ln} (h : GoodL ps L) : Ahead L := by
  intro i l hl hr n hn
  obtain ⟨hi, rfl⟩ := List.getElem?_eq_some_iff.1 hl
  have hs := h.snd i hi
  unfold soundL at hs
  obtain ⟨k, hk, rfl⟩ := List.getElem_of_mem hn
  cases hp : pickA ps (L.take i) L[i].1 (L[i].2.2[k]) with
  | none => rw [mapM_none hk hp] at hs; cases hs
  | some c =>
    unfold pickA at hp
    split at hp
    · cases hp
    · rename_i h0
      cases hg : (L.take i)[(L[i].2.2[k]).toNat]? with
      | none => rw [hg] at hp; cases hp
      | some x =>
        have := (List.getElem?_eq_some_iff.1 hg).1
        rw [List.length_take] at this
        omega
end Go.Proofs.Ytcnanbimpajonaa.Pn
