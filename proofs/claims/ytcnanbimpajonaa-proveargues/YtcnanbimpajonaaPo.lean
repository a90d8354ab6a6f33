/- In plain words: right lines hold wherever the premises do; what Argue begins with; where it ends without the goal its lines are closed, and there is a world against the goal. No program text. -/
import Derived.Test.YtcnanbimpajonaaPn
namespace Go.Proofs.Ytcnanbimpajonaa.Po
open Cl Co Nu Ag Cs Hd He Ua Us Bg Nd Au Ri Sn Pm Pn

theorem holds_all {xs : List Int} {a b : Int} : holdsP xs (false, a, b) = true ↔ ∀ x ∈ xs, isP x a = true → isP x b = true := by
  show (!xs.any fun x => isP x a && !isP x b) = true ↔ _
  rw [Bool.not_eq_true', List.any_eq_false]
  constructor
  · intro h x hx ha
    have := h x hx
    rw [ha] at this
    simpa using this
  · intro h x hx
    cases ha : isP x a with
    | false => simp
    | true => rw [h x hx ha]; simp
theorem holds_some {xs : List Int} {a b : Int} : holdsP xs (true, a, b) = true ↔ ∃ x ∈ xs, isP x a = true ∧ isP x b = true := by
  show (xs.any fun x => isP x a && isP x b) = true ↔ _
  rw [List.any_eq_true]
  simp only [Bool.and_eq_true]

theorem one_sound {xs : List Int} {r : Int} {c p : C} (hok : okC p = true) (hc : okC c = true) (h : comes1 r c p = true) (hp : holdsP xs p = true) : holdsP xs c = true := by
  obtain ⟨c0, c1, c2⟩ := c
  obtain ⟨p0, p1, p2⟩ := p
  have l1 : litB p1 = true := ok_fst hok
  have l2 : litB p2 = true := ok_snd hok
  unfold comes1 at h
  dsimp only at h
  split at h
  · simp only [Bool.and_eq_true, Bool.not_eq_true', beq_iff_eq] at h
    obtain ⟨⟨⟨rfl, rfl⟩, rfl⟩, rfl⟩ := h
    rw [holds_all] at hp ⊢
    intro x hx hb
    rw [isP_neg x l2] at hb
    rw [isP_neg x l1]
    cases ha : isP x p1 with
    | false => rfl
    | true => rw [hp x hx ha] at hb; cases hb
  · split at h
    · simp only [Bool.and_eq_true, Bool.not_eq_true', beq_iff_eq] at h
      obtain ⟨⟨⟨rfl, rfl⟩, rfl⟩, rfl⟩ := h
      rw [holds_all] at hp ⊢
      intro x hx ha
      have := hp x hx ha
      rw [isP_neg x l1, ha] at this
      cases this
    · split at h
      · simp only [Bool.and_eq_true, Bool.not_eq_true', beq_iff_eq] at h
        obtain ⟨⟨⟨rfl, rfl⟩, rfl⟩, rfl⟩ := h
        rw [holds_all] at hp ⊢
        intro x hx _
        cases hb : isP x c2 with
        | true => rfl
        | false =>
          have := hp x hx (by rw [isP_neg x l2, hb]; rfl)
          rw [hb] at this
          cases this
      · split at h
        · simp only [Bool.and_eq_true, beq_iff_eq] at h
          obtain ⟨⟨⟨rfl, rfl⟩, rfl⟩, rfl⟩ := h
          rw [holds_some] at hp ⊢
          obtain ⟨x, hx, h1, h2⟩ := hp
          exact ⟨x, hx, h2, h1⟩
        · split at h
          · simp only [Bool.and_eq_true, beq_iff_eq] at h
            obtain ⟨⟨⟨rfl, rfl⟩, h1⟩, h2⟩ := h
            subst h1 h2
            rw [holds_some] at hp ⊢
            obtain ⟨x, hx, h1, h2⟩ := hp
            exact ⟨x, hx, h1, h1⟩
          · cases h
theorem two_sound {xs : List Int} {r : Int} {c p q : C} (hp0 : okC p = true) (h : comes2 r c p q = true) (hp : holdsP xs p = true) (hq : holdsP xs q = true) : holdsP xs c = true := by
  obtain ⟨c0, c1, c2⟩ := c
  obtain ⟨p0, p1, p2⟩ := p
  obtain ⟨q0, q1, q2⟩ := q
  have l2 : litB p2 = true := ok_snd hp0
  unfold comes2 at h
  dsimp only at h
  split at h
  · simp only [Bool.and_eq_true, Bool.not_eq_true', beq_iff_eq] at h
    obtain ⟨⟨⟨⟨⟨rfl, rfl⟩, rfl⟩, rfl⟩, rfl⟩, rfl⟩ := h
    rw [holds_all] at hp hq ⊢
    exact fun x hx ha => hq x hx (hp x hx ha)
  · split at h
    · simp only [Bool.and_eq_true, Bool.not_eq_true', beq_iff_eq] at h
      obtain ⟨⟨⟨⟨⟨rfl, rfl⟩, rfl⟩, rfl⟩, rfl⟩, rfl⟩ := h
      rw [holds_all] at hq
      rw [holds_some] at hp ⊢
      obtain ⟨x, hx, h1, h2⟩ := hp
      exact ⟨x, hx, h1, hq x hx h2⟩
    · split at h
      · simp only [Bool.and_eq_true, Bool.not_eq_true', beq_iff_eq] at h
        obtain ⟨⟨⟨rfl, rfl⟩, rfl⟩, rfl⟩ := h
        rw [holds_all] at hp
        rw [holds_some] at hq
        obtain ⟨x, hx, h1, h2⟩ := hq
        have := hp x hx h1
        rw [isP_neg x l2, this] at h2
        cases h2
      · cases h
theorem comes_sound {xs : List Int} {r : Int} {c : C} {of : List C} (hok : ∀ p ∈ of, okC p = true) (hc : okC c = true) (h : comesP r c of = true) (hp : ∀ p ∈ of, holdsP xs p = true) : holdsP xs c = true := by
  match of with
  | [] =>
    obtain ⟨c0, c1, c2⟩ := c
    unfold comesP at h
    simp only [Bool.and_eq_true, Bool.not_eq_true', beq_iff_eq] at h
    obtain ⟨_, rfl, rfl⟩ := h
    rw [holds_all]
    exact fun _ _ h => h
  | [p] => exact one_sound (hok p (by simp)) hc h (hp p (by simp))
  | [p, q] => exact two_sound (hok p (by simp)) h (hp p (by simp)) (hp q (by simp))
  | _ :: _ :: _ :: _ => cases h

/-- right lines hold wherever the premises do -/
theorem right_holds {ps : List C} {L : List Ln} (hs : ∀ i (h : i < L.length), soundL ps (L.take i) L[i] = true) (hl : ∀ l ∈ L, okC l.2.1 = true) (hps : ∀ p ∈ ps, okC p = true) {xs : List Int} (hp : ∀ p ∈ ps, holdsP xs p = true) : ∀ i (h : i < L.length), holdsP xs (L[i]).2.1 = true := by
  intro i
  induction i using Nat.strongRecOn with
  | ind i ih =>
    intro h
    have hi := hs i h
    unfold soundL at hi
    cases hm : (L[i]).2.2.mapM (pickA ps (L.take i) (L[i]).1) with
    | none => rw [hm] at hi; cases hi
    | some of =>
      rw [hm] at hi
      dsimp only at hi
      have hof : ∀ p ∈ of, okC p = true ∧ holdsP xs p = true := fun p hpo => by
        obtain ⟨n, hn⟩ := mapM_mem hm hpo
        unfold pickA at hn
        split at hn
        · cases hn
        · split at hn
          · have := List.mem_of_getElem? hn
            exact ⟨hps p this, hp p this⟩
          · cases hg : (L.take i)[n.toNat]? with
            | none => rw [hg] at hn; cases hn
            | some l =>
              rw [hg] at hn
              cases hn
              obtain ⟨hlt, he⟩ := List.getElem?_eq_some_iff.1 hg
              rw [List.length_take] at hlt
              rw [List.getElem_take] at he
              rw [← he]
              exact ⟨hl _ (List.getElem_mem _), ih n.toNat (by omega) (by omega)⟩
      split at hi
      · have e := eq_of_beq hi
        subst e
        exact (hof _ (by simp)).2
      · exact comes_sound (fun p h => (hof p h).1) (hl _ (List.getElem_mem _)) hi (fun p h => (hof p h).2)
theorem good_holds {ps : List C} {L : List Ln} (h : GoodL ps L) (hps : ∀ p ∈ ps, okC p = true) {xs : List Int} (hp : ∀ p ∈ ps, holdsP xs p = true) {c : C} (hc : In L c) : holdsP xs c = true := by
  obtain ⟨l, hl, rfl⟩ := hc
  obtain ⟨i, hi, rfl⟩ := List.getElem_of_mem hl
  exact right_holds h.snd h.lit hps hp i hi

theorem good_put {ps : List C} {L : List Ln} (h : GoodL ps L) {r : Int} {c : C} {fr : List Int} (hok : okC c = true) (hs : soundL ps L (r, c, fr) = true) (hf : fr.length ≤ 2) : GoodL ps (putL L r c fr) := by
  rcases put_cases L r c fr with ⟨_, e⟩ | ⟨hn, e⟩
  · rw [e]; exact h
  · rw [e]; exact h.snoc hok hn hs hf
theorem put_pre (L : List Ln) (r : Int) (c : C) (fr : List Int) : (∃ M, putL L r c fr = L ++ M) ∧ In (putL L r c fr) c := by
  rcases put_cases L r c fr with ⟨h, e⟩ | ⟨_, e⟩
  · exact ⟨⟨[], by rw [e, List.append_nil]⟩, by rw [e]; exact h⟩
  · exact ⟨⟨_, e⟩, by rw [e]; exact ⟨_, List.mem_append_right _ List.mem_cons_self, rfl⟩⟩
theorem given_good (ps : List C) (hps : ∀ p ∈ ps, okC p = true) : ∀ (qs pre : List C) (L : List Ln), ps = pre ++ qs → GoodL ps L → GoodL ps (givenL L pre.length qs) ∧ (∃ M, givenL L pre.length qs = L ++ M) ∧ ∀ q ∈ qs, In (givenL L pre.length qs) q
  | [], _, L, _, h => ⟨h, ⟨[], by simp [givenL]⟩, fun q hq => by cases hq⟩
  | q :: qs, pre, L, e, h => by
    have hq : okC q = true := hps q (by rw [e]; simp)
    have hg : GoodL ps (putL L 1 q [(pre.length : Int)]) := by
      refine good_put h hq ?_ (by simp)
      have e1 : pickA ps L 1 (pre.length : Int) = some q := by
        unfold pickA
        rw [if_neg (by omega), if_pos rfl, Int.toNat_natCast, e]
        simp
      unfold soundL
      simp only [List.mapM_cons, List.mapM_nil, e1]
      simp
    obtain ⟨⟨M1, e1⟩, hin⟩ := put_pre L 1 q [(pre.length : Int)]
    have ih := given_good ps hps qs (pre ++ [q]) (putL L 1 q [(pre.length : Int)]) (by rw [e]; simp) hg
    rw [List.length_append, List.length_singleton] at ih
    obtain ⟨i1, ⟨M2, e2⟩, i3⟩ := ih
    have eu : givenL L pre.length (q :: qs) = givenL (putL L 1 q [(pre.length : Int)]) (pre.length + 1) qs := rfl
    rw [eu]
    refine ⟨i1, ⟨M1 ++ M2, by rw [e2, e1, List.append_assoc]⟩, fun p hp => ?_⟩
    rcases List.mem_cons.1 hp with rfl | hp
    · rw [e2]; exact hin.app
    · exact i3 p hp
theorem self_good (ps : List C) : ∀ (xs : List Int) (L : List Ln), (∀ x ∈ xs, litB x = true) → GoodL ps L → GoodL ps (xs.foldl selfL L) ∧ (∃ M, xs.foldl selfL L = L ++ M) ∧ ∀ x ∈ xs, In (xs.foldl selfL L) (false, x, x)
  | [], L, _, h => ⟨h, ⟨[], by simp⟩, fun x hx => by cases hx⟩
  | x :: xs, L, hx, h => by
    have hl := hx x List.mem_cons_self
    have hg : GoodL ps (selfL L x) := by
      unfold selfL
      refine good_put h (ok_mk hl hl) ?_ (by simp)
      unfold soundL
      simp [comesP]
    obtain ⟨⟨M1, e1⟩, hin⟩ := put_pre L 2 (false, x, x) []
    obtain ⟨i1, ⟨M2, e2⟩, i3⟩ := self_good ps xs (selfL L x) (fun y hy => hx y (List.mem_cons_of_mem _ hy)) hg
    rw [List.foldl_cons]
    refine ⟨i1, ⟨M1 ++ M2, by rw [e2]; unfold selfL; rw [e1, List.append_assoc]⟩, fun y hy => ?_⟩
    rcases List.mem_cons.1 hy with rfl | hy
    · rw [e2]; exact In.app hin
    · exact i3 y hy
theorem good_nil (ps : List C) : GoodL ps [] := ⟨(fun l h => by cases h), (by simp), (fun i h => by cases h), (fun l h => by cases h)⟩
theorem begun_good (ps : List C) (hps : ∀ p ∈ ps, okC p = true) : GoodL ps (begunL ps) ∧ (∀ p ∈ ps, In (begunL ps) p) ∧ ∀ x, litB x = true → In (begunL ps) (false, x, x) := by
  obtain ⟨g1, _, g3⟩ := given_good ps hps ps [] [] rfl (good_nil ps)
  obtain ⟨s1, ⟨M, s2⟩, s3⟩ := self_good ps lits (givenL [] 0 ps) (fun x hx => mem_lits.1 hx) g1
  refine ⟨s1, fun p hp => ?_, fun x hx => s3 x (mem_lits.2 hx)⟩
  show In (lits.foldl selfL (givenL [] 0 ps)) p
  rw [s2]
  exact (g3 p hp).app
/-- all that comes of the first so many lines is there -/
structure Done (g : C) (L : List Ln) (i : Nat) : Prop where
  turn : ∀ a b, In (L.take i) (false, a, b) → In L (false, -b, -a)
  void : ∀ a x, litB x = true → In (L.take i) (false, a, -a) → In L (false, a, x)
  full : ∀ b x, litB x = true → In (L.take i) (false, -b, b) → In L (false, x, b)
  swap : ∀ a b, In (L.take i) (true, a, b) → In L (true, b, a)
  there : ∀ a b, In (L.take i) (true, a, b) → In L (true, a, a)
  chain : ∀ a b c, In (L.take i) (false, a, b) → In (L.take i) (false, b, c) → In L (false, a, c)
  lead : ∀ a b c, In (L.take i) (true, a, b) → In (L.take i) (false, b, c) → In L (true, a, c)
  clash : ∀ a b, In (L.take i) (false, a, b) → In (L.take i) (true, a, -b) → In L g
theorem in_nil {c : C} (h : In [] c) : False := by
  obtain ⟨l, hl, _⟩ := h
  cases hl
theorem done_zero (g : C) (L : List Ln) : Done g L 0 := ⟨fun _ _ h => (in_nil h).elim, fun _ _ _ h => (in_nil h).elim, fun _ _ _ h => (in_nil h).elim, fun _ _ h => (in_nil h).elim, fun _ _ h => (in_nil h).elim, fun _ _ _ h => (in_nil h).elim, fun _ _ _ h => (in_nil h).elim, fun _ _ h => (in_nil h).elim⟩
theorem mem_lit {js : List (Int × C × List C)} {j j1 j2 : Int × C × List C} {f : Int → List (Int × C × List C)} {x : Int} (hx : litB x = true) (h : j ∈ f x) (e : js = j1 :: j2 :: lits.flatMap f) : j ∈ js := by
  rw [e]
  exact List.mem_cons_of_mem _ (List.mem_cons_of_mem _ (List.mem_flatMap.2 ⟨x, mem_lits.2 hx, h⟩))
theorem done_step {ps : List C} {g : C} {L : List Ln} {i : Nat} (hG : GoodL ps L) (h : i < L.length) (hd : Done g L i) : Done g (Ytcnanbimpajonaa.Fd.useL g L (L[i]).2.1) (i + 1) := by
  obtain ⟨p, hp⟩ : ∃ p, (L[i]).2.1 = p := ⟨_, rfl⟩
  have hpl : okC p = true := hp ▸ hG.lit _ (List.getElem_mem h)
  have hpin : In L p := ⟨L[i], List.getElem_mem h, hp⟩
  rw [hp, use_jobs]
  have J : ∀ j ∈ jobs g p, (∀ q ∈ j.2.2, In L q) → comesP j.1 j.2.1 j.2.2 = true → In ((jobs g p).foldl come1 L) j.2.1 := fun j hj h1 h2 => fold_in hj h1 h2
  obtain ⟨M, hM⟩ := fold_pre (jobs g p) L
  have K : ∀ c, In L c → In ((jobs g p).foldl come1 L) c := fun c hc => by rw [hM]; exact hc.app
  have T : ∀ c, In (((jobs g p).foldl come1 L).take (i + 1)) c → In (L.take i) c ∨ c = p := fun c hc => by
    rw [hM, List.take_append_of_le_length (by omega), List.take_succ_eq_append_getElem h] at hc
    obtain ⟨l, hl, e⟩ := hc
    rcases List.mem_append.1 hl with hl | hl
    · exact .inl ⟨l, hl, e⟩
    · rw [List.mem_singleton.1 hl] at e
      exact .inr (e.symm.trans hp)
  have U : ∀ c, In (L.take i) c ∨ c = p → In L c := fun c hc => by
    rcases hc with ⟨l, hl, e⟩ | rfl
    · exact ⟨l, List.mem_of_mem_take hl, e⟩
    · exact hpin
  have lits_of : ∀ c, In L c → okC c = true := fun c ⟨l, hl, e⟩ => e ▸ hG.lit l hl
  refine ⟨fun a b h1 => ?_, fun a x hx h1 => ?_, fun b x hx h1 => ?_, fun a b h1 => ?_, fun a b h1 => ?_, fun a b c h1 h2 => ?_, fun a b c h1 h2 => ?_, fun a b h1 h2 => ?_⟩
  · rcases T _ h1 with h1 | rfl
    · exact K _ (hd.turn a b h1)
    · exact J (4, (false, -b, -a), [(false, a, b)]) (by simp [jobs, jobsA]) (by simpa using hpin) (by simp [comesP, comes1])
  · rcases T _ h1 with h1 | rfl
    · exact K _ (hd.void a x hx h1)
    · exact J (5, (false, a, x), [(false, a, -a)]) (mem_lit hx (by simp [jobA1]) rfl) (by simpa using hpin) (by simp [comesP, comes1])
  · rcases T _ h1 with h1 | rfl
    · exact K _ (hd.full b x hx h1)
    · exact J (6, (false, x, b), [(false, -b, b)]) (mem_lit hx (by simp [jobA1]) rfl) (by simpa using hpin) (by simp [comesP, comes1])
  · rcases T _ h1 with h1 | rfl
    · exact K _ (hd.swap a b h1)
    · exact J (7, (true, b, a), [(true, a, b)]) (by simp [jobs, jobsS]) (by simpa using hpin) (by simp [comesP, comes1])
  · rcases T _ h1 with h1 | rfl
    · exact K _ (hd.there a b h1)
    · exact J (8, (true, a, a), [(true, a, b)]) (by simp [jobs, jobsS]) (by simpa using hpin) (by simp [comesP, comes1])
  · have i1 := U _ (T _ h1)
    have i2 := U _ (T _ h2)
    have two : ∀ q ∈ [(false, a, b), (false, b, c)], In L q := by
      intro q hq
      simp only [List.mem_cons, List.not_mem_nil, or_false] at hq
      rcases hq with rfl | rfl
      · exact i1
      · exact i2
    rcases T _ h1 with g1 | g1
    · rcases T _ h2 with g2 | g2
      · exact K _ (hd.chain a b c g1 g2)
      · subst g2
        exact J (3, (false, a, c), [(false, a, b), (false, b, c)]) (mem_lit (ok_fst (lits_of _ i1)) (by simp [jobA1]) rfl) two (by simp [comesP, comes2])
    · subst g1
      exact J (3, (false, a, c), [(false, a, b), (false, b, c)]) (mem_lit (ok_snd (lits_of _ i2)) (by simp [jobA1]) rfl) two (by simp [comesP, comes2])
  · have i1 := U _ (T _ h1)
    have i2 := U _ (T _ h2)
    have two : ∀ q ∈ [(true, a, b), (false, b, c)], In L q := by
      intro q hq
      simp only [List.mem_cons, List.not_mem_nil, or_false] at hq
      rcases hq with rfl | rfl
      · exact i1
      · exact i2
    rcases T _ h1 with g1 | g1
    · rcases T _ h2 with g2 | g2
      · exact K _ (hd.lead a b c g1 g2)
      · subst g2
        exact J (9, (true, a, c), [(true, a, b), (false, b, c)]) (mem_lit (ok_fst (lits_of _ i1)) (by simp [jobA1]) rfl) two (by simp [comesP, comes2])
    · subst g1
      refine J (9, (true, a, c), [(true, a, b), (false, b, c)]) ?_ two (by simp [comesP, comes2])
      exact List.mem_cons_of_mem _ (List.mem_cons_of_mem _ (List.mem_cons_of_mem _ (List.mem_flatMap.2 ⟨c, mem_lits.2 (ok_snd (lits_of _ i2)), by simp [jobS1]⟩)))
  · have i1 := U _ (T _ h1)
    have i2 := U _ (T _ h2)
    have two : ∀ q ∈ [(false, a, b), (true, a, -b)], In L q := by
      intro q hq
      simp only [List.mem_cons, List.not_mem_nil, or_false] at hq
      rcases hq with rfl | rfl
      · exact i1
      · exact i2
    rcases T _ h1 with g1 | g1
    · rcases T _ h2 with g2 | g2
      · exact K _ (hd.clash a b g1 g2)
      · subst g2
        exact J (10, g, [(false, a, b), (true, a, -b)]) (by simp [jobs, jobsS]) two (by simp [comesP, comes2])
    · subst g1
      exact J (10, g, [(false, a, b), (true, a, -b)]) (by simp [jobs, jobsA]) two (by simp [comesP, comes2])
end Go.Proofs.Ytcnanbimpajonaa.Po
