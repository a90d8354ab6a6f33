/- In plain words: the lines that are needed, numbered anew, are right, few, and end with the goal. No program text. -/
import Derived.Test.YtcnanbimpajonaaPq
namespace Go.Proofs.Ytcnanbimpajonaa.Pk
open Cl Co Nu Ag Cs Hd He Kp Nd Au Ri Sn Pm Pn Po Pq

/-- where a kept line comes to stand -/
theorem kept_at (bs : List Bool) (L : List Ln) : ∀ (k : Nat), k ≤ bs.length → k ≤ L.length → ∀ (n : Nat) (l : Ln), n < k → bs[n]? = some true → L[n]? = some l → (keptL bs L k)[(bs.take n).count true]? = some (renum bs l)
  | 0, _, _, n, _, hn, _, _ => absurd hn (Nat.not_lt_zero _)
  | k + 1, h1, h2, n, l, hn, hb, hl => by
    have ih := kept_at bs L k (by omega) (by omega)
    have hlen := keptL_len bs L k (by omega) (by omega)
    show (keptL bs L k ++ _)[(bs.take n).count true]? = _
    by_cases e : n = k
    · subst e
      rw [List.getElem?_append_right (by omega), hlen, Nat.sub_self, hb, hl]
      rfl
    · have := ih n l (by omega) hb hl
      rw [List.getElem?_append_left (List.getElem?_eq_some_iff.1 this).1]
      exact this
/-- which line it was -/
theorem kept_of (bs : List Bool) (L : List Ln) : ∀ (k : Nat), k ≤ bs.length → k ≤ L.length → ∀ (m : Nat) (x : Ln), (keptL bs L k)[m]? = some x → ∃ n l, n < k ∧ bs[n]? = some true ∧ L[n]? = some l ∧ m = (bs.take n).count true ∧ x = renum bs l
  | 0, _, _, m, x, h => by
    have e : keptL bs L 0 = [] := rfl
    rw [e] at h
    simp at h
  | k + 1, h1, h2, m, x, h => by
    have hlen := keptL_len bs L k (by omega) (by omega)
    by_cases hm : m < (keptL bs L k).length
    · have h' : (keptL bs L k)[m]? = some x := by
        have e : (keptL bs L (k + 1))[m]? = (keptL bs L k)[m]? := List.getElem?_append_left hm
        rw [← e]
        exact h
      obtain ⟨n, l, a1, a2, a3, a4, a5⟩ := kept_of bs L k (by omega) (by omega) m x h'
      exact ⟨n, l, by omega, a2, a3, a4, a5⟩
    · obtain ⟨b, hb⟩ : ∃ b, bs[k]? = some b := ⟨bs[k], List.getElem?_eq_getElem (by omega)⟩
      obtain ⟨l, hl⟩ : ∃ l, L[k]? = some l := ⟨L[k], List.getElem?_eq_getElem (by omega)⟩
      have e : (keptL bs L (k + 1))[m]? = _ := List.getElem?_append_right (by omega)
      rw [e, hb, hl] at h
      cases b with
      | false => simp at h
      | true =>
        dsimp only at h
        have e0 : m - (keptL bs L k).length = 0 := by
          have := (List.getElem?_eq_some_iff.1 h).1
          simp at this
          omega
        rw [e0] at h
        simp at h
        exact ⟨k, l, by omega, hb, hl, by omega, h.symm⟩

theorem mapM_congr {ps : List C} {A B : List Ln} {r : Int} (f : Int → Int) : ∀ {fr : List Int} {of : List C}, fr.mapM (pickA ps A r) = some of → (∀ n ∈ fr, ∀ c, pickA ps A r n = some c → pickA ps B r (f n) = some c) → (fr.map f).mapM (pickA ps B r) = some of
  | [], of, h, _ => h
  | n :: fr, of, h, hc => by
    rw [List.mapM_cons] at h
    cases hp : pickA ps A r n with
    | none => rw [hp] at h; cases h
    | some c =>
      rw [hp] at h
      cases hf : fr.mapM (pickA ps A r) with
      | none => rw [hf] at h; cases h
      | some of' =>
        rw [hf] at h
        cases h
        rw [List.map_cons, List.mapM_cons, hc n List.mem_cons_self c hp, mapM_congr f hf (fun m hm => hc m (List.mem_cons_of_mem _ hm))]
        rfl
theorem count_lt {bs : List Bool} {n j : Nat} (hn : n < j) (hb : bs[n]? = some true) : (bs.take n).count true < (bs.take j).count true := by
  have hl := (List.getElem?_eq_some_iff.1 hb).1
  have e : bs.take j = bs.take n ++ (bs.drop n).take (j - n) := by
    have := List.take_add (l := bs) (i := n) (j := j - n)
    rwa [show n + (j - n) = j from by omega] at this
  rw [e, List.count_append]
  have : 0 < ((bs.drop n).take (j - n)).count true := by
    rw [List.count_pos_iff]
    refine List.mem_of_getElem? (i := 0) ?_
    rw [List.getElem?_take_of_lt (by omega), List.getElem?_drop, Nat.add_zero]
    exact hb
  omega
/-- the kept lines are right -/
theorem kept_sound {ps : List C} {L : List Ln} {bs : List Bool} (hs : ∀ i (h : i < L.length), soundL ps (L.take i) L[i] = true) (hb : bs.length = L.length) (hc : Closed bs L 0) :
    ∀ m (h : m < (keptL bs L L.length).length), soundL ps ((keptL bs L L.length).take m) (keptL bs L L.length)[m] = true := by
  intro m h
  obtain ⟨n, l, hn, b1, b2, hm, hx⟩ := kept_of bs L L.length (by omega) (Nat.le_refl _) m _ (List.getElem?_eq_getElem h)
  rw [hx]
  have hsn := hs n hn
  have hln : L[n] = l := (List.getElem?_eq_some_iff.1 b2).2
  rw [hln] at hsn
  unfold soundL at hsn ⊢
  have e1 : (renum bs l).1 = l.1 := rfl
  have e2 : (renum bs l).2.1 = l.2.1 := rfl
  have e3 : (renum bs l).2.2 = if l.1 = 1 then l.2.2 else l.2.2.map fun n => (((bs.take n.toNat).count true : Nat) : Int) := rfl
  rw [e1, e2, e3]
  cases hof : l.2.2.mapM (pickA ps (L.take n) l.1) with
  | none => rw [hof] at hsn; cases hsn
  | some of =>
    rw [hof] at hsn
    have key : (if l.1 = 1 then l.2.2 else l.2.2.map fun n => (((bs.take n.toNat).count true : Nat) : Int)).mapM (pickA ps ((keptL bs L L.length).take m) l.1) = some of := by
      by_cases hr : l.1 = 1
      · rw [if_pos hr, ← List.map_id l.2.2]
        refine mapM_congr id hof fun k _ c hk => ?_
        rw [hr] at hk ⊢
        unfold pickA at hk ⊢
        exact hk
      · rw [if_neg hr]
        refine mapM_congr _ hof fun k hk c hp => ?_
        have hbk := hc n l (Nat.zero_le _) b2 b1 hr k hk
        unfold pickA at hp ⊢
        split at hp
        · cases hp
        · rename_i hk0
          cases hg : (L.take n)[k.toNat]? with
          | none => rw [hg] at hp; cases hp
          | some y =>
            rw [hg] at hp
            cases hp
            obtain ⟨hlt, he⟩ := List.getElem?_eq_some_iff.1 hg
            rw [List.length_take] at hlt
            have hy : L[k.toNat]? = some y := by
              rw [List.getElem?_take_of_lt (by omega)] at hg
              exact hg
            have hat := kept_at bs L L.length (by omega) (Nat.le_refl _) k.toNat y (by omega) hbk hy
            rw [if_neg (by omega), if_neg hr, Int.toNat_natCast, List.getElem?_take_of_lt (by rw [hm]; exact count_lt (by omega) hbk), hat]
            rfl
    rw [key]
    exact hsn
theorem take_sound {ps : List C} {L : List Ln} (hs : ∀ i (h : i < L.length), soundL ps (L.take i) L[i] = true) (k : Nat) : ∀ i (h : i < (L.take k).length), soundL ps ((L.take k).take i) (L.take k)[i] = true := by
  intro i h
  have hl : i < k ∧ i < L.length := by
    rw [List.length_take] at h
    omega
  rw [List.getElem_take, List.take_take, Nat.min_eq_left (by omega)]
  exact hs i hl.2
/-- what Argue hands back where it has found the goal -/
theorem kept_right {ps : List C} {g : C} {L : List Ln} {n : Nat} {bs : List Bool} (hG : GoodL ps L) (hi : idx L g = some n) (hb : bs.length = n + 1) (hn : bs[n]? = some true) (hc : Closed bs (L.take (n + 1)) 0) :
    (∀ m (h : m < (keptL bs (L.take (n + 1)) (n + 1)).length), soundL ps ((keptL bs (L.take (n + 1)) (n + 1)).take m) (keptL bs (L.take (n + 1)) (n + 1))[m] = true) ∧ (∀ x ∈ keptL bs (L.take (n + 1)) (n + 1), okC x.2.1 = true ∧ x.2.2.length ≤ 2) ∧ (keptL bs (L.take (n + 1)) (n + 1)).length ≤ 288 ∧ ∃ K x, keptL bs (L.take (n + 1)) (n + 1) = K ++ [x] ∧ x.2.1 = g := by
  have hnl := idx_lt hi
  have hlen : (L.take (n + 1)).length = n + 1 := by rw [List.length_take]; omega
  have hbl : bs.length = (L.take (n + 1)).length := by omega
  refine ⟨?_, fun x hx => ?_, ?_, ?_⟩
  · have := kept_sound (take_sound hG.snd (n + 1)) hbl hc
    rw [hlen] at this
    exact this
  · obtain ⟨m, hm, rfl⟩ := List.getElem_of_mem hx
    obtain ⟨j, l, _, _, hl, _, e⟩ := kept_of bs (L.take (n + 1)) (n + 1) (by omega) (by omega) m _ (List.getElem?_eq_getElem hm)
    rw [e]
    have hlm : l ∈ L := List.mem_of_mem_take (List.mem_of_getElem? hl)
    refine ⟨hG.lit l hlm, ?_⟩
    show (if l.1 = 1 then l.2.2 else l.2.2.map fun n => (((bs.take n.toNat).count true : Nat) : Int)).length ≤ 2
    have := hG.few l hlm
    split
    · exact this
    · rw [List.length_map]; exact this
  · rw [keptL_len bs _ _ (by omega) (by omega)]
    have h1 := List.count_le_length (a := true) (l := bs.take (n + 1))
    rw [List.length_take] at h1
    have := hG.len
    omega
  · obtain ⟨l, hl, e⟩ := idx_at hi
    have hl' : (L.take (n + 1))[n]? = some l := by rw [List.getElem?_take_of_lt (by omega)]; exact hl
    exact ⟨_, _, keptL_yes hn hl', e⟩
end Go.Proofs.Ytcnanbimpajonaa.Pk
