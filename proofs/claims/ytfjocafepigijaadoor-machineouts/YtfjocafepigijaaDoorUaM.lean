/- The document's Less (13): which of two lists of numbers comes first. Condition: the first is no longer than 61. -/
import Derived.Test.YtfjocafepigijaaDoorSmM
import Derived.Deep.QuietTactic
import Derived.BigQuiet
import Derived.Deep.Cut
namespace Go.Proofs.YtfjocafepigijaaDoor.Ot
open Go.RowKit Mv Sy

def lt2 : List Int → List Int → Bool
  | [], [] => false
  | [], _ :: _ => true
  | _ :: _, [] => false
  | x :: a, y :: b => if x = y then lt2 a b else decide (x < y)
theorem lt2_diff : ∀ {k : Nat} {a b : List Int} {x y : Int}, (∀ j, j < k → a[j]? = b[j]?) → a[k]? = some x → b[k]? = some y → x ≠ y → lt2 a b = decide (x < y)
  | _, [], _, _, _, _, h, _, _ => by simp at h
  | _, _ :: _, [], _, _, _, _, h, _ => by simp at h
  | 0, u :: a, v :: b, x, y, _, h1, h2, hne => by
    simp only [List.getElem?_cons_zero, Option.some.injEq] at h1 h2
    subst h1 h2
    unfold lt2
    rw [if_neg hne]
  | k + 1, u :: a, v :: b, x, y, h, h1, h2, hne => by
    have h0 := h 0 (by omega)
    simp only [List.getElem?_cons_zero, Option.some.injEq] at h0
    subst h0
    unfold lt2
    rw [if_pos rfl]
    exact lt2_diff (k := k) (fun j hj => by have := h (j + 1) (by omega); simpa using this) (by simpa using h1) (by simpa using h2) hne
theorem lt2_len : ∀ {a b : List Int}, (∀ j, j < a.length → j < b.length → a[j]? = b[j]?) → lt2 a b = decide (a.length < b.length)
  | [], [], _ => rfl
  | [], _ :: _, _ => by simp [lt2]
  | _ :: _, [], _ => by simp [lt2]
  | u :: a, v :: b, h => by
    have h0 := h 0 (by simp) (by simp)
    simp only [List.getElem?_cons_zero, Option.some.injEq] at h0
    subst h0
    unfold lt2
    rw [if_pos rfl, lt2_len (fun j hj hj' => by have := h (j + 1) (by simpa using hj) (by simpa using hj'); simpa using this)]
    simp
set_option maxHeartbeats 4000000 in
set_option maxRecDepth 100000 in
theorem less_any (a b : List Int) (va vb : Value) (w : World) (ha : IsI w va a) (hb : IsI w vb b) (hl : a.length ≤ 61) : Calls Tryd.prog 13 #[va, vb] w fun e w' => e = .returned (.bool (lt2 a b)) ∧ Below w.heap.size w w' := by
  obtain ⟨_, aa, ca, rfl, _, hA⟩ := ha
  obtain ⟨_, ab, cb, rfl, _, hB⟩ := hb
  have HA : Hid (a.length = 0 ∨ ∃ b off, aa = some ⟨b, off, none⟩ ∧ b < w.heap.size ∧ ∀ j u, (ints a)[j]? = some u → w.cell? ⟨b, off + j, none⟩ = some u) := hA
  have HB : Hid (b.length = 0 ∨ ∃ c off, ab = some ⟨c, off, none⟩ ∧ c < w.heap.size ∧ ∀ j u, (ints b)[j]? = some u → w.cell? ⟨c, off + j, none⟩ = some u) := hB
  clear hA hB
  go_enter Tryd.func13, Tryd.ntmps13
  go_wp2
  go_loopw [5] (fun i wr => ∃ k : Nat, i = .int .i64 k ∧ k ≤ a.length ∧ k ≤ b.length ∧ Below w.heap.size w wr ∧ ∀ j, j < k → a[j]? = b[j]?) (fun i _ => a.length - (intOf i).toNat)
  case atStart => exact ⟨0, rfl, Nat.zero_le _, Nat.zero_le _, Below.refl _ _, fun j h => by omega⟩
  case round =>
    obtain ⟨k, rfl, hk, hkb, hbw, hok⟩ := hrel
    have HK : Hid (∀ j, j < k → a[j]? = b[j]?) := hok
    have HW : Hid (Below w.heap.size w wr) := hbw
    clear hok
    by_cases hlt : k < a.length
    · by_cases hltb : k < b.length
      · obtain ⟨g, off, rfl, hbl, hcs⟩ := HA.out.resolve_left (by omega)
        obtain ⟨h, off', rfl, hbl', hcs'⟩ := HB.out.resolve_left (by omega)
        obtain ⟨x, hx⟩ : ∃ x, a[k] = x := ⟨_, rfl⟩
        obtain ⟨y, hy⟩ : ∃ y, b[k] = y := ⟨_, rfl⟩
        have c1 : wr.cell? ⟨g, off + k, none⟩ = some (.int .i64 x) := by rw [← hx]; exact (hbw.cell hbl).trans (hcs k _ (ints_at hlt))
        have c2 : wr.cell? ⟨h, off' + k, none⟩ = some (.int .i64 y) := by rw [← hy]; exact (hbw.cell hbl').trans (hcs' k _ (ints_at hltb))
        have HX : Hid (a[k]? = some x ∧ b[k]? = some y) := ⟨by rw [List.getElem?_eq_getElem hlt, hx], by rw [List.getElem?_eq_getElem hltb, hy]⟩
        clear hx hy hbw
        by_cases hxy : x = y
        · subst hxy
          have e1 : (x != x) = false := by simp
          go_wp2
          repeat (go_quiet (fail); go_wp2)
          go_roundw
          case rel =>
            refine ⟨k + 1, by go_num, hlt, hltb, by first | exact HW.out | exact below_drewN HW.out _, fun j hj => ?_⟩
            by_cases e : j = k
            · subst e; rw [HX.out.1, HX.out.2]
            · exact HK.out j (by omega)
          case measure => simp [intOf]; omega
        · have e1 : (x != y) = true := by simpa using hxy
          have HN : Hid (lt2 a b = decide (x < y)) := lt2_diff HK.out HX.out.1 HX.out.2 hxy
          clear hxy
          go_wp2
          repeat (go_quiet (fail); go_wp2)
          go_ret
          exact ⟨by rw [HN.out]; rfl, by first | exact below_drewN (below_drewN HW.out _) _ | exact below_drewN HW.out _ | exact HW.out⟩
      · have HN : Hid (lt2 a b = decide (a.length < b.length)) := lt2_len (fun j h1 h2 => HK.out j (by omega))
        clear hbw
        go_wp2
        go_ret
        exact ⟨by rw [HN.out]; simp, HW.out⟩
    · have HN : Hid (lt2 a b = decide (a.length < b.length)) := lt2_len (fun j h1 h2 => HK.out j (by omega))
      clear hbw
      go_wp2
      go_ret
      exact ⟨by rw [HN.out]; simp, HW.out⟩
end Go.Proofs.YtfjocafepigijaaDoor.Ot
/- What Outs must answer, in plain words: walks that write, needs, fronts of starts, what is told, how many there are. No program text; no conditions. -/
namespace Go.Proofs.YtfjocafepigijaaDoor.Ot

/-- a walk of so many steps from the first node comes to v and writes t; E c u v: a step from u to v that writes c (0: nothing) -/
def Wl (E : Int → Nat → Nat → Prop) : Nat → List Int → Nat → Prop
  | 0, t, v => t = [] ∧ v = 0
  | n + 1, t, v => (∃ u, Wl E n t u ∧ E 0 u v) ∨ (∃ u c t', c ≠ 0 ∧ t = t' ++ [c] ∧ Wl E n t' u ∧ E c u v)
def Wv (E : Int → Nat → Nat → Prop) (t : List Int) (v : Nat) : Prop := ∃ n, Wl E n t v
/-- so, and its last step has written -/
def Wr (E : Int → Nat → Nat → Prop) (t : List Int) (v : Nat) : Prop := (t = [] ∧ v = 0) ∨ ∃ u c t', c ≠ 0 ∧ t = t' ++ [c] ∧ Wv E t' u ∧ E c u v
/-- from u an end is come to, and t is written -/
def Ln (E : Int → Nat → Nat → Prop) (F : List Nat) : Nat → List Int → Nat → Prop
  | 0, t, u => t = [] ∧ u ∈ F
  | n + 1, t, u => (∃ v, E 0 u v ∧ Ln E F n t v) ∨ (∃ c t' v, c ≠ 0 ∧ t = c :: t' ∧ E c u v ∧ Ln E F n t' v)
/-- an answer -/
def An (E : Int → Nat → Nat → Prop) (F : List Nat) (t : List Int) : Prop := ∃ v ∈ F, Wv E t v
theorem Wr.wv {E : Int → Nat → Nat → Prop} {t : List Int} {v : Nat} (h : Wr E t v) : Wv E t v := by
  rcases h with ⟨rfl, rfl⟩ | ⟨u, c, t', hc, rfl, ⟨n, hn⟩, he⟩
  · exact ⟨0, rfl, rfl⟩
  · exact ⟨n + 1, .inr ⟨u, c, t', hc, rfl, hn, he⟩⟩
theorem an_join {E : Int → Nat → Nat → Prop} {F : List Nat} : ∀ {n : Nat} {t s : List Int} {u : Nat}, Wv E t u → Ln E F n s u → An E F (t ++ s)
  | 0, t, s, u, hw, ⟨hs, hu⟩ => by subst hs; rw [List.append_nil]; exact ⟨u, hu, hw⟩
  | n + 1, t, s, u, ⟨k, hw⟩, hl => by
    rcases hl with ⟨v, he, hl⟩ | ⟨c, s', v, hc, rfl, he, hl⟩
    · exact an_join ⟨k + 1, .inl ⟨u, hw, he⟩⟩ hl
    · have := an_join (E := E) (F := F) (t := t ++ [c]) ⟨k + 1, .inr ⟨u, c, t, hc, rfl, hw, he⟩⟩ hl
      rw [List.append_assoc] at this
      exact this
theorem an_cut {E : Int → Nat → Nat → Prop} {F : List Nat} {t s : List Int} : ∀ {n k : Nat} {r s' : List Int} {v : Nat}, Wl E n r v → Ln E F k s' v → r ++ s' = t ++ s → t.length ≤ r.length → ∃ v k, Wr E t v ∧ Ln E F k s v
  | 0, k, r, s', v, ⟨hr, hv⟩, hl, he, hle => by
    subst hr hv
    have ht : t = [] := List.eq_nil_of_length_eq_zero (by simpa using hle)
    subst ht
    simp only [List.nil_append] at he
    subst he
    exact ⟨0, k, .inl ⟨rfl, rfl⟩, hl⟩
  | n + 1, k, r, s', v, hw, hl, he, hle => by
    rcases hw with ⟨u, hw, hE⟩ | ⟨u, c, r', hc, rfl, hw, hE⟩
    · exact an_cut hw (k := k + 1) (.inl ⟨v, hE, hl⟩) he hle
    · rcases Nat.lt_or_ge r'.length t.length with h | h
      · have hl2 : t.length = (r' ++ [c]).length := by simp at hle ⊢; omega
        obtain ⟨h1, h2⟩ := List.append_inj he hl2.symm
        subst h2
        exact ⟨v, k, .inr ⟨u, c, r', hc, h1.symm, ⟨n, hw⟩, hE⟩, hl⟩
      · exact an_cut hw (k := k + 1) (s' := c :: s') (.inr ⟨c, s', v, hc, rfl, hE, hl⟩) (by rw [← he]; simp) h
theorem an_live {E : Int → Nat → Nat → Prop} {F : List Nat} {t s : List Int} : An E F (t ++ s) ↔ ∃ v k, Wr E t v ∧ Ln E F k s v := by
  constructor
  · rintro ⟨v, hv, n, hw⟩
    exact an_cut (r := t ++ s) (s' := []) hw (k := 0) ⟨rfl, hv⟩ (by simp) (by simp)
  · rintro ⟨v, k, hw, hl⟩
    exact an_join hw.wv hl
/-- what a table of needs says -/
structure Nd (E : Int → Nat → Nat → Prop) (F : List Nat) (M L : Nat) (N : Nat → Nat) : Prop where
  pos : 0 < M
  step : ∀ c u v, u < M → E c u v → v < M
  near : ∀ v, v < M → ∀ k, k ≤ L → (N v ≤ k ↔ ∃ n s, s.length ≤ k ∧ Ln E F n s v)
theorem Nd.wl {E : Int → Nat → Nat → Prop} {F : List Nat} {M L : Nat} {N : Nat → Nat} (h : Nd E F M L N) : ∀ {n : Nat} {t : List Int} {v : Nat}, Wl E n t v → v < M
  | 0, _, _, ⟨_, hv⟩ => by rw [hv]; exact h.pos
  | n + 1, t, v, hw => by
    rcases hw with ⟨u, hw, hE⟩ | ⟨u, c, r', hc, rfl, hw, hE⟩
    · exact h.step _ _ _ (h.wl hw) hE
    · exact h.step _ _ _ (h.wl hw) hE
theorem Nd.wr {E : Int → Nat → Nat → Prop} {F : List Nat} {M L : Nat} {N : Nat → Nat} (h : Nd E F M L N) {t : List Int} {v : Nat} (hw : Wr E t v) : v < M := by
  obtain ⟨n, hn⟩ := hw.wv
  exact h.wl hn
/-- some answer goes on from t, by at most k symbols -/
theorem Nd.live {E : Int → Nat → Nat → Prop} {F : List Nat} {M L : Nat} {N : Nat → Nat} (h : Nd E F M L N) {t : List Int} {k : Nat} (hk : k ≤ L) : (∃ v, Wr E t v ∧ N v ≤ k) ↔ ∃ s, s.length ≤ k ∧ An E F (t ++ s) := by
  constructor
  · rintro ⟨v, hw, hn⟩
    obtain ⟨n, s, hs, hl⟩ := (h.near v (h.wr hw) k hk).1 hn
    exact ⟨s, hs, an_live.2 ⟨v, n, hw, hl⟩⟩
  · rintro ⟨s, hs, ha⟩
    obtain ⟨v, n, hw, hl⟩ := an_live.1 ha
    exact ⟨v, hw, (h.near v (h.wr hw) k hk).2 ⟨n, s, hs, hl⟩⟩
theorem Nd.ans {E : Int → Nat → Nat → Prop} {F : List Nat} {M L : Nat} {N : Nat → Nat} (h : Nd E F M L N) {t : List Int} : An E F t ↔ ∃ v, Wr E t v ∧ N v = 0 := by
  have := h.live (t := t) (k := 0) (Nat.zero_le _)
  constructor
  · intro ha
    obtain ⟨v, hw, hn⟩ := this.2 ⟨[], by simp, by rw [List.append_nil]; exact ha⟩
    exact ⟨v, hw, by omega⟩
  · rintro ⟨v, hw, hn⟩
    obtain ⟨s, hs, ha⟩ := this.1 ⟨v, hw, by omega⟩
    have : s = [] := List.eq_nil_of_length_eq_zero (by omega)
    rw [this, List.append_nil] at ha
    exact ha
theorem Nd.zero {E : Int → Nat → Nat → Prop} {F : List Nat} {M L : Nat} {N : Nat → Nat} (h : Nd E F M L N) {u v k : Nat} (hk : k ≤ L) (hu : u < M) (he : E 0 u v) (hn : N v ≤ k) : N u ≤ k := by
  obtain ⟨n, s, hs, hl⟩ := (h.near v (h.step _ _ _ hu he) k hk).1 hn
  exact (h.near u hu k hk).2 ⟨n + 1, s, hs, .inl ⟨v, he, hl⟩⟩
theorem Nd.one {E : Int → Nat → Nat → Prop} {F : List Nat} {M L : Nat} {N : Nat → Nat} (h : Nd E F M L N) {u v k : Nat} {c : Int} (hc : c ≠ 0) (hk : k + 1 ≤ L) (hu : u < M) (he : E c u v) (hn : N v ≤ k) : N u ≤ k + 1 := by
  obtain ⟨n, s, hs, hl⟩ := (h.near v (h.step _ _ _ hu he) k (by omega)).1 hn
  exact (h.near u hu (k + 1) hk).2 ⟨n + 1, c :: s, by simp; omega, .inr ⟨c, s, v, hc, rfl, he, hl⟩⟩
/-- what is come to from the nodes of a start without writing -/
theorem Nd.clo {E : Int → Nat → Nat → Prop} {F : List Nat} {M L : Nat} {N : Nat → Nat} (h : Nd E F M L N) {t : List Int} {k : Nat} (hk : k ≤ L) {C : Nat → Prop} (h1 : ∀ v, Wr E t v → N v ≤ k → C v) (h2 : ∀ u v, C u → E 0 u v → N v ≤ k → C v) : ∀ {n : Nat} {u : Nat}, Wl E n t u → N u ≤ k → C u
  | 0, u, ⟨ht, hu⟩, hn => h1 u (.inl ⟨ht, hu⟩) hn
  | n + 1, v, hw, hn => by
    rcases hw with ⟨u, hw, hE⟩ | ⟨u, c, r', hc, hr, hw, hE⟩
    · exact h2 u v (h.clo hk h1 h2 hw (h.zero hk (h.wl hw) hE hn)) hE hn
    · exact h1 v (.inr ⟨u, c, r', hc, hr, ⟨n, hw⟩, hE⟩) hn
/-- a start with a symbol more -/
theorem Nd.more {E : Int → Nat → Nat → Prop} {F : List Nat} {M L : Nat} {N : Nat → Nat} (h : Nd E F M L N) {t : List Int} {c : Int} {k v : Nat} (hc : c ≠ 0) (hk : k + 1 ≤ L) : (Wr E (t ++ [c]) v ∧ N v ≤ k) ↔ ∃ u, (Wv E t u ∧ N u ≤ k + 1) ∧ E c u v ∧ N v ≤ k := by
  constructor
  · rintro ⟨hw, hn⟩
    rcases hw with ⟨h1, _⟩ | ⟨u, c', t', hc', he, ⟨n, hw⟩, hE⟩
    · simp at h1
    · obtain ⟨h1, h2⟩ := List.append_inj' he (by simp)
      subst h1
      obtain rfl : c = c' := by simpa using h2
      exact ⟨u, ⟨⟨n, hw⟩, h.one hc hk (h.wl hw) hE hn⟩, hE, hn⟩
  · rintro ⟨u, ⟨hw, _⟩, hE, hn⟩
    exact ⟨.inr ⟨u, c, t, hc, rfl, hw, hE⟩, hn⟩
/-- the order of the answers -/
def Sx (a b : List Int) : Prop := a.length < b.length ∨ (a.length = b.length ∧ lt2 a b = true)
theorem lt2_irr : ∀ a : List Int, lt2 a a = false
  | [] => rfl
  | x :: a => by unfold lt2; rw [if_pos rfl]; exact lt2_irr a
theorem lt2_snoc : ∀ {a b : List Int} {x y : Int}, a.length = b.length → lt2 a b = true → lt2 (a ++ [x]) (b ++ [y]) = true
  | [], [], _, _, _, h => by simp [lt2] at h
  | [], _ :: _, _, _, hl, _ => by simp at hl
  | _ :: _, [], _, _, hl, _ => by simp at hl
  | u :: a, v :: b, x, y, hl, h => by
    unfold lt2 at h
    simp only [List.cons_append]
    unfold lt2
    split at h
    · rename_i e
      rw [if_pos e]
      exact lt2_snoc (by simpa using hl) h
    · rename_i e
      rw [if_neg e]
      exact h
theorem lt2_last : ∀ {a : List Int} {x y : Int}, x < y → lt2 (a ++ [x]) (a ++ [y]) = true
  | [], x, y, h => by simp only [List.nil_append]; unfold lt2; rw [if_neg (by omega)]; simpa using h
  | u :: a, x, y, h => by simp only [List.cons_append]; unfold lt2; rw [if_pos rfl]; exact lt2_last h
theorem nodup_of_sx {l : List (List Int)} (h : l.Pairwise Sx) : l.Nodup := by
  refine h.imp ?_
  rintro a b (h | ⟨_, h⟩) rfl
  · omega
  · rw [lt2_irr] at h; cases h
theorem sub_len {α : Type} [DecidableEq α] : ∀ {a b : List α}, a.Nodup → (∀ x ∈ a, x ∈ b) → a.length ≤ b.length
  | [], _, _, _ => Nat.zero_le _
  | x :: a, b, hn, hs => by
    have hx : x ∈ b := hs x (by simp)
    have h1 := sub_len (a := a) (b := b.erase x) (List.nodup_cons.1 hn).2 (fun y hy => (List.mem_erase_of_ne (fun e => (List.nodup_cons.1 hn).1 (by rw [← e]; exact hy))).2 (hs y (by simp [hy])))
    rw [List.length_erase_of_mem hx] at h1
    have := List.length_pos_of_mem hx
    simp
    omega
/-- a front: all starts of one length from which an answer may still come, in order -/
structure Fp (E : Int → Nat → Nat → Prop) (F : List Nat) (L j : Nat) (T : List (List Int)) : Prop where
  mem : ∀ t, t ∈ T ↔ t.length = j ∧ ∃ s, j + s.length ≤ L ∧ An E F (t ++ s)
  ord : T.Pairwise fun a b => lt2 a b = true
/-- what is told so far -/
structure Tp (E : Int → Nat → Nat → Prop) (F : List Nat) (j : Nat) (l : List (List Int)) : Prop where
  mem : ∀ t, t ∈ l ↔ t.length < j ∧ An E F t
  ord : l.Pairwise Sx
theorem Tp.begin (E : Int → Nat → Nat → Prop) (F : List Nat) : Tp E F 0 [] := ⟨fun t => by simp, List.Pairwise.nil⟩
theorem Fp.begin (E : Int → Nat → Nat → Prop) (F : List Nat) {L : Nat} (h : ∃ s, s.length ≤ L ∧ An E F s) : Fp E F L 0 [[]] := by
  refine ⟨fun t => ⟨fun ht => ?_, fun ht => ?_⟩, List.pairwise_singleton _ _⟩
  · obtain rfl : t = [] := by simpa using ht
    obtain ⟨s, hs, ha⟩ := h
    exact ⟨rfl, s, by omega, by simpa using ha⟩
  · have := List.eq_nil_of_length_eq_zero ht.1
    simp [this]
/-- the answers of one length are told -/
theorem Tp.tell {E : Int → Nat → Nat → Prop} {F : List Nat} {L j : Nat} {l T : List (List Int)} (h : Tp E F j l) (hT : Fp E F L j T) (hj : j ≤ L) (p : List Int → Bool) (hp : ∀ t ∈ T, p t = true ↔ An E F t) : Tp E F (j + 1) (l ++ T.filter p) := by
  refine ⟨fun t => ?_, List.pairwise_append.2 ⟨h.ord, (hT.ord.filter p).imp_of_mem (fun ha hb hab => .inr ⟨?_, hab⟩), fun a ha b hb => .inl ?_⟩⟩
  · rw [List.mem_append, h.mem, List.mem_filter]
    constructor
    · rintro (⟨h1, h2⟩ | ⟨h1, h2⟩)
      · exact ⟨by omega, h2⟩
      · exact ⟨by have := ((hT.mem t).1 h1).1; omega, (hp t h1).1 h2⟩
    · rintro ⟨h1, h2⟩
      rcases Nat.lt_or_ge t.length j with h3 | h3
      · exact .inl ⟨h3, h2⟩
      · have hm : t ∈ T := (hT.mem t).2 ⟨by omega, [], by simpa using hj, by rw [List.append_nil]; exact h2⟩
        exact .inr ⟨hm, (hp t hm).2 h2⟩
  · rw [((hT.mem _).1 ((List.mem_filter.1 ha).1)).1, ((hT.mem _).1 ((List.mem_filter.1 hb).1)).1]
  · rw [((hT.mem _).1 ((List.mem_filter.1 hb).1)).1]
    exact ((h.mem a).1 ha).1
/-- the symbols by which a start goes on, in order -/
structure Bs (E : Int → Nat → Nat → Prop) (F : List Nat) (L j : Nat) (t : List Int) (cs : List Int) : Prop where
  mem : ∀ c, c ∈ cs ↔ c ≠ 0 ∧ ∃ s, j + 1 + s.length ≤ L ∧ An E F (t ++ [c] ++ s)
  ord : cs.Pairwise fun a b => a < b
def nxt (B : List Int → List Int) (T : List (List Int)) : List (List Int) := T.flatMap fun t => (B t).map fun c => t ++ [c]
theorem wl_nz {E : Int → Nat → Nat → Prop} : ∀ {n : Nat} {t : List Int} {v : Nat}, Wl E n t v → ∀ c ∈ t, c ≠ 0
  | 0, t, v, ⟨h, _⟩, c, hc => by subst h; cases hc
  | n + 1, t, v, hw, c, hc => by
    rcases hw with ⟨u, hw, _⟩ | ⟨u, d, t', hd, rfl, hw, _⟩
    · exact wl_nz hw c hc
    · rcases List.mem_append.1 hc with hc | hc
      · exact wl_nz hw c hc
      · rw [List.mem_singleton.1 hc]; exact hd
theorem Fp.next {E : Int → Nat → Nat → Prop} {F : List Nat} {L j : Nat} {T : List (List Int)} (hT : Fp E F L j T) (B : List Int → List Int) (hB : ∀ t ∈ T, Bs E F L j t (B t)) : Fp E F L (j + 1) (nxt B T) := by
  refine ⟨fun r => ⟨fun hr => ?_, fun hr => ?_⟩, ?_⟩
  · obtain ⟨t, ht, hr⟩ := List.mem_flatMap.1 hr
    obtain ⟨c, hc, rfl⟩ := List.mem_map.1 hr
    have := ((hT.mem t).1 ht).1
    exact ⟨by simp [this], (((hB t ht).mem c).1 hc).2⟩
  · obtain ⟨hl, s, hs, ha⟩ := hr
    rcases List.eq_nil_or_concat r with rfl | ⟨t, c, rfl⟩
    · simp at hl
    · rw [List.concat_eq_append] at hl ha ⊢
      have ht : t ∈ T := (hT.mem t).2 ⟨by simpa using hl, c :: s, by simp; omega, by rw [List.append_assoc] at ha; exact ha⟩
      refine List.mem_flatMap.2 ⟨t, ht, List.mem_map.2 ⟨c, ((hB t ht).mem c).2 ⟨?_, s, hs, ha⟩, rfl⟩⟩
      obtain ⟨v, _, n, hw⟩ := ha
      exact wl_nz hw c (by simp)
  · unfold nxt
    have key : ∀ T' : List (List Int), T'.Pairwise (fun a b => lt2 a b = true) → (∀ t ∈ T', t ∈ T) → (T'.flatMap fun t => (B t).map fun c => t ++ [c]).Pairwise fun a b => lt2 a b = true := by
      intro T' ho hs
      induction T' with
      | nil => exact List.Pairwise.nil
      | cons t T' ih =>
        rw [List.flatMap_cons]
        refine List.pairwise_append.2 ⟨?_, ih (List.pairwise_cons.1 ho).2 (fun x hx => hs x (by simp [hx])), ?_⟩
        · rw [List.pairwise_map]
          exact ((hB t (hs t (by simp))).ord).imp (fun h => lt2_last h)
        · intro a ha b hb
          obtain ⟨c, _, rfl⟩ := List.mem_map.1 ha
          obtain ⟨t', ht', hb⟩ := List.mem_flatMap.1 hb
          obtain ⟨c', _, rfl⟩ := List.mem_map.1 hb
          exact lt2_snoc (by rw [((hT.mem t).1 (hs t (by simp))).1, ((hT.mem t').1 (hs t' (by simp [ht']))).1]) ((List.pairwise_cons.1 ho).1 t' ht')
    exact key T hT.ord (fun t h => h)
theorem nodup_lt {T : List (List Int)} (h : T.Pairwise fun a b => lt2 a b = true) : T.Nodup := by
  refine h.imp ?_
  rintro a b h rfl
  rw [lt2_irr] at h; cases h
/-- so many starts have as many answers -/
theorem many {E : Int → Nat → Nat → Prop} {F : List Nat} {L j k : Nat} {l T : List (List Int)} (h : Tp E F (j + 1) l) (hT : Fp E F L (j + 1) T) (hj : j + 1 ≤ L) (hk : k < l.length + T.length) : ∃ B : List (List Int), B.Nodup ∧ k < B.length ∧ ∀ t ∈ B, An E F t ∧ t.length ≤ L := by
  have hc : ∀ t : { t // t ∈ T }, ∃ r : List Int, r.take (j + 1) = t.1 ∧ j + 1 ≤ r.length ∧ r.length ≤ L ∧ An E F r := by
    rintro ⟨t, ht⟩
    obtain ⟨hl, s, hs, ha⟩ := (hT.mem t).1 ht
    refine ⟨t ++ s, ?_, by simp; omega, by simp; omega, ha⟩
    rw [← hl]; simp
  let ext : { t // t ∈ T } → List Int := fun t => Classical.choose (hc t)
  have hx : ∀ t, (ext t).take (j + 1) = t.1 ∧ j + 1 ≤ (ext t).length ∧ (ext t).length ≤ L ∧ An E F (ext t) := fun t => Classical.choose_spec (hc t)
  refine ⟨l ++ T.attach.map ext, List.nodup_append.2 ⟨nodup_of_sx h.ord, ?_, ?_⟩, by simp; omega, ?_⟩
  · have hn : T.attach.Nodup := by
      have := nodup_lt hT.ord
      rw [← List.attach_map_subtype_val T] at this
      exact (List.pairwise_map.1 this).imp (fun h e => h (by rw [e]))
    exact List.pairwise_map.2 (hn.imp (fun {a b} hab e => hab (Subtype.ext (by rw [← (hx a).1, ← (hx b).1, e]))))
  · rintro a ha b hb rfl
    obtain ⟨t, _, rfl⟩ := List.mem_map.1 hb
    have := ((h.mem _).1 ha).1
    have := (hx t).2.1
    omega
  · intro t ht
    rcases List.mem_append.1 ht with ht | ht
    · have := (h.mem t).1 ht
      exact ⟨this.2, by omega⟩
    · obtain ⟨x, _, rfl⟩ := List.mem_map.1 ht
      exact ⟨(hx x).2.2.2, (hx x).2.2.1⟩
/-- what Outs answers: e the error (0: none, 12: too many), l the list -/
def OutP (E : Int → Nat → Nat → Prop) (F : List Nat) (L : Nat) (bad : Bool) (l : List (List Int)) : Prop :=
  (bad = false ∧ l.Pairwise Sx ∧ l.length ≤ 500 ∧ ∀ t, t ∈ l ↔ t.length ≤ L ∧ An E F t) ∨ (bad = true ∧ l = [] ∧ ∃ B : List (List Int), B.Nodup ∧ 500 < B.length ∧ ∀ t ∈ B, An E F t ∧ t.length ≤ L)
/-- how many there are, by any list of all -/
theorem OutP.count {E : Int → Nat → Nat → Prop} {F : List Nat} {L : Nat} {bad : Bool} {l C : List (List Int)} (h : OutP E F L bad l) (hC : C.Nodup) (hm : ∀ t, t ∈ C ↔ t.length ≤ L ∧ An E F t) : (bad = false ∧ l.length = C.length ∧ C.length ≤ 500) ∨ (bad = true ∧ l = [] ∧ 500 < C.length) := by
  rcases h with ⟨h1, h2, h3, h4⟩ | ⟨h1, h2, B, h3, h4, h5⟩
  · have a := sub_len (nodup_of_sx h2) (fun x hx => (hm x).2 ((h4 x).1 hx))
    have b := sub_len hC (fun x hx => (h4 x).2 ((hm x).1 hx))
    exact .inl ⟨h1, by omega, by omega⟩
  · have a := sub_len h3 (fun x hx => (hm x).2 ⟨(h5 x hx).2, (h5 x hx).1⟩)
    exact .inr ⟨h1, h2, by omega⟩
end Go.Proofs.YtfjocafepigijaaDoor.Ot
