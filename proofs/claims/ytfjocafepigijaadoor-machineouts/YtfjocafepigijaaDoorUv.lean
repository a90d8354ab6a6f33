/- tell (34) in plain words and in memory: what is told so far, the front at hand. No conditions. -/
import Derived.Test.YtfjocafepigijaaDoorUt
namespace Go.Proofs.YtfjocafepigijaaDoor.Ot
open Go.RowKit Mv Sy Po Ps Cm Pa Am Wd St Ra Set

/-- a list of texts lies in a row -/
def Tls (w : World) (vals : List Value) (l : List (List Int)) : Prop := vals.length = l.length ∧ ∀ (m : Nat) (v : Value), vals[m]? = some v → ∃ t : List Int, l[m]? = some t ∧ Tx w v t
theorem Tls.kept {w w' : World} {vals : List Value} {l : List (List Int)} {X : Nat → Prop} (h : Tls w vals l) (hk : Kp X w w') (hX : ∀ b cs, w.heap[b]? = some (.cells cs 3 (0, 0)) → ¬ X b) : Tls w' vals l := ⟨h.1, fun m v hm => by
  obtain ⟨t, h1, h2⟩ := h.2 m v hm
  exact ⟨t, h1, h2.kept hk hX⟩⟩
theorem Tls.nil (w : World) : Tls w [] [] := ⟨rfl, fun m v h => by simp at h⟩
theorem Tls.add {w : World} {vals : List Value} {l : List (List Int)} {v : Value} {t : List Int} (h : Tls w vals l) (ht : Tx w v t) : Tls w (vals ++ [v]) (l ++ [t]) := by
  refine ⟨by simp [h.1], fun m v' hm => ?_⟩
  rcases Nat.lt_or_ge m vals.length with hlt | hge
  · rw [List.getElem?_append_left hlt] at hm
    obtain ⟨t', h1, h2⟩ := h.2 m v' hm
    exact ⟨t', by rw [List.getElem?_append_left (by rw [← h.1]; exact hlt)]; exact h1, h2⟩
  · have hl := (List.getElem?_eq_some_iff.1 hm).1
    simp at hl
    obtain rfl : m = vals.length := by omega
    rw [List.getElem?_append_right (Nat.le_refl _)] at hm
    simp at hm
    subst hm
    exact ⟨t, by rw [h.1]; simp, ht⟩
open Classical in
/-- the answers among the starts -/
noncomputable def ans (E : Int → Nat → Nat → Prop) (F : List Nat) (T : List (List Int)) : List (List Int) := T.filter fun t => decide (An E F t)
open Classical in
theorem ans_up {E : Int → Nat → Nat → Prop} {F : List Nat} {T : List (List Int)} {t : List Int} : ans E F (T ++ [t]) = ans E F T ++ (if An E F t then [t] else []) := by
  unfold ans
  rw [List.filter_append]
  congr 1
  by_cases h : An E F t
  · simp [h]
  · simp [h]
open Classical in
theorem Tp.next {E : Int → Nat → Nat → Prop} {F : List Nat} {L j : Nat} {l T : List (List Int)} (h : Tp E F j l) (hT : Fp E F L j T) (hj : j ≤ L) : Tp E F (j + 1) (l ++ ans E F T) := h.tell hT hj (fun t => decide (An E F t)) (fun t _ => by rw [decide_eq_true_iff])
/-- whether a set's end is an answer -/
theorem en_an {E : Int → Nat → Nat → Prop} {F : List Nat} {M L left : Nat} {N : Nat → Nat} {ws : List Nat} {t : List Int} (hN : Nd E F M L N) (hn : M ≤ 64 * ws.length) (hX : ∀ x, mem ws x = true ↔ Wr E t x ∧ N x ≤ left) : en N ws = true ↔ An E F t := by
  rw [en_iff hn (fun v hv => hN.wr ((hX v).1 hv).1), hN.ans]
  constructor
  · rintro ⟨v, hv, h0⟩
    exact ⟨v, ((hX v).1 hv).1, h0⟩
  · rintro ⟨v, hv, h0⟩
    exact ⟨v, (hX v).2 ⟨hv, by omega⟩, h0⟩
open Classical in
/-- the next front, by the symbols that Bt tells -/
theorem bs_bt {S : Nat} {tx : List Int} {A : List Arc} {F : List Nat} {N : Nat → Nat} {M L l j : Nat} {t : List Int} (hN : Nd (Eg S tx A) F M L N) (hA : ∀ a ∈ A, a.2.2.2.1 ≤ 60) (h0 : ∀ a ∈ A, 0 ≤ a.2.2.2.1) (hl : j + (l + 1) = L) : Bs (Eg S tx A) F L j t ((Bt (Eg S tx A) N l t).map fun (c : Nat) => (c : Int)) := by
  refine ⟨fun c => ⟨fun hc => ?_, fun hc => ?_⟩, ?_⟩
  · obtain ⟨d, hd, rfl⟩ := List.mem_map.1 hc
    obtain ⟨_, h2⟩ := List.mem_filter.1 hd
    obtain ⟨h3, x, h4⟩ := of_decide_eq_true h2
    obtain ⟨s, h5, h6⟩ := (hN.live (t := t ++ [(d : Int)]) (k := l) (by omega)).1 ⟨x, h4⟩
    exact ⟨by omega, s, by omega, h6⟩
  · obtain ⟨h1, s, h2, h3⟩ := hc
    obtain ⟨x, hx1, hx2⟩ := (hN.live (t := t ++ [c]) (k := l) (by omega)).2 ⟨s, by omega, h3⟩
    have hcb : 0 < c ∧ c ≤ 60 := by
      rcases hx1 with ⟨h4, _⟩ | ⟨u, d, t', _, h5, _, ⟨a, ha, h6, _⟩⟩
      · simp at h4
      · have h7 := (List.append_inj' h5 (by simp)).2
        have h8 : c = d := by simpa using h7
        have := hA a ha
        have := h0 a ha
        omega
    refine List.mem_map.2 ⟨c.toNat, List.mem_filter.2 ⟨List.mem_range.2 (by omega), decide_eq_true ?_⟩, by omega⟩
    have e : ((c.toNat : Nat) : Int) = c := by omega
    exact ⟨by omega, x, by rw [e]; exact ⟨hx1, hx2⟩⟩
  · refine List.pairwise_map.2 ?_
    refine (List.Pairwise.filter _ List.pairwise_lt_range).imp ?_
    intro a b hab
    omega
end Go.Proofs.YtfjocafepigijaaDoor.Ot
