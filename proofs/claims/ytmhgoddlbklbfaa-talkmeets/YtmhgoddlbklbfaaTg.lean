/- Hear of a talker. Conditions: the talker lies in memory and has at most twenty slots; what is told does not lie in the talker's own memory. -/
import Derived.Test.YtmhgoddlbklbfaaTf
namespace Go.Proofs.Ytmhgoddlbklbfaa.Tb
open Go.RowKit Ta

/-- a list of what was told, to be read -/
def IsT (w : World) (a : Option Addr) (l : List To) : Prop := l.length ≤ 140737488355328 ∧ (l.length = 0 ∨ ∃ g off, a = some ⟨g, off, none⟩ ∧ g < w.heap.size ∧ ∀ j u, (tls l)[j]? = some u → w.cell? ⟨g, off + j, none⟩ = some u)
def Away (a : Option Addr) (b : Nat) : Prop := ∀ p, a = some p → p.block ≠ b
theorem cell_same {W W' : World} {b q : Nat} (h : W'.heap[b]? = W.heap[b]?) : W'.cell? ⟨b, q, none⟩ = W.cell? ⟨b, q, none⟩ := by
  unfold World.cell?
  rw [h]
theorem IsT.ko {w w' : World} {a : Option Addr} {l : List To} {b : Nat} (h : IsT w a l) (hk : Ko w w' b) (ha : Away a b) : IsT w' a l := by
  obtain ⟨h1, h | ⟨g, off, hg, hl, hc⟩⟩ := h
  · exact ⟨h1, .inl h⟩
  · exact ⟨h1, .inr ⟨g, off, hg, Nat.lt_of_lt_of_le hl hk.1, fun j u hu => (cell_same (hk.2 g (ha _ hg) hl)).trans (hc j u hu)⟩⟩
theorem IsT.below {w w' : World} {a : Option Addr} {l : List To} (h : IsT w a l) (hb : Below w.heap.size w w') : IsT w' a l := by
  obtain ⟨h1, h | ⟨g, off, hg, hl, hc⟩⟩ := h
  · exact ⟨h1, .inl h⟩
  · exact ⟨h1, .inr ⟨g, off, hg, Nat.lt_of_lt_of_le hl hb.size, fun j u hu => (hb.cell (p := ⟨g, off + j, none⟩) hl).trans (hc j u hu)⟩⟩
theorem tls_at {l : List To} {i : Nat} (hi : i < l.length) (k : Nat) (hk : k < 5) : (tls l)[i * 5 + k]? = (tl l[i])[k]? := fm_at tl 5 (fun _ => rfl) l i hi k hk
/-- the cells of one -/
theorem IsT.at {w : World} {a : Option Addr} {l : List To} (h : IsT w a l) {i : Nat} (hi : i < l.length) : ∃ g off, a = some ⟨g, off, none⟩ ∧ g < w.heap.size ∧ w.cell? ⟨g, off + i * 5, none⟩ = some (.int .i64 l[i].sl) ∧ w.cell? ⟨g, off + i * 5 + 1, none⟩ = some (.int .i64 l[i].ver) ∧ w.cell? ⟨g, off + i * 5 + 2, none⟩ = some (.int .i64 l[i].who) ∧ w.cell? ⟨g, off + i * 5 + 3, none⟩ = some (.string l[i].val) ∧ w.cell? ⟨g, off + i * 5 + 4, none⟩ = some (.bool l[i].op) := by
  obtain ⟨_, h | ⟨g, off, hg, hl, hc⟩⟩ := h
  · omega
  · refine ⟨g, off, hg, hl, hc (i * 5) _ ?_, ?_, ?_, ?_, ?_⟩
    · have := tls_at hi 0 (by omega); rw [Nat.add_zero] at this; rw [this]; rfl
    · rw [Nat.add_assoc]; exact hc _ _ (by rw [tls_at hi 1 (by omega)]; rfl)
    · rw [Nat.add_assoc]; exact hc _ _ (by rw [tls_at hi 2 (by omega)]; rfl)
    · rw [Nat.add_assoc]; exact hc _ _ (by rw [tls_at hi 3 (by omega)]; rfl)
    · rw [Nat.add_assoc]; exact hc _ _ (by rw [tls_at hi 4 (by omega)]; rfl)

def firstE (N : Nat) (l : List To) : Int := l.foldr (fun t r => if wrongT N t ≠ 0 then wrongT N t else r) 0
def hearE (N : Nat) (l : List To) : Int := if 20 < l.length then 7 else firstE N l
def hear1 (es : List Sl) (t : To) : List Sl := match es[t.sl.toNat]? with
  | some e => es.set t.sl.toNat (hearS e t)
  | none => es
def hearAll (es : List Sl) (l : List To) : List Sl := l.foldl hear1 es
theorem firstE_bad {N : Nat} : ∀ {l : List To} {i : Nat} (hi : i < l.length), (∀ j (h : j < l.length), j < i → wrongT N l[j] = 0) → wrongT N l[i] ≠ 0 → firstE N l = wrongT N l[i]
  | t :: l, 0, _, _, h => by simp [firstE] at h ⊢; intro h'; exact absurd h' h
  | t :: l, i + 1, hi, hz, h => by
    have h0 : wrongT N t = 0 := hz 0 (by simp) (by omega)
    have := firstE_bad (l := l) (i := i) (by simpa using hi) (fun j hj hji => hz (j + 1) (by simpa using hj) (by omega)) (by simpa using h)
    simp [firstE, h0] at this ⊢
    exact this
theorem firstE_ok {N : Nat} : ∀ {l : List To}, (∀ j (h : j < l.length), wrongT N l[j] = 0) → firstE N l = 0
  | [], _ => rfl
  | t :: l, hz => by
    have h0 : wrongT N t = 0 := hz 0 (by simp)
    have := firstE_ok (N := N) (l := l) (fun j hj => hz (j + 1) (by simpa using hj))
    simp [firstE, h0] at this ⊢
    exact this
theorem wrong_ok {N : Nat} {t : To} (h : wrongT N t = 0) : (0 ≤ t.sl ∧ t.sl < (N : Int)) ∧ (1 ≤ t.ver ∧ t.ver ≤ 1000000) ∧ whoB t.who = true ∧ t.val.size ≤ 100 := by
  unfold wrongT at h
  split at h
  · cases h
  · rename_i h1
    split at h
    · cases h
    · rename_i h2
      split at h
      · cases h
      · rename_i h3
        have h1' : hasB N t.sl = true := by simpa using h1
        refine ⟨of_decide_eq_true h1', by omega, ?_, by omega⟩
        cases hw : whoB t.who
        · exact absurd (.inr (.inr hw)) h2
        · rfl
theorem hear1_length (es : List Sl) (t : To) : (hear1 es t).length = es.length := by unfold hear1; split <;> simp
theorem hearAll_length (es : List Sl) (l : List To) : (hearAll es l).length = es.length := by
  unfold hearAll
  induction l generalizing es with
  | nil => rfl
  | cons t l ih => simp only [List.foldl_cons]; rw [ih, hear1_length]
theorem hearAll_succ (es : List Sl) (l : List To) {i : Nat} (hi : i < l.length) : hearAll es (l.take (i + 1)) = hear1 (hearAll es (l.take i)) l[i] := by
  unfold hearAll
  rw [List.take_succ_eq_append_getElem hi, List.foldl_append]
  rfl
theorem hear1_some {es : List Sl} {t : To} {k : Nat} (hk : t.sl = (k : Int)) (h : k < es.length) : hear1 es t = es.set k (hearS es[k] t) := by
  unfold hear1
  rw [hk, show ((k : Int)).toNat = k from rfl, List.getElem?_eq_getElem h]

set_option maxHeartbeats 4000000 in
theorem hear_all {w : World} {b N c : Nat} {W : Int} {es : List Sl} {a : Option Addr} {l : List To} (h : Tk w b W (N : Int) es) (hN : N ≤ 20) (hl : IsT w a l) (ha : Away a b) :
    Calls Try.prog 14 #[.pointer (some ⟨b, 0, none⟩), .slice a l.length c] w fun e w' => e = .returned (.int .i64 (hearE N l)) ∧ Tk w' b W (N : Int) (if hearE N l = 0 then hearAll es l else es) ∧ Ko w w' b := by
  unfold hearE
  have hln := hl.1
  by_cases h20 : 20 < l.length
  · have h20' : (20 : Int) < (l.length : Int) := by omega
    rw [if_pos h20, if_neg (by decide)]
    go_enter Try.func14, Try.ntmps14
    go_wp2
    go_ret
    exact ⟨rfl, h, Ko.refl _ _⟩
  have h20' : ¬ (20 : Int) < (l.length : Int) := by omega
  rw [if_neg h20]
  obtain ⟨F, hF⟩ : ∃ F, firstE N l = F := ⟨_, rfl⟩
  rw [hF]
  have HF : Hid (firstE N l = F) := hF
  obtain ⟨R, hR⟩ : ∃ R, (if F = 0 then hearAll es l else es) = R := ⟨_, rfl⟩
  rw [hR]
  have HR : Hid ((if F = 0 then hearAll es l else es) = R) := hR
  clear hF hR
  have HT : Hid (Tk w b W (N : Int) es) := h
  have HL : Hid (IsT w a l) := hl
  have hle : es.length = 20 := h.2
  have hbw := h.lt
  clear h hl
  go_enter Try.func14, Try.ntmps14
  go_wp2
  go_loopw [6, 7, 15] (fun _ _ iv wr => ∃ (i : Nat), iv = .int .i64 (i : Int) ∧ i ≤ l.length ∧ (∀ j (h : j < l.length), j < i → wrongT N l[j] = 0) ∧ Below w.heap.size w wr) (fun _ _ iv _ => l.length - (intOf iv).toNat)
  case atStart => exact ⟨0, rfl, by omega, by omega, Below.refl _ _⟩
  case round =>
    obtain ⟨i, rfl, hi, hz, hB⟩ := hrel
    have HZ : Hid (∀ j (h : j < l.length), j < i → wrongT N l[j] = 0) := hz
    clear hz
    by_cases hil : i < l.length
    · have hil' : (i : Int) < (l.length : Int) := by omega
      obtain ⟨g, off, rfl, hg, c0, c1, c2, c3, c4⟩ := (HL.out.below hB).at hil
      have K := fun o => check_any ((HT.out.below hB).below ((Below.refl _ wr).alloc (Nat.le_refl _) o)) l[i]
      have HFB : Hid (wrongT N l[i] ≠ 0 → firstE N l = wrongT N l[i]) := fun hne => firstE_bad hil HZ.out hne
      have HZ2 : Hid (wrongT N l[i] = 0 → ∀ j (h : j < l.length), j < i + 1 → wrongT N l[j] = 0) := fun h0 j hj hji => by
        by_cases e : j = i
        · subst e; exact h0
        · exact HZ.out j hj (by omega)
      obtain ⟨x, hx⟩ : ∃ x, wrongT N l[i] = x := ⟨_, rfl⟩
      rw [hx] at K HFB HZ2
      obtain ⟨⟨t0, t1, t2, t3, t4⟩, ht⟩ : ∃ t, l[i] = t := ⟨_, rfl⟩
      rw [ht] at K c0 c1 c2 c3 c4
      unfold vt at K
      dsimp only at K c0 c1 c2 c3 c4
      have hws := hB.size
      clear hx ht
      by_cases hxz : x = 0
      · have bx : (x != 0) = false := by simp [hxz]
        have HZ3 : Hid (∀ j (h : j < l.length), j < i + 1 → wrongT N l[j] = 0) := HZ2.out hxz
        clear hxz HFB HZ2
        go_wp2_with (go_at_call 24; (with_reducible refine (K _).mono ?_); rintro e w2 ⟨rfl, hb2⟩; have hb3 : Below w.heap.size w w2 := (hB.alloc hws _).trans (hb2.mono (by simp; omega)))
        go_roundw
        case rel => exact ⟨i + 1, by go_num, by omega, HZ3.out, hb3⟩
        case measure => simp [intOf]; omega
      · have bx : (x != 0) = true := by simp [hxz]
        have HE : Hid (firstE N l = x ∧ x ≠ 0) := ⟨HFB.out hxz, hxz⟩
        clear hxz HFB HZ2
        go_wp2_with (go_at_call 24; (with_reducible refine (K _).mono ?_); rintro e w2 ⟨rfl, hb2⟩; have hb3 : Below w.heap.size w w2 := (hB.alloc hws _).trans (hb2.mono (by simp; omega)))
        go_ret
        have eF : F = x := HF.out.symm.trans HE.out.1
        have eR : R = es := by rw [← HR.out, if_neg (by rw [eF]; exact HE.out.2)]
        rw [eF, eR]
        exact ⟨rfl, HT.out.below hb3, ko_below hb3⟩
    · have hil' : ¬ (i : Int) < (l.length : Int) := by omega
      have HE : Hid (firstE N l = 0) := firstE_ok (fun j hj => HZ.out j hj (by omega))
      have HW : Hid (∀ j (h : j < l.length), wrongT N l[j] = 0) := fun j hj => HZ.out j hj (by omega)
      clear HZ
      go_wp2
      go_loopw [9, 28] (fun _ iv wr => ∃ (i : Nat), iv = .int .i64 (i : Int) ∧ i ≤ l.length ∧ Tk wr b W (N : Int) (hearAll es (l.take i)) ∧ Ko w wr b) (fun _ iv _ => l.length - (intOf iv).toNat)
      case atStart => exact ⟨0, rfl, by omega, by simpa [hearAll] using HT.out.below hB, ko_below hB⟩
      case round =>
        obtain ⟨k, rfl, hk, hT, hK⟩ := hrel
        by_cases hkl : k < l.length
        · have hkl' : (k : Int) < (l.length : Int) := by omega
          obtain ⟨g, off, rfl, hg, c0, c1, c2, c3, c4⟩ := (HL.out.ko hK ha).at hkl
          obtain ⟨w1, w2, _, w4⟩ := wrong_ok (HW.out k hkl)
          obtain ⟨s, hs⟩ : ∃ s : Nat, l[k].sl = (s : Int) := ⟨l[k].sl.toNat, by omega⟩
          have hsl : s < (hearAll es (l.take k)).length := by rw [hearAll_length]; omega
          have hs20 : (s : Int) < 20 := by omega
          have HS : Hid (hearAll es (l.take (k + 1)) = (hearAll es (l.take k)).set s (hearS (hearAll es (l.take k))[s] l[k])) := (hearAll_succ es l hkl).trans (hear1_some hs hsl)
          have K25 := fun o => hear_any (hT.below ((Below.refl _ wr).alloc (Nat.le_refl _) o).drew) hsl l[k] w4
          rw [← HS.out] at K25
          have hne : b ≠ wr.heap.size := Nat.ne_of_lt hT.lt
          rw [hs] at c0
          obtain ⟨⟨t0, t1, t2, t3, t4⟩, ht⟩ : ∃ t, l[k] = t := ⟨_, rfl⟩
          rw [ht] at K25 c1 c2 c3 c4 hs
          unfold vt at6 at K25
          dsimp only at K25 c1 c2 c3 c4 hs
          rw [hs] at K25
          clear hs ht w1 w2 HS hT
          have hkA := fun o => ko_below (X := b) ((Below.refl _ wr).alloc (Nat.le_refl _) o).drew
          go_wp2_with fail
          go_region_with (first | (go_at_call 25; (with_reducible refine (K25 _).mono ?_); rintro e w3 ⟨rfl, T3, k3⟩))
          all_goals
            go_wp2
            go_roundw
            case rel => exact ⟨k + 1, by go_num, by omega, T3, (hK.trans (hkA _)).trans k3⟩
            case measure => simp [intOf]; omega
        · have hkl' : ¬ (k : Int) < (l.length : Int) := by omega
          have e : k = l.length := by omega
          subst e
          rw [List.take_length] at hT
          go_wp2
          go_ret
          have eF : F = 0 := HF.out.symm.trans HE.out
          have eR : R = hearAll es l := by rw [← HR.out, if_pos eF]
          rw [eF, eR]
          exact ⟨rfl, hT, hK⟩
end Go.Proofs.Ytmhgoddlbklbfaa.Tb
