/- The program's talker and the document's, side by side, in plain words. No conditions. -/
import Derived.Test.YtmhgoddlbklbfaaRf
import Derived.Lib.Bytealg
namespace Go.Proofs.Ytmhgoddlbklbfaa.Ra
open Go.RowKit Ta Tb

theorem cmpI_zero {a b : Int} : cmpI a b = 0 ↔ a = b := by unfold cmpI; split <;> (try split) <;> omega
theorem cmpI_pos {a b : Int} : 0 < cmpI a b ↔ b < a := by unfold cmpI; split <;> (try split) <;> omega
theorem u8_tri (a b : UInt8) : a < b ∨ a = b ∨ b < a := by
  simp only [UInt8.lt_iff_toNat_lt, ← UInt8.toNat_inj]
  omega
theorem u8_asym {a b : UInt8} (h : a < b) : ¬ b < a ∧ a ≠ b := by
  simp only [UInt8.lt_iff_toNat_lt, ne_eq, ← UInt8.toNat_inj] at *
  omega
theorem comp_zero : ∀ {x y : List UInt8}, Lib.compareBytes x y = 0 ↔ x = y
  | [], [] => by simp [Lib.compareBytes]
  | [], _ :: _ => by simp [Lib.compareBytes]
  | _ :: _, [] => by simp [Lib.compareBytes]
  | a :: x, b :: y => by
    unfold Lib.compareBytes
    by_cases h : a < b
    · rw [if_pos h]
      have := (u8_asym h).2
      simp [this]
    · rw [if_neg h]
      by_cases h' : b < a
      · rw [if_pos h']
        have := (u8_asym h').2.symm
        simp [this]
      · rw [if_neg h', comp_zero]
        have e : a = b := by rcases u8_tri a b with h1 | h1 | h1; exact absurd h1 h; exact h1; exact absurd h1 h'
        simp [e]
theorem comp_neg : ∀ {x y : List UInt8}, Lib.compareBytes x y < 0 ↔ Op.bytesLess x y = true
  | [], [] => by simp [Lib.compareBytes, Op.bytesLess]
  | [], _ :: _ => by simp [Lib.compareBytes, Op.bytesLess]
  | _ :: _, [] => by simp [Lib.compareBytes, Op.bytesLess]
  | a :: x, b :: y => by
    unfold Lib.compareBytes Op.bytesLess
    by_cases h : a < b
    · rw [if_pos h]
      simp [h]
    · rw [if_neg h]
      by_cases h' : b < a
      · rw [if_pos h']
        have := (u8_asym h').2.symm
        simp [h, this]
      · rw [if_neg h', comp_neg]
        have e : a = b := by rcases u8_tri a b with h1 | h1 | h1; exact absurd h1 h; exact h1; exact absurd h1 h'
        subst e
        simp [h]
theorem ba_ext {x y : ByteArray} : x.toList = y.toList ↔ x = y := by
  rw [Lib.toList_data, Lib.toList_data]
  constructor
  · intro h
    have : x.data = y.data := Array.toList_inj.1 h
    cases x; cases y; simp_all
  · intro h; rw [h]

theorem later_cmp (x y : To) : laterB x y = true ↔ 0 < cmpT x y := by
  by_cases h1 : x.ver = y.ver
  · have n1 : ¬ (x.ver ≠ y.ver) := fun h => h h1
    have m1 : ¬ (cmpI x.ver y.ver ≠ 0) := fun h => h (cmpI_zero.2 h1)
    by_cases h2 : x.who = y.who
    · have n2 : ¬ (x.who ≠ y.who) := fun h => h h2
      have m2 : ¬ (cmpI x.who y.who ≠ 0) := fun h => h (cmpI_zero.2 h2)
      have e1 : laterB x y = !(Op.bytesLess x.val.data.toList y.val.data.toList || x.val.data.toList == y.val.data.toList) := by
        unfold laterB
        rw [if_neg n1, if_neg n2, Lib.toList_data, Lib.toList_data]
      have e2 : cmpT x y = Lib.compareBytes x.val.data.toList y.val.data.toList := by
        unfold cmpT or3
        rw [if_neg m1, if_neg m2]
      rw [e1, e2]
      have hz := comp_zero (x := x.val.data.toList) (y := y.val.data.toList)
      have hn := comp_neg (x := x.val.data.toList) (y := y.val.data.toList)
      cases hb : Op.bytesLess x.val.data.toList y.val.data.toList
      · rw [hb] at hn
        have h4 : ¬ Lib.compareBytes x.val.data.toList y.val.data.toList < 0 := fun h => by simpa using hn.1 h
        by_cases he : x.val.data.toList = y.val.data.toList
        · have h0 := hz.2 he
          have h5 : (x.val.data.toList == y.val.data.toList) = true := by simpa using he
          rw [h5, h0]
          simp
        · have h3 : ¬ Lib.compareBytes x.val.data.toList y.val.data.toList = 0 := fun h => he (hz.1 h)
          have h5 : (x.val.data.toList == y.val.data.toList) = false := by simpa using he
          rw [h5]
          simp
          omega
      · have := hn.2 hb
        simp
        omega
    · have e1 : laterB x y = decide (y.who < x.who) := by
        unfold laterB
        rw [if_neg n1, if_pos h2]
      have e2 : cmpT x y = cmpI x.who y.who := by
        unfold cmpT or3
        rw [if_neg m1, if_pos (show cmpI x.who y.who ≠ 0 from fun h => h2 (cmpI_zero.1 h))]
      rw [e1, e2, decide_eq_true_eq, cmpI_pos]
  · have e1 : laterB x y = decide (y.ver < x.ver) := by
      unfold laterB
      rw [if_pos h1]
    have e2 : cmpT x y = cmpI x.ver y.ver := by
      unfold cmpT or3
      rw [if_pos (show cmpI x.ver y.ver ≠ 0 from fun h => h1 (cmpI_zero.1 h))]
    rw [e1, e2, decide_eq_true_eq, cmpI_pos]
theorem cmpT_zero (x y : To) : cmpT x y = 0 ↔ x.ver = y.ver ∧ x.who = y.who ∧ x.val = y.val := by
  unfold cmpT or3
  by_cases h1 : x.ver = y.ver
  · rw [if_neg (show ¬ (cmpI x.ver y.ver ≠ 0) from fun h => h (cmpI_zero.2 h1))]
    by_cases h2 : x.who = y.who
    · rw [if_neg (show ¬ (cmpI x.who y.who ≠ 0) from fun h => h (cmpI_zero.2 h2)), comp_zero, ← Lib.toList_data, ← Lib.toList_data, ba_ext]
      exact ⟨fun h => ⟨h1, h2, h⟩, fun h => h.2.2⟩
    · have h3 : cmpI x.who y.who ≠ 0 := fun h => h2 (cmpI_zero.1 h)
      rw [if_pos h3]
      exact ⟨fun h => absurd h h3, fun h => absurd h.2.1 h2⟩
  · have h3 : cmpI x.ver y.ver ≠ 0 := fun h => h1 (cmpI_zero.1 h)
    rw [if_pos h3]
    exact ⟨fun h => absurd h h3, fun h => absurd h.1 h1⟩
theorem same_cmp {x y : To} (hs : x.sl = y.sl) (ho : x.op = y.op) : sameB x y = true ↔ cmpT y x = 0 := by
  rw [cmpT_zero]
  unfold sameB
  simp only [Bool.and_eq_true, beq_iff_eq, ba_ext]
  exact ⟨fun ⟨⟨⟨⟨_, h1⟩, h2⟩, h3⟩, _⟩ => ⟨h1.symm, h2.symm, h3.symm⟩, fun ⟨h1, h2, h3⟩ => ⟨⟨⟨⟨hs, h1.symm⟩, h2.symm⟩, h3.symm⟩, ho⟩⟩

def slOf (r : En) : Sl := ⟨r.sl, r.ver, r.who, r.val, openQ r, r.ow⟩
theorem hear_slOf {r : En} {t : To} (hs : r.sl = t.sl) (hv : 1 ≤ t.ver) : hearS (slOf r) t = slOf (hearQ r t) := by
  have hc : cmpT t (slOf r).to = cmpT (shutO t) (shutQ r) := rfl
  unfold hearS hearQ
  rw [hc]
  have hl := later_cmp (shutO t) (shutQ r)
  have he := same_cmp (x := shutQ r) (y := shutO t) hs rfl
  by_cases h1 : 0 < cmpT (shutO t) (shutQ r)
  · rw [if_neg (by omega), if_pos h1, if_pos (hl.2 h1)]
    unfold putS slOf openQ
    have : decide (t.ver ≠ 0) = true := decide_eq_true (by omega)
    simp [this, hs]
  · rw [if_neg (fun h => h1 (hl.1 h))]
    by_cases h2 : cmpT (shutO t) (shutQ r) = 0
    · rw [if_neg (by omega), if_neg h1, if_pos (he.2 h2)]
      unfold slOf openQ
      simp
    · rw [if_pos (by omega), if_neg (fun h => h2 (he.1 h))]

/-- both have the same -/
structure Sim (N : Nat) (es : List Sl) (rs : List En) : Prop where
  len : rs.length = N
  eq : ∃ tail, es = rs.map slOf ++ tail ∧ ∀ e ∈ tail, e.ver = 0
  num : ∀ i (h : i < rs.length), rs[i].sl = (i : Int)
  vers : VersQ rs
variable {N : Nat} {es : List Sl} {rs : List En}
theorem Sim.at (h : Sim N es rs) {i : Nat} (hi : i < N) : ∃ h1 : i < es.length, ∃ h2 : i < rs.length, es[i] = slOf rs[i] := by
  obtain ⟨tail, rfl, _⟩ := h.eq
  have hr : i < rs.length := by rw [h.len]; exact hi
  refine ⟨by simp; omega, hr, ?_⟩
  rw [List.getElem_append_left (by simpa using hr)]
  simp
theorem Sim.versE (h : Sim N es rs) : Vers es := by
  obtain ⟨tail, rfl, ht⟩ := h.eq
  intro e he
  rcases List.mem_append.1 he with he | he
  · obtain ⟨r, hr, rfl⟩ := List.mem_map.1 he
    exact h.vers r hr
  · rw [ht e he]; omega
theorem Sim.take (h : Sim N es rs) : es.take N = rs.map slOf := by
  obtain ⟨tail, rfl, _⟩ := h.eq
  rw [List.take_append_of_le_length (by simp [h.len]), List.take_of_length_le (by simp [h.len])]
theorem Sim.put (h : Sim N es rs) {i : Nat} (hi : i < N) (r : En) (hs : r.sl = (i : Int)) (hv : 0 ≤ r.ver ∧ r.ver ≤ 1000000) : Sim N (es.set i (slOf r)) (rs.set i r) := by
  obtain ⟨tail, rfl, ht⟩ := h.eq
  have hr : i < rs.length := by rw [h.len]; exact hi
  refine ⟨by rw [List.length_set]; exact h.len, ⟨tail, ?_, ht⟩, fun j hj => ?_, fun e he => ?_⟩
  · rw [List.set_append_left _ _ (by simpa using hr), List.map_set]
  · rw [List.getElem_set]
    split
    · rename_i e; rw [hs, e]
    · exact h.num j (by simpa using hj)
  · rcases List.mem_or_eq_of_mem_set he with he | rfl
    · exact h.vers e he
    · exact hv
theorem sim_told (h : Sim N es rs) : toldL (es.take N) = toldQ rs := by
  rw [h.take]
  unfold toldL toldQ
  rw [List.filter_map, List.map_map]
  rfl
theorem sim_tell (h : Sim N es rs) : tellL (es.take N) = tellQ rs := by
  rw [h.take]
  unfold tellL tellQ
  rw [List.filter_map, List.map_map]
  rfl
theorem sim_take (h : Sim N es rs) : Sim N (takeS N es) (rs.map calmQ) := by
  obtain ⟨tail, he, ht⟩ := h.eq
  refine ⟨by rw [List.length_map]; exact h.len, ⟨tail, ?_, ht⟩, fun i hi => ?_, fun e he => ?_⟩
  · unfold takeS
    rw [h.take, List.map_map, List.map_map, he, List.drop_append_of_le_length (by simp [h.len]), List.drop_of_length_le (by simp [h.len]), List.nil_append]
    rfl
  · simp only [List.getElem_map]
    exact h.num i (by simpa using hi)
  · obtain ⟨r, hr, rfl⟩ := List.mem_map.1 he
    exact h.vers r hr
theorem sim_say (h : Sim N es rs) (W x : Int) (v : ByteArray) : (sayR W N es x v).1 = (sayQ W rs x v).1 ∧ Sim N (sayR W N es x v).2 (sayQ W rs x v).2 := by
  unfold sayR sayQ
  rw [h.len]
  by_cases hb0 : hasB N x = false
  · simp only [if_pos hb0]; exact ⟨trivial, h⟩
  · have hb : hasB N x = true := by simpa using hb0
    simp only [if_neg hb0]
    by_cases hv : 100 < v.size
    · simp only [if_pos hv]; exact ⟨trivial, h⟩
    · simp only [if_neg hv]
      have hx := of_decide_eq_true hb
      have hxn : x.toNat < N := by omega
      obtain ⟨h1, h2, he⟩ := h.at hxn
      simp only [List.getElem?_eq_getElem h1, List.getElem?_eq_getElem h2, he]
      have hve := h.vers _ (List.getElem_mem h2)
      have e1 : (slOf rs[x.toNat]).ver = rs[x.toNat].ver := rfl
      rw [e1]
      by_cases h7 : 1000000 ≤ rs[x.toNat].ver
      · simp only [if_pos h7]; exact ⟨trivial, h⟩
      · simp only [if_neg h7]
        refine ⟨trivial, ?_⟩
        have e2 : putS (slOf rs[x.toNat]) (rs[x.toNat].ver + 1) W v = slOf ⟨x, rs[x.toNat].ver + 1, W, v, false, false⟩ := by
          have hn := h.num _ h2
          have : decide (rs[x.toNat].ver + 1 ≠ 0) = true := decide_eq_true (by omega)
          unfold putS slOf openQ
          simp [this, hn]
          omega
        rw [e2]
        exact h.put hxn _ (by show x = _; omega) (by show 0 ≤ rs[x.toNat].ver + 1 ∧ rs[x.toNat].ver + 1 ≤ 1000000; omega)
theorem hearQ_facts {r : En} {t : To} (hs : r.sl = t.sl) (hr : 0 ≤ r.ver ∧ r.ver ≤ 1000000) (hv : 1 ≤ t.ver ∧ t.ver ≤ 1000000) : (hearQ r t).sl = t.sl ∧ 0 ≤ (hearQ r t).ver ∧ (hearQ r t).ver ≤ 1000000 := by
  unfold hearQ
  split
  · exact ⟨rfl, by show 0 ≤ t.ver; omega, hv.2⟩
  · split
    · exact ⟨hs, hr⟩
    · exact ⟨hs, hr⟩
theorem sim_hear1 (h : Sim N es rs) {t : To} (ht : wrongT N t = 0) : Sim N (hear1 es t) (hear1Q rs t) := by
  obtain ⟨w1, w2, _, _⟩ := wrong_ok ht
  obtain ⟨k, hk⟩ : ∃ k : Nat, t.sl = (k : Int) := ⟨t.sl.toNat, by omega⟩
  obtain ⟨h1, h2, he⟩ := h.at (show k < N by omega)
  rw [hear1_some hk h1, hear1Q_some hk h2, he]
  have hn : rs[k].sl = t.sl := (h.num k h2).trans hk.symm
  have hf := hearQ_facts hn (h.vers _ (List.getElem_mem h2)) w2
  rw [hear_slOf hn w2.1]
  exact h.put (by omega) _ (hf.1.trans hk) hf.2
theorem sim_hear (h : Sim N es rs) : ∀ {l : List To}, (∀ t ∈ l, wrongT N t = 0) → Sim N (hearAll es l) (hearAllQ rs l) := by
  intro l
  induction l generalizing es rs with
  | nil => intro _; exact h
  | cons t l ih =>
    intro hl
    exact ih (sim_hear1 h (hl t (by simp))) (fun u hu => hl u (by simp [hu]))
theorem hearE_all {l : List To} (h : hearE N l = 0) : ∀ t ∈ l, wrongT N t = 0 := by
  unfold hearE at h
  split at h
  · cases h
  · intro t ht
    obtain ⟨j, hj, rfl⟩ := List.getElem_of_mem ht
    exact firstE_zero h hj
theorem sim_hearR (h : Sim N es rs) (l : List To) : Sim N (if hearE N l = 0 then hearAll es l else es) (if hearE N l = 0 then hearAllQ rs l else rs) := by
  by_cases h0 : hearE N l = 0
  · rw [if_pos h0, if_pos h0]; exact sim_hear h (hearE_all h0)
  · rw [if_neg h0, if_neg h0]; exact h
theorem sim_new (hN : N ≤ 20) : Sim N (newS N) (newQ N) := by
  refine ⟨newQ_length N, ⟨List.replicate (20 - N) zeroS, ?_, ?_⟩, fun i hi => by simp [newQ, numQ], fun e he => ?_⟩
  · refine List.ext_getElem (by simp [newS, newQ]; omega) fun j h1 h2 => ?_
    have hj : j < 20 := by rw [newS_length] at h1; exact h1
    rw [newS_at hj]
    by_cases h : j < N
    · rw [if_pos h, List.getElem_append_left (by simpa [newQ] using h)]
      simp [newQ, numQ, num, slOf, openQ]
    · rw [if_neg h, List.getElem_append_right (by simp [newQ]; omega)]
      simp
  · intro e he
    rw [List.eq_of_mem_replicate he]
    rfl
  · simp only [newQ, List.mem_map] at he
    obtain ⟨i, _, rfl⟩ := he
    exact ⟨by show (0 : Int) ≤ 0; omega, by show (0 : Int) ≤ 1000000; omega⟩
end Go.Proofs.Ytmhgoddlbklbfaa.Ra
