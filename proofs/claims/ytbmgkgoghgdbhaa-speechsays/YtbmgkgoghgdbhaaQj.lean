/- next: the choice that follows, in the choice's own block. Conditions: at least one word, at most six, of at most three parts each; the words lie below the choice's block. -/
import Derived.Test.YtbmgkgoghgdbhaaQi
namespace Go.Proofs.Ytbmgkgoghgdbhaa.Te
open Go.RowKit Go.Shelf Qh
attribute [local go_sem] Oper.semAt_some

theorem nums_set (p z : List Nat) (c x j : Nat) (h : p.length = j) : (nums (p ++ c :: z)).setIfInBounds j (.int .i64 (x : Int)) = nums (p ++ x :: z) := by
  subst h
  apply Array.ext'
  simp [nums]
theorem nums_mid (p z : List Nat) (c j : Nat) (h : p.length = j) : (nums (p ++ c :: z))[j]? = some (.int .i64 (c : Int)) := by
  subst h
  simp [nums]
theorem fits_at : ∀ {ws : List (List Ty)} {cs : List Nat}, Fits ws cs → ∀ j (h : j < ws.length) (h1 : j < cs.length), cs[j] < (ws[j]).length
  | w :: ws, c :: cs, hf, 0, _, _ => hf.1
  | w :: ws, c :: cs, hf, j + 1, h, h1 => fits_at hf.2 j (by simpa using h) (by simpa using h1)
  | [], _, _, j, h, _ => by simp at h
  | _ :: _, [], hf, _, _, _ => hf.elim
theorem kp_refl (O : Nat → Prop) (A : World) : Kp O A A := ⟨rfl, rfl, rfl, Nat.le_refl _, fun _ _ _ => rfl⟩
theorem kp_set {O : Nat → Prop} {A B : World} (h : Kp O A B) (p : Addr) (v : Value) (ho : O p.block) : Kp O A (B.setCell p v) := by
  have hb := (Below.refl 0 B).setCell (p := p) (Nat.zero_le _) v
  exact ⟨hb.os.trans h.os, hb.tape.trans h.tape, hb.output.trans h.output, Nat.le_trans h.size hb.size, fun k hk hn => (heap_setCell_other B p k v (fun e => hn (e ▸ ho))).trans (h.block k hk hn)⟩
/-- m words are to come -/
structure NI (ws : List (List Ty)) (cs : List Nat) (w : World) (cb m : Nat) (A : World) : Prop where
  cho : A.heap[cb]? = some (.cells (nums (cs.take m ++ zeros (ws.drop m))) 3 (0, 0))
  box : A.heap[w.heap.size]? = some (.cells #[.slice (some ⟨cb, 0, none⟩) ws.length ws.length] 50 (0, 0))
  ans : A.heap[w.heap.size + 1]? = some (.cells #[.bool false] 4 (0, 0))
  wnd : nx ws cs = (nx (ws.take m) (cs.take m)).map (· ++ zeros (ws.drop m))
  bel : Below cb w A
def NR (ws : List (List Ty)) (cs : List Nat) (w : World) (cb : Nat) (A : World) : Prop := ∃ r, nx ws cs = some r ∧ A.heap[cb]? = some (.cells (nums r) 3 (0, 0)) ∧ A.heap[w.heap.size + 1]? = some (.cells #[.bool true] 4 (0, 0)) ∧ Below cb w A
/-- one word more -/
theorem nx_one (ws : List (List Ty)) (cs : List Nat) (j : Nat) (h : j < ws.length) (h1 : j < cs.length) (hl : cs.length = ws.length) : nx (ws.take (j + 1)) (cs.take (j + 1)) = if cs[j] + 1 < (ws[j]).length then some (cs.take j ++ [cs[j] + 1]) else (nx (ws.take j) (cs.take j)).map (· ++ [0]) := by
  rw [List.take_succ_eq_append_getElem h, List.take_succ_eq_append_getElem h1]
  exact nx_snoc _ _ _ _ (by simp [hl])
set_option maxHeartbeats 4000000 in
set_option maxRecDepth 100000 in
theorem next_any {d : Nat} (ws : List (List Ty)) (ka : Option Addr) (kc : Nat) (cs : List Nat) (cb : Nat) (w0 w : World) (h1 : 1 ≤ ws.length) (h6 : ws.length ≤ 6) (h3 : ∀ l ∈ ws, 0 < l.length ∧ l.length ≤ 3) (hws : WsAt w0 d ws ka) (hb0 : Below w0.heap.size w0 w) (hcb : w0.heap.size ≤ cb) (hf : Fits ws cs) (hc : w.heap[cb]? = some (.cells (nums cs) 3 (0, 0))) :
    Calls Try.prog 60 #[.slice (some ⟨cb, 0, none⟩) ws.length ws.length, .slice ka ws.length kc] w fun e w' => e = .returned (.bool (nx ws cs).isSome) ∧ (∀ r, nx ws cs = some r → w'.heap[cb]? = some (.cells (nums r) 3 (0, 0))) ∧ Below cb w w' := by
  have hlen := fits_len hf
  have hclt := lt_of_get hc
  obtain ⟨gb, off, rfl, hg1, hg2⟩ : ∃ B off, ka = some ⟨B, off, none⟩ ∧ B < w0.heap.size ∧ ∀ i (h : i < ws.length), ∃ a' c', w0.cell? ⟨B, off + i, none⟩ = some (.slice a' ws[i].length c') ∧ LsQ w0 d ws[i] a' c' := by
    rcases hws with h | h
    · omega
    · exact h
  have hWB : WsB w ws gb off := by
    refine ⟨Nat.lt_of_lt_of_le hg1 hb0.size, fun i hi => ?_⟩
    obtain ⟨a', c', q, _⟩ := hg2 i hi
    exact ⟨a', c', (hb0.cell (p := ⟨gb, _, none⟩) hg1).trans q⟩
  have HWB : Hid (WsB w ws gb off) := hWB
  have HC : Hid (w.heap[cb]? = some (.cells (nums cs) 3 (0, 0))) := hc
  have HF : Hid (Fits ws cs) := hf
  have H3 : Hid (∀ l ∈ ws, 0 < l.length ∧ l.length ≤ 3) := h3
  have HL : Hid (cs.length = ws.length) := hlen
  have K79 := fun W => back_any (.slice (some ⟨gb, off, none⟩) ws.length kc) W ⟨_, _, _, rfl⟩
  obtain ⟨b, hbb⟩ : ∃ b, (nx ws cs).isSome = b := ⟨_, rfl⟩
  rw [hbb]
  have HBB : Hid ((nx ws cs).isSome = b) := hbb
  clear hws hg2 hWB hc hf h3 hlen hbb
  refine (callsIn_wide (n := 5)).1 ?_
  refine callsIn_of_wp_marks Try.func60 rfl trivial (wpIn_wide.2 ?_) rfl
  simp only [Try.ntmps60, List.size_toArray, List.length_cons, List.length_nil, Nat.reduceAdd, Nat.reduceSub, Array.replicate_succ, Array.replicate_zero, List.push_toArray, List.append_toArray, List.nil_append, List.cons_append]
  go_wp2_with (go_at_call 79; (with_reducible refine (K79 _).mono ?_); rintro e w1 ⟨rfl, rfl⟩)
  have h4 := three_boxes w (.cells #[.slice (some ⟨cb, 0, none⟩) ws.length ws.length] 50) (.cells #[.bool false] 4) (.cells #[.slice (some ⟨gb, off, none⟩) ws.length kc] 49)
  generalize hV : ((w.alloc (.cells #[.slice (some ⟨cb, 0, none⟩) ws.length ws.length] 50)).alloc (.cells #[.bool false] 4)).alloc (.cells #[.slice (some ⟨gb, off, none⟩) ws.length kc] 49) = V at *
  obtain ⟨x0, x1, x2, hs, hb⟩ := h4
  clear hV K79
  have hbc : Below cb w V := hb.mono (Nat.le_of_lt hclt)
  refine wpIn_wide.1 (range_ends (n := 5) rfl (by omega) (gf := 90) (lb := #[.pointer (some ⟨w.heap.size + 2, 0, none⟩)]) rfl trivial (enters_of Try.func90 (by kernel_rfl) rfl)
    (back_tells ws gb off kc (w.heap.size + 2) 4 V (by omega) (by omega) (HWB.out.of_block hb.size (hb.block _ (by have := hb0.size; omega))) x2) (Below.refl _ _) ?hX (fun _ => rfl)
    (fun pre A => ∃ m, m + pre.length = ws.length ∧ NI ws cs w cb m A) ?hI (NR ws cs w cb) ?hR (fun k => k = cb ∨ k = w.heap.size + 1) ?hO ?h0 ?hround ?hdone ?hstop)
  case hX =>
    rintro k (rfl | rfl)
    · omega
    · have := hb0.size; omega
  case hI =>
    rintro pre A B ⟨m, hm, q1, q2, q3, q4, q5⟩ ⟨r, hr⟩ hP
    have := (Array.getElem?_eq_some_iff.1 hr).1
    exact ⟨m, hm, (hP.block _ (by omega) (by omega)).trans q1, (hP.block _ (by omega) (by omega)).trans q2, (hP.block _ (by omega) (by omega)).trans q3, q4, q5.trans (hP.below (by omega) (by omega))⟩
  case hR =>
    rintro A B ⟨r', q1, q2, q3, q4⟩ ⟨r, hr⟩ hP
    have := (Array.getElem?_eq_some_iff.1 hr).1
    exact ⟨r', q1, (hP.block _ (by omega) (by omega)).trans q2, (hP.block _ (by omega) (by omega)).trans q3, q4.trans (hP.below (by omega) (by omega))⟩
  case hO =>
    rintro k (rfl | rfl)
    · exact ⟨by rintro (h | h) <;> omega, by omega, by omega⟩
    · refine ⟨?_, by omega, by omega⟩
      have := hb0.size
      rintro (h | h) <;> omega
  case h0 =>
    intro A hA
    have hcs : cs.take ws.length = cs := by rw [← HL.out]; exact List.take_length
    refine ⟨ws.length, by simp, ?_, (hA.block _ (by omega)).trans x0, (hA.block _ (by omega)).trans x1, ?_, hbc.trans (hA.mono (by omega))⟩
    · rw [hA.block _ (by omega), hb.block _ hclt, HC.out, hcs, List.drop_length]
      simp [zeros]
    · rw [hcs, List.take_length, List.drop_length]
      cases nx ws cs <;> simp [zeros]
  case hround =>
    rintro pre ⟨j, len, a', c'⟩ A hsA ⟨rr, hrr⟩ ⟨m, hm, q1, q2, q3, q4, q5⟩ ⟨hL1, hL2, hL3⟩
    dsimp only at hL1 hL2 hL3
    obtain rfl : m = j + 1 := by omega
    have hjc : j < cs.length := by rw [HL.out]; exact hL2
    refine ⟨{ tmps := #[.slice (some ⟨cb, 0, none⟩) ws.length ws.length, .slice (some ⟨gb, off, none⟩) ws.length kc, .pointer (some ⟨w.heap.size, 0, none⟩), undef, .pointer (some ⟨w.heap.size + 1, 0, none⟩), .int .i64 (j : Int), .slice a' len c', .slice (some ⟨gb, off, none⟩) ws.length kc, .func (.func 90) #[] #[.pointer (some ⟨w.heap.size + 2, 0, none⟩)], .int .i64 (j : Int), .slice a' len c', undef, undef, undef, undef, undef, undef, undef, undef, undef, undef, undef, undef, undef, undef, undef, undef], defers := [] }, A, ?_, Below.refl _ _, ?_⟩
    · intro K hK
      clear hL3
      dsimp only [encs]
      gi_wp2
      exact hK
    · intro r
      have hP := Past.put (V.heap.size + 1) A (.loop r)
      have hs2 : (A.putObj (V.heap.size + 1) (.loop r)).heap.size = A.heap.size := by simp
      generalize A.putObj (V.heap.size + 1) (.loop r) = C at *
      have q1 := (hP.block cb (by omega) (by omega)).trans q1
      have q2 := (hP.block _ (by omega) (by omega)).trans q2
      have q3 := (hP.block _ (by omega) (by omega)).trans q3
      have q5 := q5.trans (hP.below (m := cb) (by omega) (by omega))
      have hone := nx_one ws cs j hL2 hjc HL.out
      have hfit := fits_at HF.out j hL2 hjc
      have hl3 := (H3.out _ (List.getElem_mem hL2)).2
      rw [← hL3] at hone hfit hl3
      rw [hone] at q4
      have hz1 : cs.take (j + 1) ++ zeros (ws.drop (j + 1)) = cs.take j ++ cs[j] :: zeros (ws.drop (j + 1)) := by
        rw [List.take_succ_eq_append_getElem hjc, List.append_assoc]; rfl
      have hz2 : cs.take j ++ zeros (ws.drop j) = cs.take j ++ 0 :: zeros (ws.drop (j + 1)) := by
        rw [List.drop_eq_getElem_cons hL2]; rfl
      rw [hz1] at q1
      have hpl : (cs.take j).length = j := by simp; omega
      obtain ⟨p, hp⟩ : ∃ p, cs.take j = p := ⟨_, rfl⟩
      obtain ⟨z, hz⟩ : ∃ z, zeros (ws.drop (j + 1)) = z := ⟨_, rfl⟩
      obtain ⟨c, hcc⟩ : ∃ c, cs[j] = c := ⟨_, rfl⟩
      rw [hp] at q1 q4 hz2 hpl
      rw [hz] at q1 q4 hz2
      rw [hcc] at q1 q4 hfit
      have HZ2 : Hid (cs.take j ++ zeros (ws.drop j) = p ++ 0 :: z) := by rw [hp]; exact hz2
      have HPJ : Hid (p.length = j) := hpl
      have HPP : Hid (cs.take j = p) := hp
      have HZZ : Hid (zeros (ws.drop (j + 1)) = z) := hz
      have c1 : C.cell? ⟨cb, 0 + j, none⟩ = some (.int .i64 (c : Int)) := by
        rw [cell_of_row _ _ _ _ _ _ q1, Nat.zero_add]; exact nums_mid p z c j hpl
      have c2 := cell_of_row _ _ 0 _ _ _ q2
      have c3 := cell_of_row _ _ 0 _ _ _ q3
      have f1 := frozen_of_row _ _ (0 + j) _ 3 q1
      have f3 := frozen_of_row _ _ 0 _ 4 q3
      have hjw : (j : Int) < (ws.length : Int) := by omega
      have Q1 : Hid (C.heap[cb]? = some (.cells (nums (p ++ c :: z)) 3 (0, 0))) := q1
      have Q2 : Hid (C.heap[w.heap.size]? = some (.cells #[.slice (some ⟨cb, 0, none⟩) ws.length ws.length] 50 (0, 0))) := q2
      have Q3 : Hid (C.heap[w.heap.size + 1]? = some (.cells #[.bool false] 4 (0, 0))) := q3
      have hne : w.heap.size ≠ cb := by omega
      have HS2 : Hid (C.heap.size = A.heap.size) := hs2
      simp only [Nat.zero_add] at c1 f1
      clear hone hz1 hz2 hp hz hcc hpl q1 q2 q3 hL3 hs2
      by_cases ht : c + 1 < len
      · have ht' : (c : Int) + 1 < (len : Int) := by omega
        rw [if_pos ht] at q4
        have Q4 : Hid (nx ws cs = some (p ++ (c + 1) :: z)) := by show _ = _; rw [q4]; simp
        clear q4 ht
        gi_wp2
        have e1 := heap_setCell_same C cb j _ 3 (.int .i64 ((c : Int) + 1)) Q1.out
        rw [show ((c : Int) + 1) = ((c + 1 : Nat) : Int) by omega, nums_set p z c (c + 1) j HPJ.out] at e1
        have e2 := heap_setCell_same (C.setCell ⟨cb, j, none⟩ (.int .i64 ((c : Int) + 1))) (w.heap.size + 1) 0 _ 4 (.bool true) ((heap_setCell_other _ _ _ _ (by show w.heap.size + 1 ≠ cb; omega)).trans Q3.out)
        refine ⟨kp_set (kp_set (kp_refl _ _) _ _ (.inl rfl)) _ _ (.inr rfl), p ++ (c + 1) :: z, Q4.out, (heap_setCell_other _ _ _ _ (by show cb ≠ w.heap.size + 1; omega)).trans e1, by simpa using e2, (q5.setCell (p := ⟨cb, j, none⟩) (Nat.le_refl _) _).setCell (p := ⟨w.heap.size + 1, 0, none⟩) (by show cb ≤ w.heap.size + 1; omega) _⟩
      · have ht' : ¬ (c : Int) + 1 < (len : Int) := by omega
        rw [if_neg ht] at q4
        have Q4 : Hid (nx ws cs = ((nx (ws.take j) p).map (· ++ [0])).map (· ++ z)) := q4
        clear q4 ht
        gi_wp2
        have e1 := heap_setCell_same _ cb j _ 3 (.int .i64 0) (heap_setCell_same C cb j _ 3 (.int .i64 ((c : Int) + 1)) Q1.out)
        rw [show ((c : Int) + 1) = ((c + 1 : Nat) : Int) by omega, nums_set p z c (c + 1) j HPJ.out, show (Value.int .i64 0) = .int .i64 ((0 : Nat) : Int) from rfl, nums_set p z (c + 1) 0 j HPJ.out, ← HZ2.out] at e1
        refine ⟨kp_set (kp_set (kp_refl _ _) _ _ (.inl rfl)) _ _ (.inl rfl), j, by omega, e1, ?_, ?_, ?_, (q5.setCell (p := ⟨cb, j, none⟩) (Nat.le_refl _) _).setCell (p := ⟨cb, j, none⟩) (Nat.le_refl _) _⟩
        · exact (heap_setCell_other _ _ _ _ (by show w.heap.size ≠ cb; omega)).trans ((heap_setCell_other _ _ _ _ (by show w.heap.size ≠ cb; omega)).trans Q2.out)
        · exact (heap_setCell_other _ _ _ _ (by show w.heap.size + 1 ≠ cb; omega)).trans ((heap_setCell_other _ _ _ _ (by show w.heap.size + 1 ≠ cb; omega)).trans Q3.out)
        · rw [Q4.out, HPP.out]
          have e3 : zeros (ws.drop j) = 0 :: z := by rw [List.drop_eq_getElem_cons hL2, ← HZZ.out]; rfl
          rw [e3]
          cases nx (ws.take j) p <;> simp
  case hdone =>
    rintro xs A hsA hS ⟨m, hm, q1, q2, q3, q4, q5⟩ hd
    obtain rfl : m = 0 := by omega
    have hnone : nx ws cs = none := by rw [q4]; rfl
    obtain rfl : b = false := by rw [← HBB.out, hnone]; rfl
    have HNO : Hid (nx ws cs = none) := hnone
    clear hnone
    have m1 := cell_of_row _ _ 0 _ _ _ q3
    have f1 := frozen_of_row _ _ 0 _ 4 q3
    have Q3 : Hid (A.heap[w.heap.size + 1]? = some (.cells #[.bool false] 4 (0, 0))) := q3
    clear q1 q2 q3 q4
    go_wp2
    have e1 := heap_setCell_same A (w.heap.size + 1) 0 _ 4 (.bool false) Q3.out
    have hdB := (heap_setCell_other A ⟨w.heap.size + 1, 0, none⟩ V.heap.size (.bool false) (by show V.heap.size ≠ w.heap.size + 1; omega)).trans hd
    have hbB := q5.setCell (p := ⟨w.heap.size + 1, 0, none⟩) (by show cb ≤ w.heap.size + 1; omega) (.bool false)
    have hsB : (A.setCell ⟨w.heap.size + 1, 0, none⟩ (.bool false)).heap.size = A.heap.size := by simp
    generalize A.setCell ⟨w.heap.size + 1, 0, none⟩ (.bool false) = B at *
    have e1' : B.heap[w.heap.size + 1]? = some (.cells #[.bool false] 4 (0, 0)) := by simpa using e1
    refine ⟨by simp, .inl ⟨_, _, rfl, run_takeDeferred hdB, ?_⟩⟩
    have q1 : (B.putObj V.heap.size (.deferred none)).cell? ⟨w.heap.size + 1, 0, none⟩ = some (.bool false) := cell_of_row _ _ 0 _ _ _ ((World.putObj_heap_other (by omega)).trans e1')
    refine ⟨_, ?_, rfl, fun r h => (by rw [HNO.out] at h; cases h), hbB.trans ((Past.put V.heap.size B _).below (m := cb) (by omega) (by omega))⟩
    simp [results, Try.f60, go_sem, q1]
  case hstop =>
    rintro A hsA ⟨r', q1, q2, q3, q4⟩ hd
    obtain rfl : b = true := by rw [← HBB.out, q1]; rfl
    have HNO : Hid (nx ws cs = some r') := q1
    clear q1
    gi_wp2
    refine ⟨by simp, .inl ⟨_, _, rfl, run_takeDeferred hd, ?_⟩⟩
    have q5 : (A.putObj V.heap.size (.deferred none)).cell? ⟨w.heap.size + 1, 0, none⟩ = some (.bool true) := cell_of_row _ _ 0 _ _ _ ((World.putObj_heap_other (by omega)).trans q3)
    refine ⟨_, ?_, rfl, fun r h => ?_, q4.trans ((Past.put V.heap.size A _).below (m := cb) (by omega) (by omega))⟩
    · simp [results, Try.f60, go_sem, q5]
    · rw [HNO.out] at h
      simp only [Option.some.injEq] at h
      subst h
      exact (World.putObj_heap_other (by omega)).trans q2
end Go.Proofs.Ytbmgkgoghgdbhaa.Te
