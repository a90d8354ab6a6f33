/- The program's Pieces: a new slice that holds the text's pieces. Condition: the text has at most 1048576 bytes. -/
import Derived.Test.YtglfaibihckhnaaPc
import Derived.Test.YtglfaibihckhnaaUnitsP
import Derived.Test.YtglfaibihckhnaaBegun
import Derived.Test.YtglfaibihckhnaaLU
import Derived.RegionTactic
import Derived.BigRegion
namespace Go.Proofs.Ytglfaibihckhnaa.PiecesP
open Go.RowKit Uni Kinds Pc UnitsP Begun LU

theorem cell_three_at (w : World) (g : Nat) (a b c : Value) (t : TypeId) (hg : g = w.heap.size) : ∀ j u, [a, b, c][j]? = some u → (w.alloc (.cells #[a, b, c] t)).cell? ((⟨g, 0, none⟩ : Addr).add j) = some u := by
  subst hg
  exact cell_three_new w a b c t

theorem info35 : (Try.prog.info? 35).map (fun i => (i.zero, i.size, i.bytes)) = some (some (.agg #[.int .i64 0, .int .i64 0, .int .i64 0]), 3, 24) := by kernel_rfl

theorem pcs_set (a : List (Int × Nat × Nat)) (p : Int × Nat × Nat) (m : Nat) : (pcs (a ++ [p])).set (a.length * 3 + 2) (.int .i64 ((p.2.2 : Int) + (m : Int))) = pcs (a ++ [(p.1, p.2.1, p.2.2 + m)]) := by
  rw [pcs_snoc, pcs_snoc, List.set_append_right _ _ (by rw [pcs_length]; omega), pcs_length]
  have e : a.length * 3 + 2 - a.length * 3 = 2 := by omega
  rw [e]
  simp [pc]

theorem stored_piece {W : World} {base g cap m : Nat} {a : List (Int × Nat × Nat)} {p : Int × Nat × Nat} (h : W.ownsRow base 35 3 (.slice (some ⟨g, 0, none⟩) (a.length + 1) cap) (a.length + 1) (pcs (a ++ [p]))) :
    (W.setCell ⟨g, a.length * 3 + 2, none⟩ (.int .i64 ((p.2.2 : Int) + (m : Int)))).ownsRow base 35 3 (.slice (some ⟨g, 0, none⟩) (a.length + 1) cap) (a.length + 1) (pcs (a ++ [(p.1, p.2.1, p.2.2 + m)])) ∧
    W.grownBy (W.setCell ⟨g, a.length * 3 + 2, none⟩ (.int .i64 ((p.2.2 : Int) + (m : Int)))) (some g) := by
  have := h.stored (a.length * 3 + 2) (.int .i64 ((p.2.2 : Int) + (m : Int)))
  rwa [pcs_set] at this

/-- an iterator behind two new blocks and a store elsewhere -/
theorem iter_stored {w W2 : World} {k pos p' g : Nat} {s : ByteArray} {o1 o2 : Obj} (hit : w.heap[k]? = some (.stringIter s pos)) (hg : (((w.iterAt k s p').alloc o1).alloc o2).grownBy W2 (some g)) (hne : g ≠ k) : W2.heap[k]? = some (.stringIter s p') := by
  have hk : k < w.heap.size := (Array.getElem?_eq_some_iff.1 hit).1
  have hz : (w.iterAt k s p').heap.size = w.heap.size := Lib.iterAt_size _ _ _ _
  rw [hg.block k (by simp; omega) (by simpa using fun h => hne h.symm), Below.heap_alloc _ o2 k (by simp; omega), Below.heap_alloc _ o1 k (by omega)]
  exact Lib.iterAt_heap w k s pos p' hit

theorem below_stored {w0 w W2 : World} {k p' g : Nat} {s : ByteArray} {o1 o2 : Obj} (hbw : Below w0.heap.size w0 w) (hk : w0.heap.size ≤ k) (hg : (((w.iterAt k s p').alloc o1).alloc o2).grownBy W2 (some g)) (hgb : w0.heap.size ≤ g) : Below w0.heap.size w0 W2 := by
  have hz : (w.iterAt k s p').heap.size = w.heap.size := Lib.iterAt_size _ _ _ _
  have h2 := hbw.size
  refine (((Lib.below_iterAt hbw hk s p').alloc (by omega) o1).alloc (by simp; omega) o2).grown hg (by simp; omega) ?_
  intro j hj
  cases hj
  exact hgb

set_option maxHeartbeats 4000000 in
set_option maxRecDepth 100000 in
theorem pieces_any (s : ByteArray) (w : World) (hs : s.size ≤ 1048576) :
    Calls Try.prog 13 #[.string s] w fun e w' => ∃ v, e = .returned v ∧ w'.ownsRow w.heap.size 35 3 v (pieces s).length (pcs (pieces s)) ∧ Below w.heap.size w w' := by
  obtain ⟨i0, hi, hz0, hz1, hz2⟩ := info_parts info35
  go_enter Try.func13, Try.ntmps13
  go_wp2
  go_loopw [3] (fun v wr => ∃ (pos fuel : Nat) (acc : List (Int × Nat × Nat)), wr.ownsRow w.heap.size 35 3 v acc.length (pcs acc) ∧ wr.heap[w.heap.size]? = some (.stringIter s pos) ∧ Below w.heap.size w wr ∧ (unitsFrom s fuel pos).foldl addP acc = pieces s ∧ s.size ≤ pos + fuel ∧ acc.length ≤ pos ∧ lens acc = pos ∧ pos ≤ s.size) (fun _ wr => s.size - wr.iterPos w.heap.size)
  case atStart =>
    exact ⟨0, s.size, [], World.ownsRow_nil _ _ _ _, World.iter_heap w s 0, (Below.refl _ w).alloc (Nat.le_refl _) _, rfl, by omega, by simp, rfl, by omega⟩
  case round =>
    obtain ⟨pos, fuel, acc, hown, hit, hbw, hacc, hfu, hal, hln, hps⟩ := hrel
    by_cases hp : pos < s.size
    · have hnx : ∀ ty, (Instr.next (.pointer (some ⟨w.heap.size, 0, none⟩)) true ty).run Try.prog wr = _ := fun ty => Lib.run_next_any_at wr w.heap.size s pos ty hit hp
      obtain ⟨f, rfl⟩ : ∃ f, fuel = f + 1 := ⟨fuel - 1, by omega⟩
      have hf := ua_facts s pos hp
      have hkb := kind_bd (ua s pos).1
      obtain ⟨hk0, hk1⟩ := hkb
      have hf1 := hf.1
      have hf2 := hf.2.1
      have hl0 := hf.2.2.2.1
      have hl1 := hf.2.2.2.2.1
      clear hf
      rcases List.eq_nil_or_concat acc with rfl | ⟨a, p, rfl⟩
      · obtain ⟨ad, cap, hv⟩ := own_none hown
        subst hv
        have h00 : wr.ownsRow w.heap.size 35 3 (.slice ad 0 cap) 0 [] := hown
        have hi2 := own_iterAt h00 hit (pos + (Utf8.decode s pos).2)
        have hws := hbw.size
        clear hown
        go_wp2_with (first | (go_at_call 36; refine (UnitAt.unitAt_alloc s pos _ hp).mono ?_; rintro e W1 ⟨rfl, o, rfl⟩) | (go_at_call 40; refine (prog_any _ _ hl0 hl1).mono ?_; rintro e w' ⟨rfl, rfl⟩) | (at_builtin; refine wpList_append_own _ rfl (.tmp 50) (.tmp 56) 31 rfl w.heap.size 35 i0 (.agg #[.int .i64 0, .int .i64 0, .int .i64 0]) 3 24 Try.underlying31 hi hz0 hz1 hz2 rfl (by decide) _ _ _ rfl (((hi2.alloc _).alloc _).alloc _) ⟨_, 0, none⟩ 1 1 (pc (newP (pos, (ua s pos).2, (ua s pos).1))) rfl rfl (cell_three_at _ _ _ _ _ _ (by simp)) (pc_one _) (by unfold maxLen; omega) (by omega) (by simp [Lib.iterAt_size]; omega) ?_; intro v' W2 hown3 hgrow3 _))
        go_roundw
        case rel =>
          have hb1 : Below (wr.iterAt w.heap.size s (pos + (Utf8.decode s pos).2)).heap.size (wr.iterAt w.heap.size s (pos + (Utf8.decode s pos).2)) (((wr.iterAt w.heap.size s (pos + (Utf8.decode s pos).2)).alloc o).alloc (.cells #[.int .i64 pos, .int .i64 (ua s pos).2, .int .i64 (ua s pos).1] 26)) := ((Below.refl _ _).alloc (Nat.le_refl _) _).alloc (by simp) _
          refine ⟨pos + (Utf8.decode s pos).2, f, addP [] (pos, (ua s pos).2, (ua s pos).1), ?_, iter_kept h00 hit hb1 hgrow3, below_kept h00 hbw (Nat.le_refl _) hb1 hgrow3, ?_, ?_, ?_, ?_, ?_⟩
          · exact hown3
          · rw [← hacc, unitsFrom_step s f pos hp, decode_two s pos hp]
            rfl
          · rw [decode_two s pos hp]; omega
          · rw [addP_nil, decode_two s pos hp]; simp; omega
          · rw [addP_lens, decode_two s pos hp, hln]
          · rw [decode_two s pos hp]; omega
        case measure =>
          have hb1 : Below (wr.iterAt w.heap.size s (pos + (Utf8.decode s pos).2)).heap.size (wr.iterAt w.heap.size s (pos + (Utf8.decode s pos).2)) (((wr.iterAt w.heap.size s (pos + (Utf8.decode s pos).2)).alloc o).alloc (.cells #[.int .i64 pos, .int .i64 (ua s pos).2, .int .i64 (ua s pos).1] 26)) := ((Below.refl _ _).alloc (Nat.le_refl _) _).alloc (by simp) _
          rw [iterPos_of (iter_kept h00 hit hb1 hgrow3), iterPos_of hit, decode_two s pos hp]
          omega
      · rw [List.concat_eq_append] at hown hacc hal hln
        have hl1' : (a ++ [p]).length = a.length + 1 := by simp
        rw [hl1'] at hown hal
        obtain ⟨g, cap, hv, hgb, hgs, _, _⟩ := own_open hown (by omega)
        subst hv
        have hi2 := own_iterAt hown hit (pos + (Utf8.decode s pos).2)
        have hws := hbw.size
        have hpl : p.2.2 ≤ pos := by rw [lens_append, lens_one] at hln; omega
        have hpa := pcs_at (a ++ [p]) a.length (by simp)
        have hpe : (a ++ [p])[a.length]'(by simp) = p := by simp
        rw [hpe] at hpa
        have hcell : ∀ o1 o2 j u, (pcs (a ++ [p]))[j]? = some u → (((wr.iterAt w.heap.size s (pos + (Utf8.decode s pos).2)).alloc o1).alloc o2).cell? ⟨g, j, none⟩ = some u := fun o1 o2 j u hu => by
          obtain ⟨g', cap', hv', _, _, _, hc'⟩ := own_open ((hi2.alloc o1).alloc o2) (by omega)
          cases hv'
          exact hc' j u hu
        have p1 := fun o1 o2 => hcell o1 o2 _ _ hpa.1
        have p3 := fun o1 o2 => hcell o1 o2 _ _ hpa.2.2
        have pf : ∀ o1 o2, (((wr.iterAt w.heap.size s (pos + (Utf8.decode s pos).2)).alloc o1).alloc o2).frozen? ⟨g, a.length * 3 + 2, none⟩ = false := fun o1 o2 => ((hi2.alloc o1).alloc o2).frozenAt _
        have hgk : g ≠ w.heap.size := by
          have := own_ne hown hit
          simpa [Value.ownBlock] using this
        clear hcell hpa hpe
        cases hm : mergesB p (pos, (ua s pos).2, (ua s pos).1) with
        | true =>
          have HM : Hid (mergesB p (pos, (ua s pos).2, (ua s pos).1) = true) := hm
          have hm2 : (p.1 == kind (ua s pos).1) = true := by unfold mergesB at hm; simp at hm; simpa using hm.1
          have hm3 : growsB (kind (ua s pos).1) = true := by unfold mergesB at hm; simp at hm; exact decide_eq_true hm.2
          clear hm
          go_wp2_with (first | (go_at_call 36; refine (UnitAt.unitAt_alloc s pos _ hp).mono ?_; rintro e W1 ⟨rfl, o, rfl⟩) | (go_at_call 40; refine (prog_any _ _ hl0 hl1).mono ?_; rintro e w' ⟨rfl, rfl⟩) | (go_at_call 41; refine (grows_any _ _ hk0 hk1).mono ?_; rintro e w' ⟨rfl, rfl⟩))
          go_region
          all_goals go_wp2
          go_roundw
          case rel =>
            have hst := stored_piece (m := (ua s pos).2) ((hi2.alloc o).alloc (.cells #[.int .i64 pos, .int .i64 (ua s pos).2, .int .i64 (ua s pos).1] 26))
            have hit' := iter_stored hit hst.2 hgk
            refine ⟨pos + (Utf8.decode s pos).2, f, addP (a ++ [p]) (pos, (ua s pos).2, (ua s pos).1), ?_, hit', (below_stored hbw (Nat.le_refl _) hst.2 hgb).drew, ?_, ?_, ?_, ?_, ?_⟩
            · rw [addP_yes _ _ _ HM.out]
              have e : (a ++ [(p.1, p.2.1, p.2.2 + (ua s pos).2)]).length = a.length + 1 := by simp
              rw [e]
              exact hst.1
            · rw [← hacc, unitsFrom_step s f pos hp, decode_two s pos hp]
              rfl
            · rw [decode_two s pos hp]; omega
            · rw [addP_yes _ _ _ HM.out, decode_two s pos hp]; simp; omega
            · rw [addP_lens, decode_two s pos hp, hln]
            · rw [decode_two s pos hp]; omega
          case measure =>
            have hst := stored_piece (m := (ua s pos).2) ((hi2.alloc o).alloc (.cells #[.int .i64 pos, .int .i64 (ua s pos).2, .int .i64 (ua s pos).1] 26))
            have e := iterPos_of (iter_stored hit hst.2 hgk)
            have e2 : ∀ W : World, W.drew.iterPos w.heap.size = W.iterPos w.heap.size := fun _ => rfl
            rw [e2, e, iterPos_of hit, decode_two s pos hp]
            omega
        | false =>
          have HM : Hid (mergesB p (pos, (ua s pos).2, (ua s pos).1) = false) := hm
          by_cases hk : p.1 = kind (ua s pos).1
          · have hm2 : (p.1 == kind (ua s pos).1) = true := by simpa using hk
            have hm3 : growsB (kind (ua s pos).1) = false := by
              unfold growsB
              unfold mergesB at hm
              simp only [decide_eq_false_iff_not] at hm ⊢
              exact fun h => hm ⟨hk, h⟩
            clear hm hk
            go_wp2_with (first | (go_at_call 36; refine (UnitAt.unitAt_alloc s pos _ hp).mono ?_; rintro e W1 ⟨rfl, o, rfl⟩) | (go_at_call 40; refine (prog_any _ _ hl0 hl1).mono ?_; rintro e w' ⟨rfl, rfl⟩) | (go_at_call 41; refine (grows_any _ _ hk0 hk1).mono ?_; rintro e w' ⟨rfl, rfl⟩) | (at_builtin; refine wpList_append_own _ rfl (.tmp 50) (.tmp 56) 31 rfl w.heap.size 35 i0 (.agg #[.int .i64 0, .int .i64 0, .int .i64 0]) 3 24 Try.underlying31 hi hz0 hz1 hz2 rfl (by decide) _ _ _ rfl (((hi2.alloc _).alloc _).alloc _) ⟨_, 0, none⟩ 1 1 (pc (newP (pos, (ua s pos).2, (ua s pos).1))) rfl rfl (cell_three_at _ _ _ _ _ _ (by simp)) (pc_one _) (by unfold maxLen; omega) (by omega) (by simp [Lib.iterAt_size]; omega) ?_; intro v' W2 hown3 hgrow3 _))
            go_roundw
            case rel =>
              have hb1 : Below (wr.iterAt w.heap.size s (pos + (Utf8.decode s pos).2)).heap.size (wr.iterAt w.heap.size s (pos + (Utf8.decode s pos).2)) (((wr.iterAt w.heap.size s (pos + (Utf8.decode s pos).2)).alloc o).alloc (.cells #[.int .i64 pos, .int .i64 (ua s pos).2, .int .i64 (ua s pos).1] 26)) := ((Below.refl _ _).alloc (Nat.le_refl _) _).alloc (by simp) _
              refine ⟨pos + (Utf8.decode s pos).2, f, addP (a ++ [p]) (pos, (ua s pos).2, (ua s pos).1), ?_, iter_kept hown hit hb1 hgrow3, below_kept hown hbw (Nat.le_refl _) hb1 hgrow3, ?_, ?_, ?_, ?_, ?_⟩
              · rw [addP_no _ _ _ HM.out, pcs_snoc]
                have e : (a ++ [p] ++ [newP (pos, (ua s pos).2, (ua s pos).1)]).length = a.length + 1 + 1 := by simp
                rw [e]
                exact hown3
              · rw [← hacc, unitsFrom_step s f pos hp, decode_two s pos hp]
                rfl
              · rw [decode_two s pos hp]; omega
              · rw [addP_no _ _ _ HM.out, decode_two s pos hp]; simp; omega
              · rw [addP_lens, decode_two s pos hp, hln]
              · rw [decode_two s pos hp]; omega
            case measure =>
              have hb1 : Below (wr.iterAt w.heap.size s (pos + (Utf8.decode s pos).2)).heap.size (wr.iterAt w.heap.size s (pos + (Utf8.decode s pos).2)) (((wr.iterAt w.heap.size s (pos + (Utf8.decode s pos).2)).alloc o).alloc (.cells #[.int .i64 pos, .int .i64 (ua s pos).2, .int .i64 (ua s pos).1] 26)) := ((Below.refl _ _).alloc (Nat.le_refl _) _).alloc (by simp) _
              rw [iterPos_of (iter_kept hown hit hb1 hgrow3), iterPos_of hit, decode_two s pos hp]
              omega
          · have hm2 : (p.1 == kind (ua s pos).1) = false := by simpa using hk
            clear hm hk
            go_wp2_with (first | (go_at_call 36; refine (UnitAt.unitAt_alloc s pos _ hp).mono ?_; rintro e W1 ⟨rfl, o, rfl⟩) | (go_at_call 40; refine (prog_any _ _ hl0 hl1).mono ?_; rintro e w' ⟨rfl, rfl⟩) | (go_at_call 41; refine (grows_any _ _ hk0 hk1).mono ?_; rintro e w' ⟨rfl, rfl⟩) | (at_builtin; refine wpList_append_own _ rfl (.tmp 50) (.tmp 56) 31 rfl w.heap.size 35 i0 (.agg #[.int .i64 0, .int .i64 0, .int .i64 0]) 3 24 Try.underlying31 hi hz0 hz1 hz2 rfl (by decide) _ _ _ rfl (((hi2.alloc _).alloc _).alloc _) ⟨_, 0, none⟩ 1 1 (pc (newP (pos, (ua s pos).2, (ua s pos).1))) rfl rfl (cell_three_at _ _ _ _ _ _ (by simp)) (pc_one _) (by unfold maxLen; omega) (by omega) (by simp [Lib.iterAt_size]; omega) ?_; intro v' W2 hown3 hgrow3 _))
            go_roundw
            case rel =>
              have hb1 : Below (wr.iterAt w.heap.size s (pos + (Utf8.decode s pos).2)).heap.size (wr.iterAt w.heap.size s (pos + (Utf8.decode s pos).2)) (((wr.iterAt w.heap.size s (pos + (Utf8.decode s pos).2)).alloc o).alloc (.cells #[.int .i64 pos, .int .i64 (ua s pos).2, .int .i64 (ua s pos).1] 26)) := ((Below.refl _ _).alloc (Nat.le_refl _) _).alloc (by simp) _
              refine ⟨pos + (Utf8.decode s pos).2, f, addP (a ++ [p]) (pos, (ua s pos).2, (ua s pos).1), ?_, iter_kept hown hit hb1 hgrow3, below_kept hown hbw (Nat.le_refl _) hb1 hgrow3, ?_, ?_, ?_, ?_, ?_⟩
              · rw [addP_no _ _ _ HM.out, pcs_snoc]
                have e : (a ++ [p] ++ [newP (pos, (ua s pos).2, (ua s pos).1)]).length = a.length + 1 + 1 := by simp
                rw [e]
                exact hown3
              · rw [← hacc, unitsFrom_step s f pos hp, decode_two s pos hp]
                rfl
              · rw [decode_two s pos hp]; omega
              · rw [addP_no _ _ _ HM.out, decode_two s pos hp]; simp; omega
              · rw [addP_lens, decode_two s pos hp, hln]
              · rw [decode_two s pos hp]; omega
            case measure =>
              have hb1 : Below (wr.iterAt w.heap.size s (pos + (Utf8.decode s pos).2)).heap.size (wr.iterAt w.heap.size s (pos + (Utf8.decode s pos).2)) (((wr.iterAt w.heap.size s (pos + (Utf8.decode s pos).2)).alloc o).alloc (.cells #[.int .i64 pos, .int .i64 (ua s pos).2, .int .i64 (ua s pos).1] 26)) := ((Below.refl _ _).alloc (Nat.le_refl _) _).alloc (by simp) _
              rw [iterPos_of (iter_kept hown hit hb1 hgrow3), iterPos_of hit, decode_two s pos hp]
              omega
    · have hnx : ∀ ty, (Instr.next (.pointer (some ⟨w.heap.size, 0, none⟩)) true ty).run Try.prog wr = _ := fun ty => Lib.run_next_end_at wr w.heap.size s pos ty hit hp
      go_wp2
      go_ret
      rw [unitsFrom_end s fuel pos hp] at hacc
      subst hacc
      exact ⟨_, rfl, hown, hbw⟩
end Go.Proofs.Ytglfaibihckhnaa.PiecesP
