/- The program's Units: a new slice that holds the text's units. Condition: the text has at most 1048576 bytes (so the slice has room). -/
import Derived.Test.YtiiheaopamjijaaUnitAt
namespace Go.Proofs.Ytiiheaopamjijaa.UnitsP
open Go.RowKit Uni

theorem info26 : (Try.prog.info? 45).map (fun i => (i.zero, i.size, i.bytes)) = some (some (.agg #[.int .i64 0, .int .i64 0, .int .i64 0]), 3, 24) := by kernel_rfl

/-- an owned row is no iterator -/
theorem own_ne {w : World} {base : Nat} {e : TypeId} {size : Nat} {v : Value} {n : Nat} {xs : List Value} (h : w.ownsRow base e size v n xs) {k : Nat} {s : ByteArray} {p : Nat} (hk : w.heap[k]? = some (.stringIter s p)) : v.ownBlock ≠ some k := by
  rcases h.2 with ⟨rfl, _⟩ | ⟨g, cap, cur, rfl, _, hg, _⟩
  · simp [Value.ownBlock]
  · intro hx
    simp [Value.ownBlock] at hx
    subst hx
    rw [hg] at hk
    cases hk

theorem own_iterAt {w : World} {base : Nat} {e : TypeId} {size : Nat} {v : Value} {n : Nat} {xs : List Value} (h : w.ownsRow base e size v n xs) {k : Nat} {s : ByteArray} {p : Nat} (hk : w.heap[k]? = some (.stringIter s p)) (p' : Nat) : (w.iterAt k s p').ownsRow base e size v n xs := by
  have hne := own_ne h hk
  refine ⟨h.1, ?_⟩
  rcases h.2 with hn | ⟨g, cap, cur, rfl, hb, hg, rest⟩
  · exact .inl hn
  · refine .inr ⟨g, cap, cur, rfl, hb, ?_, rest⟩
    rw [Lib.iterAt_other _ _ _ _ _ (by simpa [Value.ownBlock] using hne)]
    exact hg

theorem own_below {w w' : World} {base B : Nat} {e : TypeId} {size : Nat} {v : Value} {n : Nat} {xs : List Value} (h : w.ownsRow base e size v n xs) (hb : Below B w w') (hB : w.heap.size ≤ B) : w'.ownsRow base e size v n xs := by
  refine ⟨h.1, ?_⟩
  rcases h.2 with hn | ⟨g, cap, cur, rfl, hbb, hg, rest⟩
  · exact .inl hn
  · refine .inr ⟨g, cap, cur, rfl, hbb, ?_, rest⟩
    have : g < w.heap.size := (Array.getElem?_eq_some_iff.1 hg).1
    rw [hb.block g (by omega)]
    exact hg

theorem cell_three_new (w : World) (a b c : Value) (t : TypeId) : ∀ j u, [a, b, c][j]? = some u → (w.alloc (.cells #[a, b, c] t)).cell? ((⟨w.heap.size, 0, none⟩ : Addr).add j) = some u := by
  intro j u hj
  match j, hj with
  | 0, hj => simp at hj; subst hj; simp [Addr.add]
  | 1, hj => simp at hj; subst hj; simp [Addr.add]
  | 2, hj => simp at hj; subst hj; simp [Addr.add]

theorem uc_one (u : Nat × Nat × Int) : ∀ x ∈ uc u, x.oneCell' = true := by
  intro x hx
  simp [uc] at hx
  rcases hx with rfl | rfl | rfl <;> rfl

/-- an iterator stands behind a call, a new block and an append onto an owned row -/
theorem iter_kept {w W1 W2 : World} {base k pos p' : Nat} {s : ByteArray} {o : Obj} {e : TypeId} {size : Nat} {v : Value} {n : Nat} {xs : List Value} (hown : w.ownsRow base e size v n xs)
    (hit : w.heap[k]? = some (.stringIter s pos)) (hb1 : Below (w.iterAt k s p').heap.size (w.iterAt k s p') W1) (hg : (W1.alloc o).grownBy W2 v.ownBlock) :
    W2.heap[k]? = some (.stringIter s p') := by
  have hk : k < w.heap.size := (Array.getElem?_eq_some_iff.1 hit).1
  have hne := own_ne hown hit
  have hz : (w.iterAt k s p').heap.size = w.heap.size := Lib.iterAt_size _ _ _ _
  have h1 := hb1.size
  have hk1 : k < W1.heap.size := by omega
  rw [hg.block k (by simp; omega) (fun h => hne h.symm), Below.heap_alloc W1 o k hk1, hb1.block k (by omega)]
  exact Lib.iterAt_heap w k s pos p' hit

theorem below_kept {w0 w W1 W2 : World} {k p' : Nat} {s : ByteArray} {o : Obj} {e : TypeId} {size : Nat} {v : Value} {n : Nat} {xs : List Value} (hown : w.ownsRow w0.heap.size e size v n xs)
    (hbw : Below w0.heap.size w0 w) (hk : w0.heap.size ≤ k) (hb1 : Below (w.iterAt k s p').heap.size (w.iterAt k s p') W1) (hg : (W1.alloc o).grownBy W2 v.ownBlock) : Below w0.heap.size w0 W2 := by
  have hz : (w.iterAt k s p').heap.size = w.heap.size := Lib.iterAt_size _ _ _ _
  have h1 := hb1.size
  have h2 := hbw.size
  have hb2 := Lib.below_iterAt hbw hk s p'
  refine ((hb2.trans (hb1.mono (by omega))).alloc (by omega) o).grown hg (by simp; omega) ?_
  intro j hj
  exact (hown.lt j hj).1

set_option maxHeartbeats 1000000 in
set_option maxRecDepth 100000 in
theorem units_any (s : ByteArray) (w : World) (hs : s.size ≤ 1048576) :
    Calls Try.prog 26 #[.string s] w fun e w' => ∃ v, e = .returned v ∧ w'.ownsRow w.heap.size 45 3 v (units s).length (ucs (units s)) ∧ Below w.heap.size w w' := by
  obtain ⟨i0, hi, hz0, hz1, hz2⟩ := info_parts info26
  have hrc := Lib.runeCount_le s
  go_enter Try.func26, Try.ntmps26
  go_wp2_with (first | (go_at_call 33; refine (Try.utf8_RuneCountInString _ _ (by omega)).mono ?_; rintro e w' ⟨rfl, pos0, rfl⟩) | (at_make; refine wpList_make_own _ rfl _ _ 42 rfl w.heap.size 45 i0 (.agg #[.int .i64 0, .int .i64 0, .int .i64 0]) 3 Try.underlying42 hi hz0 hz1 .i64 .i64 _ (Lib.runeCount s) rfl rfl rfl (by rw [hz2]; omega) (by unfold maxLen; omega) (by simp [World.iter]) ?_; intro w1 hown1 hgrow1))
  have hsz1 : w.heap.size + 1 ≤ w1.heap.size := by have := hgrow1.size; simpa [World.iter] using this
  have hbw1 : Below w.heap.size w w1 := ((Below.refl _ w).alloc (Nat.le_refl _) _).grown hgrow1 (by simp) (by simp)
  clear hgrow1
  go_loopw [3] (fun v wr => ∃ (pos fuel : Nat) (acc : List (Nat × Nat × Int)), wr.ownsRow w.heap.size 45 3 v acc.length (ucs acc) ∧ wr.heap[w1.heap.size]? = some (.stringIter s pos) ∧ Below w.heap.size w wr ∧ acc ++ unitsFrom s fuel pos = units s ∧ s.size ≤ pos + fuel) (fun _ wr => s.size - wr.iterPos w1.heap.size)
  case atStart =>
    exact ⟨0, s.size, [], hown1.alloc _, World.iter_heap w1 s 0, hbw1.alloc (by omega) _, rfl, by omega⟩
  case round =>
    clear hown1 hbw1
    obtain ⟨pos, fuel, acc, hown, hit, hbw, hacc, hfu⟩ := hrel
    by_cases hp : pos < s.size
    · have hnx : ∀ ty, (Instr.next (.pointer (some ⟨w1.heap.size, 0, none⟩)) true ty).run Try.prog wr = _ := fun ty => Lib.run_next_any_at wr w1.heap.size s pos ty hit hp
      obtain ⟨f, rfl⟩ : ∃ f, fuel = f + 1 := ⟨fuel - 1, by omega⟩
      have hdl := decode_le s pos
      have hlen : acc.length + 1 ≤ s.size := by
        have := units_length s
        rw [← hacc, unitsFrom_step s f pos hp] at this
        simp at this
        omega
      go_wp2_with (first | (go_at_call 34; refine (UnitAt.unitAt_any s pos _ hp).mono ?_; rintro e W1 ⟨rfl, hb1⟩; have hown2 := own_below (own_iterAt hown hit _) hb1 (Nat.le_refl _)) | (at_builtin; refine wpList_append_own _ rfl (.tmp 15) (.tmp 20) 42 rfl w.heap.size 45 i0 (.agg #[.int .i64 0, .int .i64 0, .int .i64 0]) 3 24 Try.underlying42 hi hz0 hz1 hz2 rfl (by decide) _ _ _ rfl (hown2.alloc _) ⟨W1.heap.size, 0, none⟩ 1 1 (uc (pos, (ua s pos).2, (ua s pos).1)) rfl rfl (cell_three_new _ _ _ _ _) (uc_one _) (by unfold maxLen; omega) (by omega) (by have := hb1.size; have := hbw.size; simp [Lib.iterAt_size] at *; omega) ?_; intro v' W2 hown3 hgrow3 _))
      go_roundw
      case rel =>
        refine ⟨pos + (Utf8.decode s pos).2, f, acc ++ [(pos, (ua s pos).2, (ua s pos).1)], ?_, iter_kept hown hit hb1 hgrow3, below_kept hown hbw (by omega) hb1 hgrow3, ?_, ?_⟩
        · rw [ucs_snoc, List.length_append]
          exact hown3
        · rw [← hacc, unitsFrom_step s f pos hp, decode_two s pos hp]
          simp
        · have := (ua_facts s pos hp).1
          rw [decode_two s pos hp]
          omega
      case measure =>
        have h1 := (ua_facts s pos hp).1
        rw [iterPos_of (iter_kept hown hit hb1 hgrow3), iterPos_of hit, decode_two s pos hp]
        omega
    · have hnx : ∀ ty, (Instr.next (.pointer (some ⟨w1.heap.size, 0, none⟩)) true ty).run Try.prog wr = _ := fun ty => Lib.run_next_end_at wr w1.heap.size s pos ty hit hp
      go_wp2
      go_ret
      rw [unitsFrom_end s fuel pos hp, List.append_nil] at hacc
      subst hacc
      exact ⟨_, rfl, hown, hbw⟩
end Go.Proofs.Ytiiheaopamjijaa.UnitsP
