/- movedFinals: a machine's finals, their states' numbers so much higher. Condition: the machine is small, the number too. -/
import Derived.Test.YtegfhbjdfcoajaaMa
namespace Go.Proofs.Ytegfhbjdfcoajaa.Ma
open Go.RowKit Mv Ps Bw

theorem info48 : (Try.prog.info? 48).map (fun i => (i.zero, i.size, i.bytes)) = some (some (.agg #[.int .i64 0, .int .i64 0]), 2, 16) := by kernel_rfl
theorem fcs_snoc' (l : List (Int × Int)) (a : Int × Int) : fcs l ++ fc a = fcs (l ++ [a]) := by simp [fcs]
theorem fc_one (a : Int × Int) : ∀ u ∈ fc a, u.oneCell' = true := by
  intro u hu
  simp only [fc, List.mem_cons, List.not_mem_nil, or_false] at hu
  rcases hu with rfl | rfl <;> rfl
theorem box2' {w : World} {a b : Value} {o : Obj} (t : TypeId) : ∀ j u, [a, b][j]? = some u → ((w.alloc o).alloc (.cells #[a, b] t)).cell? (Addr.add ⟨w.heap.size + 1, 0, none⟩ j) = some u := by
  intro j u hu
  have hn := heap_alloc_new (w.alloc o) (.cells #[a, b] t)
  have e : (w.alloc o).heap.size = w.heap.size + 1 := by simp
  rw [e] at hn
  have hj : j < 2 := (List.getElem?_eq_some_iff.1 hu).1
  rw [show Addr.add ⟨w.heap.size + 1, 0, none⟩ j = ⟨w.heap.size + 1, j, none⟩ by unfold Addr.add; split <;> simp_all, cell_of_row _ _ j _ t (0, 0) hn]
  rw [← hu]
  match j, hj with
  | 0, _ => rfl
  | 1, _ => rfl

set_option maxHeartbeats 2000000 in
set_option maxRecDepth 100000 in
theorem fins_any (st : Int) (fins : List (Int × Int)) (d : Int) (va vf : Value) (w : World) (hA : Mv.Row w vf 2 fins.length (fcs fins)) (hl : fins.length ≤ 40) (hd : 0 ≤ d) (hd2 : d ≤ 100) (hok : ∀ a ∈ fins, finB st a = true) (hst : st ≤ 40) :
    Calls Try.prog 24 #[.agg #[.int .i64 st, va, vf], .int .i64 d] w fun e w' => ∃ r, e = .returned r ∧ w'.ownsRow (w.heap.size + 1) 48 2 r fins.length (fcs (fins.map (mvF d))) ∧ Below w.heap.size w w' := by
  obtain ⟨hxa, aa, ca, rfl, hna, hC⟩ := hA
  obtain ⟨i0, hi, hz0, hz1, hz2⟩ := info_parts info48
  have HC : Hid (fins.length = 0 ∨ ∃ b off, aa = some ⟨b, off, none⟩ ∧ b < w.heap.size ∧ ∀ j u, (fcs fins)[j]? = some u → w.cell? ⟨b, off + j, none⟩ = some u) := hC
  have HOK : Hid (∀ a ∈ fins, finB st a = true) := hok
  have HXA : Hid ((fcs fins).length = fins.length * 2) := hxa
  have hb0 : ∀ o, Below w.heap.size w (w.alloc o) := fun o => (Below.refl _ w).alloc (Nat.le_refl _) o
  clear hC hok hxa hna
  go_enter Try.func24, Try.ntmps24
  go_wp2
  go_loopw [5, 11] (fun v iv wr => ∃ k : Nat, iv = .int .i64 k ∧ k ≤ fins.length ∧ wr.ownsRow (w.heap.size + 1) 48 2 v k (fcs ((fins.take k).map (mvF d))) ∧ Below w.heap.size w wr ∧ w.heap.size + 1 ≤ wr.heap.size) (fun _ iv _ => fins.length - (intOf iv).toNat)
  case atStart => exact ⟨0, rfl, Nat.zero_le _, World.ownsRow_nil _ _ _ _, hb0 _, by simp⟩
  case round =>
    obtain ⟨k, rfl, hk, hown, hb, hbs⟩ := hrel
    by_cases hlt : k < fins.length
    · obtain ⟨b, off, rfl, hbl, hcs⟩ := HC.out.resolve_left (by omega)
      obtain ⟨⟨f, x⟩, hx⟩ : ∃ a, fins[k] = a := ⟨_, rfl⟩
      have hat := fcs_at fins k hlt
      rw [hx] at hat
      have hB := HOK.out _ (List.getElem_mem hlt)
      rw [hx] at hB
      simp only [finB, decide_eq_true_eq] at hB
      have c0 : wr.cell? ⟨b, off + k * 2, none⟩ = some (.int .i64 f) := (hb.cell hbl).trans (hcs _ _ hat.1)
      have c1 : wr.cell? ⟨b, off + k * 2 + 1, none⟩ = some (.int .i64 x) := (hb.cell hbl).trans (hcs _ _ hat.2)
      have f1 : 0 ≤ f := hB.1
      have f2 : f < 40 := by omega
      have HO : Hid (wr.ownsRow (w.heap.size + 1) 48 2 u5 k (fcs ((fins.take k).map (mvF d)))) := hown
      have HX : Hid (fins[k] = (f, x)) := hx
      clear hat hB hx hown
      have HB : Hid (Below w.heap.size w wr) := hb
      clear hb
      go_wp2_with (refine wpList_append_own_at _ rfl _ _ 23 rfl (w.heap.size + 1) 48 i0 (.agg #[.int .i64 0, .int .i64 0]) 2 16 Try.underlying23 hi hz0 hz1 hz2 rfl (by decide) _ _ _ rfl ((HO.out.alloc _).alloc _) ⟨wr.heap.size + 1, 0, none⟩ 1 1 (fc (f + d, x)) rfl rfl (box2' 48) (fc_one (f + d, x)) (by unfold maxLen; omega) (by omega) (by simp; omega) ?_; intro v1 w1 ho1 hg1 _ _; have HO1 : Hid (w1.ownsRow (w.heap.size + 1) 48 2 v1 (k + 1) (fcs ((fins.take k).map (mvF d)) ++ fc (f + d, x))) := ho1; have HB1 : Hid (Below w.heap.size w w1 ∧ w.heap.size + 1 ≤ w1.heap.size) := grow2 HB.out hbs hg1 HO.out; clear ho1 hg1)
      go_roundw
      case rel =>
        refine ⟨k + 1, by go_num, hlt, ?_, HB1.out.1, HB1.out.2⟩
        have e := HO1.out
        rw [fcs_snoc'] at e
        rw [List.take_succ_eq_append_getElem hlt, List.map_append, HX.out]
        exact e
      case measure => simp [intOf]; omega
    · have ek : k = fins.length := by omega
      have HO : Hid (wr.ownsRow (w.heap.size + 1) 48 2 u5 fins.length (fcs (fins.map (mvF d)))) := by
        show wr.ownsRow (w.heap.size + 1) 48 2 u5 fins.length (fcs (fins.map (mvF d)))
        rw [ek, List.take_length] at hown
        exact hown
      clear hown ek
      go_wp2
      go_ret
      exact ⟨_, rfl, HO.out, hb⟩
end Go.Proofs.Ytegfhbjdfcoajaa.Ma
