/- movedArcs and movedFinals: a machine's arcs and finals, their states' numbers so much higher. Condition: the machine is small, the number too. -/
import Derived.Test.YtegfhbjdfcoajaaPs
import Derived.Test.YtegfhbjdfcoajaaBzM
import Derived.Deep.Onto
namespace Go.Proofs.Ytegfhbjdfcoajaa.Ma
open Go.RowKit Mv Ps Bw

theorem below_of_grown {w w' : World} {base e size n : Nat} {v : Value} {xs : List Value} (hg : w.grownBy w' v.ownBlock) (h : w.ownsRow base e size v n xs) (_ : base ≤ w.heap.size) : Below base w w' :=
  ⟨hg.os, hg.tape, hg.output, hg.size, fun k hk => hg.block k (by omega) (fun e => by have := (h.lt k e.symm).1; omega)⟩
theorem info46 : (Try.prog.info? 46).map (fun i => (i.zero, i.size, i.bytes)) = some (some (.agg #[.int .i64 0, .int .i64 0, .int .i64 0, .int .i64 0, .int .i64 0]), 5, 40) := by kernel_rfl
theorem acs_snoc (l : List A5) (a : A5) : acs l ++ ac a = acs (l ++ [a]) := by simp [acs]
theorem ac_one (a : A5) : ∀ u ∈ ac a, u.oneCell' = true := by
  intro u hu
  simp only [ac, List.mem_cons, List.not_mem_nil, or_false] at hu
  rcases hu with rfl | rfl | rfl | rfl | rfl <;> rfl
theorem box5 {w : World} {a b c d e : Value} (t : TypeId) : ∀ j u, [a, b, c, d, e][j]? = some u → (w.alloc (.cells #[a, b, c, d, e] t)).cell? (Addr.add ⟨w.heap.size, 0, none⟩ j) = some u := by
  intro j u hu
  have hn := heap_alloc_new w (.cells #[a, b, c, d, e] t)
  have hj : j < 5 := (List.getElem?_eq_some_iff.1 hu).1
  rw [show Addr.add ⟨w.heap.size, 0, none⟩ j = ⟨w.heap.size, j, none⟩ by unfold Addr.add; split <;> simp_all, cell_of_row _ _ j _ t (0, 0) hn]
  rw [← hu]
  match j, hj with
  | 0, _ => rfl
  | 1, _ => rfl
  | 2, _ => rfl
  | 3, _ => rfl
  | 4, _ => rfl

theorem box5' {w : World} {a b c d e : Value} {o : Obj} (t : TypeId) : ∀ j u, [a, b, c, d, e][j]? = some u → ((w.alloc o).alloc (.cells #[a, b, c, d, e] t)).cell? (Addr.add ⟨w.heap.size + 1, 0, none⟩ j) = some u := by
  have h := box5 (w := w.alloc o) (a := a) (b := b) (c := c) (d := d) (e := e) t
  have e : (w.alloc o).heap.size = w.heap.size + 1 := by simp
  rw [e] at h
  exact h
theorem grow2 {w wr w1 : World} {a b : Obj} {e size n : Nat} {v : Value} {xs : List Value} (hb : Below w.heap.size w wr) (hs : w.heap.size + 1 ≤ wr.heap.size) (hg : ((wr.alloc a).alloc b).grownBy w1 v.ownBlock) (h : wr.ownsRow (w.heap.size + 1) e size v n xs) : Below w.heap.size w w1 ∧ w.heap.size + 1 ≤ w1.heap.size := by
  have h2 := below_of_grown hg ((h.alloc a).alloc b) (by simp; omega)
  have h3 : Below w.heap.size w ((wr.alloc a).alloc b) := (hb.alloc hb.size a).alloc (Nat.le_trans hb.size (by simp)) b
  exact ⟨h3.trans (h2.mono (by omega)), Nat.le_trans hs (Nat.le_trans (show wr.heap.size ≤ ((wr.alloc a).alloc b).heap.size by simp; omega) hg.size)⟩

set_option maxHeartbeats 2000000 in
set_option maxRecDepth 100000 in
theorem arcs_any (st : Int) (arcs : List A5) (d : Int) (va vf : Value) (w : World) (hA : Mv.Row w va 5 arcs.length (acs arcs)) (hl : arcs.length ≤ 120) (hd : 0 ≤ d) (hd2 : d ≤ 100) (hok : ∀ a ∈ arcs, arcB st a = true) (hst : st ≤ 40) :
    Calls Try.prog 23 #[.agg #[.int .i64 st, va, vf], .int .i64 d] w fun e w' => ∃ r, e = .returned r ∧ w'.ownsRow (w.heap.size + 1) 46 5 r arcs.length (acs (arcs.map (mvA d))) ∧ Below w.heap.size w w' := by
  obtain ⟨hxa, aa, ca, rfl, hna, hC⟩ := hA
  obtain ⟨i0, hi, hz0, hz1, hz2⟩ := info_parts info46
  have HC : Hid (arcs.length = 0 ∨ ∃ b off, aa = some ⟨b, off, none⟩ ∧ b < w.heap.size ∧ ∀ j u, (acs arcs)[j]? = some u → w.cell? ⟨b, off + j, none⟩ = some u) := hC
  have HOK : Hid (∀ a ∈ arcs, arcB st a = true) := hok
  have HXA : Hid ((acs arcs).length = arcs.length * 5) := hxa
  have hb0 : ∀ o, Below w.heap.size w (w.alloc o) := fun o => (Below.refl _ w).alloc (Nat.le_refl _) o
  clear hC hok hxa hna
  go_enter Try.func23, Try.ntmps23
  go_wp2
  go_loopw [5, 11] (fun v iv wr => ∃ k : Nat, iv = .int .i64 k ∧ k ≤ arcs.length ∧ wr.ownsRow (w.heap.size + 1) 46 5 v k (acs ((arcs.take k).map (mvA d))) ∧ Below w.heap.size w wr ∧ w.heap.size + 1 ≤ wr.heap.size) (fun _ iv _ => arcs.length - (intOf iv).toNat)
  case atStart => exact ⟨0, rfl, Nat.zero_le _, World.ownsRow_nil _ _ _ _, hb0 _, by simp⟩
  case round =>
    obtain ⟨k, rfl, hk, hown, hb, hbs⟩ := hrel
    by_cases hlt : k < arcs.length
    · obtain ⟨b, off, rfl, hbl, hcs⟩ := HC.out.resolve_left (by omega)
      obtain ⟨⟨f, t, i, o, x⟩, hx⟩ : ∃ a, arcs[k] = a := ⟨_, rfl⟩
      have hat := acs_at arcs k hlt
      rw [hx] at hat
      have hB := HOK.out _ (List.getElem_mem hlt)
      rw [hx] at hB
      simp only [arcB, decide_eq_true_eq] at hB
      have c0 : wr.cell? ⟨b, off + k * 5, none⟩ = some (.int .i64 f) := (hb.cell hbl).trans (hcs _ _ hat.1)
      have c1 : wr.cell? ⟨b, off + k * 5 + 1, none⟩ = some (.int .i64 t) := (hb.cell hbl).trans (hcs _ _ hat.2.1)
      have c2 : wr.cell? ⟨b, off + k * 5 + 2, none⟩ = some (.int .i64 i) := (hb.cell hbl).trans (hcs _ _ hat.2.2.1)
      have c3 : wr.cell? ⟨b, off + k * 5 + 3, none⟩ = some (.int .i64 o) := (hb.cell hbl).trans (hcs _ _ hat.2.2.2.1)
      have c4 : wr.cell? ⟨b, off + k * 5 + 4, none⟩ = some (.int .i64 x) := (hb.cell hbl).trans (hcs _ _ hat.2.2.2.2)
      have f1 : 0 ≤ f := hB.1
      have f2 : f < 40 := by omega
      have t1 : 0 ≤ t := hB.2.2.1
      have t2 : t < 40 := by omega
      have HO : Hid (wr.ownsRow (w.heap.size + 1) 46 5 u5 k (acs ((arcs.take k).map (mvA d)))) := hown
      have HX : Hid (arcs[k] = (f, t, i, o, x)) := hx
      clear hat hB hx hown
      have HB : Hid (Below w.heap.size w wr) := hb
      clear hb
      go_wp2_with (refine wpList_append_own_at _ rfl _ _ 22 rfl (w.heap.size + 1) 46 i0 (.agg #[.int .i64 0, .int .i64 0, .int .i64 0, .int .i64 0, .int .i64 0]) 5 40 Try.underlying22 hi hz0 hz1 hz2 rfl (by decide) _ _ _ rfl ((HO.out.alloc _).alloc _) ⟨wr.heap.size + 1, 0, none⟩ 1 1 (ac (f + d, t + d, i, o, x)) rfl rfl (box5' 46) (ac_one (f + d, t + d, i, o, x)) (by unfold maxLen; omega) (by omega) (by simp; omega) ?_; intro v1 w1 ho1 hg1 _ _; have HO1 : Hid (w1.ownsRow (w.heap.size + 1) 46 5 v1 (k + 1) (acs ((arcs.take k).map (mvA d)) ++ ac (f + d, t + d, i, o, x))) := ho1; have HB1 : Hid (Below w.heap.size w w1 ∧ w.heap.size + 1 ≤ w1.heap.size) := grow2 HB.out hbs hg1 HO.out; clear ho1 hg1)
      go_roundw
      case rel =>
        refine ⟨k + 1, by go_num, hlt, ?_, HB1.out.1, HB1.out.2⟩
        have e := HO1.out
        rw [acs_snoc] at e
        rw [List.take_succ_eq_append_getElem hlt, List.map_append, HX.out]
        exact e
      case measure => simp [intOf]; omega
    · have ek : k = arcs.length := by omega
      have HO : Hid (wr.ownsRow (w.heap.size + 1) 46 5 u5 arcs.length (acs (arcs.map (mvA d)))) := by
        show wr.ownsRow (w.heap.size + 1) 46 5 u5 arcs.length (acs (arcs.map (mvA d)))
        rw [ek, List.take_length] at hown
        exact hown
      clear hown ek
      go_wp2
      go_ret
      exact ⟨_, rfl, HO.out, hb⟩
end Go.Proofs.Ytegfhbjdfcoajaa.Ma
