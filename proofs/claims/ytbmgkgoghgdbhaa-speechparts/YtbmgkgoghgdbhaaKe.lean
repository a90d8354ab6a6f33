/- Read: what a text says. Condition: the text is no longer than any that comes in. -/
import Derived.Test.YtbmgkgoghgdbhaaKd
namespace Go.Proofs.Ytbmgkgoghgdbhaa.Te
open Go.RowKit

/-- what Read answers -/
def RaQ (t : Ty) (x : Int) (w : World) (e : Ending) (w' : World) : Prop := ∃ a c d, e = .returned (.tuple #[vty t a c, .int .i64 x]) ∧ TyAt w' d t a c ∧ Below w.heap.size w w'
theorem ty0_at (w : World) : TyAt w 1 ty0 none 0 := by
  refine ⟨?_, ?_, Nat.zero_le _, .inl rfl⟩ <;> (unfold i64B ty0; dsimp only; omega)
theorem below_box {w W : World} (h : Below w.heap.size w W) (u v x : Value) : Below w.heap.size w (((W.setCell ⟨w.heap.size, 0, none⟩ u).setCell ⟨w.heap.size, 1, none⟩ v).setCell ⟨w.heap.size, 2, none⟩ x) :=
  ((h.setCell (p := ⟨w.heap.size, 0, none⟩) (Nat.le_refl _) _).setCell (p := ⟨w.heap.size, 1, none⟩) (Nat.le_refl _) _).setCell (p := ⟨w.heap.size, 2, none⟩) (Nat.le_refl _) _
set_option maxRecDepth 100000 in
set_option maxHeartbeats 4000000 in
theorem Read_any (s : ByteArray) (t : Ty) (x : Int) (w : World) (hs : s.size ≤ 140737488355328) (hr : rdP (nb s) = (t, x)) : Calls Try.prog 14 #[.string s] w fun e w' => RaQ t x w e w' := by
  have K40 := fun W => written_any s W hs
  have HR : Hid (rdP (nb s) = (t, x)) := hr
  clear hr
  go_enter Try.func14, Try.ntmps14
  go_upto_region 1 with fail
  have hVb : Below w.heap.size w (w.alloc (.cells #[.int .i64 0, .int .i64 0, .slice none 0 0] 24)) := (Below.refl _ w).alloc (Nat.le_refl _) _
  have x1 := heap_alloc_new w (.cells #[.int .i64 0, .int .i64 0, .slice none 0 0] 24)
  have HV : Hid ((w.alloc (.cells #[.int .i64 0, .int .i64 0, .slice none 0 0] 24)).heap.size = w.heap.size + 1) := (by show _ = _; simp)
  generalize hV : w.alloc (.cells #[.int .i64 0, .int .i64 0, .slice none 0 0] 24) = V at *
  clear hV
  have K40 := K40 V
  go_upto_region 2 with (go_at_call 40; (with_reducible refine K40.mono ?_); rintro e1 w1 ⟨⟨n, b, rfl, hbq⟩, hb1⟩; clear K40)
  have x1 := (hb1.block _ (lt_of_get x1)).trans x1
  have hB1 := hVb.trans (hb1.mono hVb.size)
  have HB : Hid ((b = true → ∃ k : Nat, mc (nb s) 0 [] false = some k ∧ n = k) ∧ (b = false → mc (nb s) 0 [] false = none)) := hbq
  have HV1 : Hid (w.heap.size < w1.heap.size) := (by show _ < _; have := HV.out; have := hb1.size; omega)
  clear hbq hb1
  have i0 := cell_of_row _ _ 0 _ _ _ x1
  have i1 := cell_of_row _ _ 1 _ _ _ x1
  have i2 := cell_of_row _ _ 2 _ _ _ x1
  have f0 := frozen_of_row _ _ 0 _ 24 x1
  have f1 := frozen_of_row _ _ 1 _ 24 x1
  have f2 := frozen_of_row _ _ 2 _ 24 x1
  cases b with
  | false =>
    obtain ⟨rfl, rfl⟩ : t = ty0 ∧ x = 1 := by
      have hm : mc (nb s) 0 [] false = none := HB.out.2 rfl
      have := HR.out
      rw [rdP_none hm] at this
      simp only [Prod.mk.injEq] at this
      exact ⟨this.1.symm, this.2.symm⟩
    go_wp2_with fail
    have hl3 := laid_box x1 0 0 none 0 0
    refine bodyPost_ret (results_row_tmp rfl _ _ w.heap.size 24 _ (0, 0) _ rfl hl3 Try.underlying24 rfl size24) rfl ⟨none, 0, 1, rfl, ty0_at _, below_box hB1 _ _ _⟩
  | true =>
    obtain ⟨k, hk, rfl⟩ := HB.out.1 rfl
    obtain ⟨p, hp, rfl⟩ := (mc_iff _ _).1 hk
    have HR2 := HR.out
    rw [rdP_some hp] at HR2
    obtain ⟨gp, hl⟩ := pa_inv _ _ _ _ hp
    by_cases h15 : 15 < sz p
    · rw [if_pos h15] at HR2
      simp only [Prod.mk.injEq] at HR2
      obtain ⟨rfl, rfl⟩ := HR2
      have h15' : (15 : Int) < (sz p : Int) := by omega
      clear HR HB hk hp hl
      go_wp2_with fail
      have hl3 := laid_box x1 0 0 none 0 0
      refine bodyPost_ret (results_row_tmp rfl _ _ w.heap.size 24 _ (0, 0) _ rfl hl3 Try.underlying24 rfl size24) rfl ⟨none, 0, 1, rfl, ty0_at _, below_box hB1 _ _ _⟩
    · rw [if_neg h15] at HR2
      simp only [Prod.mk.injEq] at HR2
      obtain ⟨rfl, rfl⟩ := HR2
      have h15' : ¬ (15 : Int) < (sz p : Int) := by omega
      have K41 := read_any (sz p) p s [] w1 (Nat.le_refl _) gp hl
      clear HR HB hk hp hl i0 i1 i2 f0 f1 f2
      go_upto_region 7 with (go_at_call 41; (with_reducible refine K41.mono ?_); rintro e2 w2 ⟨a1, c1, s1, rfl, hs1, hT1, hb2⟩; clear K41; unfold vty)
      have x1 := (hb2.block _ (lt_of_get x1)).trans x1
      have hbn : Below w2.heap.size w2 (w2.alloc (.cells #[.int .i64 p.kind, .int .i64 p.n, .slice a1 p.kids.length c1] 24)) := (Below.refl _ w2).alloc (Nat.le_refl _) _
      have x4 := heap_alloc_new w2 (.cells #[.int .i64 p.kind, .int .i64 p.n, .slice a1 p.kids.length c1] 24)
      have x1 := (hbn.block _ (lt_of_get x1)).trans x1
      have hB2 := hB1.trans ((hb2.trans (hbn.mono hb2.size)).mono hB1.size)
      have HT1 : Hid (TyP (fun g => w1.heap.size ≤ g) (w2.alloc (.cells #[.int .i64 p.kind, .int .i64 p.n, .slice a1 p.kids.length c1] 24)) (sz p) p a1 c1) := hT1.below hbn
      clear hbn hb2 hT1 hs1
      generalize hV : w2.alloc (.cells #[.int .i64 p.kind, .int .i64 p.n, .slice a1 p.kids.length c1] 24) = W2 at *
      clear hV
      generalize w2.heap.size = B4 at *
      have i0 := cell_of_row _ _ 0 _ _ _ x1
      have i1 := cell_of_row _ _ 1 _ _ _ x1
      have i2 := cell_of_row _ _ 2 _ _ _ x1
      have f0 := frozen_of_row _ _ 0 _ 24 x1
      have f1 := frozen_of_row _ _ 1 _ 24 x1
      have f2 := frozen_of_row _ _ 2 _ 24 x1
      have p0 := cell_of_row _ _ 0 _ _ _ x4
      have p1 := cell_of_row _ _ 1 _ _ _ x4
      have p2 := cell_of_row _ _ 2 _ _ _ x4
      go_wp2_with fail
      have hl3 := laid_box x1 p.kind p.n a1 p.kids.length c1
      refine bodyPost_ret (results_row_tmp rfl _ _ w.heap.size 24 _ (0, 0) _ rfl hl3 Try.underlying24 rfl size24) rfl ⟨a1, c1, sz p, rfl, ?_, below_box hB2 _ _ _⟩
      exact (HT1.out.keep (Q := fun _ => True) (by simp) (fun g _ hP => ⟨trivial, ko3 W2 w.heap.size _ _ _ g (by have hP' : w1.heap.size ≤ g := hP; have := HV1.out; omega)⟩)).at
end Go.Proofs.Ytbmgkgoghgdbhaa.Te
