/- The program's outOfRange of a lexicon. No conditions beyond how it lies. -/
import Derived.Test.YtkcbgapakpheiaaLzM
namespace Go.Proofs.Ytkcbgapakpheiaa.Xa
open Go.RowKit Go.Shelf Sd Md Sc Aq Ls Lx Ly Lz

theorem newc (W : World) (u : Value) (t n : Nat) (h : W.heap.size = n) : (W.alloc (.cells #[u] t)).cell? ⟨n, 0, none⟩ = some u := by
  subst h
  simp
theorem four (w : World) (o1 : Obj) (k : Int) : Caps (w.heap.size + 1) (w.heap.size + 3) (w.heap.size + 2) k ((((w.alloc o1).alloc (.cells #[.func (.func 35) #[] #[]] 66)).alloc (.cells #[.int .i64 k] 3)).alloc (.cells #[.func (.func 47) #[] #[.pointer (some ⟨w.heap.size + 2, 0, none⟩)]] 66)) := by
  have b1 : ∀ (W : World) (o : Obj), Below W.heap.size W (W.alloc o) := fun W o => (Below.refl _ _).alloc (Nat.le_refl _) _
  have s1 : (w.alloc o1).heap.size = w.heap.size + 1 := by simp
  have s2 : ((w.alloc o1).alloc (.cells #[.func (.func 35) #[] #[]] 66)).heap.size = w.heap.size + 2 := by rw [World.size_alloc, s1]
  have s3 : (((w.alloc o1).alloc (.cells #[.func (.func 35) #[] #[]] 66)).alloc (.cells #[.int .i64 k] 3)).heap.size = w.heap.size + 3 := by rw [World.size_alloc, s2]
  have c1 := newc (w.alloc o1) (.func (.func 35) #[] #[]) 66 _ s1
  have c2 := newc ((w.alloc o1).alloc (.cells #[.func (.func 35) #[] #[]] 66)) (.int .i64 k) 3 _ s2
  have c3 := newc (((w.alloc o1).alloc (.cells #[.func (.func 35) #[] #[]] 66)).alloc (.cells #[.int .i64 k] 3)) (.func (.func 47) #[] #[.pointer (some ⟨w.heap.size + 2, 0, none⟩)]) 66 _ s3
  refine ⟨by rw [World.size_alloc, s3]; omega, ?_, by rw [World.size_alloc, s3]; omega, c3, by rw [World.size_alloc, s3]; omega, ?_⟩
  · rw [(b1 _ _).cell (by rw [s3]; show w.heap.size + 1 < _; omega), (b1 _ _).cell (by rw [s2]; show w.heap.size + 1 < _; omega)]
    exact c1
  · rw [(b1 _ _).cell (by rw [s3]; show w.heap.size + 2 < _; omega)]
    exact c2
theorem four_b (w : World) (o1 o2 o3 o4 : Obj) : Below w.heap.size w ((((w.alloc o1).alloc o2).alloc o3).alloc o4) := ((((Below.refl _ w).alloc (Nat.le_refl _) o1).alloc (by simp) o2).alloc (by simp; omega) o3).alloc (by simp; omega) o4

set_option maxHeartbeats 2000000 in
theorem outOfRange_any (y : VX) (w : World) (h : IsX w y) : Calls Try.prog 22 #[y.val] w fun e w' => e = .returned (.bool y.lex.farB) ∧ Below w.heap.size w w' := by
  obtain ⟨k, vs, vc, vh, sts, ces, xs⟩ := y
  have hF := fun o1 => four w o1 k
  have hB := fun o1 => four_b w o1 (.cells #[.func (.func 35) #[] #[]] 66) (.cells #[.int .i64 k] 3) (.cells #[.func (.func 47) #[] #[.pointer (some ⟨w.heap.size + 2, 0, none⟩)]] 66)
  have c31 : ∀ W, Below w.heap.size w W → Caps (w.heap.size + 1) (w.heap.size + 3) (w.heap.size + 2) k W → Calls Try.prog 31 #[vs, .func (.func 36) #[] #[.pointer (some ⟨w.heap.size + 1, 0, none⟩), .pointer (some ⟨w.heap.size + 3, 0, none⟩)]] W fun e w' => e = .returned (.bool ((sts.map Prod.snd).any (stFar k))) ∧ Below W.heap.size W w' :=
    fun W hW hc => anySt vs sts (stFar k) 36 _ W (h.below hW).s en36 (fun W' x hb hx => stFar_any x _ _ _ k W' hx (hc.below hb))
  have c33 : ∀ W, Below w.heap.size w W → Caps (w.heap.size + 1) (w.heap.size + 3) (w.heap.size + 2) k W → Calls Try.prog 33 #[vc, .func (.func 37) #[] #[.pointer (some ⟨w.heap.size + 1, 0, none⟩), .pointer (some ⟨w.heap.size + 3, 0, none⟩)]] W fun e w' => e = .returned (.bool ((ces.map Prod.snd).any (ceFar k))) ∧ Below W.heap.size W w' :=
    fun W hW hc => anyCe vc ces (ceFar k) 37 _ W (h.below hW).c en37 (fun W' x hb hx => ceFar_any x _ _ _ k W' hx (hc.below hb))
  simp only [VX.val, VX.lex, Lex.farB]
  generalize (sts.map Prod.snd).any (stFar k) = r1 at c31 ⊢
  generalize (ces.map Prod.snd).any (ceFar k) = r2 at c33 ⊢
  clear h
  have hb1 : ∀ (W : World) (o : Obj), Below W.heap.size W (W.alloc o) := fun W o => (Below.refl _ _).alloc (Nat.le_refl _) _
  have q2 : ∀ o2 o3 o4, ((((w.alloc (.cells #[.int .i64 k, vs, vc, vh] 26)).alloc o2).alloc o3).alloc o4).cell? ⟨w.heap.size, 2, none⟩ = some vc := by
    intro o2 o3 o4
    rw [(hb1 _ _).cell (by simp; omega), (hb1 _ _).cell (by simp; omega), (hb1 _ _).cell (by simp)]
    simp
  have q1 : ∀ o2 o3 o4, ((((w.alloc (.cells #[.int .i64 k, vs, vc, vh] 26)).alloc o2).alloc o3).alloc o4).cell? ⟨w.heap.size, 1, none⟩ = some vs := by
    intro o2 o3 o4
    rw [(hb1 _ _).cell (by simp; omega), (hb1 _ _).cell (by simp; omega), (hb1 _ _).cell (by simp)]
    simp
  cases r1 with
  | true =>
    go_enter Try.func22, Try.ntmps22
    go_wp2_with (first | (go_at_call 27; refine (Ly.outside_any _ _).mono ?_; rintro e w1 ⟨rfl, rfl⟩) | (go_at_call 31; refine (c31 _ (hB _) (hF _)).mono ?_; rintro e w2 ⟨rfl, hb2⟩))
    go_ret
    exact ⟨rfl, (hB _).trans (hb2.mono (hB _).size)⟩
  | false =>
    go_enter Try.func22, Try.ntmps22
    go_wp2_with (first | (go_at_call 27; refine (Ly.outside_any _ _).mono ?_; rintro e w1 ⟨rfl, rfl⟩) | (go_at_call 31; refine (c31 _ (hB _) (hF _)).mono ?_; rintro e w2 ⟨rfl, hb2⟩; have B2 := (hB _).trans (hb2.mono (hB _).size); have C2 := (hF _).below hb2; have k2 : w2.cell? ⟨w.heap.size, 2, none⟩ = some vc := (hb2.cell (p := ⟨w.heap.size, 2, none⟩) (by simp; omega)).trans (q2 _ _ _)) | (go_at_call 33; refine (c33 _ B2 C2).mono ?_; rintro e w3 ⟨rfl, hb3⟩))
    go_ret
    exact ⟨by simp, B2.trans (hb3.mono B2.size)⟩
end Go.Proofs.Ytkcbgapakpheiaa.Xa
