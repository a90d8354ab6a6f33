/- How a lexicon lies in memory; the program's tooLong and outOfRange of it. No conditions beyond how it lies. -/
import Derived.Test.YtkcbgapakpheiaaLy
namespace Go.Proofs.Ytkcbgapakpheiaa.Lz
open Go.RowKit Go.Shelf Sd Md Sc Aq Ls Lx Ly

structure VX where
  k : Int
  vs : Value
  vc : Value
  vh : Value
  sts : List VSt
  ces : List VCe
  xs : List VC
def VX.lex (y : VX) : Lex := ⟨y.k, y.sts.map Prod.snd, y.ces.map Prod.snd, chs y.xs⟩
def VX.val (y : VX) : Value := .agg #[.int .i64 y.k, y.vs, y.vc, y.vh]
structure IsX (w : World) (y : VX) : Prop where
  s : IsSt w y.vs y.sts
  c : IsCe w y.vc y.ces
  h : IsL w y.vh y.xs
theorem IsX.below {w w' : World} {y : VX} (h : IsX w y) (hb : Below w.heap.size w w') : IsX w' y :=
  ⟨IsR.below stQ_up h.s hb, IsR.below ceQ_up h.c hb, h.h.below (Nat.le_refl _) hb⟩

theorem none54 (a : Option Addr) (cap : Nat) (fv : Value) (w : World) : Calls Try.prog 54 #[.slice a 0 cap, fv] w fun e w' => e = .returned (.int .i64 (-1)) ∧ w' = w := by
  go_enter Try.func54, Try.ntmps54
  go_wp2
  refine wp_loop_rounds 1 ?_
  rw [rounds_succ]
  go_wp2
  go_ret
  exact ⟨rfl, rfl⟩
theorem none31 (a : Option Addr) (cap : Nat) (fv : Value) (w : World) : Calls Try.prog 31 #[.slice a 0 cap, fv] w fun e w' => e = .returned (.bool false) ∧ w' = w := by
  go_enter Try.func31, Try.ntmps31
  go_wp2_with (go_at_call 54; refine (none54 a cap fv _).mono ?_; rintro e w' ⟨rfl, rfl⟩)
  go_ret
  exact ⟨rfl, rfl⟩
theorem none55 (a : Option Addr) (cap : Nat) (fv : Value) (w : World) : Calls Try.prog 55 #[.slice a 0 cap, fv] w fun e w' => e = .returned (.int .i64 (-1)) ∧ w' = w := by
  go_enter Try.func55, Try.ntmps55
  go_wp2
  refine wp_loop_rounds 1 ?_
  rw [rounds_succ]
  go_wp2
  go_ret
  exact ⟨rfl, rfl⟩
theorem none33 (a : Option Addr) (cap : Nat) (fv : Value) (w : World) : Calls Try.prog 33 #[.slice a 0 cap, fv] w fun e w' => e = .returned (.bool false) ∧ w' = w := by
  go_enter Try.func33, Try.ntmps33
  go_wp2_with (go_at_call 55; refine (none55 a cap fv _).mono ?_; rintro e w' ⟨rfl, rfl⟩)
  go_ret
  exact ⟨rfl, rfl⟩

theorem anySt (v : Value) (l : List VSt) (p : St → Bool) (g : Nat) (lb : Array Value) (w : World) (h : IsSt w v l) (eg : ∀ args w, (callFunc g args).run Try.prog w = .ok (.enter g args) w)
    (hp : ∀ (W : World) (x : VSt), Below w.heap.size w W → stQ W x → Calls Try.prog g (#[.agg #[x.1, .int .i64 x.2.cls]] ++ lb) W fun e w' => e = .returned (.bool (p x.2)) ∧ Below W.heap.size W w') :
    Calls Try.prog 31 #[v, .func (.func g) #[] lb] w fun e w' => e = .returned (.bool ((l.map Prod.snd).any p)) ∧ Below w.heap.size w w' := by
  rcases Nat.eq_zero_or_pos l.length with e0 | h0
  · have e := List.length_eq_zero_iff.1 e0
    subst e
    obtain ⟨a, cap, rfl, _, _⟩ := IsR.len h
    refine (none31 a cap _ w).mono ?_
    rintro e w' ⟨rfl, rfl⟩
    exact ⟨rfl, Below.refl _ _⟩
  · have := anyR Try.laysQ8_stem 2 Try.isAgg51 Try.sizeOf51 stc (fun _ => rfl) stQ stQ_up v l h0 (fun x => p x.2) g lb w h eg hp
    rw [List.any_map]
    exact this
theorem anyCe (v : Value) (l : List VCe) (p : Ce → Bool) (g : Nat) (lb : Array Value) (w : World) (h : IsCe w v l) (eg : ∀ args w, (callFunc g args).run Try.prog w = .ok (.enter g args) w)
    (hp : ∀ (W : World) (x : VCe), Below w.heap.size w W → ceQ W x → Calls Try.prog g (#[.agg #[.int .i64 x.2.cls, x.1.1, x.1.2]] ++ lb) W fun e w' => e = .returned (.bool (p x.2)) ∧ Below W.heap.size W w') :
    Calls Try.prog 33 #[v, .func (.func g) #[] lb] w fun e w' => e = .returned (.bool ((l.map Prod.snd).any p)) ∧ Below w.heap.size w w' := by
  rcases Nat.eq_zero_or_pos l.length with e0 | h0
  · have e := List.length_eq_zero_iff.1 e0
    subst e
    obtain ⟨a, cap, rfl, _, _⟩ := IsR.len h
    refine (none33 a cap _ w).mono ?_
    rintro e w' ⟨rfl, rfl⟩
    exact ⟨rfl, Below.refl _ _⟩
  · have := anyR Try.laysQ8_cell 3 Try.isAgg53 Try.sizeOf53 cec (fun _ => rfl) ceQ ceQ_up v l h0 (fun x => p x.2) g lb w h eg hp
    rw [List.any_map]
    exact this
theorem en32 : ∀ args w, (callFunc 32 args).run Try.prog w = .ok (.enter 32 args) w := enters_of Try.func32 (by kernel_rfl) rfl
theorem en34 : ∀ args w, (callFunc 34 args).run Try.prog w = .ok (.enter 34 args) w := enters_of Try.func34 (by kernel_rfl) rfl
theorem en36 : ∀ args w, (callFunc 36 args).run Try.prog w = .ok (.enter 36 args) w := enters_of Try.func36 (by kernel_rfl) rfl
theorem en37 : ∀ args w, (callFunc 37 args).run Try.prog w = .ok (.enter 37 args) w := enters_of Try.func37 (by kernel_rfl) rfl

set_option maxHeartbeats 1000000 in
theorem tooLong_any (y : VX) (w : World) (h : IsX w y) : Calls Try.prog 21 #[y.val] w fun e w' => e = .returned (.bool y.lex.longB) ∧ Below w.heap.size w w' := by
  obtain ⟨k, vs, vc, vh, sts, ces, xs⟩ := y
  have hb : ∀ o, Below w.heap.size w (w.alloc o) := fun o => (Below.refl _ _).alloc (Nat.le_refl _) _
  have c31 := fun W (hW : Below w.heap.size w W) => anySt vs sts stLong 32 #[] W (h.below hW).s en32 (fun W' x _ hx => stLong_any x W' hx)
  have c33 := fun W (hW : Below w.heap.size w W) => anyCe vc ces ceLong 34 #[] W (h.below hW).c en34 (fun W' x _ hx => ceLong_any x W' hx)
  simp only [VX.val, VX.lex, Lex.longB]
  generalize (sts.map Prod.snd).any stLong = r1 at c31 ⊢
  generalize (ces.map Prod.snd).any ceLong = r2 at c33 ⊢
  clear h
  cases r1 with
  | true =>
    go_enter Try.func21, Try.ntmps21
    go_wp2_with (go_at_call 31; refine (c31 _ (hb _)).mono ?_; rintro e w1 ⟨rfl, hb1⟩)
    go_ret
    exact ⟨rfl, (hb _).trans (hb1.mono (hb _).size)⟩
  | false =>
    go_enter Try.func21, Try.ntmps21
    go_wp2_with (first | (go_at_call 31; refine (c31 _ (hb _)).mono ?_; rintro e w1 ⟨rfl, hb1⟩; have B1 := (hb _).trans (hb1.mono (hb _).size); have k2 : w1.cell? ⟨w.heap.size, 2, none⟩ = some vc := (by (rw [hb1.cell (by simp)]; simp))) | (go_at_call 33; refine (c33 _ B1).mono ?_; rintro e w2 ⟨rfl, hb2⟩))
    go_ret
    exact ⟨by simp, B1.trans (hb2.mono B1.size)⟩
end Go.Proofs.Ytkcbgapakpheiaa.Lz
