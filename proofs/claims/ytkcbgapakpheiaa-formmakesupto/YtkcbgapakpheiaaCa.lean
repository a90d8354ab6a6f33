/- The program's checkAll of a list of changes: what the document says. No conditions beyond how they lie. -/
import Derived.Test.YtkcbgapakpheiaaLs
import Derived.Deep.QuietTactic
import Derived.BigQuiet
namespace Go.Proofs.Ytkcbgapakpheiaa.Ca
open Go.RowKit Go.Shelf Sd Md Sc Aq Ls

/-- 'c.Kinds != l[0].Kinds' -/
theorem other_any (x : VC) (k0 : Int) (B b off n cap : Nat) (w : World) (hn : 0 < n) (hB : B < w.heap.size) (hc : w.cell? ⟨B, 0, none⟩ = some (.slice (some ⟨b, off, none⟩) n cap)) (hb : b < w.heap.size) (h0 : w.cell? ⟨b, off, none⟩ = some (.int .i64 k0)) :
    Calls Try.prog 61 #[.agg #[.int .i64 x.c.kinds, x.vf, x.vt, x.vl, x.vr], .pointer (some ⟨B, 0, none⟩)] w fun e w' => e = .returned (.bool (x.c.kinds != k0)) ∧ Below w.heap.size w w' := by
  have hbo : ∀ o, Below w.heap.size w (w.alloc o) := fun o => (Below.refl _ _).alloc (Nat.le_refl _) _
  have c1 : ∀ o, (w.alloc o).cell? ⟨B, 0, none⟩ = some (.slice (some ⟨b, off, none⟩) n cap) := fun o => ((hbo o).cell (p := ⟨B, 0, none⟩) hB).trans hc
  have c2 : ∀ o, (w.alloc o).cell? ⟨b, off, none⟩ = some (.int .i64 k0) := fun o => ((hbo o).cell (p := ⟨b, off, none⟩) hb).trans h0
  have hni : (0 : Int) < (n : Int) := by omega
  obtain ⟨⟨kk, frm, to, left, right⟩, vf, vt, vl, vr, ls, rs⟩ := x
  dsimp only
  clear hc h0
  go_enter Try.func61, Try.ntmps61
  go_wp2
  go_quiet (fail)
  go_wp2
  go_ret
  exact ⟨by simp, below_drewN' (hbo _) _⟩
theorem en36 : ∀ args w, (callFunc 61 args).run Try.prog w = .ok (.enter 61 args) w := enters_of Try.func61 (by kernel_rfl) rfl

theorem anyOther (xs : List VC) (b off cap B : Nat) (w : World) (h : IsL w (.slice (some ⟨b, off, none⟩) xs.length cap) xs) (h0 : 0 < xs.length) (hB : B < w.heap.size) (hc : w.cell? ⟨B, 0, none⟩ = some (.slice (some ⟨b, off, none⟩) xs.length cap)) :
    Calls Try.prog 60 #[.slice (some ⟨b, off, none⟩) xs.length cap, .func (.func 61) #[] #[.pointer (some ⟨B, 0, none⟩)]] w fun e w' => e = .returned (.bool (otherK (chs xs))) ∧ Below w.heap.size w w' := by
  haveI : Inhabited VC := ⟨⟨⟨0, [], [], [], []⟩, .slice none 0 0, .slice none 0 0, .slice none 0 0, .slice none 0 0, [], []⟩⟩
  obtain ⟨hbl, hk0, _⟩ := change_cells h 0 h0
  rw [Nat.zero_mul, Nat.add_zero] at hk0
  have hm : xs.length ≤ 140737488355328 := by
    obtain ⟨_, _, _, _, hm⟩ := h.len
    exact hm
  rcases h.shape with ⟨_, _, _, e⟩ | ⟨b', o', c', hv, _, _, _, hcs⟩
  · rw [e] at h0
    simp at h0
  simp only [Value.slice.injEq, Option.some.injEq, Addr.mk.injEq, and_true, true_and] at hv
  obtain ⟨⟨rfl, rfl⟩, rfl⟩ := hv
  have hhead : headK (chs xs) = (xs[0]).c.kinds := by
    cases xs with
    | nil => simp at h0
    | cons x l => rfl
  have hany : (xs.take xs.length).any (fun x => x.c.kinds != (xs[0]).c.kinds) = otherK (chs xs) := by
    rw [List.take_length, otherK, hhead, chs, List.any_map]
    rfl
  have con := AnyQ.slices_ContainsFunc Try.laysQ8_f35 5 Try.isAgg58 Try.sizeOf58 vcc (fun _ => rfl) (fun x => x.c.kinds != (xs[0]).c.kinds) 61 #[.pointer (some ⟨B, 0, none⟩)] en36 b off xs.length cap xs w
    (fun W x hb => (other_any x (xs[0]).c.kinds B b off xs.length cap W h0 (Nat.lt_of_lt_of_le hB hb.size) ((hb.cell (p := ⟨B, 0, none⟩) hB).trans hc) (Nat.lt_of_lt_of_le hbl hb.size) ((hb.cell (p := ⟨b, off, none⟩) hbl).trans hk0)).mono fun e w' ⟨he, hb'⟩ => ⟨he, hb.trans (hb'.mono hb.size)⟩)
    (Nat.le_refl _) (by omega) hbl (by
      intro j hj i u hu
      have e1 : xs[j]! = xs[j] := by rw [List.getElem!_eq_getElem?_getD, List.getElem?_eq_getElem hj]; rfl
      rw [e1] at hu
      have hi : i < 5 := (List.getElem?_eq_some_iff.1 hu).1
      rw [Nat.add_assoc]
      exact hcs _ _ ((vccs_at xs j hj i hi).trans hu))
  rw [hany] at con
  exact con
end Go.Proofs.Ytkcbgapakpheiaa.Ca
