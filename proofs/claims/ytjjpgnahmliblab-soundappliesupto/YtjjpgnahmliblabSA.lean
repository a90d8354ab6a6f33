/- SoundApplies: at every change and text as they lie in memory the law returns true. Condition: the change's spots together are at most 2097152. -/
import Derived.Test.YtjjpgnahmliblabSb
import Derived.Test.YtjjpgnahmliblabAr
import Derived.Deep.QuietTactic
import Derived.BigQuiet
namespace Go.Proofs.Ytjjpgnahmliblab.SA
open Go.RowKit Go.Shelf Sd Md Sc Bx Aq Sm

/-- a world in which all that lay in w lies as it lay -/
structure After (w : World) where
  W : World
  h : Below w.heap.size w W
theorem wp_region_after {P : Program} {id : Nat} {Q : Exit → Act → World → Prop} {a : Act} {w : World} {l : List Oper} (hm : P.follows .mixedOrders = true) (hB : Region.lexB .any l.toArray = true)
    (h : wpQuiet P l.toArray (fun w' => ∃ p : After w, w' = p.W) (fun a' => ∀ w', (∃ p : After w, w' = p.W) → Q .normal a' w') l a) : (Code.region id l.toArray true).wp P Q a w :=
  wp_region_quiet (C := fun w' => ∃ p : After w, w' = p.W) hm hB ⟨⟨w.drew, (Below.refl _ _).drew⟩, rfl⟩ (by simpa using h)
theorem after_of {P : Program} {f : FuncId} {args : Array Value} {w : World} {p : After w} {v : Value}
    (h : Calls P f args p.W fun e w' => e = .returned v ∧ Below p.W.heap.size p.W w') : Calls P f args p.W fun e w'' => e = .returned v ∧ ∃ p' : After w, w'' = p'.W :=
  h.mono fun _ w' ⟨he, hb⟩ => ⟨he, ⟨w', p.h.trans (hb.mono p.h.size)⟩, rfl⟩

set_option maxHeartbeats 4000000 in
theorem walk (x : VC) (vx : Value) (text : List Int) (w : World) (h : IsC w x) (hx : IsI w vx text) (hs : x.ls.length + x.rs.length ≤ 2097152) :
    Calls Try.prog 3 #[x.val, vx] w fun e w' => e = .returned (.bool true) ∧ Below w.heap.size w w' := by
  obtain ⟨⟨kk, frm, tt, left, right⟩, vf, vt, vl, vr, ls, rs⟩ := x
  have hb : ∀ o, Below w.heap.size w (w.alloc o) := fun o => (Below.refl _ _).alloc (Nat.le_refl _) _
  have bx0 := Box.new w kk vf vt vl vr
  have con5 := fun W (hW : Below w.heap.size w W) => Aq.apply_any _ vx text W (h.below (Nat.le_refl _) hW) (hx.below (Nat.le_refl _) hW) hs
  have con6 := fun W (hW : Below w.heap.size w W) => Ar.apply_any _ vx text W (h.below (Nat.le_refl _) hW) (hx.below (Nat.le_refl _) hW) hs
  have con8 := fun W (hW : Below w.heap.size w W) => Ck2.check_any _ W (h.below (Nat.le_refl _) hW) hs
  have con9 := fun W (hW : Below w.heap.size w W) => Cr.check_any _ W (h.below (Nat.le_refl _) hW) hs
  simp only [VC.val] at con5 con6 con8 con9 ⊢
  generalize applied ⟨kk, frm, tt, left, right⟩ text = res at con5 con6
  generalize applyN ⟨kk, frm, tt, left, right⟩ text = er at con5 con6
  generalize check ⟨kk, frm, tt, left, right⟩ = ck at con8 con9
  have de : (er == er) = true := by simp
  have dc : (ck == ck) = true := by simp
  clear h hx hs
  go_enter Try.func3, Try.ntmps3
  go_wp2_with (first
    | (go_at_call 5; refine (con5 _ (hb _)).mono ?_; rintro e w1 ⟨v1, rfl, hI1, hb1⟩; have B1 := (hb _).trans (hb1.mono (hb _).size); have x1 := bx0.below hb1; have p0 := x1.g0; have p1 := x1.g1; have p2 := x1.g2; have p3 := x1.g3; have p4 := x1.g4)
    | (go_at_call 6; refine (con6 _ B1).mono ?_; rintro e w2 ⟨v2, rfl, hI2, hb2⟩; have B2 := B1.trans (hb2.mono B1.size); have x2 := x1.below hb2; have q0 := x2.g0; have q1 := x2.g1; have q2 := x2.g2; have q3 := x2.g3; have q4 := x2.g4; have J1 := hI1.below (Nat.le_refl _) hb2))
  have hs2 := x2.lt
  have r0 : ∀ p : After w2, p.W.cell? ⟨w.heap.size, 0, none⟩ = some (.int .i64 kk) := fun p => (x2.below p.h).g0
  have r1 : ∀ p : After w2, p.W.cell? ⟨w.heap.size, 1, none⟩ = some vf := fun p => (x2.below p.h).g1
  have r2 : ∀ p : After w2, p.W.cell? ⟨w.heap.size, 2, none⟩ = some vt := fun p => (x2.below p.h).g2
  have r3 : ∀ p : After w2, p.W.cell? ⟨w.heap.size, 3, none⟩ = some vl := fun p => (x2.below p.h).g3
  have r4 : ∀ p : After w2, p.W.cell? ⟨w.heap.size, 4, none⟩ = some vr := fun p => (x2.below p.h).g4
  have k7 := fun p : After w2 => Sb.begun_any p.W
  have k8 := fun p : After w2 => con8 p.W (B2.trans (p.h.mono B2.size))
  have k9 := fun p : After w2 => con9 p.W (B2.trans (p.h.mono B2.size))
  have k10 : ∀ p : After w2, Calls Try.prog 10 #[v1, v2] p.W fun e w' => e = .returned (.bool true) ∧ Below p.W.heap.size p.W w' :=
    fun p => (same_any v1 v2 res p.W (J1.below (Nat.le_refl _) p.h) (hI2.below (Nat.le_refl _) p.h)).mono fun e w' ⟨he, q, hq⟩ => ⟨he, by rw [hq]; exact below_drewN' (Below.refl _ _) q⟩
  clear q0 q1 q2 q3 q4 p0 p1 p2 p3 p4 con5 con6 con8 con9 bx0 x1 hb1 hb2 hI1
  haveI : Inhabited (After w2) := ⟨⟨w2, Below.refl _ _⟩⟩
  refine wp_region_after (by kernel_rfl) (by kernel_rfl) ?_
  repeat (go_big_quiet_step (first | (go_at_call 7; refine after_of (k7 _)) | (go_at_call 8; refine after_of (k8 _)) | (go_at_call 9; refine after_of (k9 _)) | (go_at_call 10; refine after_of (k10 _))))
  refine wpQuiet_nil ?_
  intro W hw'
  obtain ⟨⟨W, hW⟩, rfl⟩ := hw'
  go_wp2
  go_ret
  exact ⟨rfl, B2.trans (hW.mono B2.size)⟩
end Go.Proofs.Ytjjpgnahmliblab.SA
