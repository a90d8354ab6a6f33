/- A part by itself, as it is appended; a list that begins with it. No conditions. -/
import Derived.Test.YtbmgkgoghgdbhaaXa
namespace Go.Proofs.Ytbmgkgoghgdbhaa.Te
open Go.RowKit

theorem cell_tyc {w : World} {B : Nat} {x : Ty} {ax : Option Addr} {cx : Nat} (h : w.heap[B]? = some (.cells #[.int .i64 x.kind, .int .i64 x.n, .slice ax x.kids.length cx] 24 (0, 0))) : ∀ j u, (tyc x ax cx)[j]? = some u → w.cell? ((⟨B, 0, none⟩ : Addr).add j) = some u := by
  intro j u hu
  rw [Zz.addr_add0, cell_of_row _ _ j _ 24 (0, 0) h, ← hu]
  simp [tyc]
theorem row_tyc {w : World} {d : Nat} {x : Ty} {ax : Option Addr} {cx : Nat} (h : TyAt w d x ax cx) : RowOf (fun _ => True) w d [x] [x].length (tyc x ax cx) := fun i hi _ => by
  have e : i = 0 := by simp at hi; omega
  subst e
  exact ⟨ax, cx, rfl, rfl, rfl, h.free⟩
theorem Lk.onerow {w0 W : World} {d : Nat} {x : Ty} {ax : Option Addr} {cx : Nat} (h : Lk w0 d x ax cx none none none W) (hx : TyAt w0 d x ax cx) : Lk w0 d x ax cx (some (.slice (some ⟨W.heap.size, 0, none⟩) 1 1, [x])) none none (W.alloc (.cells #[.int .i64 x.kind, .int .i64 x.n, .slice ax x.kids.length cx] 24)) := by
  have hb : Below W.heap.size W (W.alloc (.cells #[.int .i64 x.kind, .int .i64 x.n, .slice ax x.kids.length cx] 24)) := (Below.refl _ W).alloc (Nat.le_refl _) _
  refine ⟨(h.below hb).bel, fun v L e => ?_, (fun _ e => by cases e), (fun _ e => by cases e)⟩
  simp only [Option.some.injEq, Prod.mk.injEq] at e
  obtain ⟨rfl, rfl⟩ := e
  exact ⟨tyc x ax cx, ⟨rfl, .inr ⟨W.heap.size, 1, _, rfl, h.bel.size, heap_alloc_new W _, Nat.le_refl _, by unfold maxLen; omega, rfl, rfl⟩⟩, row_tyc hx⟩
end Go.Proofs.Ytbmgkgoghgdbhaa.Te
