/- The type of a term: what typeOf asks and hands back. No conditions. -/
import Derived.Test.YtofbnfpncekddaaZx
import Derived.Test.YtofbnfpncekddaaTj
import Derived.Test.YtofbnfpncekddaaTk
namespace Go.Proofs.Ytofbnfpncekddaa.Te
open Go.RowKit

/-- as all lies while a term's type is looked for: w0: at the beginning -/
structure Ctx (w0 w : World) (ar cons : List Ty) (xa : Option Addr) (ca : Nat) (ac : Option Addr) (cc : Nat) : Prop where
  bel : Below w0.heap.size w0 w
  cons : ∃ d, TysAt w0 d cons ac cc
  row : ∃ xs d, w.ownsRow w0.heap.size 24 3 (.slice xa ar.length ca) ar.length xs ∧ RowOf (fun g => g < w0.heap.size) w d ar ar.length xs
/-- nothing that lay has turned but one block -/
structure Kb (w w' : World) (own : Option Nat) : Prop where
  size : w.heap.size ≤ w'.heap.size
  block : ∀ g, g < w.heap.size → some g ≠ own → w'.heap[g]? = w.heap[g]?
  os : w'.os = w.os
  tape : w'.tape = w.tape
  output : w'.output = w.output
theorem Kb.refl (w : World) (own : Option Nat) : Kb w w own := ⟨Nat.le_refl _, fun _ _ _ => rfl, rfl, rfl, rfl⟩
theorem Kb.trans {a b c : World} {own : Option Nat} (h : Kb a b own) (k : Kb b c own) : Kb a c own := ⟨Nat.le_trans h.size k.size, fun g hg hn => (k.block g (Nat.lt_of_lt_of_le hg h.size) hn).trans (h.block g hg hn), k.os.trans h.os, k.tape.trans h.tape, k.output.trans h.output⟩
theorem kb_below {w w' : World} {own : Option Nat} (h : Below w.heap.size w w') : Kb w w' own := ⟨h.size, fun g hg _ => h.block g hg, h.os, h.tape, h.output⟩
theorem kb_grown {w w' : World} {own : Option Nat} (h : w.grownBy w' own) : Kb w w' own := ⟨h.size, fun g hg hn => h.block g hg hn, h.os, h.tape, h.output⟩
theorem Kb.toBelow {w w' : World} {own : Option Nat} {n : Nat} (h : Kb w w' own) (hn : n ≤ w.heap.size) (ho : ∀ g, own = some g → n ≤ g) : Below n w w' := ⟨h.os, h.tape, h.output, h.size, fun g hg => h.block g (by omega) (fun e => by have := ho g e.symm; omega)⟩
/-- another block of the call's own was the one that turned -/
theorem Kb.other {w w1 w' : World} {own own' : Option Nat} (h : Kb w w1 own) (k : Kb w1 w' own') (ho : own' = own ∨ ∃ g, own' = some g ∧ w.heap.size ≤ g) : Kb w w' own :=
  ⟨Nat.le_trans h.size k.size, fun g hg hn => (k.block g (Nat.lt_of_lt_of_le hg h.size) (fun e => by
    rcases ho with ho | ⟨g', ho, hl⟩
    · exact hn (e.trans ho)
    · rw [ho] at e
      simp only [Option.some.injEq] at e
      omega)).trans (h.block g hg hn), k.os.trans h.os, k.tape.trans h.tape, k.output.trans h.output⟩
theorem Ctx.own {w0 w : World} {ar cons : List Ty} {xa : Option Addr} {ca : Nat} {ac : Option Addr} {cc : Nat} (h : Ctx w0 w ar cons xa ca ac cc) : ∀ g, (Value.slice xa ar.length ca).ownBlock = some g → w0.heap.size ≤ g ∧ g < w.heap.size := by
  obtain ⟨xs, d, ho, _⟩ := h.row
  exact fun g hg => ho.lt g hg
theorem Ctx.below {w0 w w' : World} {ar cons : List Ty} {xa : Option Addr} {ca : Nat} {ac : Option Addr} {cc : Nat} (h : Ctx w0 w ar cons xa ca ac cc) (hb : Below w.heap.size w w') : Ctx w0 w' ar cons xa ca ac cc := by
  obtain ⟨h1, h2, xs, d, h3, h4⟩ := h
  exact ⟨h1.trans (hb.mono h1.size), h2, xs, d, own_below h3 hb, h4.keep hb.size (fun g hg hP => ⟨hP, hb.block g hg⟩)⟩
/-- what is handed back: r: what is wrong, and the type -/
structure Ans (w0 w : World) (own : Option Nat) (r : Int × Ty) (e : Ending) (w' : World) : Prop where
  ret : ∃ (y : Ty) (a' : Option Addr) (c' : Nat), e = .returned (.tuple #[vty y a' c', .int .i64 r.1]) ∧ (r.1 = 0 → y = r.2 ∧ ∃ d, TyP (fun g => g < w0.heap.size ∨ w.heap.size ≤ g) w' d y a' c')
  kept : Kb w w' own
/-- a type of those around -/
theorem Ctx.at {w0 w : World} {ar cons : List Ty} {xa : Option Addr} {ca : Nat} {ac : Option Addr} {cc : Nat} (h : Ctx w0 w ar cons xa ca ac cc) {j : Nat} (hj : j < ar.length) : ∃ g a' c' d, xa = some ⟨g, 0, none⟩ ∧ g < w.heap.size ∧ w.cell? ⟨g, j * 3, none⟩ = some (.int .i64 ar[j].kind) ∧ w.cell? ⟨g, j * 3 + 1, none⟩ = some (.int .i64 ar[j].n) ∧ w.cell? ⟨g, j * 3 + 2, none⟩ = some (.slice a' ar[j].kids.length c') ∧ TyP (fun g => g < w0.heap.size) w d ar[j] a' c' := by
  obtain ⟨_, _, xs, d, ho, hr⟩ := h
  obtain ⟨a', c', q0, q1, q2, q3⟩ := hr j hj hj
  rcases ho.2 with ⟨hv, h0⟩ | ⟨g, cap, cur, hv, hg, hh, _⟩
  · omega
  · simp only [Value.slice.injEq, true_and] at hv
    obtain ⟨rfl, rfl⟩ := hv
    have hc : ∀ q, q < ar.length * 3 → w.cell? ⟨g, q, none⟩ = xs[q]? := fun q hq => ho.cellAt q hq
    exact ⟨g, a', c', d, rfl, (Array.getElem?_eq_some_iff.1 hh).1, (hc _ (by omega)).trans q0, (hc _ (by omega)).trans q1, (hc _ (by omega)).trans q2, q3⟩
/-- the result is written into its box -/
theorem fin_set {w0 w W : World} {ar cons : List Ty} {xa : Option Addr} {ca : Nat} {ac : Option Addr} {cc : Nat} {own : Option Nat} (hown : (Value.slice xa ar.length ca).ownBlock = own) (hK : Kb w W own) (hC : Ctx w0 W ar cons xa ca ac cc) {R : Nat} (hw : w0.heap.size ≤ w.heap.size) (hR : w.heap.size ≤ R) (hRo : some R ≠ own) (u v x : Value) :
    Kb w (((W.setCell ⟨R, 0, none⟩ u).setCell ⟨R, 1, none⟩ v).setCell ⟨R, 2, none⟩ x) own ∧ Ctx w0 (((W.setCell ⟨R, 0, none⟩ u).setCell ⟨R, 1, none⟩ v).setCell ⟨R, 2, none⟩ x) ar cons xa ca ac cc := by
  have k3 := ko3 W R u v x
  obtain ⟨h1, h2, xs, d, h3, h4⟩ := hC
  refine ⟨⟨by simpa using hK.size, fun g hg hn => (k3 g (by omega)).trans (hK.block g hg hn), hK.os, hK.tape, hK.output⟩, ⟨?_, h2, xs, d, ?_, ?_⟩⟩
  · exact ((h1.setCell (p := ⟨R, 0, none⟩) (by show w0.heap.size ≤ R; omega) _).setCell (p := ⟨R, 1, none⟩) (by show w0.heap.size ≤ R; omega) _).setCell (p := ⟨R, 2, none⟩) (by show w0.heap.size ≤ R; omega) _
  · exact own_keep h3 (fun g _ hg _ _ => k3 g (fun e => by subst e; exact hRo (hg.symm.trans hown)))
  · exact h4.keep (by simp) (fun g _ hP => ⟨hP, k3 g (by have hP' : g < w0.heap.size := hP; omega)⟩)
/-- what is wrong is handed back -/
theorem ans_bad {w0 w W : World} {ar cons : List Ty} {xa : Option Addr} {ca : Nat} {ac : Option Addr} {cc : Nat} {own : Option Nat} (hown : (Value.slice xa ar.length ca).ownBlock = own) (hK : Kb w W own) (hC : Ctx w0 W ar cons xa ca ac cc) {R : Nat} (hw : w0.heap.size ≤ w.heap.size) (hR : w.heap.size ≤ R) (hRo : some R ≠ own) {e : Int} (he : e ≠ 0) {r : Int × Ty} (hr : r = (e, noTy)) :
    Ans w0 w own r (.returned (.tuple #[.agg #[.int .i64 0, .int .i64 0, .slice none 0 0], .int .i64 e])) (((W.setCell ⟨R, 0, none⟩ (.int .i64 0)).setCell ⟨R, 1, none⟩ (.int .i64 0)).setCell ⟨R, 2, none⟩ (.slice none 0 0)) ∧ Ctx w0 (((W.setCell ⟨R, 0, none⟩ (.int .i64 0)).setCell ⟨R, 1, none⟩ (.int .i64 0)).setCell ⟨R, 2, none⟩ (.slice none 0 0)) ar cons xa ca ac cc := by
  subst hr
  have h := fin_set hown hK hC hw hR hRo (.int .i64 0) (.int .i64 0) (.slice none 0 0)
  exact ⟨⟨⟨noTy, none, 0, rfl, fun h0 => absurd h0 he⟩, h.1⟩, h.2⟩
/-- a type is handed back -/
theorem ans_ok {w0 w W : World} {ar cons : List Ty} {xa : Option Addr} {ca : Nat} {ac : Option Addr} {cc : Nat} {own : Option Nat} (hown : (Value.slice xa ar.length ca).ownBlock = own) (hK : Kb w W own) (hC : Ctx w0 W ar cons xa ca ac cc) {R : Nat} (hw : w0.heap.size ≤ w.heap.size) (hR : w.heap.size ≤ R) (hRo : some R ≠ own) {y : Ty} {a' : Option Addr} {c' d : Nat} (ht : TyP (fun g => g < w0.heap.size ∨ R < g) W d y a' c') {r : Int × Ty} (hr : r = (0, y)) :
    Ans w0 w own r (.returned (.tuple #[.agg #[.int .i64 y.kind, .int .i64 y.n, .slice a' y.kids.length c'], .int .i64 0])) (((W.setCell ⟨R, 0, none⟩ (.int .i64 y.kind)).setCell ⟨R, 1, none⟩ (.int .i64 y.n)).setCell ⟨R, 2, none⟩ (.slice a' y.kids.length c')) ∧ Ctx w0 (((W.setCell ⟨R, 0, none⟩ (.int .i64 y.kind)).setCell ⟨R, 1, none⟩ (.int .i64 y.n)).setCell ⟨R, 2, none⟩ (.slice a' y.kids.length c')) ar cons xa ca ac cc := by
  subst hr
  have h := fin_set hown hK hC hw hR hRo (.int .i64 y.kind) (.int .i64 y.n) (.slice a' y.kids.length c')
  refine ⟨⟨⟨y, a', c', rfl, fun _ => ⟨rfl, d, ?_⟩⟩, h.1⟩, h.2⟩
  exact ht.keep (by simp) (fun g _ hP => ⟨by rcases hP with hP | hP; exact .inl hP; (right; show w.heap.size ≤ g; omega), ko3 W R _ _ _ g (by rcases hP with hP | hP <;> omega)⟩)
end Go.Proofs.Ytofbnfpncekddaa.Te
