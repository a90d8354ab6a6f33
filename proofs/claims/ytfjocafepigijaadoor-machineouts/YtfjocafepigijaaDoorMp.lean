/- The field's map from labels to arcs, as a function of both numbers. Condition: both are numbers of 64 bits. -/
import Derived.Test.YtfjocafepigijaaDoorSe
import Derived.Maps.Own
import Derived.Maps.Views
import Derived.DeepKeys4
import Derived.WideKeyEntry
namespace Go.Proofs.YtfjocafepigijaaDoor.Mp
open Go.RowKit Mv Po Se Wd
open Go.WideMaps Go.WideElems
open Go.ChangeMaps (setBlock heap_setBlock_same heap_setBlock_other)
open Go.Maps (Keyed)

theorem laid : laidOutB Tryd.prog = true := by kernel_rfl
theorem row61 : (169 : TypeId) < Tryd.prog.types.size := of_decide_eq_true (by kernel_rfl)
theorem wide61 : (match Tryd.prog.underlying 169 with | some (.array _ _) | some (.struct _) => true | _ => false) = true := by kernel_rfl
set_option maxRecDepth 1000000 in
theorem law61 : KeyLaw Tryd.prog 169 := deep_law_laid laid (m := 3) (by omega) row61 (by kernel_rfl) wide61
set_option maxRecDepth 1000000 in
theorem keyed : Keyed Tryd.prog 169 := Keyed.of_law law61
set_option maxRecDepth 1000000 in
theorem keyType61 : Tryd.prog.keyType 169 = true := by kernel_rfl
theorem cells61 : Tryd.prog.cellsOf 169 = 2 := by kernel_rfl
theorem cells3 : Tryd.prog.cellsOf 3 = 1 := by kernel_rfl
theorem size89 : ∃ d, Tryd.prog.types.size + 1 = d + 1 + 1 := ⟨213, by kernel_rfl⟩
theorem lits3 (d : Nat) (n : Int) (h : (Lit.int .i64 n).wf = true) : Tryd.prog.keyLits (d + 1) 3 [.int .i64 n] = some [.int .i64 n] := by
  unfold Program.keyLits
  simp [Tryd.underlying3, h]
def W64 (i : Int) : Prop := (Lit.int .i64 i).wf = true
def kl (i o : Int) : Lit := .string (keyBytes [.int .i64 i, .int .i64 o])
theorem keyOf_label (i o : Int) (hi : W64 i) (ho : W64 o) : keyOf Tryd.prog 169 (.agg #[.int .i64 i, .int .i64 o]) = some (kl i o) := by
  unfold W64 at hi ho
  unfold keyOf
  simp only [Tryd.underlying169]
  obtain ⟨d, hd⟩ := size89
  rw [if_pos (by simp [keyType61, Value.formed, Tryd.underlying169, cells61]), hd]
  unfold Program.keyLits
  simp only [Tryd.underlying169, Value.cells]
  rw [if_pos (by rw [cells61]; exact ⟨rfl, by kernel_rfl⟩)]
  simp [cells3, lits3, hi, ho, kl]
theorem kl_inj {i o i' o' : Int} (hi : W64 i) (ho : W64 o) (hi' : W64 i') (ho' : W64 o') (h : kl i o = kl i' o') : i = i' ∧ o = o' := by
  have := keyed.inj (keyOf_label i o hi ho) (h ▸ keyOf_label i' o' hi' ho')
  simpa using this

def nilS : Value := .slice none 0 0
def El (v : Value) : Option (DataW Value × List MemPlace) := some (.held v, [])
theorem zero22 (w : World) : (zeroValue 22).run Tryd.prog w = .ok nilS w := by kernel_rfl

/-- block b is a map that has G i o at each label -/
def IsMp (w : World) (b n : Nat) (G : Int → Int → Value) : Prop :=
  ∃ D : DataW Value, w.ownsMap Tryd.prog 169 El b n D ∧ ∀ i o, W64 i → W64 o → D.atKey (kl i o) (.held nilS) = .held (G i o)
theorem IsMp.lt {w : World} {b n : Nat} {G : Int → Int → Value} (h : IsMp w b n G) : b < w.heap.size := by
  obtain ⟨D, h, _⟩ := h
  exact h.lt
theorem IsMp.kept {w w' : World} {b n : Nat} {G : Int → Int → Value} (h : IsMp w b n G) (hb : w'.heap[b]? = w.heap[b]?) : IsMp w' b n G := by
  obtain ⟨D, ⟨es, clock, h1, h2⟩, h3⟩ := h
  exact ⟨D, ⟨es, clock, hb.trans h1, h2⟩, h3⟩
theorem IsMp.look {w : World} {b n : Nat} {G : Int → Int → Value} (h : IsMp w b n G) {i o : Int} (hi : W64 i) (ho : W64 o) : (Instr.lookup 163 (.map (some b)) (.agg #[.int .i64 i, .int .i64 o]) false).run Tryd.prog w = .ok (G i o) w := by
  obtain ⟨D, h1, h2⟩ := h
  obtain ⟨v, ps, hr, hv⟩ := h1.lookup keyed Tryd.underlying163 (zero22 w) (zd := .held nilS) (zp := []) rfl (keyOf_label i o hi ho)
  rw [h2 i o hi ho] at hv
  have : v = G i o := by simp [El] at hv; exact hv.1
  rw [← this]
  exact hr
theorem made (w : World) : IsMp (w.alloc (.map #[] 0)) w.heap.size 0 (fun _ _ => nilS) :=
  ⟨_, World.ownsMap_made w Tryd.prog 169 El, fun _ _ _ _ => rfl⟩
end Go.Proofs.YtfjocafepigijaaDoor.Mp
