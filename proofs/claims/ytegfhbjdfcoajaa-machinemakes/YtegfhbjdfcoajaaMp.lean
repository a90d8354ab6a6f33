/- The field's map from labels to arcs, as a function of both numbers. Condition: both are numbers of 64 bits. -/
import Derived.Test.YtegfhbjdfcoajaaSe
import Derived.Maps.Own
import Derived.Maps.Views
import Derived.DeepKeys4
import Derived.WideKeyEntry
namespace Go.Proofs.Ytegfhbjdfcoajaa.Mp
open Go.RowKit Mv Po Se Wd
open Go.WideMaps Go.WideElems
open Go.ChangeMaps (setBlock heap_setBlock_same heap_setBlock_other)
open Go.Maps (Keyed)

theorem laid : laidOutB Try.prog = true := by kernel_rfl
theorem row61 : (71 : TypeId) < Try.prog.types.size := of_decide_eq_true (by kernel_rfl)
theorem wide61 : (match Try.prog.underlying 71 with | some (.array _ _) | some (.struct _) => true | _ => false) = true := by kernel_rfl
theorem law61 : KeyLaw Try.prog 71 := deep_law_laid laid (m := 3) (by omega) row61 (by kernel_rfl) wide61
theorem keyed : Keyed Try.prog 71 := Keyed.of_law law61
theorem keyType61 : Try.prog.keyType 71 = true := by kernel_rfl
theorem cells61 : Try.prog.cellsOf 71 = 2 := by kernel_rfl
theorem cells3 : Try.prog.cellsOf 3 = 1 := by kernel_rfl
theorem size89 : ∃ d, Try.prog.types.size + 1 = d + 1 + 1 := ⟨98, by kernel_rfl⟩
theorem lits3 (d : Nat) (n : Int) (h : (Lit.int .i64 n).wf = true) : Try.prog.keyLits (d + 1) 3 [.int .i64 n] = some [.int .i64 n] := by
  unfold Program.keyLits
  simp [Try.underlying3, h]
def W64 (i : Int) : Prop := (Lit.int .i64 i).wf = true
def kl (i o : Int) : Lit := .string (keyBytes [.int .i64 i, .int .i64 o])
theorem keyOf_label (i o : Int) (hi : W64 i) (ho : W64 o) : keyOf Try.prog 71 (.agg #[.int .i64 i, .int .i64 o]) = some (kl i o) := by
  unfold W64 at hi ho
  unfold keyOf
  simp only [Try.underlying71]
  obtain ⟨d, hd⟩ := size89
  rw [if_pos (by simp [keyType61, Value.formed, Try.underlying71, cells61]), hd]
  unfold Program.keyLits
  simp only [Try.underlying71, Value.cells]
  rw [if_pos (by rw [cells61]; exact ⟨rfl, by kernel_rfl⟩)]
  simp [cells3, lits3, hi, ho, kl]
theorem kl_inj {i o i' o' : Int} (hi : W64 i) (ho : W64 o) (hi' : W64 i') (ho' : W64 o') (h : kl i o = kl i' o') : i = i' ∧ o = o' := by
  have := keyed.inj (keyOf_label i o hi ho) (h ▸ keyOf_label i' o' hi' ho')
  simpa using this

def nilS : Value := .slice none 0 0
def El (v : Value) : Option (DataW Value × List MemPlace) := some (.held v, [])
theorem zero22 (w : World) : (zeroValue 22).run Try.prog w = .ok nilS w := by kernel_rfl

/-- block b is a map that has G i o at each label -/
def IsMp (w : World) (b n : Nat) (G : Int → Int → Value) : Prop :=
  ∃ D : DataW Value, w.ownsMap Try.prog 71 El b n D ∧ ∀ i o, W64 i → W64 o → D.atKey (kl i o) (.held nilS) = .held (G i o)
theorem IsMp.lt {w : World} {b n : Nat} {G : Int → Int → Value} (h : IsMp w b n G) : b < w.heap.size := by
  obtain ⟨D, h, _⟩ := h
  exact h.lt
theorem IsMp.kept {w w' : World} {b n : Nat} {G : Int → Int → Value} (h : IsMp w b n G) (hb : w'.heap[b]? = w.heap[b]?) : IsMp w' b n G := by
  obtain ⟨D, ⟨es, clock, h1, h2⟩, h3⟩ := h
  exact ⟨D, ⟨es, clock, hb.trans h1, h2⟩, h3⟩
theorem IsMp.look {w : World} {b n : Nat} {G : Int → Int → Value} (h : IsMp w b n G) {i o : Int} (hi : W64 i) (ho : W64 o) : (Instr.lookup 64 (.map (some b)) (.agg #[.int .i64 i, .int .i64 o]) false).run Try.prog w = .ok (G i o) w := by
  obtain ⟨D, h1, h2⟩ := h
  obtain ⟨v, ps, hr, hv⟩ := h1.lookup keyed Try.underlying64 (zero22 w) (zd := .held nilS) (zp := []) rfl (keyOf_label i o hi ho)
  rw [h2 i o hi ho] at hv
  have : v = G i o := by simp [El] at hv; exact hv.1
  rw [← this]
  exact hr
theorem made (w : World) : IsMp (w.alloc (.map #[] 0)) w.heap.size 0 (fun _ _ => nilS) :=
  ⟨_, World.ownsMap_made w Try.prog 71 El, fun _ _ _ _ => rfl⟩
/-- an entry of the map, and a store at it -/
theorem IsMp.entry {w : World} {b n : Nat} {G : Int → Int → Value} (h : IsMp w b n G) (hn : n < maxLen) {i o : Int} (hi : W64 i) (ho : W64 o) :
    ∃ (st : Nat) (o1 : Obj), (Instr.mapEntry 64 (.map (some b)) (.agg #[.int .i64 i, .int .i64 o])).run Try.prog w = .ok (.tuple #[G i o, .int .i64 (st : Int)]) (setBlock w b o1) ∧
      ∀ (w2 : World) (val : Value), w2.heap[b]? = some o1 → ∃ o2, (Instr.entryStore 64 (.map (some b)) (.int .i64 (st : Int)) val).run Try.prog w2 = .ok () (setBlock w2 b o2) ∧ IsMp (setBlock w2 b o2) b (n + 1) (fun i' o' => if i' = i ∧ o' = o then val else G i' o') := by
  have hlk := h.look hi ho
  obtain ⟨D, ⟨es, clock, hb, F, hs, hD⟩, hG⟩ := h
  obtain ⟨v0, st, es1, clock1, hE, hv0, hS⟩ := entry_then_store law61 Try.underlying64 (fun u => zero22 u) hb F (keyOf_label i o hi ho)
  have hv : v0 = G i o := by
    rcases Maps.fit_look false keyed Try.underlying64 (zero22 w) hb F (keyOf_label i o hi ho) with ⟨hr, hno, _⟩ | ⟨e0, y, hm, hk, hr, _⟩
    · rw [hlk] at hr
      simp only [Result.ok.injEq, and_true, Bool.false_eq_true, if_false] at hr
      rcases hv0 with ⟨e0, hm, hk, _⟩ | ⟨_, hz⟩
      · exact absurd hk (hno e0 hm)
      · rw [hz, hr]
    · rw [hlk] at hr
      simp only [Result.ok.injEq, and_true, Bool.false_eq_true, if_false] at hr
      rcases hv0 with ⟨e1, hm1, hk1, hz⟩ | ⟨hno, _⟩
      · rw [hz, hr]
        have hp := ((MapKept.stamped_iff es clock).1 F.stamped).2.2
        obtain ⟨a, ha, rfl⟩ := List.getElem_of_mem hm
        obtain ⟨c, hc, rfl⟩ := List.getElem_of_mem hm1
        by_cases e : a = c
        · subst e; rfl
        · rcases Nat.lt_or_gt_of_ne e with h1 | h1
          · exact absurd (hk.trans hk1.symm) (List.pairwise_iff_getElem.1 hp a c ha hc h1)
          · exact absurd (hk1.trans hk.symm) (List.pairwise_iff_getElem.1 hp c a hc ha h1)
      · exact absurd hk (hno e0 hm)
  subst hv
  refine ⟨st, .map es1 clock1, hE, fun w2 val hw2 => ?_⟩
  obtain ⟨es', clock', hrun, hup⟩ := hS w2 val hw2
  have hown : w.ownsMap Try.prog 71 El b n D := ⟨es, clock, hb, F, hs, hD⟩
  obtain ⟨w', hr', ho', _⟩ := hown.update keyed Try.underlying64 hn (keyOf_label i o hi ho) (val := val) (d := .held val) (ps := []) rfl
  rw [hup] at hr'
  have hw' : setBlock w b (.map es' clock') = w' := by simpa using hr'
  refine ⟨.map es' clock', hrun, D.put (kl i o) (.held val), ?_, ?_⟩
  · obtain ⟨es3, clock3, h31, h32⟩ := ho'
    rw [← hw', heap_setBlock_same hb] at h31
    simp only [Option.some.injEq, Obj.map.injEq] at h31
    obtain ⟨rfl, rfl⟩ := h31
    exact ⟨es', clock', heap_setBlock_same hw2 _, h32⟩
  · intro i' o' hi' ho2
    by_cases e : i' = i ∧ o' = o
    · obtain ⟨rfl, rfl⟩ := e
      simp only [and_self, if_true]
      exact Maps.atKey_put_same (by rw [hD]; exact ⟨_, rfl⟩) (keyed.key (keyOf_label i' o' hi ho)) _ _
    · show _ = DataW.held (if i' = i ∧ o' = o then val else G i' o')
      rw [if_neg e, Maps.atKey_put_other (fun h => e (kl_inj hi' ho2 hi ho h))]
      exact hG i' o' hi' ho2
end Go.Proofs.Ytegfhbjdfcoajaa.Mp
