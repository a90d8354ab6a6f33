/- Two maps: what was said (by what is told), and what was looked at last (by talker and slot). Conditions: numbers of 64 bits. -/
import Derived.Test.YtmhgoddlbklbfaaMn
import Derived.Maps.Own
import Derived.Maps.Views
import Derived.DeepKeys4
namespace Go.Proofs.Ytmhgoddlbklbfaa.Mo
open Go.RowKit Ta Tb Ra Lb Mm
open Go.WideMaps Go.WideElems
open Go.Maps (Keyed)

theorem laid : laidOutB Try.prog = true := by kernel_rfl
theorem row44' : (44 : TypeId) < Try.prog.types.size := of_decide_eq_true (by kernel_rfl)
theorem wide44 : (match Try.prog.underlying 44 with | some (.array _ _) | some (.struct _) => true | _ => false) = true := by kernel_rfl
theorem law44 : KeyLaw Try.prog 44 := deep_law_laid laid (m := 3) (by omega) row44' (by kernel_rfl) wide44
theorem keyed44 : Keyed Try.prog 44 := Keyed.of_law law44
theorem row49 : (49 : TypeId) < Try.prog.types.size := of_decide_eq_true (by kernel_rfl)
theorem wide49 : (match Try.prog.underlying 49 with | some (.array _ _) | some (.struct _) => true | _ => false) = true := by kernel_rfl
theorem law49 : KeyLaw Try.prog 49 := deep_law_laid laid (m := 3) (by omega) row49 (by kernel_rfl) wide49
theorem keyed49 : Keyed Try.prog 49 := Keyed.of_law law49
theorem keyType44 : Try.prog.keyType 44 = true := by kernel_rfl
theorem keyType49 : Try.prog.keyType 49 = true := by kernel_rfl
theorem cells44 : Try.prog.cellsOf 44 = 5 := by kernel_rfl
theorem cells49 : Try.prog.cellsOf 49 = 2 := by kernel_rfl
theorem cells3 : Try.prog.cellsOf 3 = 1 := by kernel_rfl
theorem cells4 : Try.prog.cellsOf 4 = 1 := by kernel_rfl
theorem cells9 : Try.prog.cellsOf 9 = 1 := by kernel_rfl
theorem sizeT : ∃ d, Try.prog.types.size + 1 = d + 1 + 1 := ⟨Try.prog.types.size - 1, by kernel_rfl⟩
theorem lits3 (d : Nat) (n : Int) (h : (Lit.int .i64 n).wf = true) : Try.prog.keyLits (d + 1) 3 [.int .i64 n] = some [.int .i64 n] := by
  unfold Program.keyLits
  simp [Try.underlying3, h]
theorem lits4 (d : Nat) (b : Bool) : Try.prog.keyLits (d + 1) 4 [.bool b] = some [.bool b] := by
  unfold Program.keyLits
  simp [Try.underlying4]
theorem lits9 (d : Nat) (s : ByteArray) (h : s.size ≤ maxLen) : Try.prog.keyLits (d + 1) 9 [.string s] = some [.string s.data.toList] := by
  unfold Program.keyLits
  simp [Try.underlying9, h]
def W64 (i : Int) : Prop := (Lit.int .i64 i).wf = true
structure OkT (t : To) : Prop where
  sl : W64 t.sl
  ver : W64 t.ver
  who : W64 t.who
  val : t.val.size ≤ maxLen
def klT (t : To) : Lit := .string (keyBytes [.int .i64 t.sl, .int .i64 t.ver, .int .i64 t.who, .string t.val.data.toList, .bool t.op])
def kl2 (i s : Int) : Lit := .string (keyBytes [.int .i64 i, .int .i64 s])
theorem keyOf_told (t : To) (h : OkT t) : keyOf Try.prog 44 (vt t) = some (klT t) := by
  obtain ⟨h1, h2, h3, h4⟩ := h
  unfold W64 at h1 h2 h3
  unfold keyOf vt
  simp only [Try.underlying44]
  obtain ⟨d, hd⟩ := sizeT
  rw [if_pos (by simp [keyType44, Value.formed, Try.underlying44, cells44]), hd]
  unfold Program.keyLits
  simp only [Try.underlying44, Value.cells]
  rw [if_pos (by rw [cells44]; exact ⟨rfl, by kernel_rfl⟩)]
  simp [cells3, cells4, cells9, lits3, lits4, lits9, h1, h2, h3, h4, klT]
theorem keyOf_spot (i s : Int) (h1 : W64 i) (h2 : W64 s) : keyOf Try.prog 49 (.agg #[.int .i64 i, .int .i64 s]) = some (kl2 i s) := by
  unfold W64 at h1 h2
  unfold keyOf
  have u49 : Try.prog.underlying 49 = some (.array 2 3) := by kernel_rfl
  simp only [u49]
  obtain ⟨d, hd⟩ := sizeT
  rw [if_pos (by simp [keyType49, Value.formed, u49, cells49]), hd]
  unfold Program.keyLits
  simp only [u49, Value.cells]
  rw [if_pos (by rw [cells49]; rfl), show List.range 2 = [0, 1] from rfl]
  simp [cells3, lits3, h1, h2, kl2]
theorem vt_inj {t u : To} (h : vt t = vt u) : t = u := by
  obtain ⟨a, b, c, d, e⟩ := t
  obtain ⟨a', b', c', d', e'⟩ := u
  simp only [vt, Value.agg.injEq] at h
  simpa using h
theorem klT_inj {t u : To} (h : OkT t) (h' : OkT u) (e : klT t = klT u) : t = u := vt_inj (keyed44.inj (keyOf_told t h) (e ▸ keyOf_told u h'))
theorem kl2_inj {i s i' s' : Int} (hi : W64 i) (hs : W64 s) (hi' : W64 i') (hs' : W64 s') (h : kl2 i s = kl2 i' s') : i = i' ∧ s = s' := by
  have := keyed49.inj (keyOf_spot i s hi hs) (h ▸ keyOf_spot i' s' hi' hs')
  simpa using this
theorem w64 {i : Int} (h1 : -9223372036854775808 ≤ i) (h2 : i ≤ 9223372036854775807) : W64 i := by
  have e1 : IntKind.i64.min = -9223372036854775808 := by decide
  have e2 : IntKind.i64.max = 9223372036854775807 := by decide
  show (decide (IntKind.i64.min ≤ i) && decide (i ≤ IntKind.i64.max)) = true
  rw [e1, e2]
  simp
  omega
theorem okT {N : Nat} {t : To} (h : wrongT N t = 0) (hN : N ≤ 20) : OkT t := by
  obtain ⟨⟨a, b⟩, ⟨c, d⟩, e, f⟩ := wrong_ok h
  unfold whoB at e
  simp only [decide_eq_true_eq] at e
  exact ⟨w64 (by omega) (by omega), w64 (by omega) (by omega), w64 (by omega) (by omega), by unfold maxLen; omega⟩
def El (v : Value) : Option (DataW Value × List MemPlace) := some (.held v, [])
theorem zero4 (w : World) : (zeroValue 4).run Try.prog w = .ok (.bool false) w := by kernel_rfl
theorem zero44 (w : World) : (zeroValue 44).run Try.prog w = .ok (vt zeroT) w := by kernel_rfl

/-- block b is a map that tells true of whatever D says -/
def IsSaid (w : World) (b n : Nat) (D : To → Prop) : Prop :=
  ∃ Dd : DataW Value, w.ownsMap Try.prog 44 El b n Dd ∧ ∃ G : To → Bool, (∀ t, OkT t → Dd.atKey (klT t) (.held (.bool false)) = .held (.bool (G t))) ∧ ∀ t, D t → G t = true
theorem IsSaid.lt {w : World} {b n : Nat} {D : To → Prop} (h : IsSaid w b n D) : b < w.heap.size := by
  obtain ⟨Dd, h, _⟩ := h
  exact h.lt
theorem IsSaid.kept {w w' : World} {b n : Nat} {D : To → Prop} (h : IsSaid w b n D) (hb : w'.heap[b]? = w.heap[b]?) : IsSaid w' b n D := by
  obtain ⟨Dd, ⟨es, clock, h1, h2⟩, h3⟩ := h
  exact ⟨Dd, ⟨es, clock, hb.trans h1, h2⟩, h3⟩
theorem IsSaid.sub {w : World} {b n : Nat} {D E : To → Prop} (h : IsSaid w b n D) (hs : ∀ t, E t → D t) : IsSaid w b n E := by
  obtain ⟨Dd, h1, G, h2, h3⟩ := h
  exact ⟨Dd, h1, G, h2, fun t ht => h3 t (hs t ht)⟩
theorem IsSaid.mono {w : World} {b n n' : Nat} {D : To → Prop} (h : IsSaid w b n D) (hn : n ≤ n') : IsSaid w b n' D := by
  obtain ⟨Dd, h1, h2⟩ := h
  exact ⟨Dd, h1.mono hn, h2⟩
theorem IsSaid.look {w : World} {b n : Nat} {D : To → Prop} (h : IsSaid w b n D) {t : To} (ht : OkT t) (hD : D t) : (Instr.lookup 47 (.map (some b)) (vt t) false).run Try.prog w = .ok (.bool true) w := by
  obtain ⟨Dd, h1, G, h2, h3⟩ := h
  obtain ⟨v, ps, hr, hv⟩ := h1.lookup keyed44 Try.underlying47 (zero4 w) (zd := .held (.bool false)) (zp := []) rfl (keyOf_told t ht)
  rw [h2 t ht, h3 t hD] at hv
  have : v = .bool true := by simp [El] at hv; exact hv.1
  rw [← this]
  exact hr
theorem said_made (w : World) : IsSaid (w.alloc (.map #[] 0)) w.heap.size 0 (fun _ => False) :=
  ⟨_, World.ownsMap_made w Try.prog 44 El, fun _ => false, fun _ _ => rfl, fun _ h => h.elim⟩
open Classical in
theorem IsSaid.store {w : World} {b n : Nat} {D : To → Prop} (h : IsSaid w b n D) (hn : n < maxLen) {t : To} (ht : OkT t) : ∃ w', (Instr.mapUpdate 47 (.map (some b)) (vt t) (.bool true)).run Try.prog w = .ok () w' ∧ IsSaid w' b (n + 1) (fun u => D u ∨ u = t) ∧ w.grownBy w' (some b) := by
  obtain ⟨Dd, ho, G, hG, hD⟩ := h
  have hM : Maps.IsMap Dd := by obtain ⟨es, clock, _, _, _, h⟩ := ho; exact ⟨_, h⟩
  obtain ⟨w', hr, ho', hg⟩ := ho.update keyed44 Try.underlying47 hn (keyOf_told t ht) (val := .bool true) (d := .held (.bool true)) (ps := []) rfl
  refine ⟨w', hr, ⟨_, ho', fun u => if klT u = klT t then true else G u, fun u hu => ?_, fun u hu => ?_⟩, hg⟩
  · dsimp only
    by_cases e : klT u = klT t
    · rw [if_pos e, e]
      exact Maps.atKey_put_same hM (keyed44.key (keyOf_told t ht)) _ _
    · rw [if_neg e, Maps.atKey_put_other e]
      exact hG u hu
  · dsimp only
    rcases hu with hu | rfl
    · split
      · rfl
      · exact hD u hu
    · rw [if_pos rfl]
/-- block b is a map that has la i s at talker i and slot s -/
def IsLast (w : World) (b n : Nat) (la : Nat → Nat → To) : Prop :=
  ∃ Dd : DataW Value, w.ownsMap Try.prog 49 El b n Dd ∧ ∀ i s : Nat, i < 2 → s < 20 → Dd.atKey (kl2 (i : Int) (s : Int)) (.held (vt zeroT)) = .held (vt (la i s))
theorem IsLast.lt {w : World} {b n : Nat} {la : Nat → Nat → To} (h : IsLast w b n la) : b < w.heap.size := by
  obtain ⟨Dd, h, _⟩ := h
  exact h.lt
theorem IsLast.kept {w w' : World} {b n : Nat} {la : Nat → Nat → To} (h : IsLast w b n la) (hb : w'.heap[b]? = w.heap[b]?) : IsLast w' b n la := by
  obtain ⟨Dd, ⟨es, clock, h1, h2⟩, h3⟩ := h
  exact ⟨Dd, ⟨es, clock, hb.trans h1, h2⟩, h3⟩
theorem IsLast.mono {w : World} {b n n' : Nat} {la : Nat → Nat → To} (h : IsLast w b n la) (hn : n ≤ n') : IsLast w b n' la := by
  obtain ⟨Dd, h1, h2⟩ := h
  exact ⟨Dd, h1.mono hn, h2⟩
theorem IsLast.look {w : World} {b n : Nat} {la : Nat → Nat → To} (h : IsLast w b n la) {i s : Nat} (hi : i < 2) (hs : s < 20) : (Instr.lookup 48 (.map (some b)) (.agg #[.int .i64 (i : Int), .int .i64 (s : Int)]) false).run Try.prog w = .ok (vt (la i s)) w := by
  obtain ⟨Dd, h1, h2⟩ := h
  obtain ⟨v, ps, hr, hv⟩ := h1.lookup keyed49 Try.underlying48 (zero44 w) (zd := .held (vt zeroT)) (zp := []) rfl (keyOf_spot i s (w64 (by omega) (by omega)) (w64 (by omega) (by omega)))
  rw [h2 i s hi hs] at hv
  have : v = vt (la i s) := by simp [El] at hv; exact hv.1
  rw [← this]
  exact hr
theorem last_made (w : World) : IsLast (w.alloc (.map #[] 0)) w.heap.size 0 (fun _ _ => zeroT) :=
  ⟨_, World.ownsMap_made w Try.prog 49 El, fun _ _ _ _ => rfl⟩
theorem IsLast.store {w : World} {b n : Nat} {la : Nat → Nat → To} (h : IsLast w b n la) (hn : n < maxLen) {i s : Nat} (hi : i < 2) (hs : s < 20) (t : To) : ∃ w', (Instr.mapUpdate 48 (.map (some b)) (.agg #[.int .i64 (i : Int), .int .i64 (s : Int)]) (vt t)).run Try.prog w = .ok () w' ∧ IsLast w' b (n + 1) (upd la i (upd (la i) s t)) ∧ w.grownBy w' (some b) := by
  obtain ⟨Dd, ho, hG⟩ := h
  have hM : Maps.IsMap Dd := by obtain ⟨es, clock, _, _, _, h⟩ := ho; exact ⟨_, h⟩
  have wi : W64 (i : Int) := w64 (by omega) (by omega)
  have ws : W64 (s : Int) := w64 (by omega) (by omega)
  obtain ⟨w', hr, ho', hg⟩ := ho.update keyed49 Try.underlying48 hn (keyOf_spot i s wi ws) (val := vt t) (d := .held (vt t)) (ps := []) rfl
  refine ⟨w', hr, ⟨_, ho', fun i' s' hi' hs' => ?_⟩, hg⟩
  by_cases e : i' = i ∧ s' = s
  · obtain ⟨rfl, rfl⟩ := e
    rw [upd_same, upd_same]
    exact Maps.atKey_put_same hM (keyed49.key (keyOf_spot _ _ wi ws)) _ _
  · have e2 : upd la i (upd (la i) s t) i' s' = la i' s' := by
      by_cases e1 : i' = i
      · subst e1
        rw [upd_same, upd_other _ _ (fun h => e ⟨rfl, h⟩)]
      · rw [upd_other _ _ e1]
    rw [e2, Maps.atKey_put_other (fun h => e (by have := kl2_inj (w64 (by omega) (by omega)) (w64 (by omega) (by omega)) wi ws h; omega))]
    exact hG i' s' hi' hs'
end Go.Proofs.Ytmhgoddlbklbfaa.Mo
