/- A map from claims to numbers, as a function of the claim. Condition: both literals are numbers of 64 bits. -/
import Derived.Test.YtcnanbimpajonaaCl
import Derived.Maps.Own
import Derived.Maps.Views
import Derived.DeepKeys4
namespace Go.Proofs.Ytcnanbimpajonaa.Mq
open Go.RowKit Cl
open Go.WideMaps Go.WideElems
open Go.Maps (Keyed)

theorem laid : laidOutB Try.prog = true := by kernel_rfl
theorem row24 : (24 : TypeId) < Try.prog.types.size := of_decide_eq_true (by kernel_rfl)
theorem wide24 : (match Try.prog.underlying 24 with | some (.array _ _) | some (.struct _) => true | _ => false) = true := by kernel_rfl
theorem law24 : KeyLaw Try.prog 24 := deep_law_laid laid (m := 3) (by omega) row24 (by kernel_rfl) wide24
theorem keyed : Keyed Try.prog 24 := Keyed.of_law law24
theorem keyType24 : Try.prog.keyType 24 = true := by kernel_rfl
theorem cells24 : Try.prog.cellsOf 24 = 3 := by kernel_rfl
theorem cells3 : Try.prog.cellsOf 3 = 1 := by kernel_rfl
theorem cells4 : Try.prog.cellsOf 4 = 1 := by kernel_rfl
theorem size89 : ∃ d, Try.prog.types.size + 1 = d + 1 + 1 := ⟨97, by kernel_rfl⟩
theorem lits3 (d : Nat) (n : Int) (h : (Lit.int .i64 n).wf = true) : Try.prog.keyLits (d + 1) 3 [.int .i64 n] = some [.int .i64 n] := by
  unfold Program.keyLits
  simp [Try.underlying3, h]
theorem lits4 (d : Nat) (b : Bool) : Try.prog.keyLits (d + 1) 4 [.bool b] = some [.bool b] := by
  unfold Program.keyLits
  simp [Try.underlying4]
def W64 (i : Int) : Prop := (Lit.int .i64 i).wf = true
def Wc (c : C) : Prop := W64 c.2.1 ∧ W64 c.2.2
def kl (c : C) : Lit := .string (keyBytes [.bool c.1, .int .i64 c.2.1, .int .i64 c.2.2])
theorem keyOf_claim (c : C) (h : Wc c) : keyOf Try.prog 24 (vc c) = some (kl c) := by
  obtain ⟨s, a, b⟩ := c
  obtain ⟨hi, ho⟩ := h
  unfold W64 at hi ho
  dsimp only at hi ho
  unfold keyOf vc
  simp only [Try.underlying24]
  obtain ⟨d, hd⟩ := size89
  rw [if_pos (by simp [keyType24, Value.formed, Try.underlying24, cells24]), hd]
  unfold Program.keyLits
  simp only [Try.underlying24, Value.cells]
  rw [if_pos (by rw [cells24]; exact ⟨rfl, by kernel_rfl⟩)]
  simp [cells3, cells4, lits3, lits4, hi, ho, kl]
theorem vc_inj {c d : C} (h : vc c = vc d) : c = d := by
  obtain ⟨s, a, b⟩ := c
  obtain ⟨s', a', b'⟩ := d
  simp only [vc, Value.agg.injEq] at h
  simpa using h
theorem kl_inj {c d : C} (h : Wc c) (h' : Wc d) (e : kl c = kl d) : c = d :=
  vc_inj (keyed.inj (keyOf_claim c h) (e ▸ keyOf_claim d h'))
theorem zero3 (w : World) : (zeroValue 3).run Try.prog w = .ok (.int .i64 0) w := by kernel_rfl

/-- what a look at the map tells -/
def told (o : Option Nat) : Value := match o with
  | none => .tuple #[.int .i64 0, .bool false]
  | some i => .tuple #[.int .i64 (i : Int), .bool true]
/-- block b is a map that has G c at each claim c -/
def IsMp (w : World) (b n : Nat) (G : C → Option Nat) : Prop :=
  ∃ D : DataW Value, w.ownsMap Try.prog 24 (plainElem Try.prog 3) b n D ∧ ∀ c, Wc c → ∀ zd, D.atKey (kl c) zd = match G c with | none => zd | some i => .lit (.int .i64 (i : Int))
theorem IsMp.lt {w : World} {b n : Nat} {G : C → Option Nat} (h : IsMp w b n G) : b < w.heap.size := by
  obtain ⟨D, h, _⟩ := h
  exact h.lt
theorem IsMp.kept {w w' : World} {b n : Nat} {G : C → Option Nat} (h : IsMp w b n G) (hb : w'.heap[b]? = w.heap[b]?) : IsMp w' b n G := by
  obtain ⟨D, ⟨es, clock, h1, h2⟩, h3⟩ := h
  exact ⟨D, ⟨es, clock, hb.trans h1, h2⟩, h3⟩
theorem IsMp.ty {w : World} {b n : Nat} {G : C → Option Nat} (h : IsMp w b n G) : ∃ es clock, w.heap[b]? = some (.map es clock) := by
  obtain ⟨D, ⟨es, clock, h1, _⟩, _⟩ := h
  exact ⟨es, clock, h1⟩
theorem IsMp.look {w : World} {b n : Nat} {G : C → Option Nat} (h : IsMp w b n G) {c : C} (hc : Wc c) : (Instr.lookup 51 (.map (some b)) (vc c) true).run Try.prog w = .ok (told (G c)) w := by
  obtain ⟨D, ⟨es, clock, hb, F, hs, hD⟩, hG⟩ := h
  have hg := hG c hc
  rcases Maps.fit_look true keyed Try.underlying51 (zero3 w) hb F (keyOf_claim c hc) with ⟨hr, _, hat⟩ | ⟨e0, y, _, _, hr, hy, hat, _⟩
  · have e : G c = none := by
      cases hgc : G c with
      | none => rfl
      | some i =>
        exfalso
        have h1 := hg (.lit (.int .i64 0))
        have h2 := hg (.lit (.bool true))
        rw [hD, hat, hgc] at h1 h2
        rw [← h2] at h1
        cases h1
    rw [e, hr]
    rfl
  · obtain ⟨a, ha, hz, _⟩ := plainElem_int_inv Try.underlying3 hy
    have h1 := hg (.lit (.bool true))
    rw [hD, hat, hz] at h1
    cases hgc : G c with
    | none => rw [hgc] at h1; cases h1
    | some i =>
      rw [hgc] at h1
      simp only [DataW.lit.injEq, Lit.int.injEq, true_and] at h1
      rw [hr, ha, h1]
      rfl
theorem wf_nat {i : Nat} (hi : i < 1000000000) : (Lit.int .i64 (i : Int)).wf = true := by
  have h1 : IntKind.i64.min = -9223372036854775808 := by decide
  have h2 : IntKind.i64.max = 9223372036854775807 := by decide
  show (decide (IntKind.i64.min ≤ (i : Int)) && decide ((i : Int) ≤ IntKind.i64.max)) = true
  rw [h1, h2]
  simp
  omega
theorem made (w : World) : IsMp (w.alloc (.map #[] 0)) w.heap.size 0 (fun _ => none) :=
  ⟨_, World.ownsMap_made w Try.prog 24 (plainElem Try.prog 3), fun _ _ _ => rfl⟩
theorem IsMp.store {w : World} {b n : Nat} {G : C → Option Nat} (h : IsMp w b n G) (hn : n < maxLen) {c : C} (hc : Wc c) (i : Nat) (hi : i < 1000000000) : ∃ w', (Instr.mapUpdate 51 (.map (some b)) (vc c) (.int .i64 (i : Int))).run Try.prog w = .ok () w' ∧ IsMp w' b (n + 1) (fun d => if d = c then some i else G d) ∧ w.grownBy w' (some b) := by
  obtain ⟨D, ho, hG⟩ := h
  have hw : (Lit.int .i64 (i : Int)).wf = true := wf_nat hi
  have hD : Maps.IsMap D := by obtain ⟨es, clock, _, _, _, h⟩ := ho; exact ⟨_, h⟩
  obtain ⟨w', hr, ho', hg⟩ := ho.update keyed Try.underlying51 hn (keyOf_claim c hc) (val := .int .i64 (i : Int)) (d := .lit (.int .i64 (i : Int))) (ps := []) (plainElem_int Try.underlying3 hw)
  refine ⟨w', hr, ⟨_, ho', fun d hd zd => ?_⟩, hg⟩
  dsimp only
  by_cases e : d = c
  · subst e
    rw [if_pos rfl]
    exact Maps.atKey_put_same hD (keyed.key (keyOf_claim d hd)) _ _
  · rw [if_neg e, Maps.atKey_put_other (fun h => e (kl_inj hd hc h))]
    exact hG d hd zd
end Go.Proofs.Ytcnanbimpajonaa.Mq
