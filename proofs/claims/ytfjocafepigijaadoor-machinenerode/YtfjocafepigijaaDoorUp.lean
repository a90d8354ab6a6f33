/- The map from keys to numbers of sets: how it lies, what is at a key, one more; which sets it knows. Condition: keys of at most 100,000 bytes. -/
import Derived.Test.YtfjocafepigijaaDoorUo
import Derived.StringKeys
namespace Go.Proofs.YtfjocafepigijaaDoor.Ot
open Go.RowKit Mv Po Se Wd Mp
open Go.WideMaps Go.WideElems
open Go.ChangeMaps (setBlock heap_setBlock_same heap_setBlock_other)
open Go.Maps (Keyed)

theorem keyed9 : Keyed Tryd.prog 9 := Maps.string_keyed Tryd.underlying9
theorem keyOf_str9 (s : ByteArray) (hs : s.size ≤ maxLen) : keyOf Tryd.prog 9 (.string s) = some (.string s.data.toList) := WideMaps.keyOf_string_mk Tryd.underlying9 hs
theorem zero3' (w : World) : (zeroValue 3).run Tryd.prog w = .ok (.int .i64 0) w := by kernel_rfl
/-- block b is a map that has G at each key -/
def IsSm (w : World) (b n : Nat) (G : ByteArray → Option Nat) : Prop :=
  ∃ D : DataW Value, w.ownsMap Tryd.prog 9 El b n D ∧ ∀ s : ByteArray, s.size ≤ maxLen → ∀ z, D.atKey (.string s.data.toList) z = (match G s with | some c => .held (.int .i64 (c : Int)) | none => z)
theorem IsSm.lt {w : World} {b n : Nat} {G : ByteArray → Option Nat} (h : IsSm w b n G) : b < w.heap.size := by
  obtain ⟨D, h, _⟩ := h
  exact h.lt
theorem IsSm.kept {w w' : World} {b n : Nat} {G : ByteArray → Option Nat} (h : IsSm w b n G) (hb : w'.heap[b]? = w.heap[b]?) : IsSm w' b n G := by
  obtain ⟨D, ⟨es, clock, h1, h2⟩, h3⟩ := h
  exact ⟨D, ⟨es, clock, hb.trans h1, h2⟩, h3⟩
theorem IsSm.ty {w : World} {b n : Nat} {G : ByteArray → Option Nat} (h : IsSm w b n G) : ∃ es clock, w.heap[b]? = some (.map es clock) := by
  obtain ⟨D, ⟨es, clock, h1, _⟩, _⟩ := h
  exact ⟨es, clock, h1⟩
theorem sm_made (w : World) : IsSm (w.alloc (.map #[] 0)) w.heap.size 0 (fun _ => none) :=
  ⟨_, World.ownsMap_made w Tryd.prog 9 El, fun _ _ _ => rfl⟩
theorem IsSm.look {w : World} {b n : Nat} {G : ByteArray → Option Nat} (h : IsSm w b n G) {s : ByteArray} (hs : s.size ≤ maxLen) : (Instr.lookup 145 (.map (some b)) (.string s) true).run Tryd.prog w = .ok (match G s with | some c => .tuple #[.int .i64 (c : Int), .bool true] | none => .tuple #[.int .i64 0, .bool false]) w := by
  obtain ⟨D, ⟨es, clock, hb, F, hsz, hD⟩, hG⟩ := h
  have hg := hG s hs
  rw [hD] at hg
  rcases Maps.fit_look true keyed9 Tryd.underlying145 (zero3' w) hb F (keyOf_str9 s hs) with ⟨hr, _, hno⟩ | ⟨e0, y, _, _, hr, hy, hat, _⟩
  · rw [hr]
    cases e : G s with
    | none => rfl
    | some c =>
      have h1 := hg .nil
      rw [hno, e] at h1
      cases h1
  · rw [hr]
    cases e : G s with
    | none =>
      have h1 := hg .nil
      have h2 := hg (.held undef)
      rw [hat, e] at h1 h2
      rw [h1] at h2
      cases h2
    | some c =>
      have h1 := hg .nil
      rw [hat, e] at h1
      have h2 : y.1 = .held e0.val := by
        unfold El at hy
        simp only [Option.some.injEq] at hy
        rw [← hy]
      rw [h2] at h1
      simp only [DataW.held.injEq] at h1
      rw [if_pos rfl, h1]
theorem str_inj {s t : ByteArray} (h : Lit.string s.data.toList = Lit.string t.data.toList) : s = t := by
  injection h with h
  obtain ⟨⟨l⟩⟩ := s
  obtain ⟨⟨m⟩⟩ := t
  simp only at h
  rw [h]
theorem IsSm.store {w : World} {b n c : Nat} {G : ByteArray → Option Nat} (h : IsSm w b n G) (hn : n < maxLen) {s : ByteArray} (hs : s.size ≤ maxLen) :
    ∃ w', (Instr.mapUpdate 145 (.map (some b)) (.string s) (.int .i64 (c : Int))).run Tryd.prog w = .ok () w' ∧ IsSm w' b (n + 1) (fun s' => if s' = s then some c else G s') ∧ w.grownBy w' (some b) := by
  obtain ⟨D, hown, hG⟩ := h
  obtain ⟨w', hr, ho, hg⟩ := hown.update keyed9 Tryd.underlying145 hn (keyOf_str9 s hs) (val := .int .i64 (c : Int)) (d := .held (.int .i64 (c : Int))) (ps := []) rfl
  refine ⟨w', hr, ⟨_, ho, fun a' ha' z => ?_⟩, hg⟩
  obtain ⟨es, clock, _, _, _, hD⟩ := hown
  by_cases e : a' = s
  · subst e
    simp only [if_true]
    exact Maps.atKey_put_same (by rw [hD]; exact ⟨_, rfl⟩) (keyed9.key (keyOf_str9 a' hs)) _ _
  · simp only [if_neg e]
    rw [Maps.atKey_put_other (fun h => e (str_inj h))]
    exact hG a' ha' z
/-- a set's key -/
def kst (ws : List Nat) : ByteArray := strOfNums ((kb ws).map fun (x : Nat) => (x : Int))
theorem kst_size (ws : List Nat) : (kst ws).size = ws.length * 8 := by unfold kst; rw [strOfNums_size, List.length_map, kb_len]
theorem kst_inj {ws vs : List Nat} (h1 : ∀ a ∈ ws, a < 18446744073709551616) (h2 : ∀ a ∈ vs, a < 18446744073709551616) (h : kst ws = kst vs) : ws = vs := by
  refine kb_inj h1 h2 ?_
  have hd := congrArg (fun b : ByteArray => b.data.toList) h
  unfold kst at hd
  rw [strOfNums_data, strOfNums_data, List.map_map, List.map_map] at hd
  have key : ∀ l m : List Nat, (∀ x ∈ l, x < 256) → (∀ x ∈ m, x < 256) → l.map ((fun n : Int => UInt8.ofNat n.toNat) ∘ fun (x : Nat) => (x : Int)) = m.map ((fun n : Int => UInt8.ofNat n.toNat) ∘ fun (x : Nat) => (x : Int)) → l = m := by
    intro l
    induction l with
    | nil => intro m _ _ h; cases m with
      | nil => rfl
      | cons b m => simp at h
    | cons a l ih =>
      intro m hl hm h
      cases m with
      | nil => simp at h
      | cons b m =>
        rw [List.map_cons, List.map_cons, List.cons.injEq] at h
        have ha := hl a (by simp)
        have hb := hm b (by simp)
        have e : a = b := by
          have h3 := congrArg UInt8.toNat h.1
          simp only [Function.comp_apply, Int.toNat_natCast, UInt8.toNat_ofNat'] at h3
          omega
        rw [e, ih m (fun x hx => hl x (by simp [hx])) (fun x hx => hm x (by simp [hx])) h.2]
  exact key _ _ (kb_byte ws) (kb_byte vs) hd
/-- which sets a map knows -/
structure Met (ks : List (Value × List Nat)) (G : ByteArray → Option Nat) : Prop where
  has : ∀ i p, ks[i]? = some p → G (kst p.2) = some i
  only : ∀ s i, G s = some i → ∃ p, ks[i]? = some p ∧ s = kst p.2
theorem Met.nil : Met [] (fun _ => none) := ⟨fun i p h => by simp at h, fun s i h => by cases h⟩
theorem Met.add {ks : List (Value × List Nat)} {G : ByteArray → Option Nat} (h : Met ks G) {p : Value × List Nat} (hn : G (kst p.2) = none) : Met (ks ++ [p]) (fun s => if s = kst p.2 then some ks.length else G s) := by
  refine ⟨fun i q hq => ?_, fun s i hs => ?_⟩
  · rcases Nat.lt_or_ge i ks.length with hi | hi
    · rw [List.getElem?_append_left hi] at hq
      have := h.has i q hq
      rw [if_neg (fun e => by rw [e, hn] at this; cases this)]
      exact this
    · have hlt := (List.getElem?_eq_some_iff.1 hq).1
      simp at hlt
      obtain rfl : i = ks.length := by omega
      rw [List.getElem?_append_right (Nat.le_refl _)] at hq
      simp at hq
      subst hq
      rw [if_pos rfl]
  · by_cases e : s = kst p.2
    · rw [if_pos e] at hs
      cases hs
      exact ⟨p, by simp, e⟩
    · rw [if_neg e] at hs
      obtain ⟨q, hq, he⟩ := h.only s i hs
      exact ⟨q, by rw [List.getElem?_append_left (List.getElem?_eq_some_iff.1 hq).1]; exact hq, he⟩
end Go.Proofs.YtfjocafepigijaaDoor.Ot
