/- The map whose keys are rows of a table (63 cells): what is at a row, one more, how many. Condition: a row's numbers have 64 bits. -/
import Derived.Test.YtfjocafepigijaaDoorFnM
import Derived.Test.YtfjocafepigijaaDoorCfM
import Derived.Test.YtfjocafepigijaaDoorLt
namespace Go.Proofs.YtfjocafepigijaaDoor.Su
open Go.RowKit Po Ps Cm
open Go.Maps (Keyed)

theorem row90 : (90 : TypeId) < Tryd.prog.types.size := of_decide_eq_true (by kernel_rfl)
theorem wide90 : (match Tryd.prog.underlying 90 with | some (.array _ _) | some (.struct _) => true | _ => false) = true := by kernel_rfl
set_option maxRecDepth 1000000 in
theorem law90 : WideMaps.KeyLaw Tryd.prog 90 := deep_law_laid Mp.laid (m := 4) (by omega) row90 (by kernel_rfl) wide90
set_option maxRecDepth 1000000 in
theorem keyed90 : Keyed Tryd.prog 90 := Keyed.of_law law90
set_option maxRecDepth 1000000 in
theorem keyType90 : Tryd.prog.keyType 90 = true := by kernel_rfl
theorem cells90 : Tryd.prog.cellsOf 90 = 63 := by kernel_rfl
theorem cells88 : Tryd.prog.cellsOf 88 = 61 := by kernel_rfl
theorem cells4 : Tryd.prog.cellsOf 4 = 1 := by kernel_rfl
theorem size3d : ∃ d, Tryd.prog.types.size + 1 = d + 1 + 1 + 1 := ⟨212, by kernel_rfl⟩
theorem lits4 (d : Nat) (b : Bool) : Tryd.prog.keyLits (d + 1) 4 [.bool b] = some [.bool b] := by
  unfold Program.keyLits
  simp [Tryd.underlying4]
theorem mapM_all {α β : Type} {f : α → Option β} {g : α → β} : ∀ {l : List α}, (∀ i ∈ l, f i = some (g i)) → l.mapM f = some (l.map g)
  | [], _ => rfl
  | a :: l, h => by
    rw [List.mapM_cons, h a List.mem_cons_self, mapM_all (fun i hi => h i (List.mem_cons_of_mem _ hi))]
    rfl
theorem rl_eq (X : Nat → Int) (f d : Bool) : rl X f d = xl X ++ [.bool f, .bool d] := by
  apply List.ext_getElem?
  intro j
  by_cases h : j < 63
  · rw [rl_at h]
    by_cases h1 : j < 61
    · rw [rwc_x h1, List.getElem?_append_left (by simpa [xl] using h1)]
      simp [xl, h1]
    · rw [List.getElem?_append_right (by simp [xl]; omega)]
      have e : (xl X).length = 61 := by simp [xl]
      rw [e]
      rcases (by omega : j = 61 ∨ j = 62) with rfl | rfl <;> rfl
  · rw [List.getElem?_eq_none (by rw [rl_len]; omega), List.getElem?_eq_none (by simp [xl]; omega)]
theorem xl_len (X : Nat → Int) : (xl X).length = 61 := by simp [xl]
theorem lits88 (d : Nat) (X : Nat → Int) (h : ∀ j, j < 61 → Mp.W64 (X j)) : Tryd.prog.keyLits (d + 1 + 1) 88 (xl X) = some ((List.range 61).map fun j => [Lit.int .i64 (X j)]).flatten := by
  unfold Program.keyLits
  simp only [Tryd.underlying88]
  rw [if_pos (by rw [xl_len, cells88])]
  rw [mapM_all (g := fun j => [Lit.int .i64 (X j)])]
  · rfl
  · intro j hj
    have hj' := List.mem_range.1 hj
    have e : ((xl X).drop (j * Tryd.prog.cellsOf 3)).take (Tryd.prog.cellsOf 3) = [.int .i64 (X j)] := by
      rw [Mp.cells3, Nat.mul_one, List.drop_eq_getElem_cons (by rw [xl_len]; exact hj')]
      simp [xl]
    rw [e]
    exact Mp.lits3 d (X j) (h j hj')
/-- rows that may be keys -/
def Ok9 (a : Array Value) : Prop := ∃ X f d, a = ra X f d ∧ ∀ j, j < 61 → Mp.W64 (X j)
theorem keyOf_row {a : Array Value} (h : Ok9 a) : ∃ l, keyOf Tryd.prog 90 (.agg a) = some l := by
  obtain ⟨X, f, d, rfl, hX⟩ := h
  unfold keyOf
  simp only [Tryd.underlying90]
  obtain ⟨e, he⟩ := size3d
  rw [if_pos (by simp [keyType90, Value.formed, Tryd.underlying90, cells90, ra_size]), he]
  have e0 : (ra X f d).toList = rl X f d := by simp [ra]
  have e1 : ((rl X f d).drop 0).take 61 = xl X := by rw [rl_eq, List.drop_zero, List.take_left' (xl_len X)]
  have e2 : ((rl X f d).drop 61).take 1 = [.bool f] := by rw [rl_eq, List.drop_left' (xl_len X)]; rfl
  have e3 : ((rl X f d).drop 62).take 1 = [.bool d] := by
    rw [rl_eq, show (62 : Nat) = 61 + 1 from rfl, ← List.drop_drop, List.drop_left' (xl_len X)]; rfl
  unfold Program.keyLits
  simp only [Tryd.underlying90, Value.cells, e0]
  rw [if_pos (by rw [cells90, rl_len]; exact ⟨rfl, by kernel_rfl⟩)]
  simp only [List.mapM_cons, List.mapM_nil, cells88, cells4, e1, e2, e3, lits88 e X hX, lits4]
  exact ⟨_, rfl⟩
/-- a row as a key -/
noncomputable def kr9 (a : Array Value) : Lit := (keyOf Tryd.prog 90 (.agg a)).getD (.bool false)
theorem kr9_of {a : Array Value} (h : Ok9 a) : keyOf Tryd.prog 90 (.agg a) = some (kr9 a) := by
  obtain ⟨l, hl⟩ := keyOf_row h
  unfold kr9
  rw [hl]
  rfl
theorem kr9_inj {a b : Array Value} (h : Ok9 a) (h' : Ok9 b) (e : kr9 a = kr9 b) : a = b := by
  have h1 := kr9_of h
  have h2 := kr9_of h'
  rw [e] at h1
  have h3 := keyed90.inj h1 h2
  injection h3
open Classical in
/-- block b is a map that has G at each row -/
def IsRm (w : World) (b n : Nat) (G : Array Value → Option Nat) : Prop :=
  ∃ D : DataW Value, w.ownsMap Tryd.prog 90 Mp.El b n D ∧ Maps.Tidy D ∧ Maps.size D = n ∧ ∀ a, Ok9 a → ∀ z, D.atKey (kr9 a) z = (match G a with | some c => .held (.int .i64 (c : Int)) | none => z)
theorem IsRm.lt {w : World} {b n : Nat} {G : Array Value → Option Nat} (h : IsRm w b n G) : b < w.heap.size := by
  obtain ⟨D, h, _⟩ := h
  exact h.lt
theorem IsRm.kept {w w' : World} {b n : Nat} {G : Array Value → Option Nat} (h : IsRm w b n G) (hb : w'.heap[b]? = w.heap[b]?) : IsRm w' b n G := by
  obtain ⟨D, ⟨es, clock, h1, h2⟩, h3⟩ := h
  exact ⟨D, ⟨es, clock, hb.trans h1, h2⟩, h3⟩
theorem IsRm.ty {w : World} {b n : Nat} {G : Array Value → Option Nat} (h : IsRm w b n G) : ∃ es clock, w.heap[b]? = some (.map es clock) := by
  obtain ⟨D, ⟨es, clock, h1, _⟩, _⟩ := h
  exact ⟨es, clock, h1⟩
theorem rm_made (w : World) : IsRm (w.alloc (.map #[] 0)) w.heap.size 0 (fun _ => none) :=
  ⟨_, World.ownsMap_made w Tryd.prog 90 Mp.El, Maps.tidy_empty, rfl, fun a _ z => by generalize kr9 a = k; rfl⟩
theorem IsRm.len {w : World} {b n : Nat} {G : Array Value → Option Nat} (h : IsRm w b n G) : Sem.run Tryd.prog (Builtin.len_ #[150] 3 #[.map (some b)]) w = .ok (.int .i64 (n : Int)) w := by
  obtain ⟨D, ⟨es, clock, h1, _, _, rfl⟩, _, hs, _⟩ := h
  have hl : es.size = n := by
    rw [← hs]
    show _ = List.length _
    rw [length_sorted]
    simp
  rw [run_len_map (P := Tryd.prog) w 150 3 b es clock (by kernel_rfl) h1, hl]
  rfl
theorem kr9_lit {a : Array Value} (ha : Ok9 a) : WideAt.IsKeyLit (kr9 a) := by
  have h := kr9_of ha
  generalize kr9 a = l at *
  exact keyed90.key h
/-- what is at a row, and whether it is there -/
theorem IsRm.look {w : World} {b n : Nat} {G : Array Value → Option Nat} (h : IsRm w b n G) {a : Array Value} (ha : Ok9 a) : (Instr.lookup 150 (.map (some b)) (.agg a) true).run Tryd.prog w = .ok (match G a with | some c => .tuple #[.int .i64 (c : Int), .bool true] | none => .tuple #[.int .i64 0, .bool false]) w := by
  obtain ⟨D, ⟨es, clock, hb, F, hs, hD⟩, _, _, hG⟩ := h
  have hg := hG a ha
  rw [hD] at hg
  rcases Maps.fit_look true keyed90 Tryd.underlying150 (Am.zero3 w) hb F (kr9_of ha) with ⟨hr, _, hno⟩ | ⟨e0, y, _, _, hr, hy, hat, _⟩
  · rw [hr]
    cases e : G a with
    | none => rfl
    | some c =>
      have h1 := hg .nil
      rw [hno, e] at h1
      cases h1
  · rw [hr]
    cases e : G a with
    | none =>
      have h1 := hg .nil
      have h2 := hg (.held undef)
      rw [hat, e] at h1 h2
      rw [h1] at h2
      cases h2
    | some c =>
      have h1 := hg .nil
      rw [hat, e] at h1
      have h2 : y.1 = .held e0.val := by
        unfold Mp.El at hy
        simp only [Option.some.injEq] at hy
        rw [← hy]
      rw [h2] at h1
      simp only [DataW.held.injEq] at h1
      rw [if_pos rfl, h1]
open Classical in
set_option maxRecDepth 100000 in
/-- one more row -/
theorem IsRm.store {w : World} {b n c : Nat} {G : Array Value → Option Nat} (h : IsRm w b n G) (hn : n < maxLen) {a : Array Value} (ha : Ok9 a) (hnew : G a = none) :
    ∃ w', (Instr.mapUpdate 150 (.map (some b)) (.agg a) (.int .i64 (c : Int))).run Tryd.prog w = .ok () w' ∧ IsRm w' b (n + 1) (fun a' => if a' = a then some c else G a') ∧ w.grownBy w' (some b) := by
  obtain ⟨D, hown, ht, hs, hG⟩ := h
  obtain ⟨w', hr, ho, hg⟩ := hown.update keyed90 Tryd.underlying150 hn (kr9_of ha) (val := .int .i64 (c : Int)) (d := .held (.int .i64 (c : Int))) (ps := []) (by unfold Mp.El; rfl)
  have hno : Maps.has D (kr9 a) = false := Maps.has_false_of_atKey fun z => by rw [hG a ha z, hnew]
  have hlit := kr9_lit ha
  have hty : Maps.Tidy (D.put (kr9 a) (.held (.int .i64 (c : Int)))) ∧ Maps.size (D.put (kr9 a) (.held (.int .i64 (c : Int)))) = n + 1 := by
    clear hr ho hg
    generalize kr9 a = l at *
    exact ⟨ht.put hlit _, by rw [Maps.size_put ht, hno, hs, if_neg (by simp)]⟩
  refine ⟨w', hr, ⟨_, ho, hty.1, hty.2, fun a' ha' z => ?_⟩, hg⟩
  by_cases e : a' = a
  · subst e
    simp only [if_true]
    clear hr ho hg hno hty
    have hlit := kr9_lit ha'
    generalize kr9 a' = l at *
    exact Maps.atKey_put_same ht.isMap hlit _ _
  · simp only [if_neg e]
    rw [Maps.atKey_put_other (fun h => e (kr9_inj ha' ha h))]
    exact hG a' ha' z
end Go.Proofs.YtfjocafepigijaaDoor.Su
/- classes, in plain words: a round tells rows apart by where they lead; how all lies within a round. No conditions. -/
namespace Go.Proofs.YtfjocafepigijaaDoor.Su
open Go.RowKit Mv Po Ps Cm Ra Ot Pa

theorem ra_inj {X X' : Nat → Int} {f f' d d' : Bool} (h : ra X f d = ra X' f' d') : (∀ j, j < 61 → X j = X' j) ∧ f = f' ∧ d = d' := by
  have hk : ∀ j, j < 63 → rwc X f d j = rwc X' f' d' j := fun j hj => by
    have h1 := ra_at (X := X) (f := f) (d := d) hj
    rw [h, ra_at hj] at h1
    exact (Option.some.inj h1).symm
  refine ⟨fun j hj => ?_, ?_, ?_⟩
  · have h1 := hk j (by omega)
    rw [rwc_x hj, rwc_x hj] at h1
    injection h1
  · have h1 := hk 61 (by omega)
    rw [rwc_f, rwc_f] at h1
    injection h1
  · have h1 := hk 62 (by omega)
    rw [rwc_d, rwc_d] at h1
    injection h1
theorem ra_eq {X X' : Nat → Int} (f d : Bool) (h : ∀ j, j < 61 → X j = X' j) : ra X f d = ra X' f d := by
  unfold ra rl
  congr 1
  apply List.map_congr_left
  intro j _
  unfold rwc
  by_cases hj : j < 61
  · rw [if_pos hj, if_pos hj, h j hj]
  · rw [if_neg hj, if_neg hj]
/-- where a symbol leads, told by classes -/
def kx (X : Nat → Nat → Int) (k : Nat → Nat) (i c : Nat) : Int := if X i c = -1 then -1 else (k (X i c).toNat : Int)
/-- a row of which the first c symbols are told by classes -/
def lx (X : Nat → Nat → Int) (k : Nat → Nat) (i c : Nat) : Nat → Int := fun s => if s < c then kx X k i s else X i s
theorem lx_zero (X : Nat → Nat → Int) (k : Nat → Nat) (i : Nat) : lx X k i 0 = X i := by funext s; simp [lx]
theorem lx_skip {X : Nat → Nat → Int} {k : Nat → Nat} {i c : Nat} (h : X i c = -1) : lx X k i (c + 1) = lx X k i c := by
  funext s
  unfold lx
  by_cases e : s = c
  · subst e; rw [if_pos (by omega), if_neg (by omega)]; unfold kx; rw [if_pos h, h]
  · by_cases e2 : s < c
    · rw [if_pos (by omega), if_pos e2]
    · rw [if_neg (by omega), if_neg e2]
theorem lx_put {X : Nat → Nat → Int} {k : Nat → Nat} {i c j : Nat} (h : X i c = (j : Int)) : lx X k i (c + 1) = up1 (lx X k i c) c (k j : Int) := by
  funext s
  unfold lx up1
  by_cases e : s = c
  · subst e; rw [if_pos (by omega), if_pos rfl]; unfold kx; rw [if_neg (by omega), h]; rfl
  · rw [if_neg e]
    dsimp only
    by_cases e2 : s < c
    · rw [if_pos (by omega), if_pos e2]
    · rw [if_neg (by omega), if_neg e2]
/-- a row's key -/
def ky (X : Nat → Nat → Int) (f d : Nat → Bool) (k : Nat → Nat) (i : Nat) : Array Value := ra (lx X k i 61) (f i) (d i)
theorem w64s {x : Int} (h : x = -1 ∨ 0 ≤ x ∧ x ≤ 1000000) : Mp.W64 x := by
  rcases h with rfl | ⟨h1, h2⟩
  · show (Lit.int .i64 (-1)).wf = true
    decide
  · exact Go.Proofs.YtfjocafepigijaaDoor.Cu.wf_int h1 h2
theorem ky_ok {X : Nat → Nat → Int} {f d : Nat → Bool} {k : Nat → Nat} {i : Nat} (h : ∀ s, s < 61 → X i s = -1 ∨ ∃ j : Nat, X i s = (j : Int) ∧ k j ≤ 1000) : Ok9 (ky X f d k i) := by
  refine ⟨lx X k i 61, f i, d i, rfl, fun s hs => ?_⟩
  unfold lx kx
  rw [if_pos hs]
  apply w64s
  rcases h s hs with h1 | ⟨j, h1, h2⟩
  · exact .inl (if_pos h1)
  · right
    rw [if_neg (by omega), h1, Int.toNat_natCast]
    omega
theorem enc_inj {o o' : Option Nat} (h : enc o = enc o') : o = o' := by
  cases o with
  | none => exact (enc_none.1 h.symm).symm
  | some x => exact (enc_some.1 h.symm).symm
theorem kx_enc {T : Tb} {n : Nat} {X : Nat → Nat → Int} {f : Nat → Bool} {k : Nat → Nat} {i c : Nat} (hT : IsT T n X f) (hi : i < n) (h1 : 1 ≤ c) (h2 : c ≤ 60) : kx X k i c = enc ((T.to i c).map k) := by
  unfold kx
  rw [hT.arc i c hi h1 h2]
  cases T.to i c with
  | none => rfl
  | some j =>
    have : (enc (some j) : Int) ≠ -1 := by simp only [enc]; omega
    rw [if_neg this]
    simp [enc]
theorem ky_eq {T : Tb} {n : Nat} {X : Nat → Nat → Int} {f d : Nat → Bool} {k : Nat → Nat} {i j : Nat} (hT : IsT T n X f) (hi : i < n) (hj : j < n) : ky X f d k i = ky X f d k j ↔ T.fin i = T.fin j ∧ d i = d j ∧ ∀ c, 1 ≤ c ∧ c ≤ 60 → (T.to i c).map k = (T.to j c).map k := by
  unfold ky
  have hl : ∀ a s, s < 61 → lx X k a 61 s = kx X k a s := fun a s hs => by unfold lx; rw [if_pos hs]
  constructor
  · intro h
    obtain ⟨h1, h2, h3⟩ := ra_inj h
    refine ⟨by rw [← hT.fin i hi, ← hT.fin j hj, h2], h3, fun c hc => ?_⟩
    have h4 := h1 c (by omega)
    rw [hl i c (by omega), hl j c (by omega), kx_enc hT hi hc.1 hc.2, kx_enc hT hj hc.1 hc.2] at h4
    exact enc_inj h4
  · rintro ⟨h1, h2, h3⟩
    rw [hT.fin i hi, hT.fin j hj, h1, h2]
    refine ra_eq _ _ fun s hs => ?_
    rw [hl i s hs, hl j s hs]
    by_cases e : s = 0
    · subst e
      unfold kx
      rw [hT.z i hi, hT.z j hj]
    · rw [kx_enc hT hi (by omega) (by omega), kx_enc hT hj (by omega) (by omega), h3 s (by omega)]
open Classical in
/-- the map with one more row -/
noncomputable def adk (G : Array Value → Option Nat) (a : Array Value) (m : Nat) : Array Value → Option Nat := fun a' => if a' = a then some m else G a'
/-- a round, where the first a rows have their number -/
structure Mr (X : Nat → Nat → Int) (f d : Nat → Bool) (k : Nat → Nat) (n a : Nat) (fl : List Nat) (ks : List (Array Value)) (G : Array Value → Option Nat) : Prop where
  len : fl.length = n
  has : ∀ i, i < a → ∃ v, fl[i]? = some v ∧ ks[v]? = some (ky X f d k i)
  onto : ∀ v, v < ks.length → ∃ i, i < a ∧ fl[i]? = some v
  met : ∀ key v, G key = some v ↔ ks[v]? = some key
  le : ks.length ≤ a
theorem Mr.begin (X : Nat → Nat → Int) (f d : Nat → Bool) (k : Nat → Nat) (n : Nat) : Mr X f d k n 0 (List.replicate n 0) [] (fun _ => none) :=
  ⟨by simp, fun i hi => absurd hi (Nat.not_lt_zero i), fun v hv => absurd hv (Nat.not_lt_zero v), fun key v => by simp, Nat.le_refl _⟩
section
variable {X : Nat → Nat → Int} {f d : Nat → Bool} {k : Nat → Nat} {n a : Nat} {fl : List Nat} {ks : List (Array Value)} {G : Array Value → Option Nat}
theorem Mr.old {v : Nat} (h : Mr X f d k n a fl ks G) (ha : a < n) (hg : G (ky X f d k a) = some v) : Mr X f d k n (a + 1) (fl.set a v) ks G ∧ v < ks.length := by
  have hv := (h.met _ _).1 hg
  refine ⟨⟨by rw [List.length_set]; exact h.len, fun i hi => ?_, fun u hu => ?_, h.met, Nat.le_succ_of_le h.le⟩, (List.getElem?_eq_some_iff.1 hv).1⟩
  · by_cases e : i = a
    · subst e
      exact ⟨v, List.getElem?_set_self (by rw [h.len]; exact ha), hv⟩
    · rw [List.getElem?_set_ne (Ne.symm e)]
      exact h.has i (by omega)
  · obtain ⟨i, hi, h1⟩ := h.onto u hu
    exact ⟨i, by omega, by rw [List.getElem?_set_ne (by omega)]; exact h1⟩
theorem Mr.new (h : Mr X f d k n a fl ks G) (ha : a < n) (hg : G (ky X f d k a) = none) : Mr X f d k n (a + 1) (fl.set a ks.length) (ks ++ [ky X f d k a]) (adk G (ky X f d k a) ks.length) := by
  have hself : (fl.set a ks.length)[a]? = some ks.length := List.getElem?_set_self (by rw [h.len]; exact ha)
  refine ⟨by rw [List.length_set]; exact h.len, fun i hi => ?_, fun u hu => ?_, fun key v => ?_, by rw [List.length_append]; exact Nat.succ_le_succ h.le⟩
  · by_cases e : i = a
    · subst e
      exact ⟨ks.length, hself, by simp⟩
    · obtain ⟨v, h1, h2⟩ := h.has i (by omega)
      refine ⟨v, by rw [List.getElem?_set_ne (Ne.symm e)]; exact h1, ?_⟩
      rw [List.getElem?_append_left (List.getElem?_eq_some_iff.1 h2).1]
      exact h2
  · rw [List.length_append, List.length_singleton] at hu
    by_cases e : u = ks.length
    · subst e
      exact ⟨a, Nat.lt_succ_self _, hself⟩
    · obtain ⟨i, hi, h1⟩ := h.onto u (by omega)
      exact ⟨i, by omega, by rw [List.getElem?_set_ne (by omega)]; exact h1⟩
  · unfold adk
    by_cases e : key = ky X f d k a
    · subst e
      rw [if_pos rfl]
      constructor
      · intro h1; cases h1; simp
      · intro h1
        by_cases e2 : v < ks.length
        · rw [List.getElem?_append_left e2] at h1
          rw [(h.met _ _).2 h1] at hg
          cases hg
        · have h2 := (List.getElem?_eq_some_iff.1 h1).1
          rw [List.length_append, List.length_singleton] at h2
          rw [show ks.length = v by omega]
    · rw [if_neg e, h.met]
      by_cases e2 : v < ks.length
      · rw [List.getElem?_append_left e2]
      · rw [List.getElem?_eq_none (by omega)]
        constructor
        · intro h1; cases h1
        · intro h1
          have h2 := (List.getElem?_eq_some_iff.1 h1).1
          rw [List.length_append, List.length_singleton] at h2
          obtain rfl : v = ks.length := by omega
          simp at h1
          exact absurd h1.symm e
theorem Mr.done {T : Tb} (h : Mr X f d k n n fl ks G) (hT : IsT T n X f) : Fine T d k (fun i => fl.getD i 0) ∧ Full T.n ks.length (fun i => fl.getD i 0) := by
  have hg : ∀ i, i < n → ks[fl.getD i 0]? = some (ky X f d k i) := fun i hi => by
    obtain ⟨v, h1, h2⟩ := h.has i hi
    rw [List.getD_eq_getElem?_getD, h1]
    exact h2
  refine ⟨fun i j hi hj => ?_, fun i hi => ?_, fun v hv => ?_⟩
  · rw [hT.sz] at hi hj
    rw [← ky_eq hT hi hj]
    constructor
    · intro e
      have h1 := hg i hi
      have e' : fl.getD i 0 = fl.getD j 0 := e
      rw [e', hg j hj] at h1
      exact (Option.some.inj h1).symm
    · intro e
      have h1 := (h.met _ _).2 (hg i hi)
      rw [e, (h.met _ _).2 (hg j hj)] at h1
      exact (Option.some.inj h1).symm
  · rw [hT.sz] at hi
    exact (List.getElem?_eq_some_iff.1 (hg i hi)).1
  · obtain ⟨i, hi, h1⟩ := h.onto v hv
    refine ⟨i, by rw [hT.sz]; exact hi, ?_⟩
    show fl.getD i 0 = v
    rw [List.getD_eq_getElem?_getD, h1]
    rfl
end
/-- how all lies within a round -/
structure Mo (w wr : World) (wz n : Nat) (vc : Value) (cl : List Nat) (vf : Value) (fl : List Nat) (mb m : Nat) (G : Array Value → Option Nat) : Prop where
  bl : Below w.heap.size w wr
  cls : wr.ownsRow w.heap.size 3 1 vc n (ns cl)
  clt : ∀ b, vc.ownBlock = some b → b < wz
  fnr : wr.ownsRow wz 3 1 vf n (ns fl)
  mp : IsRm wr mb m G
  zle : w.heap.size ≤ wz
  mge : wz ≤ mb
section
variable {w wr w1 : World} {wz n mb m : Nat} {vc vf : Value} {cl fl : List Nat} {G : Array Value → Option Nat}
theorem Mo.laid (h : Mo w wr wz n vc cl vf fl mb m G) (hb : Below wr.heap.size wr w1) : Mo w w1 wz n vc cl vf fl mb m G :=
  ⟨h.bl.trans (hb.mono h.bl.size), own_kp2 h.cls (kp_below hb (fun _ => False)) (fun _ _ => id), h.clt, own_kp2 h.fnr (kp_below hb (fun _ => False)) (fun _ _ => id), h.mp.kept (hb.block _ h.mp.lt), h.zle, h.mge⟩
theorem Mo.row {b : Nat} {c : Array Value} (h : Mo w wr wz n vc cl vf fl mb m G) (hk : Kp (fun k => k = b) wr w1) (hb : wr.heap[b]? = some (.cells c 90 (0, 0))) (hge : w.heap.size ≤ b) : Mo w w1 wz n vc cl vf fl mb m G := by
  have nt : ∀ {v : Value} {bs n : Nat} {xs : List Value}, wr.ownsRow bs 3 1 v n xs → ∀ k, v.ownBlock = some k → ¬ k = b := fun {v bs n xs} ho k hk e => by
    obtain ⟨d, hd⟩ := own_ty ho hk
    subst e
    exact ty_ne hd hb (by decide)
  refine ⟨below_kp h.bl hk (fun k hk e => by omega), own_kp2 h.cls hk (nt h.cls), h.clt, own_kp2 h.fnr hk (nt h.fnr), h.mp.kept (hk.block _ h.mp.lt (fun e => ?_)), h.zle, h.mge⟩
  obtain ⟨es, ck, hm⟩ := h.mp.ty
  rw [e, hb] at hm
  cases hm
theorem Mo.store {G' : Array Value → Option Nat} {m' : Nat} (h : Mo w wr wz n vc cl vf fl mb m G) (hm : IsRm w1 mb m' G') (hg : wr.grownBy w1 (some mb)) : Mo w w1 wz n vc cl vf fl mb m' G' := by
  have hk : Kp (fun k => k = mb) wr w1 := (Kp.refl _ wr).grown hg (fun b hb _ => by injection hb with hb; exact hb.symm)
  have nt : ∀ {v : Value} {bs n : Nat} {xs : List Value}, wr.ownsRow bs 3 1 v n xs → ∀ k, v.ownBlock = some k → ¬ k = mb := fun {v bs n xs} ho k hk e => by
    obtain ⟨d, hd⟩ := own_ty ho hk
    obtain ⟨es, ck, hm⟩ := h.mp.ty
    rw [e, hm] at hd
    cases hd
  have h1 := h.zle
  have h2 := h.mge
  exact ⟨below_kp h.bl hk (fun k hk e => by omega), own_kp2 h.cls hk (nt h.cls), h.clt, own_kp2 h.fnr hk (nt h.fnr), hm, h.zle, h.mge⟩
theorem Mo.set {gf cf a v : Nat} (h : Mo w wr wz n vc cl (.slice (some ⟨gf, 0, none⟩) n cf) fl mb m G) : Mo w (wr.setCell ⟨gf, a, none⟩ (.int .i64 (v : Int))) wz n vc cl (.slice (some ⟨gf, 0, none⟩) n cf) (fl.set a v) mb m G := by
  have hk : Kp (fun b => b = gf) wr (wr.setCell ⟨gf, a, none⟩ (.int .i64 (v : Int))) := (Kp.refl _ wr).setCell _ _ _ (fun _ => rfl)
  have hge := (h.fnr.lt gf rfl).1
  have h1 := h.zle
  obtain ⟨d, hd⟩ := own_ty h.fnr (k := gf) rfl
  refine ⟨below_kp h.bl hk (fun k hk e => by omega), own_kp2 h.cls hk (fun k hk e => by have := h.clt k hk; omega), h.clt, ?_, h.mp.kept (hk.block _ h.mp.lt (fun e => ?_)), h.zle, h.mge⟩
  · have hs := (h.fnr.stored a (.int .i64 (v : Int))).1
    rw [show ns (fl.set a v) = (ns fl).set a (.int .i64 (v : Int)) by unfold ns; rw [List.map_set]]
    exact hs
  · obtain ⟨es, ck, hm⟩ := h.mp.ty
    rw [e, hd] at hm
    cases hm
end
theorem run_mk26n (n : Nat) (hn : n ≤ 500) (W : World) : (Instr.makeSlice 26 (.int .i64 (n : Int)) (.int .i64 (n : Int))).run Tryd.prog W = .ok (.slice (some ⟨W.heap.size, 0, none⟩) n n) (W.alloc (.cells (madeCells #[.int .i64 0] n) 3)) := by
  obtain ⟨i0, hi, hz0, hz1, hz2⟩ := info_parts inf3'
  have hr := run_make (P := Tryd.prog) W 26 3 i0 (.int .i64 0) Tryd.underlying26 hi hz0 .i64 .i64 (n : Int) (n : Int) (by omega) (Int.le_refl _) (by rw [hz2]; omega) (by omega)
  simp only [Int.toNat_natCast, hz1, Nat.mul_one] at hr
  exact hr
theorem own_mk26n (W : World) (base n : Nat) (hb : base ≤ W.heap.size) (hn : n ≤ 500) : (W.alloc (.cells (madeCells #[.int .i64 0] n) 3)).ownsRow base 3 1 (.slice (some ⟨W.heap.size, 0, none⟩) n n) n (ns (List.replicate n 0)) := by
  have e : (madeCells #[.int .i64 0] n).toList = ns (List.replicate n 0) := by rw [toList_madeCells_one]; simp [ns]
  refine ⟨by simp [ns], .inr ⟨W.heap.size, n, madeCells #[.int .i64 0] n, rfl, hb, heap_alloc_new _ _, Nat.le_refl _, by unfold maxLen; omega, ?_, ?_⟩⟩
  · rw [← Array.length_toList, e]; simp [ns]
  · rw [e]; simp [ns]
end Go.Proofs.YtfjocafepigijaaDoor.Su
/- classes (50): a number for each row, the same for two just if they read the same. Conditions: the table lies as T says, what leads to the dead is taken away, 1 to 500 rows. -/
namespace Go.Proofs.YtfjocafepigijaaDoor.Su
open Go.RowKit Go.Shelf Mv Po Ps Cm Ra Ot Pa

theorem ns_getD {l : List Nat} {j : Nat} (h : j < l.length) : (ns l)[j]? = some (.int .i64 (l.getD j 0 : Int)) := by
  rw [ns_at (List.getElem?_eq_getElem h), List.getD_eq_getElem?_getD, List.getElem?_eq_getElem h]
  rfl
theorem getD_rep (n i : Nat) : (List.replicate n 0).getD i 0 = 0 := by
  rw [List.getD_eq_getElem?_getD, List.getElem?_replicate]
  split <;> rfl
set_option maxHeartbeats 8000000 in
set_option maxRecDepth 100000 in
theorem classes_any (T : Tb) (base p g n cap : Nat) (X : Nat → Nat → Int) (f d : Nat → Bool) (w : World) (hT : IsT T n X f) (hC : Cutd T d) (hP : PT w base p g n cap X f d) (hn : n ≤ 500) (h0 : 0 < n) :
    Calls Tryd.prog 50 #[.pointer (some ⟨p, 0, none⟩)] w fun e w' => ∃ v cl, e = .returned v ∧ w'.ownsRow w.heap.size 3 1 v n (ns cl) ∧ cl.length = n ∧ (∀ i j, i < n → j < n → (cl.getD i 0 = cl.getD j 0 ↔ T.Lk (some i) (some j))) ∧ (∀ i, i < n → cl.getD i 0 < n) ∧ Below w.heap.size w w' := by
  have hmk := run_mk26n n hn
  have hmm := @run_makeMap Tryd.prog
  have hz := z90
  have HT : Hid (IsT T n X f ∧ Cutd T d ∧ n ≤ 500 ∧ 0 < n) := ⟨hT, hC, hn, h0⟩
  have HPT : Hid (∀ W, Below w.heap.size w W → PT W base p g n cap X f d) := fun W hW => hP.below hW
  have HGL : Hid (g < w.heap.size) := hP.lt.2
  have c0 := cell_of_row _ _ 0 _ _ _ hP.box
  clear hT hC hP
  go_enter Tryd.func50, Tryd.ntmps50
  go_upto_region 2 with fail
  clear c0
  have HB0 : Hid (Below w.heap.size w (w.alloc (.cells (madeCells #[.int .i64 0] n) 3)) ∧ (w.alloc (.cells (madeCells #[.int .i64 0] n) 3)).ownsRow w.heap.size 3 1 (.slice (some ⟨w.heap.size, 0, none⟩) n n) n (ns (List.replicate n 0))) := ⟨below_al _ _, own_mk26n _ _ _ (Nat.le_refl _) hn⟩
  generalize w.alloc (.cells (madeCells #[.int .i64 0] n) 3) = W0 at *
  obtain ⟨v0, hv0⟩ : ∃ v, Value.slice (some ⟨w.heap.size, 0, none⟩) n n = v := ⟨_, rfl⟩
  rw [hv0] at HB0
  rw [hv0]
  clear hv0
  go_wp2
  go_loopg [3, 4] n (fun gk s3 s4 wr => ∃ (vc : Value) (cl : List Nat) (cnt : Nat), s3 = vc ∧ s4 = .int .i64 (cnt : Int) ∧ Below w.heap.size w wr ∧ wr.ownsRow w.heap.size 3 1 vc n (ns cl) ∧ cl.length = n ∧ Cls T d (fun i => cl.getD i 0) cnt ∧ gk + cnt = n + 1)
  case atStart =>
    refine ⟨_, List.replicate n 0, 1, rfl, rfl, HB0.out.1, HB0.out.2, by simp, ?_, rfl⟩
    rw [show (fun i => (List.replicate n 0).getD i 0) = fun _ => 0 from funext fun i => getD_rep n i]
    exact Cls.first (by rw [HT.out.1.sz]; exact h0)
  case round =>
    clear HB0
    obtain ⟨vc, cl, cnt, rfl, rfl, hbl, hrow, hcl, hcs, hgk⟩ := hrel
    obtain ⟨cg, cc, rfl, hcg, hcg2⟩ := own_some hrow h0
    have HL : Hid (cl.length = n ∧ Cls T d (fun i => cl.getD i 0) cnt ∧ gk + cnt = n + 1) := ⟨hcl, hcs, hgk⟩
    have HR : Hid (Below w.heap.size w wr ∧ wr.ownsRow w.heap.size 3 1 (.slice (some ⟨cg, 0, none⟩) n cc) n (ns cl) ∧ cg < wr.heap.size) := ⟨hbl, hrow, hcg2⟩
    have hcn : cnt ≤ 500 := by have h1 := hcs.full.le; rw [HT.out.1.sz] at h1; omega
    have c0 := cell_of_row _ _ 0 _ _ _ (HPT.out _ hbl).box
    clear hbl hrow hcl hcs hgk hcg hcg2
    go_upto_region 4 with fail
    clear c0
    have HMO : Hid (Below wr.heap.size wr (wr.alloc (.cells (madeCells #[.int .i64 0] n) 3)) ∧ (wr.alloc (.cells (madeCells #[.int .i64 0] n) 3)).ownsRow wr.heap.size 3 1 (.slice (some ⟨wr.heap.size, 0, none⟩) n n) n (ns (List.replicate n 0))) := ⟨below_al _ _, own_mk26n _ _ _ (Nat.le_refl _) hn⟩
    generalize wr.alloc (.cells (madeCells #[.int .i64 0] n) 3) = W1 at *
    obtain ⟨gf, hgf⟩ : ∃ b, wr.heap.size = b := ⟨_, rfl⟩
    have HMO2 : Hid (Mo w (W1.alloc (.map #[] 0)) gf n (.slice (some ⟨cg, 0, none⟩) n cc) cl (.slice (some ⟨gf, 0, none⟩) n n) (List.replicate n 0) W1.heap.size 0 (fun _ => none)) := by
      have hb2 := below_al W1 (.map #[] 0)
      have hb1 := HMO.out.1.trans (hb2.mono HMO.out.1.size)
      rw [← hgf]
      exact ⟨HR.out.1.trans (hb1.mono HR.out.1.size), own_kp2 HR.out.2.1 (kp_below hb1 (fun _ => False)) (fun _ _ => id), fun b hb => by have hb2 : some cg = some b := hb; cases hb2; exact HR.out.2.2, own_kp2 HMO.out.2 (kp_below hb2 (fun _ => False)) (fun _ _ => id), rm_made W1, HR.out.1.size, HMO.out.1.size⟩
    rw [hgf]
    clear HMO HR hgf
    go_upto_region 5 with fail
    obtain ⟨mb, hmb⟩ : ∃ b, W1.heap.size = b := ⟨_, rfl⟩
    rw [hmb] at HMO2
    rw [hmb]
    generalize W1.alloc (.map #[] 0) = W2 at *
    clear hmb
    have c0 := cell_of_row _ _ 0 _ _ _ (HPT.out _ HMO2.out.bl).box
    go_upto_region 6 with fail
    clear c0
    go_loopw [31] (fun s wr => ∃ (a : Nat) (fl : List Nat) (ks : List (Array Value)) (G : Array Value → Option Nat), s = .int .i64 (a : Int) ∧ a ≤ n ∧ Mo w wr gf n (.slice (some ⟨cg, 0, none⟩) n cc) cl (.slice (some ⟨gf, 0, none⟩) n n) fl mb ks.length G ∧ Mr X f d (fun i => cl.getD i 0) n a fl ks G) (fun s _ => n - (intOf s).toNat)
    case atStart => exact ⟨0, List.replicate n 0, [], _, rfl, Nat.zero_le _, HMO2.out, Mr.begin X f d _ n⟩
    case round =>
      clear HMO2
      obtain ⟨i, fl, ks, G, rfl, hin, hmo, hmr⟩ := hrel
      have HR : Hid (Mr X f d (fun i => cl.getD i 0) n i fl ks G) := hmr
      obtain ⟨m, hm⟩ : ∃ m, ks.length = m := ⟨_, rfl⟩
      have HM : Hid (ks.length = m ∧ m ≤ i) := ⟨hm, by rw [← hm]; exact hmr.le⟩
      have HMO : Hid (Mo w wr gf n (.slice (some ⟨cg, 0, none⟩) n cc) cl (.slice (some ⟨gf, 0, none⟩) n n) fl mb m G) := by rw [← hm]; exact hmo
      clear hmo hmr hm
      by_cases hlt : i < n
      · have r9 := (HPT.out _ HMO.out.bl).range hlt
        obtain ⟨xi, hxi⟩ : ∃ x, X i = x := ⟨_, rfl⟩
        obtain ⟨fi, hfi⟩ : ∃ x, f i = x := ⟨_, rfl⟩
        obtain ⟨di, hdi⟩ : ∃ x, d i = x := ⟨_, rfl⟩
        have HXI : Hid (X i = xi ∧ f i = fi ∧ d i = di) := ⟨hxi, hfi, hdi⟩
        rw [hxi, hfi, hdi] at r9
        clear hxi hfi hdi
        obtain ⟨b8, hb8⟩ : ∃ b, wr.heap.size = b := ⟨_, rfl⟩
        have HB8 : Hid (wr.heap.size = b8 ∧ w.heap.size ≤ b8) := ⟨hb8, by rw [← hb8]; exact HMO.out.bl.size⟩
        have hnew : Rw9 (wr.alloc (.cells (ra (fun _ => 0) false false) 90)) b8 (fun _ => 0) false false := by rw [← hb8]; exact new90 _ _ _ _
        have HMO1 : Hid (Mo w (wr.alloc (.cells (ra (fun _ => 0) false false) 90)) gf n (.slice (some ⟨cg, 0, none⟩) n cc) cl (.slice (some ⟨gf, 0, none⟩) n n) fl mb m G) := HMO.out.laid (below_al _ _)
        have HNW : Hid (Rw9 ((wr.alloc (.cells (ra (fun _ => 0) false false) 90)).setRow b8 (ra xi fi di)) b8 xi fi di) := hnew.row _ _ _
        have HMO2 : Hid (Mo w ((wr.alloc (.cells (ra (fun _ => 0) false false) 90)).setRow b8 (ra xi fi di)) gf n (.slice (some ⟨cg, 0, none⟩) n cc) cl (.slice (some ⟨gf, 0, none⟩) n n) fl mb m G) := HMO1.out.row (kp_row _ _ _) hnew HB8.out.2
        go_upto_region 8 with (first | (refine ld90 rfl (.tmp 34) rfl g (i * 63) xi fi di rfl r9 ?_) | (refine st90 rfl (.tmp 8) (.tmp 35) rfl b8 (fun _ => 0) xi false false fi di rfl rfl hnew ?_))
        generalize (wr.alloc (.cells (ra (fun _ => 0) false false) 90)).setRow b8 (ra xi fi di) = W3 at *
        clear r9 hnew HMO HMO1
        have HLX : Hid (Rw9 W3 b8 (lx X (fun i => cl.getD i 0) i 0) fi di) := by rw [lx_zero, HXI.out.1]; exact HNW.out
        have r10 := HNW.out.xrange
        go_upto_region 9 with (refine ld88 rfl (.tmp 36) rfl b8 0 xi rfl r10 ?_)
        clear r10
        go_loopw [38] (fun s wr => ∃ (c : Nat), s = .int .i64 (c : Int) ∧ c ≤ 61 ∧ Mo w wr gf n (.slice (some ⟨cg, 0, none⟩) n cc) cl (.slice (some ⟨gf, 0, none⟩) n n) fl mb m G ∧ Rw9 wr b8 (lx X (fun i => cl.getD i 0) i c) fi di) (fun s _ => 61 - (intOf s).toNat)
        case atStart => exact ⟨0, rfl, Nat.zero_le _, HMO2.out, HLX.out⟩
        case round =>
          clear HMO2 HLX HNW hb8
          obtain ⟨c, rfl, hc61, hmo, hrw⟩ := hrel
          have HMO : Hid (Mo w wr gf n (.slice (some ⟨cg, 0, none⟩) n cc) cl (.slice (some ⟨gf, 0, none⟩) n n) fl mb m G) := hmo
          have HRW : Hid (Rw9 wr b8 (lx X (fun i => cl.getD i 0) i c) fi di) := hrw
          clear hmo hrw
          by_cases hc : c < 61
          · have hci : (c : Int) < 61 := by omega
            have hidx := idx88 xi c hc
            obtain ⟨x, hx⟩ : ∃ x, xi c = x := ⟨_, rfl⟩
            have HX : Hid (X i c = x) := by show _ = _; rw [HXI.out.1]; exact hx
            rw [hx] at hidx
            rcases HT.out.1.cases hlt hc with h1 | ⟨j, h1, hj, _, _⟩
            · obtain rfl : x = -1 := by rw [← HX.out]; exact h1
              clear h1 hx
              go_wp2
              go_roundw
              case rel => exact ⟨c + 1, by go_num, hc, HMO.out, by rw [lx_skip HX.out]; exact HRW.out⟩
              case measure => simp [intOf]; omega
            · obtain rfl : x = (j : Int) := by rw [← HX.out]; exact h1
              clear h1 hx
              have q1 : ((j : Int) != -1) = true := by have h : ¬ (j : Int) = -1 := (by omega); simp [h]
              have c7 := (HMO.out.cls.cellAt j (by omega)).trans (ns_getD (by rw [HL.out.1]; exact hj))
              obtain ⟨kj, hkj⟩ : ∃ k, cl.getD j 0 = k := ⟨_, rfl⟩
              have HKJ : Hid (cl.getD j 0 = kj) := hkj
              rw [hkj] at c7
              have r0 := HRW.out.x hc
              have r1 := HRW.out.frozen c
              have HS : Hid (Rw9 (wr.setCell ⟨b8, c, none⟩ (.int .i64 (kj : Int))) b8 (lx X (fun i => cl.getD i 0) i (c + 1)) fi di) := by
                rw [lx_put HX.out]
                rw [HKJ.out]
                exact HRW.out.set hc _
              have HMO3 : Hid (Mo w (wr.setCell ⟨b8, c, none⟩ (.int .i64 (kj : Int))) gf n (.slice (some ⟨cg, 0, none⟩) n cc) cl (.slice (some ⟨gf, 0, none⟩) n n) fl mb m G) := HMO.out.row ((Kp.refl _ wr).setCell _ _ _ (fun _ => rfl)) HRW.out HB8.out.2
              clear hkj
              go_wp2
              go_roundw
              case rel => exact ⟨c + 1, by go_num, hc, HMO3.out, HS.out⟩
              case measure => simp [intOf]; omega
          · obtain rfl : c = 61 := by omega
            have HKY : Hid (ra (lx X (fun i => cl.getD i 0) i 61) fi di = ky X f d (fun i => cl.getD i 0) i ∧ Ok9 (ky X f d (fun i => cl.getD i 0) i)) := by
              refine ⟨by unfold ky; rw [HXI.out.2.1, HXI.out.2.2], ky_ok fun s hs => ?_⟩
              rcases HT.out.1.cases hlt hs with h1 | ⟨j, h1, hj, _, _⟩
              · exact .inl h1
              · refine .inr ⟨j, h1, ?_⟩
                have h2 := HL.out.2.1.full.1 j (by rw [HT.out.1.sz]; exact hj)
                dsimp only at h2 ⊢
                omega
            have r9 := HRW.out.range
            have hlook := HMO.out.mp.look HKY.out.2
            rw [← HKY.out.1] at hlook
            obtain ⟨xl9, hxl9⟩ : ∃ x, lx X (fun i => cl.getD i 0) i 61 = x := ⟨_, rfl⟩
            have HXL : Hid (ra xl9 fi di = ky X f d (fun i => cl.getD i 0) i) := by show _ = _; rw [← hxl9]; exact HKY.out.1
            rw [hxl9] at hlook r9
            clear hxl9
            have r0 := HMO.out.fnr.frozenAt i
            obtain ⟨fv, hfv⟩ : ∃ v, (ns fl)[i]? = some v := ⟨_, ns_getD (by rw [HR.out.len]; exact hlt)⟩
            have r1 := (HMO.out.fnr.cellAt i (by omega)).trans hfv
            clear hfv
            cases hg : G (ra xl9 fi di) with
            | some v =>
              rw [hg] at hlook
              dsimp only at hlook
              have HOLD : Hid (Mr X f d (fun i => cl.getD i 0) n (i + 1) (fl.set i v) ks G) := (HR.out.old hlt (by rw [← HXL.out]; exact hg)).1
              have HMO3 : Hid (Mo w (wr.setCell ⟨gf, i, none⟩ (.int .i64 (v : Int))) gf n (.slice (some ⟨cg, 0, none⟩) n cc) cl (.slice (some ⟨gf, 0, none⟩) n n) (fl.set i v) mb m G) := HMO.out.set
              clear hg
              go_upto_region 15 with (refine ld90 rfl (.tmp 8) rfl b8 0 xl9 fi di rfl r9 ?_)
              clear hlook r9
              go_wp2
              go_roundw
              case rel => exact ⟨i + 1, fl.set i v, ks, G, by go_num, hlt, by rw [HM.out.1]; exact HMO3.out, HOLD.out⟩
              case measure => simp [intOf]; omega
            | none =>
              rw [hg] at hlook
              dsimp only at hlook
              have HNEW : Hid (Mr X f d (fun i => cl.getD i 0) n (i + 1) (fl.set i m) (ks ++ [ky X f d (fun i => cl.getD i 0) i]) (adk G (ra xl9 fi di) m)) := by
                have h := HR.out.new hlt (by rw [← HXL.out]; exact hg)
                rw [HM.out.1] at h
                rw [HXL.out]
                exact h
              have hlen := HMO.out.mp.len
              obtain ⟨w5, hr5, hm5, hg5⟩ := HMO.out.mp.store (c := m) (by have := HM.out.2; unfold maxLen; omega) (by rw [HXL.out]; exact HKY.out.2) hg
              have HMO4 : Hid (Mo w w5 gf n (.slice (some ⟨cg, 0, none⟩) n cc) cl (.slice (some ⟨gf, 0, none⟩) n n) fl mb (m + 1) (adk G (ra xl9 fi di) m)) := HMO.out.store hm5 hg5
              clear hg hm5 hg5
              go_upto_region 15 with (refine ld90 rfl (.tmp 8) rfl b8 0 xl9 fi di rfl r9 ?_)
              clear hlook
              go_upto_region 17 with fail
              clear hlen
              go_upto_region 18 with (refine ld90 rfl (.tmp 8) rfl b8 0 xl9 fi di rfl r9 ?_)
              clear hr5 r9 r0 r1 HMO
              have r0 := HMO4.out.fnr.frozenAt i
              obtain ⟨fv, hfv⟩ : ∃ v, (ns fl)[i]? = some v := ⟨_, ns_getD (by rw [HR.out.len]; exact hlt)⟩
              have r1 := (HMO4.out.fnr.cellAt i (by omega)).trans hfv
              have HMO5 : Hid (Mo w (w5.setCell ⟨gf, i, none⟩ (.int .i64 (m : Int))) gf n (.slice (some ⟨cg, 0, none⟩) n cc) cl (.slice (some ⟨gf, 0, none⟩) n n) (fl.set i m) mb (m + 1) (adk G (ra xl9 fi di) m)) := HMO4.out.set
              clear hfv
              go_wp2
              go_roundw
              case rel => exact ⟨i + 1, fl.set i m, _, _, by go_num, hlt, by rw [List.length_append, HM.out.1]; exact HMO5.out, HNEW.out⟩
              case measure => simp [intOf]; omega
      · obtain rfl : i = n := by omega
        have HDN : Hid (Fine T d (fun i => cl.getD i 0) (fun i => fl.getD i 0) ∧ Full T.n m (fun i => fl.getD i 0)) := by have h := HR.out.done HT.out.1; rw [HM.out.1] at h; exact h
        have hlen := HMO.out.mp.len
        by_cases he : m = cnt
        · subst he
          go_wp2
          go_ret
          refine ⟨_, cl, rfl, HMO.out.cls, HL.out.1, fun i j hi hj => ?_, fun j hj => ?_, HMO.out.bl⟩
          · exact HL.out.2.1.done HT.out.2.1 HDN.out.1 HDN.out.2 i j (by rw [HT.out.1.sz]; exact hi) (by rw [HT.out.1.sz]; exact hj)
          · have h1 := HL.out.2.1.full.1 j (by rw [HT.out.1.sz]; exact hj)
            have h2 := HM.out.2
            dsimp only at h1
            omega
        · have q3 : ((m : Int) == (cnt : Int)) = false := by have h : ¬ (m : Int) = (cnt : Int) := (by omega); simpa using h
          have HCL : Hid (Cls T d (fun i => fl.getD i 0) m) := HL.out.2.1.next HT.out.2.1 HDN.out.1 HDN.out.2
          have HLS : Hid (cnt ≤ m) := HL.out.2.1.less HDN.out.1 HDN.out.2
          clear he
          go_wp2
          go_roundg (i + 1 - m)
          case measure => have h1 := HLS.out; have h2 := HL.out.2.2; have h3 := HM.out.2; have h4 : ((m : Int) == (cnt : Int)) = false := q3; have h5 : m ≠ cnt := (fun e => by rw [e] at h4; simp at h4); omega
          case rel => exact ⟨_, fl, m, rfl, rfl, HMO.out.bl, own_le HMO.out.fnr HMO.out.zle, HR.out.len, HCL.out, by have h3 := HM.out.2; omega⟩
end Go.Proofs.YtfjocafepigijaaDoor.Su
