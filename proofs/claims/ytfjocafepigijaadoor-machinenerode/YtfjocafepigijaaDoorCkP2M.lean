/- The program's sets of numbers, a bit for each: newSet and add. Condition: the number lies in the set's words. -/
import Derived.Test.YtfjocafepigijaaDoorCaM
import Derived.Laws.Bits64b
namespace Go.Proofs.YtfjocafepigijaaDoor.Set
open Go.RowKit Mv

theorem info102 : (Tryd.prog.info? 136).map (fun i => (i.zero, i.size, i.bytes)) = some (some (.int .u64 0), 1, 8) := by kernel_rfl

/-- is a number in the set of these words? -/
def mem (ws : List Nat) (k : Nat) : Bool := (ws[k / 64]?.getD 0).testBit (k % 64)
def cellsW (ws : List Nat) : List Value := ws.map fun (x : Nat) => Value.int .u64 (x : Int)
/-- a set that the call owns, for numbers below n -/
def IsSet (w : World) (base : Nat) (v : Value) (n : Nat) (ws : List Nat) : Prop := w.ownsRow base 136 1 v ws.length (cellsW ws) ∧ (∀ x ∈ ws, x < 18446744073709551616) ∧ n ≤ 64 * ws.length ∧ ws.length ≤ 281474976710656

theorem pow_lt (j : Nat) (h : j < 64) : 2 ^ j < 18446744073709551616 := by
  have : 2 ^ j < 2 ^ 64 := Nat.pow_lt_pow_right (by decide) h
  simpa using this
theorem wrap_pow (j : Nat) (h : j < 64) : IntKind.u64.wrap (2 ^ j) = ((2 ^ j : Nat) : Int) := by
  have := pow_lt j h
  rw [IntKind.wrap_u64]
  have e : ((2 : Int) ^ j) = ((2 ^ j : Nat) : Int) := by simp
  rw [e]
  generalize 2 ^ j = y at *
  omega
theorem and_pow (x j : Nat) : x &&& 2 ^ j = if x.testBit j then 2 ^ j else 0 := by
  apply Nat.eq_of_testBit_eq
  intro i
  rw [Nat.testBit_and, Nat.testBit_two_pow]
  by_cases e : j = i
  · subst e
    cases x.testBit j <;> simp
  · split <;> simp [e]
theorem and_bit (x j : Nat) (hx : x < 18446744073709551616) (h : j < 64) : (bits .and .u64 (x : Int) (IntKind.u64.wrap (2 ^ j)) == 0) = !x.testBit j := by
  rw [wrap_pow j h, bits_and_u64_nat x (2 ^ j) hx (pow_lt j h), and_pow]
  have hp := Nat.two_pow_pos j
  cases x.testBit j with
  | true =>
    rw [if_pos rfl]
    generalize 2 ^ j = y at *
    simp
    omega
  | false => simp
theorem or_bit (x j : Nat) (hx : x < 18446744073709551616) (h : j < 64) : bits .or .u64 (x : Int) (IntKind.u64.wrap (2 ^ j)) = ((x ||| 2 ^ j : Nat) : Int) := by
  rw [wrap_pow j h, bits_or_u64_nat x (2 ^ j) hx (pow_lt j h)]
def put (ws : List Nat) (k : Nat) : List Nat := ws.set (k / 64) (ws[k / 64]?.getD 0 ||| 2 ^ (k % 64))
theorem mem_put (ws : List Nat) (k j : Nat) (h : k / 64 < ws.length) : mem (put ws k) j = (mem ws j || decide (j = k)) := by
  unfold mem put
  by_cases e : j / 64 = k / 64
  · rw [e, List.getElem?_set_self h]
    simp only [Option.getD_some, Nat.testBit_or, Nat.testBit_two_pow]
    congr 1
    rw [decide_eq_decide]
    omega
  · rw [List.getElem?_set_ne (fun h => e h.symm)]
    have : ¬ j = k := fun h => e (by rw [h])
    simp [this]
theorem put_bd (ws : List Nat) (k : Nat) (h : ∀ x ∈ ws, x < 18446744073709551616) : ∀ x ∈ put ws k, x < 18446744073709551616 := by
  intro x hx
  rcases List.mem_or_eq_of_mem_set hx with hx | rfl
  · exact h x hx
  · have h1 : ws[k / 64]?.getD 0 < 2 ^ 64 := by
      cases e : ws[k / 64]? with
      | none => simp
      | some y => simpa using h y (List.mem_of_getElem? e)
    have h2 : 2 ^ (k % 64) < 2 ^ 64 := Nat.pow_lt_pow_right (by decide) (Nat.mod_lt _ (by decide))
    have := Nat.or_lt_two_pow h1 h2
    simpa using this

set_option maxHeartbeats 400000 in
theorem add_walk (g cap n k x : Nat) (w : World) (h1 : k / 64 < n) (hk : k < 1000000000) (hn : n ≤ 281474976710656) (hc : w.cell? ⟨g, k / 64, none⟩ = some (.int .u64 (x : Int))) (hf : w.frozen? ⟨g, k / 64, none⟩ = false) :
    Calls Tryd.prog 60 #[.slice (some ⟨g, 0, none⟩) n cap, .int .i64 k] w fun e w' => e = .returned (.bool (bits .and .u64 (x : Int) (IntKind.u64.wrap (2 ^ (k % 64))) == 0)) ∧ w' = w.setCell ⟨g, k / 64, none⟩ (.int .u64 (bits .or .u64 (x : Int) (IntKind.u64.wrap (2 ^ (k % 64))))) := by
  go_enter Tryd.func60, Tryd.ntmps60
  go_wp2
  go_ret
  exact ⟨rfl, rfl⟩

/-- add: whether it is new; the set with it -/
theorem add_any (base : Nat) (v : Value) (n k : Nat) (ws : List Nat) (w : World) (h : IsSet w base v n ws) (hk : k < n) (hk2 : k < 1000000000) :
    Calls Tryd.prog 60 #[v, .int .i64 k] w fun e w' => e = .returned (.bool (!mem ws k)) ∧ IsSet w' base v n (put ws k) ∧ w.grownBy w' v.ownBlock := by
  obtain ⟨hown, hbd, hnw, hlw⟩ := h
  have hkw : k / 64 < ws.length := by omega
  have hv : ∃ g cap, v = .slice (some ⟨g, 0, none⟩) ws.length cap := by
    rcases hown.2 with ⟨_, h0⟩ | ⟨g, cap, cur, hv, _⟩
    · omega
    · exact ⟨g, cap, hv⟩
  obtain ⟨g, cap, rfl⟩ := hv
  have ex : ws[k / 64]?.getD 0 = ws[k / 64] := by simp [hkw]
  have hc : w.cell? ⟨g, k / 64, none⟩ = some (.int .u64 ((ws[k / 64] : Nat) : Int)) := by
    rw [hown.cellAt (k / 64) (by omega)]
    simp [cellsW, hkw]
  have hx := hbd _ (List.getElem_mem hkw)
  refine (add_walk g cap ws.length k ws[k / 64] w hkw hk2 hlw hc (hown.frozenAt _)).mono ?_
  rintro e w' ⟨rfl, rfl⟩
  rw [and_bit _ _ hx (Nat.mod_lt _ (by decide)), or_bit _ _ hx (Nat.mod_lt _ (by decide))]
  have hst := hown.stored (k / 64) (.int .u64 ((ws[k / 64] ||| 2 ^ (k % 64) : Nat) : Int))
  refine ⟨by unfold mem; rw [ex], ⟨?_, put_bd ws k hbd, by simp [put]; omega, by simp [put]; omega⟩, hst.2⟩
  unfold put cellsW
  rw [List.map_set, List.length_set, ex]
  exact hst.1

set_option maxHeartbeats 400000 in
set_option maxRecDepth 100000 in
/-- newSet: none is in it -/
theorem new_any (n : Nat) (w : World) (h : n < 1000000000) :
    Calls Tryd.prog 59 #[.int .i64 n] w fun e w' => ∃ v ws, e = .returned v ∧ IsSet w' w.heap.size v n ws ∧ (∀ k, mem ws k = false) ∧ Below w.heap.size w w' := by
  obtain ⟨i0, hi, hz0, hz1, hz2⟩ := info_parts info102
  go_enter Tryd.func59, Tryd.ntmps59
  go_wp2_with (at_make; refine wpList_make_full _ rfl _ _ 77 rfl w.heap.size 136 i0 (.int .u64 0) 1 Tryd.underlying77 hi hz0 hz1 .i64 .i64 _ _ ((n + 63) / 64) rfl rfl (by omega) (by omega) (by rw [hz2]; omega) (by unfold maxLen; omega) (Nat.le_refl _) ?_; intro w1 hown0 hgrow0)
  go_ret
  have e2 : (madeCells (Value.cells (.int .u64 0)) ((n + 63) / 64 * 1)).toList = cellsW (List.replicate ((n + 63) / 64) 0) := by
    rw [Nat.mul_one]
    show (madeCells #[.int .u64 0] ((n + 63) / 64)).toList = _
    rw [toList_madeCells_one]
    simp [cellsW]
  rw [e2] at hown0
  refine ⟨_, List.replicate ((n + 63) / 64) 0, rfl, ⟨by rw [List.length_replicate]; exact hown0, ?_, ?_, ?_⟩, ?_, (Below.refl _ w).grown hgrow0 (Nat.le_refl _) (by simp)⟩
  · intro x hx
    rw [List.eq_of_mem_replicate hx]
    decide
  · simp; omega
  · simp; omega
  · intro k
    unfold mem
    rw [List.getElem?_replicate]
    split <;> simp
end Go.Proofs.YtfjocafepigijaaDoor.Set
/- The program's Check: what it answers of any machine. No conditions. -/
namespace Go.Proofs.YtfjocafepigijaaDoor.CkP
open Go.RowKit Mv CkR Set

def wb (n l m : Int) : Bool := decide (l ≤ n ∧ n ≤ m)
theorem within_any (n l m : Int) (w : World) : Calls Tryd.prog 31 #[.int .i64 n, .int .i64 l, .int .i64 m] w fun e w' => e = .returned (.bool (wb n l m)) ∧ w' = w := by
  by_cases h1 : l ≤ n
  · by_cases h2 : n ≤ m
    · have e : wb n l m = true := by unfold wb; simp; omega
      rw [e]
      go_enter Tryd.func31, Tryd.ntmps31
      go_wp2
      go_ret
      exact ⟨rfl, rfl⟩
    · have e : wb n l m = false := by unfold wb; simp; omega
      rw [e]
      go_enter Tryd.func31, Tryd.ntmps31
      go_wp2
      go_ret
      exact ⟨rfl, rfl⟩
  · have e : wb n l m = false := by unfold wb; simp; omega
    rw [e]
    go_enter Tryd.func31, Tryd.ntmps31
    go_wp2
    go_ret
    exact ⟨rfl, rfl⟩

set_option maxHeartbeats 1000000 in
set_option maxRecDepth 100000 in
theorem fits_any (f t i o x st : Int) (w : World) (h1 : 1 ≤ st) (h2 : st ≤ 3000) : Calls Tryd.prog 58 #[.agg #[.int .i64 f, .int .i64 t, .int .i64 i, .int .i64 o, .int .i64 x], .int .i64 st] w fun e w' => e = .returned (.bool (arcB st (f, t, i, o, x))) ∧ Below w.heap.size w w' := by
  have ha : arcB st (f, t, i, o, x) = (wb f 0 (st - 1) && wb t 0 (st - 1) && wb i 0 60 && wb o 0 60 && wb x 0 1000000) := by
    unfold arcB wb
    rw [Bool.eq_iff_iff]
    simp only [Bool.and_eq_true, decide_eq_true_eq]
    omega
  rw [ha]
  cases q1 : wb f 0 (st - 1) <;> cases q2 : wb t 0 (st - 1) <;> cases q3 : wb i 0 60 <;> cases q4 : wb o 0 60 <;> cases q5 : wb x 0 1000000
  all_goals
    clear ha
    go_enter Tryd.func58, Tryd.ntmps58
    go_wp2_with (go_at_call 31; refine (within_any _ _ _ _).mono ?_; rintro e w' ⟨rfl, rfl⟩)
    go_ret
    exact ⟨rfl, (Below.refl _ _).alloc (Nat.le_refl _) _⟩
end Go.Proofs.YtfjocafepigijaaDoor.CkP
/- The program's Check: what it answers of any machine. No conditions. -/
namespace Go.Proofs.YtfjocafepigijaaDoor.CkP
open Go.RowKit Mv CkR Set

/-- which states are among the first k finals, as a set has them -/
def Has (fins : List (Int × Int)) (k : Nat) (ws : List Nat) : Prop := ∀ s : Nat, mem ws s = true ↔ ∃ j, ∃ hj : j < fins.length, j < k ∧ (fins[j]).1 = (s : Int)
theorem Has.step {fins : List (Int × Int)} {k : Nat} {ws : List Nat} (h : Has fins k ws) (hk : k < fins.length) (f : Nat) (hf : (fins[k]).1 = (f : Int)) (hw : f / 64 < ws.length) : Has fins (k + 1) (put ws f) := by
  intro s
  rw [mem_put ws f s hw, Bool.or_eq_true, h s, decide_eq_true_eq]
  constructor
  · rintro (⟨j, hj, hjk, e⟩ | rfl)
    · exact ⟨j, hj, by omega, e⟩
    · exact ⟨k, hk, by omega, hf⟩
  · rintro ⟨j, hj, hjk, e⟩
    rcases Nat.lt_or_ge j k with h' | h'
    · exact .inl ⟨j, hj, h', e⟩
    · obtain rfl : j = k := by omega
      exact .inr (by rw [hf] at e; omega)
theorem once_step {st : Int} {arcs : List (Int × Int × Int × Int × Int)} {fins : List (Int × Int)} {k : Nat} {ws : List Nat} (h : onceK ⟨st, arcs, fins⟩ k) (hh : Has fins k ws) (hk : k < fins.length) (f : Nat) (hf : (fins[k]).1 = (f : Int)) (hn : mem ws f = false) : onceK ⟨st, arcs, fins⟩ (k + 1) := by
  intro i j hi hj hij hjk
  rcases Nat.lt_or_ge j k with h' | h'
  · exact h i j hi hj hij h'
  · obtain rfl : j = k := by omega
    intro e
    have := (hh f).2 ⟨i, hi, hij, by show (fins[i]).1 = _; rw [show (fins[i]).1 = (fins[j]).1 from e, hf]⟩
    rw [hn] at this
    cases this
theorem once_not {st : Int} {arcs : List (Int × Int × Int × Int × Int)} {fins : List (Int × Int)} {k : Nat} {ws : List Nat} (hh : Has fins k ws) (hk : k < fins.length) (f : Nat) (hf : (fins[k]).1 = (f : Int)) (hn : mem ws f = true) : ¬ onceK ⟨st, arcs, fins⟩ fins.length := by
  intro h
  obtain ⟨j, hj, hjk, hjs⟩ := (hh f).1 hn
  exact h j k hj hk hjk hk (by show (fins[j]).1 = (fins[k]).1; rw [hjs, hf])

set_option maxHeartbeats 4000000 in
set_option maxRecDepth 100000 in
theorem small (st : Int) (arcs : List (Int × Int × Int × Int × Int)) (fins : List (Int × Int)) (aa af : Option Addr) (ca cf : Nat) (w : World) (h : sizeB ⟨st, arcs, fins⟩ = false) :
    Calls Tryd.prog 30 #[.agg #[.int .i64 st, .slice aa arcs.length ca, .slice af fins.length cf]] w fun e w' => e = .returned (.int .i64 7) ∧ Below w.heap.size w w' := by
  unfold sizeB at h
  simp only [decide_eq_false_iff_not] at h
  by_cases h1 : st < 1
  · go_enter Tryd.func30, Tryd.ntmps30
    go_wp2
    go_ret
    exact ⟨rfl, (Below.refl _ _).alloc (Nat.le_refl _) _⟩
  by_cases h2 : 3000 < st
  · clear h
    go_enter Tryd.func30, Tryd.ntmps30
    go_wp2
    go_ret
    exact ⟨rfl, (Below.refl _ _).alloc (Nat.le_refl _) _⟩
  by_cases h3 : (20000 : Int) < (arcs.length : Int)
  · clear h
    go_enter Tryd.func30, Tryd.ntmps30
    go_wp2
    go_ret
    exact ⟨rfl, (Below.refl _ _).alloc (Nat.le_refl _) _⟩
  have h4 : st < (fins.length : Int) := by omega
  clear h
  go_enter Tryd.func30, Tryd.ntmps30
  go_wp2
  go_ret
  exact ⟨rfl, (Below.refl _ _).alloc (Nat.le_refl _) _⟩

set_option maxHeartbeats 4000000 in
set_option maxRecDepth 100000 in
theorem big (st : Int) (arcs : List (Int × Int × Int × Int × Int)) (fins : List (Int × Int)) (aa af : Option Addr) (ca cf : Nat) (w : World) (h : sizeB ⟨st, arcs, fins⟩ = true)
    (hA : arcs.length = 0 ∨ ∃ b off, aa = some ⟨b, off, none⟩ ∧ b < w.heap.size ∧ ∀ j u, (acs arcs)[j]? = some u → w.cell? ⟨b, off + j, none⟩ = some u)
    (hF : fins.length = 0 ∨ ∃ b off, af = some ⟨b, off, none⟩ ∧ b < w.heap.size ∧ ∀ j u, (fcs fins)[j]? = some u → w.cell? ⟨b, off + j, none⟩ = some u) :
    Calls Tryd.prog 30 #[.agg #[.int .i64 st, .slice aa arcs.length ca, .slice af fins.length cf]] w fun e w' => (∃ x, e = .returned (.int .i64 x) ∧ checkP ⟨st, arcs, fins⟩ x) ∧ Below w.heap.size w w' := by
  have hsz := h
  unfold sizeB at hsz
  simp only [decide_eq_true_eq] at hsz
  obtain ⟨h1, h2, h3, h4⟩ := hsz
  have HS : Hid (sizeB ⟨st, arcs, fins⟩ = true) := h
  clear h
  have d1 : decide (st < 1) = false := decide_eq_false (by omega)
  have d2 : decide (3000 < st) = false := decide_eq_false (by omega)
  have d3 : decide ((20000 : Int) < (arcs.length : Int)) = false := decide_eq_false (by omega)
  have d4 : decide (st < (fins.length : Int)) = false := decide_eq_false (by omega)
  have hb0 : Below w.heap.size w (w.alloc (.cells #[.int .i64 st, .slice aa arcs.length ca, .slice af fins.length cf] 25)) := (Below.refl _ _).alloc (Nat.le_refl _) _
  go_enter Tryd.func30, Tryd.ntmps30
  go_wp2
  go_loopw [35] (fun i wr => ∃ k : Nat, i = .int .i64 k ∧ k ≤ arcs.length ∧ Below (w.heap.size + 1) (w.alloc (.cells #[.int .i64 st, .slice aa arcs.length ca, .slice af fins.length cf] 25)) wr ∧ ∀ j (hj : j < arcs.length), j < k → arcB st arcs[j] = true) (fun i _ => arcs.length - (intOf i).toNat)
  case atStart => exact ⟨0, rfl, by omega, Below.refl _ _, fun j _ h => by omega⟩
  case round =>
    obtain ⟨k, rfl, hk, hbw, hall⟩ := hrel
    have hws := hbw.size
    simp only [World.size_alloc] at hws
    have c0 : wr.cell? ⟨w.heap.size, 0, none⟩ = some (.int .i64 st) := by rw [hbw.cell (by show w.heap.size < w.heap.size + 1; omega)]; simp
    have c1 : wr.cell? ⟨w.heap.size, 1, none⟩ = some (.slice aa arcs.length ca) := by rw [hbw.cell (by show w.heap.size < w.heap.size + 1; omega)]; simp
    have c2 : wr.cell? ⟨w.heap.size, 2, none⟩ = some (.slice af fins.length cf) := by rw [hbw.cell (by show w.heap.size < w.heap.size + 1; omega)]; simp
    by_cases hlt : k < arcs.length
    · have hbx : ∃ b off, aa = some ⟨b, off, none⟩ ∧ b < w.heap.size ∧ ∀ j u, (acs arcs)[j]? = some u → wr.cell? ⟨b, off + j, none⟩ = some u := by
        rcases hA with h | ⟨b, off, e, hb, hc⟩
        · omega
        · refine ⟨b, off, e, hb, fun j u hu => ?_⟩
          rw [hbw.cell (p := ⟨b, off + j, none⟩) (by show b < _; omega), World.cell?_alloc_past _ _ _ hb]
          exact hc j u hu
      obtain ⟨b, off, rfl, hbl, hcs⟩ := hbx
      have u := acs_at arcs k hlt
      obtain ⟨f, t, i, o, x, ea⟩ : ∃ f t i o x, arcs[k] = (f, t, i, o, x) := ⟨_, _, _, _, _, rfl⟩
      rw [ea] at u
      have p0 := hcs _ _ u.1
      have p1 := hcs _ _ u.2.1
      have p2 := hcs _ _ u.2.2.1
      have p3 := hcs _ _ u.2.2.2.1
      have p4 := hcs _ _ u.2.2.2.2
      rw [← Nat.add_assoc] at p1 p2 p3 p4
      have e0 : ∀ o, (wr.alloc o).cell? ⟨w.heap.size, 0, none⟩ = some (.int .i64 st) := fun o => (World.cell?_alloc_past _ _ _ (by show w.heap.size < _; omega)).trans c0
      have hbT := hb0.trans (hbw.mono (by omega))
      clear u hcs
      cases hok : arcB st (f, t, i, o, x) with
      | true =>
        have HE : Hid (arcs[k] = (f, t, i, o, x)) := ea
        have HK : Hid (arcB st (f, t, i, o, x) = true) := hok
        clear ea hbT
        go_wp2_with (go_at_call 58; refine (fits_any _ _ _ _ _ _ _ h1 h2).mono ?_; rintro e w2 ⟨rfl, hb2⟩)
        go_roundw
        case rel =>
          refine ⟨k + 1, by go_num, by omega, (hbw.alloc (by omega) _).trans (hb2.mono (by simp; omega)), fun j hj hjk => ?_⟩
          by_cases hjk2 : j < k
          · exact hall j hj hjk2
          · obtain rfl : j = k := by omega
            rw [HE.out]
            exact HK.out
        case measure => simp [intOf]; omega
      | false =>
        have HP : Hid (checkP ⟨st, arcs, fins⟩ 3) := .inr (.inl ⟨HS.out, ⟨k, hlt, by rw [ea]; exact hok⟩, rfl⟩)
        clear ea hall hF
        go_wp2_with (go_at_call 58; refine (fits_any _ _ _ _ _ _ _ h1 h2).mono ?_; rintro e w2 ⟨rfl, hb2⟩)
        go_ret
        exact ⟨⟨3, rfl, HP.out⟩, (hbT.alloc (by omega) _).trans (hb2.mono (by simp; omega))⟩
    · have hallA : ∀ j (hj : j < arcs.length), arcB st arcs[j] = true := fun j hj => hall j hj (by omega)
      have HA : Hid (∀ j (hj : j < arcs.length), arcB st arcs[j] = true) := hallA
      clear hallA hall hA
      obtain ⟨wa, rfl⟩ : ∃ wa : World, wa = wr := ⟨_, rfl⟩
      go_wp2
      go_loopw [48] (fun i wr => ∃ k : Nat, i = .int .i64 k ∧ k ≤ fins.length ∧ Below wa.heap.size wa wr ∧ ∀ j (hj : j < fins.length), j < k → finB st fins[j] = true) (fun i _ => fins.length - (intOf i).toNat)
      case atStart => exact ⟨0, rfl, by omega, Below.refl _ _, fun j _ h => by omega⟩
      case round =>
        obtain ⟨m, rfl, hm, hbx, hallF⟩ := hrel
        have hwx := hbx.size
        have x0 : wr.cell? ⟨w.heap.size, 0, none⟩ = some (.int .i64 st) := by rw [hbx.cell (by show w.heap.size < _; omega)]; exact c0
        have x2 : wr.cell? ⟨w.heap.size, 2, none⟩ = some (.slice af fins.length cf) := by rw [hbx.cell (by show w.heap.size < _; omega)]; exact c2
        by_cases hml : m < fins.length
        · have hbq : ∃ b off, af = some ⟨b, off, none⟩ ∧ b < w.heap.size ∧ ∀ j u, (fcs fins)[j]? = some u → wr.cell? ⟨b, off + j, none⟩ = some u := by
            rcases hF with h | ⟨b, off, e, hb, hc⟩
            · omega
            · refine ⟨b, off, e, hb, fun j u hu => ?_⟩
              rw [hbx.cell (p := ⟨b, off + j, none⟩) (by show b < _; omega), hbw.cell (p := ⟨b, off + j, none⟩) (by show b < _; omega), World.cell?_alloc_past _ _ _ hb]
              exact hc j u hu
          obtain ⟨b, off, rfl, hbl, hcs⟩ := hbq
          have u := fcs_at fins m hml
          obtain ⟨f, x, ea⟩ : ∃ f x, fins[m] = (f, x) := ⟨_, _, rfl⟩
          rw [ea] at u
          have p0 := hcs _ _ u.1
          have p1 := hcs _ _ u.2
          rw [← Nat.add_assoc] at p1
          have e0 : ∀ o, (wr.alloc o).cell? ⟨w.heap.size, 0, none⟩ = some (.int .i64 st) := fun o => (World.cell?_alloc_past _ _ _ (by show w.heap.size < _; omega)).trans x0
          have hbT := (hb0.trans (hbw.mono (by omega))).trans (hbx.mono (by omega))
          clear u hcs
          have hfb : finB st (f, x) = (wb f 0 (st - 1) && wb x 0 1000000) := by
            unfold finB wb
            rw [Bool.eq_iff_iff]
            simp only [Bool.and_eq_true, decide_eq_true_eq]
            omega
          cases q1 : wb f 0 (st - 1) with
          | true =>
            cases q2 : wb x 0 1000000 with
            | true =>
              have HE : Hid (fins[m] = (f, x)) := ea
              have HK : Hid (finB st (f, x) = true) := by rw [hfb, q1, q2]; rfl
              clear ea hbT hfb
              go_wp2_with (go_at_call 31; refine (within_any _ _ _ _).mono ?_; rintro e w' ⟨rfl, rfl⟩)
              go_roundw
              case rel =>
                refine ⟨m + 1, by go_num, by omega, hbx.alloc (by omega) _, fun j hj hjk => ?_⟩
                by_cases hjk2 : j < m
                · exact hallF j hj hjk2
                · obtain rfl : j = m := by omega
                  rw [HE.out]
                  exact HK.out
              case measure => simp [intOf]; omega
            | false =>
              have hok : finB st (f, x) = false := by rw [hfb, q1, q2]; rfl
              have HP : Hid (checkP ⟨st, arcs, fins⟩ 3) := .inr (.inr (.inl ⟨HS.out, HA.out, ⟨m, hml, by rw [ea]; exact hok⟩, rfl⟩))
              clear ea hok hallF hfb
              go_wp2_with (go_at_call 31; refine (within_any _ _ _ _).mono ?_; rintro e w' ⟨rfl, rfl⟩)
              go_ret
              exact ⟨⟨3, rfl, HP.out⟩, hbT.alloc (by omega) _⟩
          | false =>
            have hok : finB st (f, x) = false := by rw [hfb, q1]; rfl
            have HP : Hid (checkP ⟨st, arcs, fins⟩ 3) := .inr (.inr (.inl ⟨HS.out, HA.out, ⟨m, hml, by rw [ea]; exact hok⟩, rfl⟩))
            clear ea hok hallF hfb
            go_wp2_with (go_at_call 31; refine (within_any _ _ _ _).mono ?_; rintro e w' ⟨rfl, rfl⟩)
            go_ret
            exact ⟨⟨3, rfl, HP.out⟩, hbT.alloc (by omega) _⟩
        · have hallG : ∀ j (hj : j < fins.length), finB st fins[j] = true := fun j hj => hallF j hj (by omega)
          have HG : Hid (∀ j (hj : j < fins.length), finB st fins[j] = true) := hallG
          clear hallF hallG
          obtain ⟨wb, rfl⟩ : ∃ wb : World, wb = wr := ⟨_, rfl⟩
          obtain ⟨n, rfl⟩ : ∃ n : Nat, st = (n : Int) := ⟨st.toNat, by omega⟩
          go_wp2_with (go_at_call 59; refine (new_any n _ (by omega)).mono ?_; rintro e wc ⟨v, ws0, rfl, hset0, hmem0, hbc⟩; have z2 : wc.cell? ⟨w.heap.size, 2, none⟩ = some (.slice af fins.length cf) := (hbc.cell (p := ⟨w.heap.size, 2, none⟩) (by show w.heap.size < _; omega)).trans x2)
          go_loopw [72] (fun i wr => ∃ (k : Nat) (ws : List Nat), i = .int .i64 k ∧ k ≤ fins.length ∧ Below wb.heap.size wb wr ∧ IsSet wr wb.heap.size v n ws ∧ Has fins k ws ∧ onceK ⟨(n : Int), arcs, fins⟩ k) (fun i _ => fins.length - (intOf i).toNat)
          case atStart => exact ⟨0, ws0, rfl, by omega, hbc, hset0, fun s => by rw [hmem0 s]; simp, fun i j hi hj h1 h2 => by omega⟩
          case round =>
            clear hbc hset0 hmem0
            obtain ⟨q, ws, rfl, hq, hby, hset, hhad, honce⟩ := hrel
            have hwy := hby.size
            have y0 : wr.cell? ⟨w.heap.size, 0, none⟩ = some (.int .i64 (n : Int)) := by rw [hby.cell (by show w.heap.size < _; omega)]; exact x0
            have hbT := ((hb0.trans (hbw.mono (by omega))).trans (hbx.mono (by omega))).trans (hby.mono (by omega))
            by_cases hql : q < fins.length
            · have hbq : ∃ b off, af = some ⟨b, off, none⟩ ∧ b < w.heap.size ∧ ∀ j u, (fcs fins)[j]? = some u → wr.cell? ⟨b, off + j, none⟩ = some u := by
                rcases hF with h | ⟨b, off, e, hb, hc⟩
                · omega
                · refine ⟨b, off, e, hb, fun j u hu => ?_⟩
                  rw [hby.cell (p := ⟨b, off + j, none⟩) (by show b < _; omega), hbx.cell (p := ⟨b, off + j, none⟩) (by show b < _; omega), hbw.cell (p := ⟨b, off + j, none⟩) (by show b < _; omega), World.cell?_alloc_past _ _ _ hb]
                  exact hc j u hu
              obtain ⟨b, off, rfl, hbl, hcs⟩ := hbq
              have u := fcs_at fins q hql
              have hfb := HG.out q hql
              unfold finB at hfb
              simp only [decide_eq_true_eq] at hfb
              obtain ⟨f, ef⟩ : ∃ f : Nat, fins[q].1 = (f : Int) := ⟨(fins[q].1).toNat, by omega⟩
              obtain ⟨x, ex⟩ : ∃ x, fins[q].2 = x := ⟨_, rfl⟩
              rw [ef] at u hfb
              rw [ex] at u
              have p0 := hcs _ _ u.1
              have p1 := hcs _ _ u.2
              rw [← Nat.add_assoc] at p1
              have hfn : f < n := by omega
              have hfw : f / 64 < ws.length := by have := hset.2.2.1; omega
              have hset2 : ∀ o, IsSet (wr.alloc o) wb.heap.size v n ws := fun o => ⟨hset.1.alloc o, hset.2⟩
              have HF1 : Hid (fins[q].1 = (f : Int)) := ef
              have HH : Hid (Has fins q ws) := hhad
              have HO : Hid (onceK ⟨(n : Int), arcs, fins⟩ q) := honce
              clear u hcs ef ex hfb hhad honce hF
              cases hsf : mem ws f with
              | true =>
                have HP : Hid (checkP ⟨(n : Int), arcs, fins⟩ 6) := .inr (.inr (.inr (.inl ⟨HS.out, HA.out, HG.out, once_not HH.out hql f HF1.out hsf, rfl⟩)))
                go_wp2_with (go_at_call 60; refine (add_any wb.heap.size v n f ws _ (hset2 _) hfn (by omega)).mono ?_; rintro e w2 ⟨rfl, hs2, hg2⟩)
                go_ret
                exact ⟨⟨6, rfl, HP.out⟩, (hbT.alloc (by omega) _).grown hg2 (by simp; omega) (fun j hj => by have := (hset.1.lt j hj).1; omega)⟩
              | false =>
                go_wp2_with (go_at_call 60; refine (add_any wb.heap.size v n f ws _ (hset2 _) hfn (by omega)).mono ?_; rintro e w2 ⟨rfl, hs2, hg2⟩)
                go_roundw
                case rel => exact ⟨q + 1, put ws f, by go_num, by omega, (hby.alloc hwy _).grown hg2 (by simp; omega) (fun j hj => (hset.1.lt j hj).1), hs2, Has.step HH.out hql f HF1.out hfw, once_step HO.out HH.out hql f HF1.out hsf⟩
                case measure => simp [intOf]; omega
            · have hon : onceK ⟨(n : Int), arcs, fins⟩ fins.length := by
                obtain rfl : q = fins.length := by omega
                exact honce
              have HP : Hid (checkP ⟨(n : Int), arcs, fins⟩ 0) := .inr (.inr (.inr (.inr ⟨HS.out, HA.out, HG.out, hon, rfl⟩)))
              clear hon hhad honce hF
              go_wp2
              go_ret
              exact ⟨⟨0, rfl, HP.out⟩, hbT⟩

/-- THE PROGRAM's Check -/
theorem check_any (m : M) (v : Value) (w : World) (h : IsM w v m) : Calls Tryd.prog 30 #[v] w fun e w' => (∃ x, e = .returned (.int .i64 x) ∧ checkP m x) ∧ Below w.heap.size w w' := by
  obtain ⟨st, arcs, fins⟩ := m
  obtain ⟨va, vf, rfl, ⟨_, aa, ca, rfl, _, hA⟩, ⟨_, af, cf, rfl, _, hF⟩⟩ := h
  cases hs : sizeB ⟨st, arcs, fins⟩ with
  | true => exact big st arcs fins aa af ca cf w hs hA hF
  | false =>
    refine (small st arcs fins aa af ca cf w hs).mono ?_
    rintro e w' ⟨rfl, hb⟩
    exact ⟨⟨7, rfl, size_no hs⟩, hb⟩
end Go.Proofs.YtfjocafepigijaaDoor.CkP
