/- Texts of symbols: the program's areSymbols, the document's SymbolsFault; few. Condition: a text is not longer than 61, or what it is handed. -/
import Derived.Test.YtfjocafepigijaaDoorCkP2M
import Derived.Test.YtfjocafepigijaaDoorCkRM
import Derived.Test.YtfjocafepigijaaDoorTdM
namespace Go.Proofs.YtfjocafepigijaaDoor.Sy
open Go.RowKit Mv

def okS (s : Int) : Bool := decide (1 ≤ s ∧ s ≤ 60)
/-- the program's word on a text -/
def allS (l : List Int) : Bool := l.all okS
/-- the document's word on a text -/
def flt (l : List Int) : Int := if 60 < l.length then 2 else if allS l then 0 else 3
def ints (l : List Int) : List Value := l.map (Value.int .i64)
abbrev IsI (w : World) (v : Value) (l : List Int) : Prop := Mv.Row w v 1 l.length (ints l)
theorem ints_at {l : List Int} {k : Nat} (h : k < l.length) : (ints l)[k]? = some (.int .i64 l[k]) := by
  unfold ints
  simp [h]
theorem allS_false {l : List Int} {k : Nat} (h : k < l.length) (hb : okS l[k] = false) : allS l = false := by
  unfold allS
  rw [List.all_eq_false]
  exact ⟨l[k], List.getElem_mem h, by rw [hb]; decide⟩
theorem allS_true {l : List Int} (h : ∀ k (h : k < l.length), okS l[k] = true) : allS l = true := by
  unfold allS
  rw [List.all_eq_true]
  intro x hx
  obtain ⟨k, hk, rfl⟩ := List.getElem_of_mem hx
  exact h k hk

set_option maxHeartbeats 1000000 in
set_option maxRecDepth 100000 in
theorem are_any (l : List Int) (v : Value) (w : World) (h : IsI w v l) (hl : l.length ≤ 61) : Calls Tryd.prog 32 #[v] w fun e w' => e = .returned (.bool (allS l)) ∧ Below w.heap.size w w' := by
  obtain ⟨_, a, cap, rfl, _, hc⟩ := h
  have HC : Hid (l.length = 0 ∨ ∃ b off, a = some ⟨b, off, none⟩ ∧ b < w.heap.size ∧ ∀ j u, (ints l)[j]? = some u → w.cell? ⟨b, off + j, none⟩ = some u) := hc
  clear hc
  go_enter Tryd.func32, Tryd.ntmps32
  go_wp2
  go_loopw [7] (fun i wr => ∃ k : Nat, i = .int .i64 k ∧ k ≤ l.length ∧ Below w.heap.size w wr ∧ ∀ j (h : j < l.length), j < k → okS l[j] = true) (fun i _ => l.length - (intOf i).toNat)
  case atStart => exact ⟨0, rfl, Nat.zero_le _, Below.refl _ _, fun j _ h => by omega⟩
  case round =>
    obtain ⟨k, rfl, hk, hb, hok⟩ := hrel
    by_cases hlt : k < l.length
    · obtain ⟨b, off, rfl, hbl, hcs⟩ := HC.out.resolve_left (by omega)
      have c1 : wr.cell? ⟨b, off + k, none⟩ = some (.int .i64 l[k]) := (hb.cell hbl).trans (hcs k _ (ints_at hlt))
      obtain ⟨s, hs⟩ : ∃ s, l[k] = s := ⟨_, rfl⟩
      rw [hs] at c1
      have HS : Hid (l[k] = s) := hs
      have HB : Hid (Below w.heap.size w wr) := hb
      have HOK : Hid (∀ j (h : j < l.length), j < k → okS l[j] = true) := hok
      clear hs hb hok
      by_cases h1 : 1 ≤ s
      · by_cases h2 : s ≤ 60
        · go_wp2
          go_roundw
          case rel =>
            refine ⟨k + 1, by go_num, by omega, by first | exact HB.out | exact HB.out.drew, fun j hj hjk => ?_⟩
            by_cases e : j = k
            · subst e; rw [HS.out]; unfold okS; simp [h1, h2]
            · exact HOK.out j hj (by omega)
          case measure => simp [intOf]; omega
        · have hf : Hid (allS l = false) := allS_false hlt (by rw [HS.out]; unfold okS; simp; omega)
          go_wp2
          go_ret
          exact ⟨(by rw [hf.out]; rfl), HB.out⟩
      · have hf : Hid (allS l = false) := allS_false hlt (by rw [HS.out]; unfold okS; simp; omega)
        go_wp2
        go_ret
        exact ⟨(by rw [hf.out]; rfl), HB.out⟩
    · have ht : Hid (allS l = true) := allS_true (fun j hj => hok j hj (by omega))
      clear hok
      go_wp2
      go_ret
      exact ⟨(by rw [ht.out]; rfl), hb⟩

/-- what is wrong with two texts -/
def jn (a b : List Int) : Int := if flt a = 2 ∨ flt b = 2 then 2 else if flt a ≠ 0 then flt a else flt b
def fewB (m : M) : Bool := decide (m.st ≤ 40 ∧ (m.arcs.length : Int) ≤ 120 ∧ (m.fins.length : Int) ≤ 40)
set_option maxHeartbeats 1000000 in
theorem few_any (m : M) (v : Value) (w : World) (h : IsM w v m) : Calls Tryd.prog 8 #[v] w fun e w' => e = .returned (.bool (fewB m)) ∧ Below w.heap.size w w' := by
  obtain ⟨st, arcs, fins⟩ := m
  obtain ⟨va, vf, rfl, ⟨_, aa, ca, rfl, ha, _⟩, ⟨_, af, cf, rfl, hf, _⟩⟩ := h
  dsimp only at ha hf ⊢
  have hb := fun o => (Below.refl w.heap.size w).alloc (Nat.le_refl _) o
  go_enter Tryd.func8, Tryd.ntmps8
  by_cases h1 : st ≤ 40
  · by_cases h2 : (arcs.length : Int) ≤ 120
    · by_cases h3 : (fins.length : Int) ≤ 40
      · have e : Hid (fewB ⟨st, arcs, fins⟩ = true) := decide_eq_true ⟨h1, h2, h3⟩
        go_wp2
        repeat (go_quiet (fail); go_wp2)
        go_ret
        exact ⟨(by rw [e.out]; rfl), by first | exact hb _ | exact below_drewN (hb _) _⟩
      · have e : Hid (fewB ⟨st, arcs, fins⟩ = false) := decide_eq_false (fun h => h3 h.2.2)
        go_wp2
        repeat (go_quiet (fail); go_wp2)
        go_ret
        exact ⟨(by rw [e.out]; rfl), by first | exact hb _ | exact below_drewN (hb _) _⟩
    · have e : Hid (fewB ⟨st, arcs, fins⟩ = false) := decide_eq_false (fun h => h2 h.2.1)
      go_wp2
      repeat (go_quiet (fail); go_wp2)
      go_ret
      exact ⟨(by rw [e.out]; rfl), by first | exact hb _ | exact below_drewN (hb _) _⟩
  · have e : Hid (fewB ⟨st, arcs, fins⟩ = false) := decide_eq_false (fun h => h1 h.1)
    go_wp2
    repeat (go_quiet (fail); go_wp2)
    go_ret
    exact ⟨(by rw [e.out]; rfl), by first | exact hb _ | exact below_drewN (hb _) _⟩
end Go.Proofs.YtfjocafepigijaaDoor.Sy
/- Same: of any two lists. Condition: the first is not longer than a million. -/
namespace Go.Proofs.YtfjocafepigijaaDoor.Gc
open Go.RowKit Mv Sy

set_option maxHeartbeats 1000000 in
set_option maxRecDepth 100000 in
theorem same_any (a b : List Int) (va vb : Value) (w : World) (ha : IsI w va a) (hb : IsI w vb b) (hl : a.length ≤ 1000000) : Calls Tryd.prog 26 #[va, vb] w fun e w' => e = .returned (.bool (decide (a = b))) ∧ Below w.heap.size w w' := by
  obtain ⟨_, aa, ca, rfl, _, hA⟩ := ha
  obtain ⟨_, ab, cb, rfl, hnb, hB⟩ := hb
  have HA : Hid (a.length = 0 ∨ ∃ b off, aa = some ⟨b, off, none⟩ ∧ b < w.heap.size ∧ ∀ j u, (ints a)[j]? = some u → w.cell? ⟨b, off + j, none⟩ = some u) := hA
  have HB : Hid (b.length = 0 ∨ ∃ c off, ab = some ⟨c, off, none⟩ ∧ c < w.heap.size ∧ ∀ j u, (ints b)[j]? = some u → w.cell? ⟨c, off + j, none⟩ = some u) := hB
  clear hA hB
  by_cases hlen : a.length = b.length
  · have hlb : b.length ≤ 1000000 := by omega
    have HL : Hid (a.length = b.length) := hlen
    have e0 : ((a.length : Int) != (b.length : Int)) = false := by rw [hlen]; simp
    clear hlen hnb
    go_enter Tryd.func26, Tryd.ntmps26
    go_wp2
    go_loopw [5] (fun i wr => ∃ k : Nat, i = .int .i64 k ∧ k ≤ a.length ∧ Below w.heap.size w wr ∧ ∀ j, j < k → a[j]? = b[j]?) (fun i _ => a.length - (intOf i).toNat)
    case atStart => exact ⟨0, rfl, Nat.zero_le _, Below.refl _ _, fun j h => by omega⟩
    case round =>
      obtain ⟨k, rfl, hk, hbw, hok⟩ := hrel
      have HK : Hid (∀ j, j < k → a[j]? = b[j]?) := hok
      clear hok
      by_cases hlt : k < a.length
      · have hltb : k < b.length := by have := HL.out; omega
        obtain ⟨g, off, rfl, hbl, hcs⟩ := HA.out.resolve_left (by omega)
        obtain ⟨h, off', rfl, hbl', hcs'⟩ := HB.out.resolve_left (by omega)
        obtain ⟨x, hx⟩ : ∃ x, a[k] = x := ⟨_, rfl⟩
        obtain ⟨y, hy⟩ : ∃ y, b[k] = y := ⟨_, rfl⟩
        have c1 : wr.cell? ⟨g, off + k, none⟩ = some (.int .i64 x) := by rw [← hx]; exact (hbw.cell hbl).trans (hcs k _ (ints_at hlt))
        have c2 : wr.cell? ⟨h, off' + k, none⟩ = some (.int .i64 y) := by rw [← hy]; exact (hbw.cell hbl').trans (hcs' k _ (ints_at hltb))
        have HX : Hid (a[k]? = some x ∧ b[k]? = some y) := ⟨by rw [List.getElem?_eq_getElem hlt, hx], by rw [List.getElem?_eq_getElem hltb, hy]⟩
        have HW : Hid (Below w.heap.size w wr) := hbw
        clear hx hy hbw
        by_cases hxy : x = y
        · subst hxy
          have e1 : (x != x) = false := by simp
          go_wp2
          repeat (go_quiet (fail); go_wp2)
          go_roundw
          case rel =>
            refine ⟨k + 1, by go_num, hlt, by first | exact HW.out | exact below_drewN HW.out _, fun j hj => ?_⟩
            by_cases e : j = k
            · subst e; rw [HX.out.1, HX.out.2]
            · exact HK.out j (by omega)
          case measure => simp [intOf]; omega
        · have e1 : (x != y) = true := by simpa using hxy
          have HN : Hid (decide (a = b) = false) := decide_eq_false (fun e => by
            have h1 := HX.out.1
            rw [e, HX.out.2] at h1
            exact hxy (Option.some.inj h1).symm)
          go_wp2
          repeat (go_quiet (fail); go_wp2)
          go_ret
          exact ⟨by rw [HN.out]; rfl, by first | exact HW.out | exact below_drewN HW.out _⟩
      · have HT : Hid (decide (a = b) = true) := decide_eq_true (List.ext_getElem? fun j => by
          by_cases h : j < k
          · exact HK.out j h
          · have := HL.out
            rw [List.getElem?_eq_none (by omega), List.getElem?_eq_none (by omega)])
        go_wp2
        go_ret
        exact ⟨by rw [HT.out]; rfl, hbw⟩
  · have e0 : ((a.length : Int) != (b.length : Int)) = true := by simp; omega
    have HN : Hid (decide (a = b) = false) := decide_eq_false (fun e => hlen (by rw [e]))
    go_enter Tryd.func26, Tryd.ntmps26
    go_wp2
    go_ret
    exact ⟨by rw [HN.out]; rfl, Below.refl _ _⟩
end Go.Proofs.YtfjocafepigijaaDoor.Gc
