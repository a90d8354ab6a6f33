/- Texts of symbols: the program's areSymbols, the document's SymbolsFault; few. Condition: a text is not longer than 61, or what it is handed. -/
import Derived.Test.YtfjocafepigijaaDoorCkP2M
import Derived.Test.YtfjocafepigijaaDoorCaM
import Derived.Test.YtfjocafepigijaaDoorTdM
namespace Go.Proofs.YtfjocafepigijaaDoor.Sy
open Go.RowKit Mv

def okS (s : Int) : Bool := decide (1 ≤ s ∧ s ≤ 60)
/-- the program's word on a text -/
def allS (l : List Int) : Bool := l.all okS
/-- the document's word on a text -/
def flt (l : List Int) : Int := if 60 < l.length then 2 else if allS l then 0 else 3
def ints (l : List Int) : List Value := l.map (Value.int .i64)
abbrev IsI (w : World) (v : Value) (l : List Int) : Prop := Mv.Row w v 1 l.length (ints l)
theorem ints_at {l : List Int} {k : Nat} (h : k < l.length) : (ints l)[k]? = some (.int .i64 l[k]) := by
  unfold ints
  simp [h]
theorem allS_false {l : List Int} {k : Nat} (h : k < l.length) (hb : okS l[k] = false) : allS l = false := by
  unfold allS
  rw [List.all_eq_false]
  exact ⟨l[k], List.getElem_mem h, by rw [hb]; decide⟩
theorem allS_true {l : List Int} (h : ∀ k (h : k < l.length), okS l[k] = true) : allS l = true := by
  unfold allS
  rw [List.all_eq_true]
  intro x hx
  obtain ⟨k, hk, rfl⟩ := List.getElem_of_mem hx
  exact h k hk

set_option maxHeartbeats 1000000 in
set_option maxRecDepth 100000 in
theorem are_any (l : List Int) (v : Value) (w : World) (h : IsI w v l) (hl : l.length ≤ 61) : Calls Tryd.prog 32 #[v] w fun e w' => e = .returned (.bool (allS l)) ∧ Below w.heap.size w w' := by
  obtain ⟨_, a, cap, rfl, _, hc⟩ := h
  have HC : Hid (l.length = 0 ∨ ∃ b off, a = some ⟨b, off, none⟩ ∧ b < w.heap.size ∧ ∀ j u, (ints l)[j]? = some u → w.cell? ⟨b, off + j, none⟩ = some u) := hc
  clear hc
  go_enter Tryd.func32, Tryd.ntmps32
  go_wp2
  go_loopw [7] (fun i wr => ∃ k : Nat, i = .int .i64 k ∧ k ≤ l.length ∧ Below w.heap.size w wr ∧ ∀ j (h : j < l.length), j < k → okS l[j] = true) (fun i _ => l.length - (intOf i).toNat)
  case atStart => exact ⟨0, rfl, Nat.zero_le _, Below.refl _ _, fun j _ h => by omega⟩
  case round =>
    obtain ⟨k, rfl, hk, hb, hok⟩ := hrel
    by_cases hlt : k < l.length
    · obtain ⟨b, off, rfl, hbl, hcs⟩ := HC.out.resolve_left (by omega)
      have c1 : wr.cell? ⟨b, off + k, none⟩ = some (.int .i64 l[k]) := (hb.cell hbl).trans (hcs k _ (ints_at hlt))
      obtain ⟨s, hs⟩ : ∃ s, l[k] = s := ⟨_, rfl⟩
      rw [hs] at c1
      have HS : Hid (l[k] = s) := hs
      have HB : Hid (Below w.heap.size w wr) := hb
      have HOK : Hid (∀ j (h : j < l.length), j < k → okS l[j] = true) := hok
      clear hs hb hok
      by_cases h1 : 1 ≤ s
      · by_cases h2 : s ≤ 60
        · go_wp2
          go_roundw
          case rel =>
            refine ⟨k + 1, by go_num, by omega, by first | exact HB.out | exact HB.out.drew, fun j hj hjk => ?_⟩
            by_cases e : j = k
            · subst e; rw [HS.out]; unfold okS; simp [h1, h2]
            · exact HOK.out j hj (by omega)
          case measure => simp [intOf]; omega
        · have hf : Hid (allS l = false) := allS_false hlt (by rw [HS.out]; unfold okS; simp; omega)
          go_wp2
          go_ret
          exact ⟨(by rw [hf.out]; rfl), HB.out⟩
      · have hf : Hid (allS l = false) := allS_false hlt (by rw [HS.out]; unfold okS; simp; omega)
        go_wp2
        go_ret
        exact ⟨(by rw [hf.out]; rfl), HB.out⟩
    · have ht : Hid (allS l = true) := allS_true (fun j hj => hok j hj (by omega))
      clear hok
      go_wp2
      go_ret
      exact ⟨(by rw [ht.out]; rfl), hb⟩

/-- what is wrong with two texts -/
def jn (a b : List Int) : Int := if flt a = 2 ∨ flt b = 2 then 2 else if flt a ≠ 0 then flt a else flt b
def fewB (m : M) : Bool := decide (m.st ≤ 40 ∧ (m.arcs.length : Int) ≤ 120 ∧ (m.fins.length : Int) ≤ 40)
set_option maxHeartbeats 1000000 in
theorem few_any (m : M) (v : Value) (w : World) (h : IsM w v m) : Calls Tryd.prog 8 #[v] w fun e w' => e = .returned (.bool (fewB m)) ∧ Below w.heap.size w w' := by
  obtain ⟨st, arcs, fins⟩ := m
  obtain ⟨va, vf, rfl, ⟨_, aa, ca, rfl, ha, _⟩, ⟨_, af, cf, rfl, hf, _⟩⟩ := h
  dsimp only at ha hf ⊢
  have hb := fun o => (Below.refl w.heap.size w).alloc (Nat.le_refl _) o
  go_enter Tryd.func8, Tryd.ntmps8
  by_cases h1 : st ≤ 40
  · by_cases h2 : (arcs.length : Int) ≤ 120
    · by_cases h3 : (fins.length : Int) ≤ 40
      · have e : Hid (fewB ⟨st, arcs, fins⟩ = true) := decide_eq_true ⟨h1, h2, h3⟩
        go_wp2
        repeat (go_quiet (fail); go_wp2)
        go_ret
        exact ⟨(by rw [e.out]; rfl), by first | exact hb _ | exact below_drewN (hb _) _⟩
      · have e : Hid (fewB ⟨st, arcs, fins⟩ = false) := decide_eq_false (fun h => h3 h.2.2)
        go_wp2
        repeat (go_quiet (fail); go_wp2)
        go_ret
        exact ⟨(by rw [e.out]; rfl), by first | exact hb _ | exact below_drewN (hb _) _⟩
    · have e : Hid (fewB ⟨st, arcs, fins⟩ = false) := decide_eq_false (fun h => h2 h.2.1)
      go_wp2
      repeat (go_quiet (fail); go_wp2)
      go_ret
      exact ⟨(by rw [e.out]; rfl), by first | exact hb _ | exact below_drewN (hb _) _⟩
  · have e : Hid (fewB ⟨st, arcs, fins⟩ = false) := decide_eq_false (fun h => h1 h.1)
    go_wp2
    repeat (go_quiet (fail); go_wp2)
    go_ret
    exact ⟨(by rw [e.out]; rfl), by first | exact hb _ | exact below_drewN (hb _) _⟩
end Go.Proofs.YtfjocafepigijaaDoor.Sy
