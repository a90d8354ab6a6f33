/- The program's units: a text's units as strings, at most 200. No conditions. -/
import Derived.Test.YtiiheaopamjijaaRw
namespace Go.Proofs.Ytiiheaopamjijaa.Un
open Go.RowKit Uni UnitsP Rw

theorem info9 : (Try.prog.info? 9).map (fun i => (i.zero, i.size, i.bytes)) = some (some (.string ByteArray.empty), 1, 16) := by kernel_rfl
theorem own_open {w : World} {base : Nat} {e : TypeId} {size : Nat} {v : Value} {n : Nat} {xs : List Value} (h : w.ownsRow base e size v n xs) (hn : 0 < n) :
    ∃ g cap, v = .slice (some ⟨g, 0, none⟩) n cap ∧ base ≤ g ∧ g < w.heap.size ∧ n ≤ cap ∧ ∀ j u, xs[j]? = some u → w.cell? ⟨g, j, none⟩ = some u := by
  rcases h.2 with ⟨rfl, rfl⟩ | ⟨g, cap, cur, rfl, hb, hg, hnc, _⟩
  · omega
  · refine ⟨g, cap, rfl, hb, (Array.getElem?_eq_some_iff.1 hg).1, hnc, ?_⟩
    intro j u hu
    have := h.cells (g := g) rfl j u hu
    have e : (⟨g, 0, none⟩ : Addr).add j = ⟨g, j, none⟩ := by unfold Addr.add; split <;> simp_all
    rwa [e] at this

theorem own_none {w : World} {base : Nat} {e : TypeId} {size : Nat} {v : Value} {n : Nat} {xs : List Value} (h : w.ownsRow base e size v n xs) : ∃ a cap, v = .slice a n cap := by
  rcases h.2 with ⟨rfl, rfl⟩ | ⟨g, cap, cur, rfl, _⟩
  · exact ⟨none, 0, rfl⟩
  · exact ⟨_, cap, rfl⟩
/-- the list when k of it have been laid -/
def made (l : List ByteArray) (k : Nat) : List Value := strs (l.take k) ++ List.replicate (l.length - k) (.string ByteArray.empty)
theorem made_zero (l : List ByteArray) : made l 0 = List.replicate l.length (.string ByteArray.empty) := by simp [made, strs]
theorem made_all (l : List ByteArray) : made l l.length = strs l := by simp [made]
theorem made_set (l : List ByteArray) (k : Nat) (h : k < l.length) : (made l k).set k (.string l[k]) = made l (k + 1) := by
  unfold made strs
  have e : l.length - k = (l.length - (k + 1)) + 1 := by omega
  rw [e, List.replicate_succ, List.set_append_right _ _ (by simp; omega)]
  rw [List.length_map, List.length_take, Nat.min_eq_left (Nat.le_of_lt h), Nat.sub_self, List.set_cons_zero, List.take_add_one, List.getElem?_eq_getElem h, List.map_append, List.append_assoc]
  rfl

set_option maxHeartbeats 1000000 in
set_option maxRecDepth 100000 in
theorem units_long (s : ByteArray) (w : World) (hs : 800 < s.size) :
    Calls Try.prog 16 #[.string s] w fun e w' => e = .returned (.tuple #[.slice none 0 0, .bool false]) ∧ Below w.heap.size w w' := by
  go_enter Try.func16, Try.ntmps16
  go_wp2
  go_ret2
  exact ⟨rfl, Below.refl _ _⟩
set_option maxHeartbeats 1000000 in
set_option maxRecDepth 100000 in
theorem units_many (s : ByteArray) (w : World) (hs : s.size ≤ 800) (hn : 200 < (units s).length) :
    Calls Try.prog 16 #[.string s] w fun e w' => e = .returned (.tuple #[.slice none 0 0, .bool false]) ∧ Below w.heap.size w w' := by
  have hul := units_length s
  have c := fun W => UnitsP.units_any s W (by omega)
  go_enter Try.func16, Try.ntmps16
  go_wp2_with (go_at_call 26; refine (c _).mono ?_; rintro e w1 ⟨v, rfl, hown, hb⟩; obtain ⟨g, cap, rfl, hg⟩ := own_open hown (by omega); clear hg)
  go_ret2
  exact ⟨rfl, hb⟩
set_option maxHeartbeats 1000000 in
set_option maxRecDepth 100000 in
theorem units_few (s : ByteArray) (w : World) (hs : s.size ≤ 800) (hn : (units s).length ≤ 200) (hn0 : 0 < (units s).length) :
    Calls Try.prog 16 #[.string s] w fun e w' => ∃ v, e = .returned (.tuple #[v, .bool true]) ∧ IsZ w' v (tx s) ∧ Below w.heap.size w w' := by
  have c := fun W => UnitsP.units_any s W (by omega)
  obtain ⟨i9, hi9, hz90, hz91, hz92⟩ := info_parts info9
  go_enter Try.func16, Try.ntmps16
  go_wp2_with (first
   | (go_at_call 26; refine (c _).mono ?_; rintro e w1 ⟨v, rfl, hown, hb⟩; obtain ⟨g, cap, rfl, hgb, hgl, hcap, hcs⟩ := own_open hown hn0)
   | (at_make; refine wpList_make_full _ rfl _ _ 28 rfl w1.heap.size 9 i9 (.string ByteArray.empty) 1 Try.underlying28 hi9 hz90 hz91 .i64 .i64 _ _ (units s).length rfl rfl rfl rfl (by rw [hz92]; omega) (by unfold maxLen; omega) (Nat.le_refl _) ?_; intro w2 hown2 hgrow2))
  have hb12 : Below w1.heap.size w1 w2 := (Below.refl _ w1).grown hgrow2 (Nat.le_refl _) (by simp)
  have hown0 : w2.ownsRow w1.heap.size 9 1 (.slice (some ⟨w1.heap.size, 0, none⟩) (units s).length (units s).length) (units s).length (made (tx s) 0) := by
    have e2 : (madeCells (Value.cells (.string ByteArray.empty)) ((units s).length * 1)).toList = List.replicate (units s).length (.string ByteArray.empty) := by
      rw [Nat.mul_one]
      exact toList_madeCells_one _ _
    rw [made_zero, tx_length, ← e2]
    exact hown2
  clear hown2 hgrow2 hown c hi9 hz90 hz91 hz92
  go_loopw [21] (fun i wr => ∃ k : Nat, i = .int .i64 k ∧ k ≤ (units s).length ∧ wr.ownsRow w1.heap.size 9 1 (.slice (some ⟨w1.heap.size, 0, none⟩) (units s).length (units s).length) (units s).length (made (tx s) k) ∧ Below w1.heap.size w1 wr) (fun i _ => (units s).length - (intOf i).toNat)
  case atStart => exact ⟨0, rfl, by omega, hown0, hb12⟩
  case round =>
    obtain ⟨k, rfl, hk, hown, hbw⟩ := hrel
    by_cases hlt : k < (units s).length
    · have u := ucs_at (units s) k hlt
      have p1 := (hbw.cell (p := ⟨g, k * 3, none⟩) hgl).trans (hcs _ _ u.1)
      have p2 := (hbw.cell (p := ⟨g, k * 3 + 1, none⟩) hgl).trans (hcs _ _ u.2.1)
      have p3 := (hbw.cell (p := ⟨g, k * 3 + 2, none⟩) hgl).trans (hcs _ _ u.2.2)
      have f0 := fun o => (hown.alloc o).frozenAt k
      have hml : k < (made (tx s) k).length := by
        have := hown.1
        omega
      have c0 := fun o => ((hown.alloc o).cellAt k (by omega)).trans (List.getElem?_eq_getElem hml)
      have hin := units_in s k hlt
      have hsz := hbw.size
      clear u
      go_wp2
      have hst := (hown.alloc (.cells #[.int .i64 ((units s)[k]).1, .int .i64 ((units s)[k]).2.1, .int .i64 ((units s)[k]).2.2] 45)).stored k (.string (sub s (units s)[k]))
      have hkt : k < (tx s).length := by rw [tx_length]; exact hlt
      have e1 : sub s (units s)[k] = (tx s)[k] := by simp [tx]
      rw [e1, made_set _ _ hkt] at hst
      refine ⟨⟨k + 1, by simp, by omega, ?_, ?_⟩, ?_⟩
      · rw [← e1] at hst
        exact hst.1
      · exact (hbw.alloc hsz _).setCell (Nat.le_refl _) _
      · simp [intOf]
        omega
    · go_wp2
      go_ret2
      have : k = (units s).length := by omega
      subst this
      refine ⟨_, rfl, ?_, hb.trans (hbw.mono hb.size)⟩
      have hr : Row wr (.slice (some ⟨w1.heap.size, 0, none⟩) (units s).length (units s).length) 1 (tx s).length (strs (tx s)) := by
        rw [← made_all (tx s), tx_length]
        exact row_of_own hown (by omega)
      exact hr
set_option maxHeartbeats 1000000 in
set_option maxRecDepth 100000 in
theorem units_none (s : ByteArray) (w : World) (hs : s.size ≤ 800) (hn : (units s).length = 0) :
    Calls Try.prog 16 #[.string s] w fun e w' => ∃ v, e = .returned (.tuple #[v, .bool true]) ∧ IsZ w' v (tx s) ∧ Below w.heap.size w w' := by
  have c := fun W => UnitsP.units_any s W (by omega)
  obtain ⟨i9, hi9, hz90, hz91, hz92⟩ := info_parts info9
  have ht : tx s = [] := List.eq_nil_of_length_eq_zero (by rw [tx_length]; exact hn)
  rw [ht]
  simp only [hn] at c
  go_enter Try.func16, Try.ntmps16
  go_wp2_with (first
   | (go_at_call 26; refine (c _).mono ?_; rintro e w1 ⟨v, rfl, hown, hb⟩; obtain ⟨a, cap, rfl⟩ := own_none hown)
   | (at_make; refine wpList_make_full _ rfl _ _ 28 rfl w1.heap.size 9 i9 (.string ByteArray.empty) 1 Try.underlying28 hi9 hz90 hz91 .i64 .i64 _ _ 0 rfl rfl rfl rfl (by omega) (by unfold maxLen; omega) (Nat.le_refl _) ?_; intro w2 hown2 hgrow2))
  have hb12 : Below w1.heap.size w1 w2 := (Below.refl _ w1).grown hgrow2 (Nat.le_refl _) (by simp)
  refine wp_loop_rounds 1 ?_
  rw [rounds_succ]
  go_wp2
  go_ret2
  exact ⟨_, rfl, ⟨rfl, _, _, rfl, Nat.le_refl _, Nat.zero_le _, (fun h => by cases h), .inl rfl⟩, hb.trans (hb12.mono hb.size)⟩

/-- units of any text -/
theorem units_any (s : ByteArray) (w : World) :
    Calls Try.prog 16 #[.string s] w fun e w' => ∃ v, e = .returned (.tuple #[v, .bool (decide ((tx s).length ≤ 200))]) ∧ ((tx s).length ≤ 200 → IsZ w' v (tx s)) ∧ (¬ (tx s).length ≤ 200 → v = .slice none 0 0) ∧ Below w.heap.size w w' := by
  rw [tx_length]
  by_cases h : (units s).length ≤ 200
  · have hz := units_size s
    have : Calls Try.prog 16 #[.string s] w fun e w' => ∃ v, e = .returned (.tuple #[v, .bool true]) ∧ IsZ w' v (tx s) ∧ Below w.heap.size w w' := by
      by_cases h0 : 0 < (units s).length
      · exact units_few s w (by omega) h h0
      · exact units_none s w (by omega) (by omega)
    refine this.mono ?_
    rintro e w' ⟨v, rfl, hv, hb⟩
    exact ⟨v, by simp [h], fun _ => hv, fun h' => absurd h h', hb⟩
  · have : Calls Try.prog 16 #[.string s] w fun e w' => e = .returned (.tuple #[.slice none 0 0, .bool false]) ∧ Below w.heap.size w w' := by
      by_cases h8 : s.size ≤ 800
      · exact units_many s w h8 (by omega)
      · exact units_long s w (by omega)
    refine this.mono ?_
    rintro e w' ⟨rfl, hb⟩
    exact ⟨_, by simp [h], fun h' => absurd h' h, fun _ => rfl, hb⟩
end Go.Proofs.Ytiiheaopamjijaa.Un
