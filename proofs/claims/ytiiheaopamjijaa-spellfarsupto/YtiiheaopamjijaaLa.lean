/- The program's last edit. Conditions: the lists have at most 200 units, the rows are there. -/
import Derived.Test.YtiiheaopamjijaaRo
import Derived.Deep.QuietTactic
import Derived.BigQuiet
import Derived.Deep.MidRow
namespace Go.Proofs.Ytiiheaopamjijaa.La
open Go.RowKit Rw Ay Fi Nx Ap Ro

theorem clone_any (s : ByteArray) (w : World) (hs : s.size ≤ 281474976710656) :
    Calls Try.prog 30 #[.string s] w fun e w' => e = .returned (.string s) ∧ Below w.heap.size w w' := by
  have c := fun W => Try.stringslite_Clone s W hs
  go_enter Try.func30, Try.ntmps30
  go_wp2_with (go_at_call 36; refine (c _).mono ?_; rintro e w1 ⟨rfl, hb⟩)
  go_ret
  exact ⟨rfl, hb⟩

theorem size34 : (Try.prog.info? 34).map (·.size) = some 2 := by kernel_rfl
theorem load_edit {w : World} {b : Nat} {k : Int} {t : ByteArray} (h0 : w.cell? ⟨b, 0, none⟩ = some (.int .i64 k)) (h1 : w.cell? ⟨b, 1, none⟩ = some (.string t)) : (loadVar 34 ⟨b, 0, none⟩).run Try.prog w = .ok (.agg #[.int .i64 k, .string t]) w := by
  have := run_loadVar_mid (P := Try.prog) w b 0 34 [.int .i64 k, .string t] _ (by
    intro j v hj
    match j, hj with
    | 0, hj => simp at hj; subst hj; exact h0
    | 1, hj => simp at hj; subst hj; exact h1
    | j + 2, hj => simp at hj) Try.underlying34 rfl size34
  exact this
theorem results_edit {fn : Func} {p : Tmp} (h : fn.results = #[.cell p 34]) {tmps : Array Value} {b : Nat} (hp : tmps.getD p undef = .pointer (some ⟨b, 0, none⟩)) {w : World} {k : Int} {t : ByteArray}
    (h0 : w.cell? ⟨b, 0, none⟩ = some (.int .i64 k)) (h1 : w.cell? ⟨b, 1, none⟩ = some (.string t)) : (results fn tmps).run Try.prog w = .ok (.agg #[.int .i64 k, .string t]) w := by
  rw [results_cell h, hp]
  simp only [asAddr, Sem.run_pure, Result.andThen_ok]
  exact load_edit h0 h1
theorem below_drewN {B : Nat} {a w : World} (h : Below B a w) (n : Nat) : Below B a (w.drewN n) := ⟨h.os, h.tape, h.output, h.size, h.block⟩

set_option maxHeartbeats 1000000 in
set_option maxRecDepth 100000 in
theorem keep_walk (bp op cp bq oq cq : Nat) (i j : Nat) (r : Value) (x y : ByteArray) (w : World) (hi2 : i ≤ 200) (hj2 : j ≤ 200) (h1 : w.cell? ⟨bp, op + i, none⟩ = some (.string x)) (h2 : w.cell? ⟨bq, oq + j, none⟩ = some (.string y)) (hxy : (x.toList == y.toList) = true) :
    Calls Try.prog 23 #[.slice (some ⟨bp, op, none⟩) (i + 1) cp, .slice (some ⟨bq, oq, none⟩) (j + 1) cq, r] w fun e w' => e = .returned (.agg #[.int .i64 1, .string ByteArray.empty]) ∧ Below w.heap.size w w' := by
  have b1 : (0 : Int) < (i : Int) + 1 := by omega
  have b2 : (0 : Int) < (j : Int) + 1 := by omega
  have b3 : (i : Int) < (i : Int) + 1 := by omega
  have b4 : (j : Int) < (j : Int) + 1 := by omega
  have k1 : bp < w.heap.size := World.block_lt_of_cell? _ _ h1
  have k2 : bq < w.heap.size := World.block_lt_of_cell? _ _ h2
  have l1 : ∀ o, (w.alloc o).cell? ⟨bp, op + i, none⟩ = some (.string x) := fun o => (World.cell?_alloc_lt _ _ _ k1).trans h1
  have l2 : ∀ o, (w.alloc o).cell? ⟨bq, oq + j, none⟩ = some (.string y) := fun o => (World.cell?_alloc_lt _ _ _ k2).trans h2
  have w1 : IntKind.i64.wrap (i : Int) = i := by rw [IntKind.wrap_i64]; omega
  have w2 : IntKind.i64.wrap (j : Int) = j := by rw [IntKind.wrap_i64]; omega
  go_enter Try.func23, Try.ntmps23
  go_wp2
  go_quiet (fail)
  go_wp2
  refine bodyPost_ret (results_edit rfl rfl (k := 1) (t := ByteArray.empty) ?_ ?_) rfl ⟨rfl, ?_⟩
  · go_simp
  · go_simp
    rfl
  · exact ((below_drewN ((Below.refl _ _).alloc (Nat.le_refl _) _) _).setCell (Nat.le_refl _) _).setCell (Nat.le_refl _) _
end Go.Proofs.Ytiiheaopamjijaa.La
