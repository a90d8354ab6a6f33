/- The law's own sequent is proved: speechBegun. No conditions. -/
import Derived.Test.YtbmgkgoghgdbhaaRh
namespace Go.Proofs.Ytbmgkgoghgdbhaa.Te
open Go.RowKit

theorem wr_bs {k : Int} (h : 0 ≤ k ∧ k ≤ 9) : Te.wr (bs k) = 0 := by
  have h1 : w1 (bs k).kind (bs k).n (bs k).kids.length = 0 := by
    unfold w1 bs
    dsimp only
    rw [if_pos rfl, if_neg (by simp), if_neg (by omega)]
  rw [wr_ok h1]
  rfl
theorem wr_two {kd : Int} {x y : Ty} (h : kd = 2 ∨ kd = 3) (hx : Te.wr x = 0) (hy : Te.wr y = 0) : Te.wr ⟨kd, 0, [x, y]⟩ = 0 := by
  have h1 : w1 kd 0 [x, y].length = 0 := by
    unfold w1
    rw [if_neg (by omega), if_pos h, if_neg (by simp), if_neg (by omega)]
  rw [wr_ok h1]
  refine fz_zero (fun z hz => ?_)
  simp only [List.map_cons, List.map_nil, List.mem_cons, List.not_mem_nil, or_false] at hz
  rcases hz with rfl | rfl
  · exact hx
  · exact hy
theorem begun_cseq : cseq [bs 0, ov (un (bs 0) (bs 1)) (bs 0), bs 0] (bs 1) = 0 := by
  have b0 : ck (bs 0) = 0 := by unfold ck; rw [sz_bs, if_neg (by omega)]; exact wr_bs (by omega)
  have b1 : ck (bs 1) = 0 := by unfold ck; rw [sz_bs, if_neg (by omega)]; exact wr_bs (by omega)
  have b2 : ck (ov (un (bs 0) (bs 1)) (bs 0)) = 0 := by
    unfold ck
    rw [sz_ov, sz_un, sz_bs, sz_bs, if_neg (by omega)]
    exact wr_two (.inl rfl) (wr_two (.inr rfl) (wr_bs (by omega)) (wr_bs (by omega))) (wr_bs (by omega))
  unfold cseq
  rw [if_neg (by simp)]
  unfold cslash
  rw [show crow [bs 0, ov (un (bs 0) (bs 1)) (bs 0), bs 0] (bs 1) = 0 by rw [crow, if_pos b0, crow, if_pos b2, crow, if_pos b0, crow, b1], if_pos rfl, if_neg]
  have s0 : slN (bs 0) ≤ 1 := by unfold slN; rw [sz_bs]; decide
  have s1 : slN (bs 1) ≤ 1 := by unfold slN; rw [sz_bs]; decide
  have s2 : slN (ov (un (bs 0) (bs 1)) (bs 0)) ≤ 2 := by unfold slN; rw [sz_ov, sz_un, sz_bs, sz_bs]; decide
  simp only [slS, List.map_cons, List.map_nil, List.sum_cons, List.sum_nil]
  omega
theorem ty_three {w : World} {d g : Nat} {x y z : Ty} {ax ay az : Option Addr} {cx cy cz : Nat} (hx : TyAt w d x ax cx) (hy : TyAt w d y ay cy) (hz : TyAt w d z az cz) (hh : w.heap[g]? = some (.cells #[.int .i64 x.kind, .int .i64 x.n, .slice ax x.kids.length cx, .int .i64 y.kind, .int .i64 y.n, .slice ay y.kids.length cy, .int .i64 z.kind, .int .i64 z.n, .slice az z.kids.length cz] 24 (0, 0))) (c : Nat) : TyAt w (d + 1) ⟨0, 0, [x, y, z]⟩ (some ⟨g, 0, none⟩) c := by
  refine ⟨(by show i64B 0; constructor <;> decide), (by show i64B 0; constructor <;> decide), by simp, .inr ⟨g, 0, rfl, lt_of_get hh, fun j hj => ?_⟩⟩
  have hj2 : j = 0 ∨ j = 1 ∨ j = 2 := by simp at hj; omega
  rcases hj2 with rfl | rfl | rfl
  · exact ⟨ax, cx, cell_of_row _ _ 0 _ _ _ hh, cell_of_row _ _ 1 _ _ _ hh, cell_of_row _ _ 2 _ _ _ hh, hx⟩
  · exact ⟨ay, cy, cell_of_row _ _ 3 _ _ _ hh, cell_of_row _ _ 4 _ _ _ hh, cell_of_row _ _ 5 _ _ _ hh, hy⟩
  · exact ⟨az, cz, cell_of_row _ _ 6 _ _ _ hh, cell_of_row _ _ 7 _ _ _ hh, cell_of_row _ _ 8 _ _ _ hh, hz⟩
theorem kbase (k : Int) (w : World) : Calls Try.prog 36 #[.int .i64 k] w fun e w' => e = .returned (.agg #[.int .i64 1, .int .i64 k, .slice none 0 0]) ∧ Below w.heap.size w w' := base_any k w
theorem kunder (w : World) : Calls Try.prog 32 #[.agg #[.int .i64 1, .int .i64 0, .slice none 0 0], .agg #[.int .i64 1, .int .i64 1, .slice none 0 0]] w fun e w' => ∃ a c, e = .returned (.agg #[.int .i64 3, .int .i64 0, .slice a 2 c]) ∧ TyAt w' 2 (un (bs 0) (bs 1)) a c ∧ Below w.heap.size w w' :=
  under_any (d := 1) (bs 0) (bs 1) none 0 none 0 w (ty_bs (by constructor <;> decide) _ _) (ty_bs (by constructor <;> decide) _ _)
theorem kover {a : Option Addr} {c : Nat} (w : World) (h : TyAt w 2 (un (bs 0) (bs 1)) a c) : Calls Try.prog 31 #[.agg #[.int .i64 3, .int .i64 0, .slice a 2 c], .agg #[.int .i64 1, .int .i64 0, .slice none 0 0]] w fun e w' => ∃ a c, e = .returned (.agg #[.int .i64 2, .int .i64 0, .slice a 2 c]) ∧ TyAt w' 3 (ov (un (bs 0) (bs 1)) (bs 0)) a c ∧ Below w.heap.size w w' :=
  over_any (d := 2) (un (bs 0) (bs 1)) (bs 0) a c none 0 w h (ty_bs (by constructor <;> decide) _ _)
theorem kprove {a : Option Addr} {c g : Nat} (w : World) (h : TyAt w 3 (ov (un (bs 0) (bs 1)) (bs 0)) a c) (hh : w.heap[g]? = some (.cells #[.int .i64 1, .int .i64 0, .slice none 0 0, .int .i64 2, .int .i64 0, .slice a 2 c, .int .i64 1, .int .i64 0, .slice none 0 0] 24 (0, 0))) :
    Calls Try.prog 20 #[.slice (some ⟨g, 0, none⟩) 3 3, .agg #[.int .i64 1, .int .i64 1, .slice none 0 0]] w fun e w' => (∃ p x, e = .returned (.tuple #[vpf p x, .bool true, .int .i64 0])) ∧ Below w.heap.size w w' := by
  have hT := ty_three (x := bs 0) (y := ov (un (bs 0) (bs 1)) (bs 0)) (z := bs 0) (d := 3) (ty_bs (by constructor <;> decide) none 0) h (ty_bs (by constructor <;> decide) none 0) hh 3
  have K := Prove_any [bs 0, ov (un (bs 0) (bs 1)) (bs 0), bs 0] (some ⟨g, 0, none⟩) 3 (bs 1) none 0 w true hT (by simp) (ty_bs (d := 0) (by constructor <;> decide) none 0) ⟨fun _ => ⟨begun_cseq, begun_E⟩, fun _ => rfl⟩
  rw [begun_cseq] at K
  refine K.mono ?_
  rintro e w' ⟨p, x, he, hb, _⟩
  exact ⟨⟨p, x, he⟩, hb⟩
set_option maxHeartbeats 2000000 in
theorem begun_any (w : World) : Calls Try.prog 11 #[] w fun e w' => e = .returned (.bool true) ∧ Below w.heap.size w w' := by
  have hB : Below w.heap.size w w := Below.refl _ _
  go_enter Try.func11, Try.ntmps11
  go_upto_region 2 with (first
    | (go_at_call 36; (with_reducible refine (kbase _ _).mono ?_); rintro e5 w5 ⟨rfl, hb5⟩; first | (replace hB := hB.trans (hb5.mono hB.size); try (replace hU := hU.below hb5)) | (replace hU := (hU.below ((Below.refl _ _).alloc (Nat.le_refl _) _)).below hb5; have x12 := (hb5.block _ (by simp)).trans (heap_alloc_new _ _); replace hB := (hB.alloc hB.size _).trans (hb5.mono (hB.alloc hB.size _).size)))
    | (go_at_call 32; (with_reducible refine (kunder _).mono ?_); rintro e6 w6 ⟨a6, c6, rfl, hU, hb6⟩; replace hB := hB.trans (hb6.mono hB.size))
    | (go_at_call 31; (with_reducible refine (kover _ hU).mono ?_); clear hU; rintro e7 w7 ⟨a7, c7, rfl, hU, hb7⟩; replace hB := hB.trans (hb7.mono hB.size))
    | (go_at_call 20; (with_reducible refine (kprove _ hU x12).mono ?_); rintro e8 w8 ⟨⟨p8, x8, rfl⟩, hb8⟩; replace hB := hB.trans (hb8.mono hB.size); unfold vpf))
  go_wp2_with fail
  go_ret
  exact ⟨rfl, hB.alloc hB.size _⟩
end Go.Proofs.Ytbmgkgoghgdbhaa.Te
