/- The program's Sure (20): what it hands back for a machine that is wrong, one that is not plain, one that is. Conditions: as the theorems say. -/
import Derived.Test.YtfjocafepigijaaDoorFsM
import Derived.Test.YtfjocafepigijaaDoorFaM
import Derived.Test.YtfjocafepigijaaDoorCaM
namespace Go.Proofs.YtfjocafepigijaaDoor.Su
open Go.RowKit Go.Shelf Mv Po Ps Cm Ra Ot Pa

/-- the boxed machine and the result's place, both new -/
theorem two25 (w : World) (MC : Array Value) : ∃ W0, (w.alloc (.cells MC 25)).alloc (.cells #[.int .i64 0, .slice none 0 0, .slice none 0 0] 25) = W0 ∧ Below w.heap.size w W0 ∧ W0.heap[w.heap.size]? = some (.cells MC 25 (0, 0)) ∧ W0.heap[w.heap.size + 1]? = some (.cells #[.int .i64 0, .slice none 0 0, .slice none 0 0] 25 (0, 0)) := by
  have s1 : (w.alloc (.cells MC 25)).heap.size = w.heap.size + 1 := by simp
  have B1 := below_al w (.cells MC 25)
  refine ⟨_, rfl, B1.alloc B1.size _, ?_, ?_⟩
  · rw [heap_alloc_old _ _ (by rw [s1]; omega)]
    exact heap_alloc_new _ _
  · rw [← s1]
    exact heap_alloc_new _ _
/-- a machine that is wrong -/
theorem sure_bad (S : Int) (A : AL) (F : List (Int × Int)) (aa af : Option Addr) (ca cf : Nat) (w : World) (hA : Mv.Row w (.slice aa A.length ca) 5 A.length (acs A)) (hF : Mv.Row w (.slice af F.length cf) 2 F.length (fcs F)) (x : Int) (hx : checkP ⟨S, A, F⟩ x) (h0 : x ≠ 0) :
    Calls Tryd.prog 20 #[.agg #[.int .i64 S, .slice aa A.length ca, .slice af F.length cf]] w fun e w' => e = .returned (.tuple #[.agg #[.int .i64 0, .slice none 0 0, .slice none 0 0], .int .i64 x]) ∧ Below w.heap.size w w' := by
  obtain ⟨W0, hW0, B0, x1, x2⟩ := two25 w #[.int .i64 S, .slice aa A.length ca, .slice af F.length cf]
  have b0 := cell_of_row _ _ 0 _ _ _ x1
  have b1 := cell_of_row _ _ 1 _ _ _ x1
  have b2 := cell_of_row _ _ 2 _ _ _ x1
  have K30 : Calls Tryd.prog 30 #[.agg #[.int .i64 S, .slice aa A.length ca, .slice af F.length cf]] W0 fun e w' => e = .returned (.int .i64 x) ∧ Below W0.heap.size W0 w' := (CkP.check_any ⟨S, A, F⟩ _ W0 ⟨_, _, rfl, hA.below B0, hF.below B0⟩).mono fun e w' ⟨⟨y, h1, h2⟩, h3⟩ => ⟨by rw [h1, checkP_one h2 hx], h3⟩
  have HX0 : Hid (W0.heap[w.heap.size + 1]? = some (.cells #[.int .i64 0, .slice none 0 0, .slice none 0 0] 25 (0, 0)) ∧ Below w.heap.size w W0) := ⟨x2, B0⟩
  have q1 : (x != 0) = true := by simpa using h0
  clear hA hF hx h0 x1 x2 B0
  go_enter Tryd.func20, Tryd.ntmps20
  go_upto_region 2 with (go_at_call 30; (with_reducible refine K30.mono ?_); clear K30; rintro e w1 ⟨rfl, hb1⟩; have HB1 : Hid (Below W0.heap.size W0 w1) := hb1; clear hb1)
  clear b0 b1 b2 hW0
  have HX1 : Hid (w1.heap[w.heap.size + 1]? = some (.cells #[.int .i64 0, .slice none 0 0, .slice none 0 0] 25 (0, 0)) ∧ Below w.heap.size w w1) := ⟨(HB1.out.block _ (lt_at HX0.out.1)).trans HX0.out.1, HX0.out.2.trans (HB1.out.mono HX0.out.2.size)⟩
  obtain ⟨p2, hp2⟩ : ∃ p, w.heap.size + 1 = p := ⟨_, rfl⟩
  rw [hp2] at HX1
  have HP : Hid (w.heap.size ≤ p2) := by show _ ≤ _; omega
  rw [hp2]
  clear hp2 HX0 HB1
  have z0 := cell_of_row _ _ 0 _ _ _ HX1.out.1
  have z1 := cell_of_row _ _ 1 _ _ _ HX1.out.1
  have z2 := cell_of_row _ _ 2 _ _ _ HX1.out.1
  have f0 := frozen_of_row _ _ 0 _ _ HX1.out.1
  have f1 := frozen_of_row _ _ 1 _ _ HX1.out.1
  have f2 := frozen_of_row _ _ 2 _ _ HX1.out.1
  go_wp2
  have hr := ret25 (x := .int .i64 0) (y := .slice none 0 0) (z := .slice none 0 0) HX1.out.1 HX1.out.2 HP.out
  exact bodyPost_ret (results_row_tmp rfl _ _ p2 25 _ (0, 0) _ rfl hr.1 Tryd.underlying25 rfl row25) rfl ⟨rfl, hr.2⟩
/-- a machine that is not plain -/
theorem sure_un (S : Int) (A : AL) (F : List (Int × Int)) (aa af : Option Addr) (ca cf : Nat) (w : World) (hA : Mv.Row w (.slice aa A.length ca) 5 A.length (acs A)) (hF : Mv.Row w (.slice af F.length cf) 2 F.length (fcs F)) (hx : checkP ⟨S, A, F⟩ 0) (hp : plB A F = false) :
    Calls Tryd.prog 20 #[.agg #[.int .i64 S, .slice aa A.length ca, .slice af F.length cf]] w fun e w' => e = .returned (.tuple #[.agg #[.int .i64 0, .slice none 0 0, .slice none 0 0], .int .i64 4]) ∧ Below w.heap.size w w' := by
  obtain ⟨W0, hW0, B0, x1, x2⟩ := two25 w #[.int .i64 S, .slice aa A.length ca, .slice af F.length cf]
  have b0 := cell_of_row _ _ 0 _ _ _ x1
  have b1 := cell_of_row _ _ 1 _ _ _ x1
  have b2 := cell_of_row _ _ 2 _ _ _ x1
  have K30 : Calls Tryd.prog 30 #[.agg #[.int .i64 S, .slice aa A.length ca, .slice af F.length cf]] W0 fun e w' => e = .returned (.int .i64 0) ∧ Below W0.heap.size W0 w' := (CkP.check_any ⟨S, A, F⟩ _ W0 ⟨_, _, rfl, hA.below B0, hF.below B0⟩).mono fun e w' ⟨⟨y, h1, h2⟩, h3⟩ => ⟨by rw [h1, checkP_one h2 hx], h3⟩
  have HX0 : Hid (W0.heap[w.heap.size]? = some (.cells #[.int .i64 S, .slice aa A.length ca, .slice af F.length cf] 25 (0, 0)) ∧ W0.heap[w.heap.size + 1]? = some (.cells #[.int .i64 0, .slice none 0 0, .slice none 0 0] 25 (0, 0)) ∧ Below w.heap.size w W0) := ⟨x1, x2, B0⟩
  have HR : Hid (Mv.Row w (.slice aa A.length ca) 5 A.length (acs A) ∧ Mv.Row w (.slice af F.length cf) 2 F.length (fcs F) ∧ plB A F = false) := ⟨hA, hF, hp⟩
  clear hA hF hx hp x1 x2 B0
  go_enter Tryd.func20, Tryd.ntmps20
  go_upto_region 2 with (go_at_call 30; (with_reducible refine K30.mono ?_); clear K30; rintro e w1 ⟨rfl, hb1⟩; have HB1 : Hid (Below W0.heap.size W0 w1) := hb1; clear hb1)
  clear b0 b1 b2 hW0
  have x1 := (HB1.out.block _ (lt_at HX0.out.1)).trans HX0.out.1
  have HX1 : Hid (w1.heap[w.heap.size + 1]? = some (.cells #[.int .i64 0, .slice none 0 0, .slice none 0 0] 25 (0, 0)) ∧ Below w.heap.size w w1) := ⟨(HB1.out.block _ (lt_at HX0.out.2.1)).trans HX0.out.2.1, HX0.out.2.2.trans (HB1.out.mono HX0.out.2.2.size)⟩
  have b0 := cell_of_row _ _ 0 _ _ _ x1
  have b1 := cell_of_row _ _ 1 _ _ _ x1
  have b2 := cell_of_row _ _ 2 _ _ _ x1
  have K46 := plain_any S A F aa af ca cf w1 (HR.out.1.below HX1.out.2) (HR.out.2.1.below HX1.out.2)
  rw [HR.out.2.2] at K46
  clear x1 HX0
  go_upto_region 5 with (go_at_call 46; (with_reducible refine K46.mono ?_); clear K46; rintro e w2 ⟨rfl, hb2⟩; have HB2 : Hid (Below w1.heap.size w1 w2) := hb2; clear hb2)
  clear b0 b1 b2
  have HX2 : Hid (w2.heap[w.heap.size + 1]? = some (.cells #[.int .i64 0, .slice none 0 0, .slice none 0 0] 25 (0, 0)) ∧ Below w.heap.size w w2) := ⟨(HB2.out.block _ (lt_at HX1.out.1)).trans HX1.out.1, HX1.out.2.trans (HB2.out.mono HX1.out.2.size)⟩
  obtain ⟨p2, hp2⟩ : ∃ p, w.heap.size + 1 = p := ⟨_, rfl⟩
  rw [hp2] at HX2
  have HP : Hid (w.heap.size ≤ p2) := by show _ ≤ _; omega
  rw [hp2]
  clear hp2 HX1 HB1 HB2
  have z0 := cell_of_row _ _ 0 _ _ _ HX2.out.1
  have z1 := cell_of_row _ _ 1 _ _ _ HX2.out.1
  have z2 := cell_of_row _ _ 2 _ _ _ HX2.out.1
  have f0 := frozen_of_row _ _ 0 _ _ HX2.out.1
  have f1 := frozen_of_row _ _ 1 _ _ HX2.out.1
  have f2 := frozen_of_row _ _ 2 _ _ HX2.out.1
  go_wp2
  have hr := ret25 (x := .int .i64 0) (y := .slice none 0 0) (z := .slice none 0 0) HX2.out.1 HX2.out.2 HP.out
  exact bodyPost_ret (results_row_tmp rfl _ _ p2 25 _ (0, 0) _ rfl hr.1 Tryd.underlying25 rfl row25) rfl ⟨rfl, hr.2⟩
/-- what Sure hands back for a plain machine -/
def SuP (S : Nat) (A : AL) (F : List (Int × Int)) (w : World) (e : Ending) (w' : World) : Prop :=
  ∃ (st : Int) (a1 : Option Addr) (n1 c1 : Nat) (a2 : Option Addr) (n2 c2 : Nat) (x : Int), e = .returned (.tuple #[.agg #[.int .i64 st, .slice a1 n1 c1, .slice a2 n2 c2], .int .i64 x]) ∧ Below w.heap.size w w' ∧ ((x = 0 ∧ ∃ n m, Done S A n ∧ IsSure (tbl S A F n) m ∧ IsM w' (.agg #[.int .i64 st, .slice a1 n1 c1, .slice a2 n2 c2]) m) ∨ (x = 7 ∧ IsM w' (.agg #[.int .i64 st, .slice a1 n1 c1, .slice a2 n2 c2]) ⟨0, [], []⟩ ∧ Many S A))
theorem cut_cl {T : Tb} {n : Nat} {cl : List Nat} (hn : T.n = n) (h : ∀ i j, i < n → j < n → (cl.getD i 0 = cl.getD j 0 ↔ T.cut.Lk (some i) (some j))) : Cl9 T cl := fun i j hi hj => by
  rw [hn] at hi hj
  rw [h i j hi hj, Tb.cut_eq]
set_option maxHeartbeats 2000000 in
theorem sure_any (S : Nat) (A : AL) (F : List (Int × Int)) (aa af : Option Addr) (ca cf : Nat) (w : World) (hG : Gd S A) (hS40 : S ≤ 400) (hA : Mv.Row w (.slice aa A.length ca) 5 A.length (acs A)) (hF : Mv.Row w (.slice af F.length cf) 2 F.length (fcs F)) (hf : ∀ k (h : k < F.length), finB (S : Int) F[k] = true) (hTab : TabAt 0 Lib.deBruijn64tab w) (h00 : 0 < w.heap.size) (hx : checkP ⟨(S : Int), A, F⟩ 0) (hp : plB A F = true) :
    Calls Tryd.prog 20 #[.agg #[.int .i64 (S : Int), .slice aa A.length ca, .slice af F.length cf]] w (SuP S A F w) := by
  obtain ⟨W0, hW0, B0, x1, x2⟩ := two25 w #[.int .i64 (S : Int), .slice aa A.length ca, .slice af F.length cf]
  have b0 := cell_of_row _ _ 0 _ _ _ x1
  have b1 := cell_of_row _ _ 1 _ _ _ x1
  have b2 := cell_of_row _ _ 2 _ _ _ x1
  have K30 : Calls Tryd.prog 30 #[.agg #[.int .i64 (S : Int), .slice aa A.length ca, .slice af F.length cf]] W0 fun e w' => e = .returned (.int .i64 0) ∧ Below W0.heap.size W0 w' := (CkP.check_any ⟨(S : Int), A, F⟩ _ W0 ⟨_, _, rfl, hA.below B0, hF.below B0⟩).mono fun e w' ⟨⟨y, h1, h2⟩, h3⟩ => ⟨by rw [h1, checkP_one h2 hx], h3⟩
  have HX0 : Hid (W0.heap[w.heap.size]? = some (.cells #[.int .i64 (S : Int), .slice aa A.length ca, .slice af F.length cf] 25 (0, 0)) ∧ W0.heap[w.heap.size + 1]? = some (.cells #[.int .i64 0, .slice none 0 0, .slice none 0 0] 25 (0, 0)) ∧ Below w.heap.size w W0) := ⟨x1, x2, B0⟩
  have HR : Hid (Mv.Row w (.slice aa A.length ca) 5 A.length (acs A) ∧ Mv.Row w (.slice af F.length cf) 2 F.length (fcs F) ∧ plB A F = true) := ⟨hA, hF, hp⟩
  have HG : Hid (Gd S A ∧ S ≤ 400 ∧ (∀ k (h : k < F.length), finB (S : Int) F[k] = true) ∧ TabAt 0 Lib.deBruijn64tab w ∧ 0 < w.heap.size) := ⟨hG, hS40, hf, hTab, h00⟩
  clear hG hS40 hf hTab hA hF hx hp x1 x2 B0
  go_enter Tryd.func20, Tryd.ntmps20
  go_upto_region 2 with (go_at_call 30; (with_reducible refine K30.mono ?_); clear K30; rintro e w1 ⟨rfl, hb1⟩; have HB1 : Hid (Below W0.heap.size W0 w1) := hb1; clear hb1)
  clear b0 b1 b2 hW0
  have x1 := (HB1.out.block _ (lt_at HX0.out.1)).trans HX0.out.1
  have HX1 : Hid (w1.heap[w.heap.size]? = some (.cells #[.int .i64 (S : Int), .slice aa A.length ca, .slice af F.length cf] 25 (0, 0)) ∧ w1.heap[w.heap.size + 1]? = some (.cells #[.int .i64 0, .slice none 0 0, .slice none 0 0] 25 (0, 0)) ∧ Below w.heap.size w w1) := ⟨x1, (HB1.out.block _ (lt_at HX0.out.2.1)).trans HX0.out.2.1, HX0.out.2.2.trans (HB1.out.mono HX0.out.2.2.size)⟩
  have b0 := cell_of_row _ _ 0 _ _ _ x1
  have b1 := cell_of_row _ _ 1 _ _ _ x1
  have b2 := cell_of_row _ _ 2 _ _ _ x1
  have K46 := plain_any (S : Int) A F aa af ca cf w1 (HR.out.1.below HX1.out.2.2) (HR.out.2.1.below HX1.out.2.2)
  rw [HR.out.2.2] at K46
  clear x1 HX0
  go_upto_region 6 with (go_at_call 46; (with_reducible refine K46.mono ?_); clear K46; rintro e w2 ⟨rfl, hb2⟩; have HB2 : Hid (Below w1.heap.size w1 w2) := hb2; clear hb2)
  clear b0 b1 b2
  have x1 := (HB2.out.block _ (lt_at HX1.out.1)).trans HX1.out.1
  have HX2 : Hid (w2.heap[w.heap.size + 1]? = some (.cells #[.int .i64 0, .slice none 0 0, .slice none 0 0] 25 (0, 0)) ∧ Below w.heap.size w w2) := ⟨(HB2.out.block _ (lt_at HX1.out.2.1)).trans HX1.out.2.1, HX1.out.2.2.trans (HB2.out.mono HX1.out.2.2.size)⟩
  have b0 := cell_of_row _ _ 0 _ _ _ x1
  have b1 := cell_of_row _ _ 1 _ _ _ x1
  have b2 := cell_of_row _ _ 2 _ _ _ x1
  have K47 : Calls Tryd.prog 47 #[.agg #[.int .i64 (S : Int), .slice aa A.length ca, .slice af F.length cf]] w2 fun e w' => ∃ (q : Option Addr) (x : Int), e = .returned (.tuple #[.pointer q, .int .i64 x]) ∧ Below w2.heap.size w2 w' ∧ ((∃ n p g cap, q = some ⟨p, 0, none⟩ ∧ x = 0 ∧ Done S A n ∧ PT w' w2.heap.size p g n cap (Xk S A n) (fk S A F n) (fun _ => false) ∧ w2.heap.size ≤ p) ∨ (q = none ∧ x = 7 ∧ Many S A)) :=
    (newTable_any S A F aa af ca cf w2 HG.out.1 HG.out.2.1 (HR.out.1.below HX2.out.2) (HR.out.2.1.below HX2.out.2) HG.out.2.2.1 (Tz.tab_below HG.out.2.2.2.1 HG.out.2.2.2.2 HX2.out.2) (Nat.lt_of_lt_of_le HG.out.2.2.2.2 HX2.out.2.size)).mono fun e w' h => by
      rcases h with ⟨n, p, g, cap, h1, h2, h3, h4, h5⟩ | ⟨h1, h2, h3⟩
      · exact ⟨_, _, h1, h5, .inl ⟨n, p, g, cap, rfl, rfl, h2, h3, h4⟩⟩
      · exact ⟨_, _, h1, h3, .inr ⟨rfl, rfl, h2⟩⟩
  clear x1 HX1
  go_upto_region 7 with (go_at_call 47; (with_reducible refine K47.mono ?_); clear K47; rintro e w3 ⟨q, x, rfl, hb3, hor⟩; have HX3 : Hid (Below w2.heap.size w2 w3 ∧ ((∃ n p g cap, q = some ⟨p, 0, none⟩ ∧ x = 0 ∧ Done S A n ∧ PT w3 w2.heap.size p g n cap (Xk S A n) (fk S A F n) (fun _ => false) ∧ w2.heap.size ≤ p) ∨ (q = none ∧ x = 7 ∧ Many S A))) := ⟨hb3, hor⟩; clear hb3 hor)
  clear b0 b1 b2
  have HX4 : Hid (w3.heap[w.heap.size + 1]? = some (.cells #[.int .i64 0, .slice none 0 0, .slice none 0 0] 25 (0, 0)) ∧ Below w.heap.size w w3) := ⟨(HX3.out.1.block _ (lt_at HX2.out.1)).trans HX2.out.1, HX2.out.2.trans (HX3.out.1.mono HX2.out.2.size)⟩
  obtain ⟨p2, hp2⟩ : ∃ p, w.heap.size + 1 = p := ⟨_, rfl⟩
  obtain ⟨p1, hp1⟩ : ∃ p, w.heap.size = p := ⟨_, rfl⟩
  have HP : Hid (w.heap.size ≤ p2 ∧ p2 < w2.heap.size) := ⟨by omega, by rw [← hp2]; exact lt_at HX2.out.1⟩
  rw [hp2] at HX4
  rw [hp2, hp1]
  clear hp2 hp1 HX2 HB1 HB2
  rcases HX3.out.2 with ⟨n, p, g, cap, rfl, rfl, hD, hPT, hge⟩ | ⟨rfl, rfl, hM⟩
  · have h0n : 0 < n := by
      have h1 := (tab_pre S A 0 n (Nat.zero_le _)).length_le
      rw [hD.len] at h1
      exact h1
    have hn5 := hD.few
    have K48 := dropDead_any (tbl S A F n) w2.heap.size p g n cap (Xk S A n) (fk S A F n) w3 (isT_tbl hD) hPT hD.few
    have HD : Hid (Done S A n) := hD
    have HPT : Hid (PT w3 w2.heap.size p g n cap (Xk S A n) (fk S A F n) (fun _ => false) ∧ w2.heap.size ≤ p) := ⟨hPT, hge⟩
    clear hD hPT hge
    go_upto_region 10 with (go_at_call 48; (with_reducible refine K48.mono ?_); clear K48; rintro e w4 ⟨rfl, X', d, hT', hC', hP', hk'⟩; have HQ : Hid (IsT (tbl S A F n).cut n X' (fk S A F n) ∧ Cutd (tbl S A F n).cut d ∧ PT w4 w2.heap.size p g n cap X' (fk S A F n) d ∧ Kp (fun b => b = g) w3 w4) := ⟨hT', hC', hP', hk'⟩; clear hT' hC' hP' hk')
    have HX5 : Hid (w4.heap[p2]? = some (.cells #[.int .i64 0, .slice none 0 0, .slice none 0 0] 25 (0, 0)) ∧ Below w.heap.size w w4) := ⟨(HQ.out.2.2.2.block _ (lt_at HX4.out.1) (fun e => by have e2 : p2 = g := e; have h1 := HP.out.2; have h2 := HPT.out.1.lt.1; omega)).trans HX4.out.1, below_kp HX4.out.2 HQ.out.2.2.2 (fun b hb e => by have e2 : b = g := e; have h2 := HPT.out.1.lt.1; have h1 := HP.out; omega)⟩
    clear HX4
    have c0 := cell_of_row _ _ 0 _ _ _ HQ.out.2.2.1.box
    have c1 : w4.cell? ⟨g, 62, none⟩ = some (.bool (d 0)) := HQ.out.2.2.1.dead h0n
    obtain ⟨dz, hdz⟩ : ∃ b, d 0 = b := ⟨_, rfl⟩
    have HDZ : Hid (d 0 = dz) := hdz
    rw [hdz] at c1
    have HDL : Hid (d 0 = true ↔ ¬ (tbl S A F n).Live (some 0)) := by
      have h := HQ.out.2.1.dead 0 (by rw [HQ.out.1.sz]; exact h0n)
      rw [Tb.cut_live] at h
      exact h
    have hn0i : (0 : Int) < (n : Int) := by omega
    clear hdz
    cases dz with
    | true =>
      have HND : Hid (¬ (tbl S A F n).Live (some 0)) := HDL.out.1 HDZ.out
      have z0 := cell_of_row _ _ 0 _ _ _ HX5.out.1
      have z1 := cell_of_row _ _ 1 _ _ _ HX5.out.1
      have z2 := cell_of_row _ _ 2 _ _ _ HX5.out.1
      have f0 := frozen_of_row _ _ 0 _ _ HX5.out.1
      have f1 := frozen_of_row _ _ 1 _ _ HX5.out.1
      have f2 := frozen_of_row _ _ 2 _ _ HX5.out.1
      go_wp2
      have hr := ret25 (x := .int .i64 1) (y := .slice none 0 0) (z := .slice none 0 0) HX5.out.1 HX5.out.2 HP.out.1
      exact bodyPost_ret (results_row_tmp rfl _ _ p2 25 _ (0, 0) _ rfl hr.1 Tryd.underlying25 rfl row25) rfl ⟨_, _, _, _, _, _, _, 0, rfl, hr.2, .inl ⟨rfl, n, ⟨1, [], []⟩, HD.out, .inl ⟨HND.out, rfl⟩, _, _, rfl, ⟨rfl, none, 0, rfl, Nat.zero_le _, .inl rfl⟩, ⟨rfl, none, 0, rfl, Nat.zero_le _, .inl rfl⟩⟩⟩
    | false =>
      have HLI : Hid ((tbl S A F n).Live (some 0)) := Classical.byContradiction fun h => by have h1 := HDL.out.2 h; rw [HDZ.out] at h1; cases h1
      have K50 := classes_any (tbl S A F n).cut w2.heap.size p g n cap X' (fk S A F n) d w4 HQ.out.1 HQ.out.2.1 HQ.out.2.2.1 hn5 h0n
      have HTO : Hid ((tbl S A F n).Ok) := tbl_ok HD.out
      go_upto_region 12 with fail
      clear c0 c1
      go_wp2_with (first
        | (go_at_call 50; (with_reducible refine K50.mono ?_); clear K50; rintro e w5 ⟨v, cl, rfl, hrow, hcl, hlk, hbd, hb5⟩; have HC : Hid (Below w4.heap.size w4 w5) := hb5; have K49 := joined_any (tbl S A F n) w2.heap.size w4.heap.size p g n cap X' (fk S A F n) d v cl w5 HQ.out.1 HTO.out (cut_cl rfl hlk) hbd hcl (HQ.out.2.2.1.below hb5) hrow hn5 h0n; clear hrow hcl hlk hbd hb5)
        | (go_at_call 49; (with_reducible refine K49.mono ?_); clear K49; rintro e w6 ⟨k, a1, n1, c1, a2, n2, c2, rfl, hb6, hat, hln, him⟩; have HX6 : Hid (Below w5.heap.size w5 w6 ∧ JAt (tbl S A F n) k ∧ (jn (tbl S A F n) k).1.length = k ∧ ∀ W, Kp (fun b => b < w5.heap.size) w6 W → IsM W (.agg #[.int .i64 (k : Int), .slice a1 n1 c1, .slice a2 n2 c2]) ⟨(k : Int), (jn (tbl S A F n) k).2.map arcOf, (jf (tbl S A F n) (jn (tbl S A F n) k).1 k).map finOf⟩) := ⟨hb6, hat, hln, him⟩; have x5 := (HC.out.block _ (lt_at HX5.out.1)).trans HX5.out.1; have HL5 : Hid (p2 < w5.heap.size) := lt_at x5; have x6 := (hb6.block _ (lt_at x5)).trans x5; have z0 := cell_of_row _ _ 0 _ _ _ x6; have z1 := cell_of_row _ _ 1 _ _ _ x6; have z2 := cell_of_row _ _ 2 _ _ _ x6; have f0 := frozen_of_row _ _ 0 _ _ x6; have f1 := frozen_of_row _ _ 1 _ _ x6; have f2 := frozen_of_row _ _ 2 _ _ x6; have HX7 : Hid (w6.heap[p2]? = some (.cells #[.int .i64 0, .slice none 0 0, .slice none 0 0] 25 (0, 0))) := x6; clear hb6 hat hln him x5 x6))
      have hB5 : Below w.heap.size w w5 := HX5.out.2.trans (HC.out.mono HX5.out.2.size)
      have hB6 : Below w.heap.size w w6 := hB5.trans (HX6.out.1.mono hB5.size)
      have hr := ret25 (x := .int .i64 (k : Int)) (y := .slice a1 n1 c1) (z := .slice a2 n2 c2) HX7.out hB6 HP.out.1
      have hk1 : Kp (fun b => b = p2) w6 (w6.setCell ⟨p2, 0, none⟩ (.int .i64 (k : Int))) := (Kp.refl _ w6).setCell _ _ _ (fun _ => rfl)
      have hk2 : Kp (fun b => b = p2) w6 ((w6.setCell ⟨p2, 0, none⟩ (.int .i64 (k : Int))).setCell ⟨p2, 1, none⟩ (.slice a1 n1 c1)) := hk1.setCell _ _ _ (fun _ => rfl)
      have hkk : Kp (fun b => b = p2) w6 (((w6.setCell ⟨p2, 0, none⟩ (.int .i64 (k : Int))).setCell ⟨p2, 1, none⟩ (.slice a1 n1 c1)).setCell ⟨p2, 2, none⟩ (.slice a2 n2 c2)) := hk2.setCell _ _ _ (fun _ => rfl)
      have hkl : Kp (fun b => b < w5.heap.size) w6 (((w6.setCell ⟨p2, 0, none⟩ (.int .i64 (k : Int))).setCell ⟨p2, 1, none⟩ (.slice a1 n1 c1)).setCell ⟨p2, 2, none⟩ (.slice a2 n2 c2)) := ⟨hkk.os, hkk.tape, hkk.output, hkk.size, fun q hq hn => hkk.block q hq (fun e => hn (by have e2 : q = p2 := e; have := HL5.out; omega))⟩
      exact bodyPost_ret (results_row_tmp rfl _ _ p2 25 _ (0, 0) _ rfl hr.1 Tryd.underlying25 rfl row25) rfl ⟨_, _, _, _, _, _, _, 0, rfl, hr.2, .inl ⟨rfl, n, _, HD.out, .inr ⟨HLI.out, k, HX6.out.2.1, HX6.out.2.2.1, rfl⟩, HX6.out.2.2.2 _ hkl⟩⟩
  · have HM : Hid (Many S A) := hM
    have z0 := cell_of_row _ _ 0 _ _ _ HX4.out.1
    have z1 := cell_of_row _ _ 1 _ _ _ HX4.out.1
    have z2 := cell_of_row _ _ 2 _ _ _ HX4.out.1
    have f0 := frozen_of_row _ _ 0 _ _ HX4.out.1
    have f1 := frozen_of_row _ _ 1 _ _ HX4.out.1
    have f2 := frozen_of_row _ _ 2 _ _ HX4.out.1
    clear hM
    go_wp2
    have hr := ret25 (x := .int .i64 0) (y := .slice none 0 0) (z := .slice none 0 0) HX4.out.1 HX4.out.2 HP.out.1
    exact bodyPost_ret (results_row_tmp rfl _ _ p2 25 _ (0, 0) _ rfl hr.1 Tryd.underlying25 rfl row25) rfl ⟨_, _, _, _, _, _, _, 7, rfl, hr.2, .inr ⟨rfl, ⟨_, _, rfl, ⟨rfl, none, 0, rfl, Nat.zero_le _, .inl rfl⟩, ⟨rfl, none, 0, rfl, Nat.zero_le _, .inl rfl⟩⟩, HM.out⟩⟩
end Go.Proofs.YtfjocafepigijaaDoor.Su
/- slices.Reverse (98) on numbers; textTo (85): the text by which a visit was come to. Conditions: few numbers; the visits lie as their list says. -/
namespace Go.Proofs.YtfjocafepigijaaDoor.Su
open Go.RowKit Go.Shelf Mv Po Ps Cm Ra Ot Pa

/-- the first k and the last k have changed places -/
def rvl (l : List Nat) (k : Nat) : List Nat := (List.range l.length).map fun m => if m < k ∨ l.length - k ≤ m then l.getD (l.length - 1 - m) 0 else l.getD m 0
theorem rvl_len (l : List Nat) (k : Nat) : (rvl l k).length = l.length := by simp [rvl]
theorem rvl_at {l : List Nat} {k m : Nat} (h : m < l.length) : (rvl l k)[m]? = some (if m < k ∨ l.length - k ≤ m then l.getD (l.length - 1 - m) 0 else l.getD m 0) := by simp [rvl, h]
theorem getD_lt {l : List Nat} {m : Nat} (h : m < l.length) : l[m]? = some (l.getD m 0) := by
  rw [List.getD_eq_getElem?_getD, List.getElem?_eq_getElem h]
  rfl
theorem rvl_zero (l : List Nat) : rvl l 0 = l := by
  apply List.ext_getElem?
  intro m
  by_cases h : m < l.length
  · rw [rvl_at h, if_neg (by omega), getD_lt h]
  · rw [List.getElem?_eq_none (by rw [rvl_len]; omega), List.getElem?_eq_none (by omega)]
theorem rvl_mid {l : List Nat} {k m : Nat} (h1 : k ≤ m) (h2 : m < l.length - k) : (rvl l k)[m]? = some (l.getD m 0) := by
  rw [rvl_at (by omega), if_neg (by omega)]
theorem rvl_step {l : List Nat} {k j : Nat} (hj : j + k + 1 = l.length) (h : k < j) : ((rvl l k).set k (l.getD j 0)).set j (l.getD k 0) = rvl l (k + 1) := by
  apply List.ext_getElem?
  intro m
  by_cases hm : m < l.length
  · rw [rvl_at hm]
    by_cases e1 : m = j
    · subst e1
      rw [List.getElem?_set_self (by rw [List.length_set, rvl_len]; exact hm), if_pos (by omega), show l.length - 1 - m = k by omega]
    · rw [List.getElem?_set_ne (Ne.symm e1)]
      by_cases e2 : m = k
      · subst e2
        rw [List.getElem?_set_self (by rw [rvl_len]; exact hm), if_pos (by omega), show l.length - 1 - m = j by omega]
      · rw [List.getElem?_set_ne (Ne.symm e2), rvl_at hm]
        by_cases e3 : m < k ∨ l.length - k ≤ m
        · rw [if_pos e3, if_pos (by omega)]
        · rw [if_neg e3, if_neg (by omega)]
  · rw [List.getElem?_eq_none (by rw [List.length_set, List.length_set, rvl_len]; omega), List.getElem?_eq_none (by rw [rvl_len]; omega)]
theorem rvl_done {l : List Nat} {k : Nat} (h : l.length ≤ 2 * k + 1) : rvl l k = l.reverse := by
  apply List.ext_getElem?
  intro m
  by_cases hm : m < l.length
  · rw [rvl_at hm, List.getElem?_reverse hm, getD_lt (by omega)]
    by_cases e : m < k ∨ l.length - k ≤ m
    · rw [if_pos e]
    · rw [if_neg e, show l.length - 1 - m = m by omega]
  · rw [List.getElem?_eq_none (by rw [rvl_len]; omega), List.getElem?_eq_none (by rw [List.length_reverse]; omega)]
theorem ns_set (l : List Nat) (i x : Nat) : (ns l).set i (.int .i64 (x : Int)) = ns (l.set i x) := by unfold ns; rw [List.map_set]
set_option maxHeartbeats 2000000 in
set_option maxRecDepth 100000 in
theorem reverse_any (base : Nat) (v : Value) (l : List Nat) (n : Nat) (w : World) (h : w.ownsRow base 3 1 v n (ns l)) (hl : l.length = n) (hn : n ≤ 1000000) :
    Calls Tryd.prog 98 #[v] w fun e w' => e = .returned (.tuple #[]) ∧ w'.ownsRow base 3 1 v n (ns l.reverse) ∧ Kp (fun b => v.ownBlock = some b) w w' := by
  obtain ⟨a, c, rfl⟩ := oslice h
  have HO0 : Hid (w.ownsRow base 3 1 (.slice a n c) n (ns (rvl l 0))) := by show World.ownsRow _ _ _ _ _ _ _; rw [rvl_zero]; exact h
  have HL : Hid (l.length = n) := hl
  clear h hl
  go_enter Tryd.func98, Tryd.ntmps98
  go_upto_region 1 with fail
  go_loopw [2, 3] (fun s t wr => ∃ (k : Nat) (z : Int), s = .int .i64 (k : Int) ∧ t = .int .i64 z ∧ z + k + 1 = n ∧ k ≤ n ∧ wr.ownsRow base 3 1 (.slice a n c) n (ns (rvl l k)) ∧ Kp (fun b => (Value.slice a n c).ownBlock = some b) w wr) (fun s _ _ => n - (intOf s).toNat)
  case atStart => exact ⟨0, (n : Int) - 1, rfl, rfl, by omega, Nat.zero_le _, HO0.out, Kp.refl _ _⟩
  case round =>
    clear HO0
    obtain ⟨k, z, rfl, rfl, hz, hk, ho, hkp⟩ := hrel
    have HK : Hid (Kp (fun b => (Value.slice a n c).ownBlock = some b) w wr) := hkp
    have HO : Hid (wr.ownsRow base 3 1 (.slice a n c) n (ns (rvl l k))) := ho
    clear hkp
    by_cases hlt : (k : Int) < z
    · obtain ⟨j, rfl⟩ : ∃ j : Nat, z = (j : Int) := ⟨z.toNat, by omega⟩
      obtain ⟨g, cc, he, _, _⟩ := own_some ho (by omega)
      rw [Value.slice.injEq] at he
      obtain ⟨rfl, _, rfl⟩ := he
      have hjn : j < n := by omega
      have hkn : k < n := by omega
      obtain ⟨xk, hxk⟩ : ∃ x, l.getD k 0 = x := ⟨_, rfl⟩
      obtain ⟨xj, hxj⟩ : ∃ x, l.getD j 0 = x := ⟨_, rfl⟩
      have HX : Hid (l.getD k 0 = xk ∧ l.getD j 0 = xj) := ⟨hxk, hxj⟩
      clear ho hxk hxj
      go_upto_region 3 with fail
      refine wp_region_held_drew (S := fun _ => True) (by kernel_rfl) (trivial) (fun hHeld => ?_)
      have HO1 : Hid (wr.drew.ownsRow base 3 1 (.slice (some ⟨g, 0, none⟩) n c) n (ns (rvl l k))) := HO.out
      have HK1 : Hid (Kp (fun b => (Value.slice (some ⟨g, 0, none⟩) n c).ownBlock = some b) w wr.drew) := kp_then HK.out (kp_below (below_drewN (Below.refl _ _) 1) (fun _ => False)) (fun _ _ e => e.elim)
      clear HO HK
      generalize hV0 : wr.drew = V0 at *
      clear hV0
      refine wpAnyH_take (i := 0) (oi := { dst := some 14, op := Op.move (Operand.tmp 0), type := 26, pos := "slices.go:485", after := #[], guard := none }) (v := ?_) rfl (by kernel_rfl) (by kernel_rfl) (by kernel_rfl) (fun _ _ _ h => h) (Or.inl ⟨by rfl, ?_⟩) (by assumption) ?_
      case refine_2 => intro w hSw; (try dsimp only at hSw); go_simp; (try with_reducible rfl)
      simp only [Act.put, List.setIfInBounds_toArray, List.set_cons_zero, List.set_cons_succ]
      refine wpAnyH_take (i := 1) (oi := { dst := some 15, op := Op.move (Operand.tmp 2), type := 3, pos := "slices.go:485", after := #[], guard := none }) (v := ?_) rfl (by kernel_rfl) (by kernel_rfl) (by kernel_rfl) (fun _ _ _ h => h) (Or.inl ⟨by rfl, ?_⟩) (by assumption) ?_
      case refine_2 => intro w hSw; (try dsimp only at hSw); go_simp; (try with_reducible rfl)
      simp only [Act.put, List.setIfInBounds_toArray, List.set_cons_zero, List.set_cons_succ]
      refine wpAnyH_take (i := 2) (oi := { dst := some 16, op := Op.move (Operand.tmp 0), type := 26, pos := "slices.go:485", after := #[{ on := 13, ground := Ground.gcOnly Departure.lateStores }], guard := none }) (v := ?_) rfl (by kernel_rfl) (by kernel_rfl) (by kernel_rfl) (fun _ _ _ h => h) (Or.inl ⟨by rfl, ?_⟩) (by assumption) ?_
      case refine_2 => intro w hSw; (try dsimp only at hSw); go_simp; (try with_reducible rfl)
      simp only [Act.put, List.setIfInBounds_toArray, List.set_cons_zero, List.set_cons_succ]
      refine wpAnyH_take (i := 3) (oi := { dst := some 17, op := Op.move (Operand.tmp 3), type := 3, pos := "slices.go:485", after := #[{ on := 13, ground := Ground.gcOnly Departure.lateStores }], guard := none }) (v := ?_) rfl (by kernel_rfl) (by kernel_rfl) (by kernel_rfl) (fun _ _ _ h => h) (Or.inl ⟨by rfl, ?_⟩) (by assumption) ?_
      case refine_2 => intro w hSw; (try dsimp only at hSw); go_simp; (try with_reducible rfl)
      simp only [Act.put, List.setIfInBounds_toArray, List.set_cons_zero, List.set_cons_succ]
      refine wpAnyH_take (i := 4) (oi := { dst := some 18, op := Op.move (Operand.tmp 0), type := 26, pos := "slices.go:485", after := #[], guard := none }) (v := ?_) rfl (by kernel_rfl) (by kernel_rfl) (by kernel_rfl) (fun _ _ _ h => h) (Or.inl ⟨by rfl, ?_⟩) (by assumption) ?_
      case refine_2 => intro w hSw; (try dsimp only at hSw); go_simp; (try with_reducible rfl)
      simp only [Act.put, List.setIfInBounds_toArray, List.set_cons_zero, List.set_cons_succ]
      refine wpAnyH_take (i := 5) (oi := { dst := some 19, op := Op.move (Operand.tmp 3), type := 3, pos := "slices.go:485", after := #[], guard := none }) (v := ?_) rfl (by kernel_rfl) (by kernel_rfl) (by kernel_rfl) (fun _ _ _ h => h) (Or.inl ⟨by rfl, ?_⟩) (by assumption) ?_
      case refine_2 => intro w hSw; (try dsimp only at hSw); go_simp; (try with_reducible rfl)
      simp only [Act.put, List.setIfInBounds_toArray, List.set_cons_zero, List.set_cons_succ]
      refine wpAnyH_take (i := 6) (oi := { dst := some 20, op := Op.indexAddr 26 (Operand.tmp 18) (Operand.tmp 19), type := 0, pos := "slices.go:485", after := #[{ on := 4, ground := Ground.data }, { on := 5, ground := Ground.data }], guard := none }) (v := ?_) rfl (by kernel_rfl) (by kernel_rfl) (by kernel_rfl) (fun _ _ _ h => h) (Or.inl ⟨by rfl, ?_⟩) (by assumption) ?_
      case refine_2 => intro w hSw; (try dsimp only at hSw); go_simp; (try with_reducible rfl)
      simp only [Act.put, List.setIfInBounds_toArray, List.set_cons_zero, List.set_cons_succ]
      refine wpAnyH_take (i := 8) (oi := { dst := some 22, op := Op.move (Operand.tmp 0), type := 26, pos := "slices.go:485", after := #[], guard := none }) (v := ?_) rfl (by kernel_rfl) (by kernel_rfl) (by kernel_rfl) (fun _ _ _ h => h) (Or.inl ⟨by rfl, ?_⟩) (by assumption) ?_
      case refine_2 => intro w hSw; (try dsimp only at hSw); go_simp; (try with_reducible rfl)
      simp only [Act.put, List.setIfInBounds_toArray, List.set_cons_zero, List.set_cons_succ]
      refine wpAnyH_take (i := 9) (oi := { dst := some 23, op := Op.move (Operand.tmp 2), type := 3, pos := "slices.go:485", after := #[], guard := none }) (v := ?_) rfl (by kernel_rfl) (by kernel_rfl) (by kernel_rfl) (fun _ _ _ h => h) (Or.inl ⟨by rfl, ?_⟩) (by assumption) ?_
      case refine_2 => intro w hSw; (try dsimp only at hSw); go_simp; (try with_reducible rfl)
      simp only [Act.put, List.setIfInBounds_toArray, List.set_cons_zero, List.set_cons_succ]
      refine wpAnyH_take (i := 10) (oi := { dst := some 24, op := Op.indexAddr 26 (Operand.tmp 22) (Operand.tmp 23), type := 0, pos := "slices.go:485", after := #[{ on := 8, ground := Ground.data }, { on := 9, ground := Ground.data }], guard := none }) (v := ?_) rfl (by kernel_rfl) (by kernel_rfl) (by kernel_rfl) (fun _ _ _ h => h) (Or.inl ⟨by rfl, ?_⟩) (by assumption) ?_
      case refine_2 => intro w hSw; (try dsimp only at hSw); go_simp; (try with_reducible rfl)
      simp only [Act.put, List.setIfInBounds_toArray, List.set_cons_zero, List.set_cons_succ]
      refine wpAnyH_ready (rs := [7, 11]) (by kernel_rfl) (by simp) ?_
      refine (AllReadyH.cons (o := { dst := some 21, op := Op.load 3 (Operand.tmp 20), type := 3, pos := "slices.go:485", after := #[{ on := 6, ground := Ground.data }], guard := none }) rfl (fun K hK => ?_) (AllReadyH.cons (o := { dst := some 25, op := Op.load 3 (Operand.tmp 24), type := 3, pos := "slices.go:485", after := #[{ on := 10, ground := Ground.data }], guard := none }) rfl (fun K hK => ?_) AllReadyH.nil))
      · skip
        have c9 : V0.cell? ⟨g, j, none⟩ = some (.int .i64 (xj : Int)) := (HO1.out.cellAt j (by omega)).trans (ns_at (by rw [rvl_mid (by omega) (by rw [HL.out]; omega), HX.out.2]))
        go_simp
        clear c9
        refine hK.out _ _ ?_ (fun hHeld => ?_)
        · exact trivial
        clear hK K
        try simp only [Act.put, List.setIfInBounds_toArray, List.set_cons_zero, List.set_cons_succ]
        refine wpAnyH_ready (rs := [11]) (by kernel_rfl) (by simp) ?_
        refine (AllReadyH.cons (o := { dst := some 25, op := Op.load 3 (Operand.tmp 24), type := 3, pos := "slices.go:485", after := #[{ on := 10, ground := Ground.data }], guard := none }) rfl (fun K hK => ?_) AllReadyH.nil)
        have c9 : V0.cell? ⟨g, k, none⟩ = some (.int .i64 (xk : Int)) := (HO1.out.cellAt k (by omega)).trans (ns_at (by rw [rvl_mid (by omega) (by rw [HL.out]; omega), HX.out.1]))
        go_simp
        clear c9
        refine hK.out _ _ ?_ (fun hHeld => ?_)
        · exact trivial
        clear hK K
        try simp only [Act.put, List.setIfInBounds_toArray, List.set_cons_zero, List.set_cons_succ]
        refine wpAnyH_take (i := 12) (oi := { dst := some 26, op := Op.indexAddr 26 (Operand.tmp 14) (Operand.tmp 15), type := 0, pos := "slices.go:485", after := #[{ on := 0, ground := Ground.data }, { on := 1, ground := Ground.data }, { on := 0, ground := Ground.phase }, { on := 1, ground := Ground.phase }, { on := 2, ground := Ground.textOnly Departure.lateStores }, { on := 3, ground := Ground.textOnly Departure.lateStores }, { on := 4, ground := Ground.phase }, { on := 5, ground := Ground.phase }, { on := 6, ground := Ground.phase }, { on := 7, ground := Ground.phase }, { on := 8, ground := Ground.textOnly Departure.lateStores }, { on := 9, ground := Ground.textOnly Departure.lateStores }, { on := 10, ground := Ground.textOnly Departure.lateStoresUnsure }, { on := 11, ground := Ground.phase }], guard := none }) (v := ?_) rfl (by kernel_rfl) (by kernel_rfl) (by kernel_rfl) (fun _ _ _ h => h) (Or.inl ⟨by rfl, ?_⟩) (by assumption) ?_
        case refine_2 => intro w hSw; (try dsimp only at hSw); go_simp; (try with_reducible rfl)
        simp only [Act.put, List.setIfInBounds_toArray, List.set_cons_zero, List.set_cons_succ]
        refine wpAnyH_ready (rs := [13]) (by kernel_rfl) (by simp) ?_
        refine (AllReadyH.cons (o := { dst := none, op := Op.store 3 (Operand.tmp 26) (Operand.tmp 21), type := 0, pos := "slices.go:485", after := #[{ on := 12, ground := Ground.data }, { on := 7, ground := Ground.data }, { on := 0, ground := Ground.phase }, { on := 1, ground := Ground.phase }, { on := 2, ground := Ground.textOnly Departure.lateStores }, { on := 3, ground := Ground.textOnly Departure.lateStores }, { on := 4, ground := Ground.phase }, { on := 5, ground := Ground.phase }, { on := 6, ground := Ground.phase }, { on := 7, ground := Ground.phase }, { on := 8, ground := Ground.textOnly Departure.lateStores }, { on := 9, ground := Ground.textOnly Departure.lateStores }, { on := 10, ground := Ground.textOnly Departure.lateStoresUnsure }, { on := 11, ground := Ground.phase }], guard := none }) rfl (fun K hK => ?_) AllReadyH.nil)
        have c9 : V0.cell? ⟨g, k, none⟩ = some (.int .i64 (xk : Int)) := (HO1.out.cellAt k (by omega)).trans (ns_at (by rw [rvl_mid (by omega) (by rw [HL.out]; omega), HX.out.1]))
        have r9 := HO1.out.frozenAt k
        go_simp
        have HO2 : Hid ((V0.setCell ⟨g, k, none⟩ (.int .i64 (xj : Int))).ownsRow base 3 1 (.slice (some ⟨g, 0, none⟩) n c) n (ns ((rvl l k).set k xj))) := by have h := (HO1.out.stored k (.int .i64 (xj : Int))).1; rw [ns_set] at h; exact h
        clear c9 r9
        refine hK.out _ _ ?_ (fun hHeld => ?_)
        · exact trivial
        clear hK K
        try simp only [Act.put, List.setIfInBounds_toArray, List.set_cons_zero, List.set_cons_succ]
        refine wpAnyH_take (i := 14) (oi := { dst := some 27, op := Op.indexAddr 26 (Operand.tmp 16) (Operand.tmp 17), type := 0, pos := "slices.go:485", after := #[{ on := 2, ground := Ground.data }, { on := 3, ground := Ground.data }, { on := 0, ground := Ground.phase }, { on := 1, ground := Ground.phase }, { on := 2, ground := Ground.phase }, { on := 3, ground := Ground.phase }, { on := 4, ground := Ground.phase }, { on := 5, ground := Ground.phase }, { on := 6, ground := Ground.phase }, { on := 7, ground := Ground.phase }, { on := 8, ground := Ground.phase }, { on := 9, ground := Ground.phase }, { on := 10, ground := Ground.phase }, { on := 11, ground := Ground.phase }, { on := 12, ground := Ground.phase }, { on := 13, ground := Ground.phase }], guard := none }) (v := ?_) rfl (by kernel_rfl) (by kernel_rfl) (by kernel_rfl) (fun _ _ _ h => h) (Or.inl ⟨by rfl, ?_⟩) (by assumption) ?_
        case refine_2 => intro w hSw; (try dsimp only at hSw); go_simp; (try with_reducible rfl)
        simp only [Act.put, List.setIfInBounds_toArray, List.set_cons_zero, List.set_cons_succ]
        refine wpAnyH_ready (rs := [15]) (by kernel_rfl) (by simp) ?_
        refine (AllReadyH.cons (o := { dst := none, op := Op.store 3 (Operand.tmp 27) (Operand.tmp 25), type := 0, pos := "slices.go:485", after := #[{ on := 14, ground := Ground.data }, { on := 11, ground := Ground.data }, { on := 13, ground := Ground.chain }, { on := 0, ground := Ground.phase }, { on := 1, ground := Ground.phase }, { on := 2, ground := Ground.phase }, { on := 3, ground := Ground.phase }, { on := 4, ground := Ground.phase }, { on := 5, ground := Ground.phase }, { on := 6, ground := Ground.phase }, { on := 7, ground := Ground.phase }, { on := 8, ground := Ground.phase }, { on := 9, ground := Ground.phase }, { on := 10, ground := Ground.phase }, { on := 11, ground := Ground.phase }, { on := 12, ground := Ground.phase }, { on := 13, ground := Ground.phase }], guard := none }) rfl (fun K hK => ?_) AllReadyH.nil)
        obtain ⟨u9, hu9⟩ : ∃ u, (ns ((rvl l k).set k xj))[j]? = some u := ⟨_, List.getElem?_eq_getElem (by simp [ns, rvl_len]; rw [HL.out]; exact hjn)⟩
        have c9 := (HO2.out.cellAt j (by omega)).trans hu9
        have r9 := HO2.out.frozenAt j
        go_simp
        have HO3 : Hid (((V0.setCell ⟨g, k, none⟩ (.int .i64 (xj : Int))).setCell ⟨g, j, none⟩ (.int .i64 (xk : Int))).ownsRow base 3 1 (.slice (some ⟨g, 0, none⟩) n c) n (ns (rvl l (k + 1)))) := by
          have h := (HO2.out.stored j (.int .i64 (xk : Int))).1
          rw [ns_set] at h
          rw [← rvl_step (j := j) (by rw [HL.out]; omega) (by omega), HX.out.1, HX.out.2]
          exact h
        clear c9 r9 hu9
        refine hK.out _ _ ?_ (fun hHeld => ?_)
        · exact trivial
        clear hK K
        try simp only [Act.put, List.setIfInBounds_toArray, List.set_cons_zero, List.set_cons_succ]
        refine wpAnyH_done (by kernel_rfl) ?_ _
        go_wp2
        go_roundw
        case rel => exact ⟨k + 1, (j : Int) - 1, by go_num, rfl, by omega, by omega, HO3.out, (HK1.out.setCell _ _ _ (fun _ => rfl)).setCell _ _ _ (fun _ => rfl)⟩
        case measure => simp [intOf]; omega
      · skip
        have c9 : V0.cell? ⟨g, k, none⟩ = some (.int .i64 (xk : Int)) := (HO1.out.cellAt k (by omega)).trans (ns_at (by rw [rvl_mid (by omega) (by rw [HL.out]; omega), HX.out.1]))
        go_simp
        clear c9
        refine hK.out _ _ ?_ (fun hHeld => ?_)
        · exact trivial
        clear hK K
        try simp only [Act.put, List.setIfInBounds_toArray, List.set_cons_zero, List.set_cons_succ]
        refine wpAnyH_ready (rs := [7]) (by kernel_rfl) (by simp) ?_
        refine (AllReadyH.cons (o := { dst := some 21, op := Op.load 3 (Operand.tmp 20), type := 3, pos := "slices.go:485", after := #[{ on := 6, ground := Ground.data }], guard := none }) rfl (fun K hK => ?_) AllReadyH.nil)
        have c9 : V0.cell? ⟨g, j, none⟩ = some (.int .i64 (xj : Int)) := (HO1.out.cellAt j (by omega)).trans (ns_at (by rw [rvl_mid (by omega) (by rw [HL.out]; omega), HX.out.2]))
        go_simp
        clear c9
        refine hK.out _ _ ?_ (fun hHeld => ?_)
        · exact trivial
        clear hK K
        try simp only [Act.put, List.setIfInBounds_toArray, List.set_cons_zero, List.set_cons_succ]
        refine wpAnyH_take (i := 12) (oi := { dst := some 26, op := Op.indexAddr 26 (Operand.tmp 14) (Operand.tmp 15), type := 0, pos := "slices.go:485", after := #[{ on := 0, ground := Ground.data }, { on := 1, ground := Ground.data }, { on := 0, ground := Ground.phase }, { on := 1, ground := Ground.phase }, { on := 2, ground := Ground.textOnly Departure.lateStores }, { on := 3, ground := Ground.textOnly Departure.lateStores }, { on := 4, ground := Ground.phase }, { on := 5, ground := Ground.phase }, { on := 6, ground := Ground.phase }, { on := 7, ground := Ground.phase }, { on := 8, ground := Ground.textOnly Departure.lateStores }, { on := 9, ground := Ground.textOnly Departure.lateStores }, { on := 10, ground := Ground.textOnly Departure.lateStoresUnsure }, { on := 11, ground := Ground.phase }], guard := none }) (v := ?_) rfl (by kernel_rfl) (by kernel_rfl) (by kernel_rfl) (fun _ _ _ h => h) (Or.inl ⟨by rfl, ?_⟩) (by assumption) ?_
        case refine_2 => intro w hSw; (try dsimp only at hSw); go_simp; (try with_reducible rfl)
        simp only [Act.put, List.setIfInBounds_toArray, List.set_cons_zero, List.set_cons_succ]
        refine wpAnyH_ready (rs := [13]) (by kernel_rfl) (by simp) ?_
        refine (AllReadyH.cons (o := { dst := none, op := Op.store 3 (Operand.tmp 26) (Operand.tmp 21), type := 0, pos := "slices.go:485", after := #[{ on := 12, ground := Ground.data }, { on := 7, ground := Ground.data }, { on := 0, ground := Ground.phase }, { on := 1, ground := Ground.phase }, { on := 2, ground := Ground.textOnly Departure.lateStores }, { on := 3, ground := Ground.textOnly Departure.lateStores }, { on := 4, ground := Ground.phase }, { on := 5, ground := Ground.phase }, { on := 6, ground := Ground.phase }, { on := 7, ground := Ground.phase }, { on := 8, ground := Ground.textOnly Departure.lateStores }, { on := 9, ground := Ground.textOnly Departure.lateStores }, { on := 10, ground := Ground.textOnly Departure.lateStoresUnsure }, { on := 11, ground := Ground.phase }], guard := none }) rfl (fun K hK => ?_) AllReadyH.nil)
        have c9 : V0.cell? ⟨g, k, none⟩ = some (.int .i64 (xk : Int)) := (HO1.out.cellAt k (by omega)).trans (ns_at (by rw [rvl_mid (by omega) (by rw [HL.out]; omega), HX.out.1]))
        have r9 := HO1.out.frozenAt k
        go_simp
        have HO2 : Hid ((V0.setCell ⟨g, k, none⟩ (.int .i64 (xj : Int))).ownsRow base 3 1 (.slice (some ⟨g, 0, none⟩) n c) n (ns ((rvl l k).set k xj))) := by have h := (HO1.out.stored k (.int .i64 (xj : Int))).1; rw [ns_set] at h; exact h
        clear c9 r9
        refine hK.out _ _ ?_ (fun hHeld => ?_)
        · exact trivial
        clear hK K
        try simp only [Act.put, List.setIfInBounds_toArray, List.set_cons_zero, List.set_cons_succ]
        refine wpAnyH_take (i := 14) (oi := { dst := some 27, op := Op.indexAddr 26 (Operand.tmp 16) (Operand.tmp 17), type := 0, pos := "slices.go:485", after := #[{ on := 2, ground := Ground.data }, { on := 3, ground := Ground.data }, { on := 0, ground := Ground.phase }, { on := 1, ground := Ground.phase }, { on := 2, ground := Ground.phase }, { on := 3, ground := Ground.phase }, { on := 4, ground := Ground.phase }, { on := 5, ground := Ground.phase }, { on := 6, ground := Ground.phase }, { on := 7, ground := Ground.phase }, { on := 8, ground := Ground.phase }, { on := 9, ground := Ground.phase }, { on := 10, ground := Ground.phase }, { on := 11, ground := Ground.phase }, { on := 12, ground := Ground.phase }, { on := 13, ground := Ground.phase }], guard := none }) (v := ?_) rfl (by kernel_rfl) (by kernel_rfl) (by kernel_rfl) (fun _ _ _ h => h) (Or.inl ⟨by rfl, ?_⟩) (by assumption) ?_
        case refine_2 => intro w hSw; (try dsimp only at hSw); go_simp; (try with_reducible rfl)
        simp only [Act.put, List.setIfInBounds_toArray, List.set_cons_zero, List.set_cons_succ]
        refine wpAnyH_ready (rs := [15]) (by kernel_rfl) (by simp) ?_
        refine (AllReadyH.cons (o := { dst := none, op := Op.store 3 (Operand.tmp 27) (Operand.tmp 25), type := 0, pos := "slices.go:485", after := #[{ on := 14, ground := Ground.data }, { on := 11, ground := Ground.data }, { on := 13, ground := Ground.chain }, { on := 0, ground := Ground.phase }, { on := 1, ground := Ground.phase }, { on := 2, ground := Ground.phase }, { on := 3, ground := Ground.phase }, { on := 4, ground := Ground.phase }, { on := 5, ground := Ground.phase }, { on := 6, ground := Ground.phase }, { on := 7, ground := Ground.phase }, { on := 8, ground := Ground.phase }, { on := 9, ground := Ground.phase }, { on := 10, ground := Ground.phase }, { on := 11, ground := Ground.phase }, { on := 12, ground := Ground.phase }, { on := 13, ground := Ground.phase }], guard := none }) rfl (fun K hK => ?_) AllReadyH.nil)
        obtain ⟨u9, hu9⟩ : ∃ u, (ns ((rvl l k).set k xj))[j]? = some u := ⟨_, List.getElem?_eq_getElem (by simp [ns, rvl_len]; rw [HL.out]; exact hjn)⟩
        have c9 := (HO2.out.cellAt j (by omega)).trans hu9
        have r9 := HO2.out.frozenAt j
        go_simp
        have HO3 : Hid (((V0.setCell ⟨g, k, none⟩ (.int .i64 (xj : Int))).setCell ⟨g, j, none⟩ (.int .i64 (xk : Int))).ownsRow base 3 1 (.slice (some ⟨g, 0, none⟩) n c) n (ns (rvl l (k + 1)))) := by
          have h := (HO2.out.stored j (.int .i64 (xk : Int))).1
          rw [ns_set] at h
          rw [← rvl_step (j := j) (by rw [HL.out]; omega) (by omega), HX.out.1, HX.out.2]
          exact h
        clear c9 r9 hu9
        refine hK.out _ _ ?_ (fun hHeld => ?_)
        · exact trivial
        clear hK K
        try simp only [Act.put, List.setIfInBounds_toArray, List.set_cons_zero, List.set_cons_succ]
        refine wpAnyH_done (by kernel_rfl) ?_ _
        go_wp2
        go_roundw
        case rel => exact ⟨k + 1, (j : Int) - 1, by go_num, rfl, by omega, by omega, HO3.out, (HK1.out.setCell _ _ _ (fun _ => rfl)).setCell _ _ _ (fun _ => rfl)⟩
        case measure => simp [intOf]; omega
    · have hz' : l.length ≤ 2 * k + 1 := by rw [HL.out]; omega
      have HD : Hid (wr.ownsRow base 3 1 (.slice a n c) n (ns l.reverse)) := by have h := HO.out; rw [rvl_done hz'] at h; exact h
      clear hz' ho
      go_wp2
      go_end0
      exact ⟨rfl, HD.out, HK.out⟩
/-- visits as they lie: a duo, from which visit, by what symbol -/
def vcs (l : List (Duo × Nat × Nat)) : List Value := l.flatMap fun x => [.int .i64 (enc x.1.1), .int .i64 (enc x.1.2), .int .i64 (x.2.1 : Int), .int .i64 (x.2.2 : Int)]
theorem vcs_at {l : List (Duo × Nat × Nat)} {i : Nat} {x : Duo × Nat × Nat} (h : l[i]? = some x) : (vcs l)[i * 4]? = some (.int .i64 (enc x.1.1)) ∧ (vcs l)[i * 4 + 1]? = some (.int .i64 (enc x.1.2)) ∧ (vcs l)[i * 4 + 2]? = some (.int .i64 (x.2.1 : Int)) ∧ (vcs l)[i * 4 + 3]? = some (.int .i64 (x.2.2 : Int)) := by
  induction l generalizing i with
  | nil => simp at h
  | cons y l ih =>
    have e : vcs (y :: l) = [.int .i64 (enc y.1.1), .int .i64 (enc y.1.2), .int .i64 (y.2.1 : Int), .int .i64 (y.2.2 : Int)] ++ vcs l := by simp [vcs]
    cases i with
    | zero =>
      simp at h
      subst h
      rw [e]
      exact ⟨rfl, rfl, rfl, rfl⟩
    | succ i =>
      have h2 := ih (i := i) (by simpa using h)
      have sh : ∀ t, (vcs (y :: l))[(i + 1) * 4 + t]? = (vcs l)[i * 4 + t]? := fun t => by
        rw [e, show (i + 1) * 4 + t = 4 + (i * 4 + t) by omega, List.getElem?_append_right (by simp <;> omega)]
        congr 1
        simp <;> omega
      have s0 := sh 0
      simp only [Nat.add_zero] at s0
      rw [s0, sh 1, sh 2, sh 3]
      exact h2
theorem vcs_snoc (l : List (Duo × Nat × Nat)) (x : Duo × Nat × Nat) : vcs (l ++ [x]) = vcs l ++ [.int .i64 (enc x.1.1), .int .i64 (enc x.1.2), .int .i64 (x.2.1 : Int), .int .i64 (x.2.2 : Int)] := by simp [vcs]
/-- the visits that lie are those of the list, each with its text -/
structure Vl (vs : List (Duo × Nat × Nat)) (l : List Vis) : Prop where
  len : vs.length = l.length
  duo : ∀ (i : Nat) (x : Duo × Nat × Nat) (y : Vis), vs[i]? = some x → l[i]? = some y → x.1 = y.1
  zero : ∀ y : Vis, l[0]? = some y → y.2 = []
  txt : ∀ (i : Nat) (x : Duo × Nat × Nat) (y : Vis), 0 < i → vs[i]? = some x → l[i]? = some y → x.2.1 < i ∧ ∃ z, l[x.2.1]? = some z ∧ y.2 = z.2 ++ [x.2.2]
theorem Vl.begin : Vl [((some 0, some 0), 0, 0)] [v0] :=
  ⟨rfl, fun i x y hx hy => by cases i with
    | zero => simp at hx hy; subst hx; subst hy; rfl
    | succ i => simp at hx, fun y hy => by simp at hy; subst hy; rfl, fun i x y h hx _ => by cases i with
    | zero => exact absurd h (Nat.lt_irrefl 0)
    | succ i => simp at hx⟩
theorem Vl.add {vs : List (Duo × Nat × Nat)} {l : List Vis} {d : Duo} {k s : Nat} {e : Vis} (h : Vl vs l) (he : l[k]? = some e) : Vl (vs ++ [(d, k, s)]) (l ++ [(d, e.2 ++ [s])]) := by
  have hk := (List.getElem?_eq_some_iff.1 he).1
  have hl := h.len
  refine ⟨by rw [List.length_append, List.length_append, h.len]; rfl, fun i x y hx hy => ?_, fun y hy => ?_, fun i x y h0 hx hy => ?_⟩
  · by_cases e1 : i < l.length
    · rw [List.getElem?_append_left (by omega)] at hx
      rw [List.getElem?_append_left e1] at hy
      exact h.duo i x y hx hy
    · have h1 := (List.getElem?_eq_some_iff.1 hy).1
      rw [List.length_append, List.length_singleton] at h1
      obtain rfl : i = l.length := by omega
      rw [← hl] at hx
      simp at hx
      simp at hy
      rw [← hx, ← hy]
  · rw [List.getElem?_append_left (by omega)] at hy
    exact h.zero y hy
  · by_cases e1 : i < l.length
    · rw [List.getElem?_append_left (by omega)] at hx
      rw [List.getElem?_append_left e1] at hy
      obtain ⟨h1, z, h2, h3⟩ := h.txt i x y h0 hx hy
      exact ⟨h1, z, by rw [List.getElem?_append_left (by omega)]; exact h2, h3⟩
    · have h1 := (List.getElem?_eq_some_iff.1 hy).1
      rw [List.length_append, List.length_singleton] at h1
      obtain rfl : i = l.length := by omega
      rw [← hl] at hx
      simp at hx
      simp at hy
      rw [← hx, ← hy]
      exact ⟨hk, e, by rw [List.getElem?_append_left hk]; exact he, rfl⟩
set_option maxHeartbeats 2000000 in
set_option maxRecDepth 100000 in
theorem textTo_any (base : Nat) (vv : Value) (vs : List (Duo × Nat × Nat)) (l : List Vis) (k N : Nat) (e0 : Vis) (w : World) (h : w.ownsRow base 159 4 vv N (vcs vs)) (hN : vs.length = N) (hV : Vl vs l) (he : l[k]? = some e0) (hn : N ≤ 300000) :
    Calls Tryd.prog 85 #[vv, .int .i64 (k : Int)] w fun e w' => ∃ v, e = .returned v ∧ w'.ownsRow w.heap.size 3 1 v e0.2.length (ns e0.2) ∧ Below w.heap.size w w' := by
  obtain ⟨i3, hi3, hx0, hx1, hx2⟩ := info_parts inf3'
  have hkN : k < N := by have h1 := (List.getElem?_eq_some_iff.1 he).1; have h2 := hV.len; omega
  obtain ⟨vg, vc, rfl, _, _⟩ := own_some h (by omega)
  have HV : Hid (Vl vs l ∧ vs.length = N ∧ l[k]? = some e0) := ⟨hV, hN, he⟩
  have HR : Hid (∀ W, Below w.heap.size w W → W.ownsRow base 159 4 (.slice (some ⟨vg, 0, none⟩) N vc) N (vcs vs)) := fun W hW => own_kp2 h (kp_below hW (fun _ => False)) (fun _ _ => id)
  clear h hN hV he
  go_enter Tryd.func85, Tryd.ntmps85
  go_upto_region 2 with fail
  go_loopw [1, 5] (fun s t wr => ∃ (m : Nat) (v : Value) (col : List Nat), s = .int .i64 (m : Int) ∧ t = v ∧ m ≤ k ∧ wr.ownsRow w.heap.size 3 1 v col.length (ns col) ∧ Below w.heap.size w wr ∧ (∃ y, l[m]? = some y ∧ e0.2 = y.2 ++ col.reverse) ∧ col.length + m ≤ k) (fun s _ _ => (intOf s).toNat)
  case atStart => exact ⟨k, _, [], rfl, rfl, Nat.le_refl _, World.ownsRow_nil _ _ _ _, Below.refl _ _, ⟨e0, HV.out.2.2, by simp⟩, by simp⟩
  case round =>
    obtain ⟨m, v, col, rfl, rfl, hm, ho, hb, ht, hc⟩ := hrel
    obtain ⟨cn, hcn⟩ : ∃ n, col.length = n := ⟨_, rfl⟩
    obtain ⟨ca, cc, rfl⟩ := oslice ho
    rw [hcn] at ho hc
    have HO : Hid (wr.ownsRow w.heap.size 3 1 (.slice ca cn cc) cn (ns col)) := ho
    have HB : Hid (Below w.heap.size w wr) := hb
    have HT : Hid ((∃ y, l[m]? = some y ∧ e0.2 = y.2 ++ col.reverse) ∧ col.length = cn) := ⟨ht, hcn⟩
    rw [hcn]
    clear ho hb ht hcn
    by_cases hlt : 0 < m
    · obtain ⟨y, hy, hty⟩ := HT.out.1
      have hml := (List.getElem?_eq_some_iff.1 hy).1
      obtain ⟨x, hx⟩ : ∃ x, vs[m]? = some x := ⟨_, List.getElem?_eq_getElem (by rw [HV.out.1.len]; exact hml)⟩
      obtain ⟨hfr, z, hz, hyz⟩ := HV.out.1.txt m x y hlt hx hy
      obtain ⟨xd, fr, sy⟩ := x
      dsimp only at hfr hz hyz
      have hrow := HR.out _ HB.out
      have hmN : m < N := by omega
      have HC : Hid (wr.cell? ⟨vg, m * 4 + 3, none⟩ = some (.int .i64 (sy : Int)) ∧ (vcs vs)[m * 4 + 2]? = some (.int .i64 (fr : Int))) := ⟨(hrow.cellAt (m * 4 + 3) (by omega)).trans (vcs_at hx).2.2.2, (vcs_at hx).2.2.1⟩
      have HT2 : Hid (l[fr]? = some z ∧ e0.2 = z.2 ++ (col ++ [sy]).reverse) := ⟨hz, by rw [hty, hyz]; simp⟩
      have hmi : (0 : Int) < (m : Int) := by omega
      clear hy hty hx hz hyz hrow hml
      have c3 := HC.out.1
      have HSZ : Hid (w.heap.size ≤ wr.heap.size) := HB.out.size
      go_upto_region 3 with (refine wpList_append_own_at _ rfl _ _ 26 rfl w.heap.size 3 i3 (.int .i64 0) 1 8 Tryd.underlying26 hi3 hx0 hx1 hx2 rfl (by decide) _ _ _ rfl (HO.out.alloc _) ⟨_, 0, none⟩ 1 1 [.int .i64 (sy : Int)] rfl rfl (cell_one_new _ _ _) (sl_one _ rfl) (by unfold maxLen; omega) (by omega) (by have h := HSZ.out; simp; omega) ?_; intro v7 w7 ho7 hg7 _ hl7; obtain ⟨g7, c7, rfl, _, _⟩ := own_some ho7 (Nat.succ_pos _); have HO3 : Hid (w7.ownsRow w.heap.size 3 1 (.slice (some ⟨g7, 0, none⟩) (cn + 1) c7) (cn + 1) (ns (col ++ [sy])) ∧ Below w.heap.size w w7) := ⟨by rw [show ns (col ++ [sy]) = ns col ++ [.int .i64 (sy : Int)] by simp [ns]]; exact ho7, (HB.out.alloc HB.out.size _).grown hg7 (HB.out.alloc HB.out.size _).size (fun b hb => (HO.out.lt b hb).1)⟩; clear ho7 hg7 hl7)
      clear c3
      have c2 := ((HR.out _ HO3.out.2).cellAt (m * 4 + 2) (by omega)).trans HC.out.2
      go_wp2
      go_roundw
      case rel => exact ⟨fr, _, col ++ [sy], rfl, rfl, by omega, by rw [List.length_append, HT.out.2]; exact HO3.out.1, HO3.out.2, ⟨z, HT2.out.1, HT2.out.2⟩, by rw [List.length_append, HT.out.2]; simp; omega⟩
      case measure => simp [intOf]; omega
    · obtain rfl : m = 0 := by omega
      have HE : Hid (e0.2 = col.reverse) := by
        obtain ⟨y, hy, hty⟩ := HT.out.1
        show _ = _
        rw [hty, HV.out.1.zero y hy]
        rfl
      have K98 := reverse_any w.heap.size (.slice ca cn cc) col cn wr HO.out HT.out.2 (by omega)
      go_wp2_with (go_at_call 98; (with_reducible refine K98.mono ?_); clear K98; rintro e w5 ⟨rfl, hr5, hk5⟩; have HR5 : Hid (w5.ownsRow w.heap.size 3 1 (.slice ca cn cc) cn (ns col.reverse) ∧ Below w.heap.size w w5) := ⟨hr5, below_kp HB.out hk5 (fun b hb e => by have := (HO.out.lt b e).1; omega)⟩; clear hr5 hk5)
      go_ret
      exact ⟨_, rfl, by rw [HE.out, List.length_reverse, HT.out.2]; exact HR5.out.1, HR5.out.2⟩
end Go.Proofs.YtfjocafepigijaaDoor.Su
/- firstApart: the map from duos to numbers; what ends and next say of a duo; how its parts lie. Condition: numbers of rows are small. -/
namespace Go.Proofs.YtfjocafepigijaaDoor.Su
open Go.RowKit Mv Po Ps Cm Ra Ot Pa
open Go.Maps (Keyed)

theorem row157 : (157 : TypeId) < Tryd.prog.types.size := of_decide_eq_true (by kernel_rfl)
theorem wide157 : (match Tryd.prog.underlying 157 with | some (.array _ _) | some (.struct _) => true | _ => false) = true := by kernel_rfl
set_option maxRecDepth 1000000 in
theorem law157 : WideMaps.KeyLaw Tryd.prog 157 := deep_law_laid Mp.laid (m := 3) (by omega) row157 (by kernel_rfl) wide157
set_option maxRecDepth 1000000 in
theorem keyed157 : Keyed Tryd.prog 157 := Keyed.of_law law157
set_option maxRecDepth 1000000 in
theorem keyType157 : Tryd.prog.keyType 157 = true := by kernel_rfl
theorem cells157 : Tryd.prog.cellsOf 157 = 2 := by kernel_rfl
theorem keyOf_duo (i o : Int) (hi : Mp.W64 i) (ho : Mp.W64 o) : keyOf Tryd.prog 157 (.agg #[.int .i64 i, .int .i64 o]) = some (Mp.kl i o) := by
  unfold Mp.W64 at hi ho
  unfold keyOf
  simp only [Tryd.underlying157]
  obtain ⟨d, hd⟩ := Mp.size89
  rw [if_pos (by simp [keyType157, Value.formed, Tryd.underlying157, cells157]), hd]
  unfold Program.keyLits
  simp only [Tryd.underlying157, Value.cells]
  rw [if_pos (by rw [cells157]; exact ⟨rfl, by kernel_rfl⟩)]
  simp [Mp.cells3, Mp.lits3, hi, ho, Mp.kl]
def W2 (a : Int × Int) : Prop := Mp.W64 a.1 ∧ Mp.W64 a.2
/-- block b is a map that has G at each duo -/
def IsDm (w : World) (b n : Nat) (G : Int × Int → Option Nat) : Prop :=
  ∃ D : DataW Value, w.ownsMap Tryd.prog 157 Mp.El b n D ∧ ∀ a, W2 a → ∀ z, D.atKey (Mp.kl a.1 a.2) z = (match G a with | some c => .held (.int .i64 (c : Int)) | none => z)
theorem IsDm.lt {w : World} {b n : Nat} {G : Int × Int → Option Nat} (h : IsDm w b n G) : b < w.heap.size := by
  obtain ⟨D, h, _⟩ := h
  exact h.lt
theorem IsDm.kept {w w' : World} {b n : Nat} {G : Int × Int → Option Nat} (h : IsDm w b n G) (hb : w'.heap[b]? = w.heap[b]?) : IsDm w' b n G := by
  obtain ⟨D, ⟨es, clock, h1, h2⟩, h3⟩ := h
  exact ⟨D, ⟨es, clock, hb.trans h1, h2⟩, h3⟩
theorem IsDm.ty {w : World} {b n : Nat} {G : Int × Int → Option Nat} (h : IsDm w b n G) : ∃ es clock, w.heap[b]? = some (.map es clock) := by
  obtain ⟨D, ⟨es, clock, h1, _⟩, _⟩ := h
  exact ⟨es, clock, h1⟩
theorem dm_made (w : World) : IsDm (w.alloc (.map #[] 0)) w.heap.size 0 (fun _ => none) :=
  ⟨_, World.ownsMap_made w Tryd.prog 157 Mp.El, fun _ _ _ => rfl⟩
theorem IsDm.look {w : World} {b n : Nat} {G : Int × Int → Option Nat} (h : IsDm w b n G) {a : Int × Int} (ha : W2 a) : (Instr.lookup 161 (.map (some b)) (.agg #[.int .i64 a.1, .int .i64 a.2]) true).run Tryd.prog w = .ok (match G a with | some c => .tuple #[.int .i64 (c : Int), .bool true] | none => .tuple #[.int .i64 0, .bool false]) w := by
  obtain ⟨D, ⟨es, clock, hb, F, hs, hD⟩, hG⟩ := h
  have hg := hG a ha
  rw [hD] at hg
  rcases Maps.fit_look true keyed157 Tryd.underlying161 (Am.zero3 w) hb F (keyOf_duo a.1 a.2 ha.1 ha.2) with ⟨hr, _, hno⟩ | ⟨e0, y, _, _, hr, hy, hat, _⟩
  · rw [hr]
    cases e : G a with
    | none => rfl
    | some c =>
      have h1 := hg .nil
      rw [hno, e] at h1
      cases h1
  · rw [hr]
    cases e : G a with
    | none =>
      have h1 := hg .nil
      have h2 := hg (.held undef)
      rw [hat, e] at h1 h2
      rw [h1] at h2
      cases h2
    | some c =>
      have h1 := hg .nil
      rw [hat, e] at h1
      have h2 : y.1 = .held e0.val := by
        unfold Mp.El at hy
        simp only [Option.some.injEq] at hy
        rw [← hy]
      rw [h2] at h1
      simp only [DataW.held.injEq] at h1
      rw [if_pos rfl, h1]
theorem IsDm.store {w : World} {b n c : Nat} {G : Int × Int → Option Nat} (h : IsDm w b n G) (hn : n < maxLen) {a : Int × Int} (ha : W2 a) :
    ∃ w', (Instr.mapUpdate 161 (.map (some b)) (.agg #[.int .i64 a.1, .int .i64 a.2]) (.int .i64 (c : Int))).run Tryd.prog w = .ok () w' ∧ IsDm w' b (n + 1) (fun a' => if a' = a then some c else G a') ∧ w.grownBy w' (some b) := by
  obtain ⟨D, hown, hG⟩ := h
  obtain ⟨w', hr, ho, hg⟩ := hown.update keyed157 Tryd.underlying161 hn (keyOf_duo a.1 a.2 ha.1 ha.2) (val := .int .i64 (c : Int)) (d := .held (.int .i64 (c : Int))) (ps := []) rfl
  refine ⟨w', hr, ⟨_, ho, fun a' ha' z => ?_⟩, hg⟩
  obtain ⟨es, clock, _, _, _, hD⟩ := hown
  by_cases e : a' = a
  · subst e
    simp only [if_true]
    exact Maps.atKey_put_same (by rw [hD]; exact ⟨_, rfl⟩) (keyed157.key (keyOf_duo a'.1 a'.2 ha'.1 ha'.2)) _ _
  · simp only [if_neg e]
    rw [Maps.atKey_put_other (fun h => e (by obtain ⟨h1, h2⟩ := Mp.kl_inj ha'.1 ha'.2 ha.1 ha.2 h; exact Prod.ext h1 h2))]
    exact hG a' ha' z
/-- a duo as it lies -/
def dk (d : Duo) : Int × Int := (enc d.1, enc d.2)
theorem dk_inj {d e : Duo} (h : dk d = dk e) : d = e := by
  unfold dk at h
  rw [Prod.mk.injEq] at h
  exact Prod.ext (enc_inj h.1) (enc_inj h.2)
theorem enc_w {n : Nat} {s : Option Nat} (h : InT n s) (hn : n ≤ 500) : Mp.W64 (enc s) := by
  apply w64s
  cases s with
  | none => exact .inl rfl
  | some i => have := h i rfl; right; simp only [enc]; omega
/-- ends and next, of a row or nowhere -/
theorem ends_duo {T : Tb} {base p g n cap : Nat} {X : Nat → Nat → Int} {f d : Nat → Bool} {s : Option Nat} (hT : IsT T n X f) (w : World) (h : PT w base p g n cap X f d) (hs : InT n s) :
    Calls Tryd.prog 84 #[.pointer (some ⟨p, 0, none⟩), .int .i64 (enc s)] w fun e w' => e = .returned (.bool (T.fo s)) ∧ Below w.heap.size w w' := by
  cases s with
  | none => exact ends_none _ w
  | some i =>
    have hi := hs i rfl
    have h1 := ends_some base p g n cap i X f d w h hi
    rw [hT.fin i hi] at h1
    exact h1
theorem next_duo {T : Tb} {base p g n cap c : Nat} {X : Nat → Nat → Int} {f d : Nat → Bool} {s : Option Nat} (hT : IsT T n X f) (w : World) (h : PT w base p g n cap X f d) (hs : InT n s) (h1 : 1 ≤ c) (h2 : c ≤ 60) :
    Calls Tryd.prog 86 #[.pointer (some ⟨p, 0, none⟩), .int .i64 (enc s), .int .i64 (c : Int)] w fun e w' => e = .returned (.int .i64 (enc (T.st s c))) ∧ Below w.heap.size w w' := by
  cases s with
  | none => exact next_none _ c w (by omega)
  | some i =>
    have hi := hs i rfl
    have h3 := next_some base p g n cap i c X f d w h hi (by omega)
    rw [hT.arc i c hi h1 h2] at h3
    exact h3
/-- the map knows the duos that were come to -/
def Kd (l : List Vis) (G : Int × Int → Option Nat) : Prop := ∀ d : Duo, (G (dk d)).isSome = hasD l d
theorem Kd.add {l : List Vis} {G : Int × Int → Option Nat} {d : Duo} {t : List Nat} {c : Nat} (h : Kd l G) : Kd (l ++ [(d, t)]) (fun a => if a = dk d then some c else G a) := fun e => by
  show (if dk e = dk d then some c else G (dk e)).isSome = _
  have h1 : hasD (l ++ [(d, t)]) e = (hasD l e || decide (d = e)) := by unfold hasD; simp
  rw [h1]
  by_cases he : e = d
  · subst he; simp
  · rw [if_neg (fun h2 => he (dk_inj h2)), h e]
    have : ¬ d = e := fun h2 => he h2.symm
    simp [this]
theorem Kd.begin : Kd [v0] (fun a => if a = (0, 0) then some 0 else none) := fun e => by
  show (if dk e = (0, 0) then some 0 else none : Option Nat).isSome = _
  have h1 : hasD [v0] e = decide ((some 0, some 0) = e) := by unfold hasD v0; simp
  rw [h1]
  by_cases he : (some 0, some 0) = e
  · subst he; rfl
  · rw [if_neg (fun h2 => he (dk_inj (d := (some 0, some 0)) (e := e) (by rw [h2]; rfl)))]
    simp [he]
/-- how the visits and the map lie -/
structure Fz (w wr : World) (mb : Nat) (vv : Value) (vs : List (Duo × Nat × Nat)) (G : Int × Int → Option Nat) : Prop where
  row : wr.ownsRow w.heap.size 159 4 vv vs.length (vcs vs)
  nm : IsDm wr mb vs.length G
  mge : w.heap.size ≤ mb
  below : Below w.heap.size w wr
section
variable {w wr w1 : World} {mb : Nat} {vv : Value} {vs : List (Duo × Nat × Nat)} {G : Int × Int → Option Nat}
theorem Fz.laid (h : Fz w wr mb vv vs G) (hb : Below wr.heap.size wr w1) : Fz w w1 mb vv vs G :=
  ⟨own_kp2 h.row (kp_below hb (fun _ => False)) (fun _ _ => id), h.nm.kept (hb.block _ h.nm.lt), h.mge, h.below.trans (hb.mono h.below.size)⟩
theorem Fz.store (h : Fz w wr mb vv vs G) (hg : wr.grownBy w1 (some mb)) : w1.ownsRow w.heap.size 159 4 vv vs.length (vcs vs) ∧ Below w.heap.size w w1 := by
  have hk : Kp (fun b => b = mb) wr w1 := (Kp.refl _ wr).grown hg (fun b hb _ => by injection hb with hb; exact hb.symm)
  refine ⟨own_kp2 h.row hk (fun b hb e => ?_), below_kp h.below hk (fun b hb e => by have e2 : b = mb := e; have := h.mge; omega)⟩
  obtain ⟨d, hd⟩ := own_ty h.row hb
  obtain ⟨es, ck, hm2⟩ := h.nm.ty
  rw [e, hm2] at hd
  cases hd
theorem Fz.add {v1 : Value} {w2 : World} {o : Obj} {x : Duo × Nat × Nat} (hr : w1.ownsRow w.heap.size 159 4 vv vs.length (vcs vs)) (hb : Below w.heap.size w w1) (hm : IsDm w1 mb (vs.length + 1) G) (hge : w.heap.size ≤ mb)
    (ho : w2.ownsRow w.heap.size 159 4 v1 (vs.length + 1) (vcs vs ++ [.int .i64 (enc x.1.1), .int .i64 (enc x.1.2), .int .i64 (x.2.1 : Int), .int .i64 (x.2.2 : Int)])) (hg : (w1.alloc o).grownBy w2 vv.ownBlock) : Fz w w2 mb v1 (vs ++ [x]) G := by
  have hba := below_al w1 o
  have hk : Kp (fun b => vv.ownBlock = some b) w1 w2 := kp_then (kp_below hba (fun b => vv.ownBlock = some b)) ((Kp.refl (fun b => vv.ownBlock = some b) _).grown hg (fun b hb _ => hb)) (fun _ _ e => e)
  refine ⟨by rw [List.length_append, vcs_snoc]; exact ho, ?_, hge, below_kp hb hk (fun b hb2 e => by have := (hr.lt b e).1; omega)⟩
  rw [List.length_append]
  refine hm.kept (hk.block _ hm.lt (fun e => ?_))
  obtain ⟨d, hd⟩ := own_ty hr e
  obtain ⟨es, ck, hm2⟩ := hm.ty
  rw [hm2] at hd
  cases hd
end
theorem inf159 : (Tryd.prog.info? 159).map (fun i => (i.zero, i.size, i.bytes)) = some (some (.agg #[.int .i64 0, .int .i64 0, .int .i64 0, .int .i64 0]), 4, 32) := by kernel_rfl
theorem cell_four_new (w : World) (a b c d : Value) (ty : TypeId) : ∀ j v, [a, b, c, d][j]? = some v → (w.alloc (.cells #[a, b, c, d] ty)).cell? ((⟨w.heap.size, 0, none⟩ : Addr).add j) = some v := by
  intro j v hj
  match j, hj with
  | 0, hj => simp at hj; subst hj; simp [Addr.add]
  | 1, hj => simp at hj; subst hj; simp [Addr.add]
  | 2, hj => simp at hj; subst hj; simp [Addr.add]
  | 3, hj => simp at hj; subst hj; simp [Addr.add]
theorem four_one (a b c d : Int) : ∀ u ∈ [Value.int .i64 a, .int .i64 b, .int .i64 c, .int .i64 d], u.oneCell' = true := fun u hu => by
  simp at hu
  rcases hu with rfl | rfl | rfl | rfl <;> rfl
theorem own_four (W : World) (base : Nat) (a b c d : Value) (hb : base ≤ W.heap.size) : (W.alloc (.cells #[a, b, c, d] 159)).ownsRow base 159 4 (.slice (some ⟨W.heap.size, 0, none⟩) 1 1) 1 [a, b, c, d] :=
  ⟨rfl, .inr ⟨W.heap.size, 1, #[a, b, c, d], rfl, hb, heap_alloc_new _ _, Nat.le_refl _, by unfold maxLen; omega, rfl, by simp⟩⟩
end Go.Proofs.YtfjocafepigijaaDoor.Su
/- A machine that is being made in a box (split): its arcs and finals grow. No conditions. -/
namespace Go.Proofs.YtfjocafepigijaaDoor.Su
open Go.RowKit Mv Po Ps Cm Ra Ot Pa

/-- the result's place, the machine that is made, its rows -/
structure Sq (w wr : World) (p4 p7 : Nat) (st : Int) (va vg : Value) (arcs : List (Int × Int × Int × Int × Int)) (fs : List (Int × Int)) : Prop where
  out : wr.heap[p4]? = some (.cells #[.int .i64 0, .slice none 0 0, .slice none 0 0] 25 (0, 0))
  mac : wr.heap[p7]? = some (.cells #[.int .i64 st, va, vg] 25 (0, 0))
  ne : p4 ≠ p7
  le4 : w.heap.size ≤ p4
  le7 : w.heap.size ≤ p7
  arow : wr.ownsRow w.heap.size 64 5 va arcs.length (acs arcs)
  grow : wr.ownsRow w.heap.size 66 2 vg fs.length (fcs fs)
  below : Below w.heap.size w wr
section
variable {w wr w1 : World} {p4 p7 : Nat} {st : Int} {va vg : Value} {arcs : List (Int × Int × Int × Int × Int)} {fs : List (Int × Int)}
theorem Sq.kept {X : Nat → Prop} (h : Sq w wr p4 p7 st va vg arcs fs) (hk : Kp X wr w1) (h4 : ¬ X p4) (h7 : ¬ X p7) (ha : ∀ b, va.ownBlock = some b → ¬ X b) (hg : ∀ b, vg.ownBlock = some b → ¬ X b) (hb : ∀ b, b < w.heap.size → ¬ X b) : Sq w w1 p4 p7 st va vg arcs fs :=
  ⟨(hk.block _ (lt_at h.out) h4).trans h.out, (hk.block _ (lt_at h.mac) h7).trans h.mac, h.ne, h.le4, h.le7, own_kp2 h.arow hk ha, own_kp2 h.grow hk hg, below_kp h.below hk hb⟩
theorem Sq.laid (h : Sq w wr p4 p7 st va vg arcs fs) (hb : Below wr.heap.size wr w1) : Sq w w1 p4 p7 st va vg arcs fs :=
  h.kept (kp_below hb (fun _ => False)) id id (fun _ _ => id) (fun _ _ => id) (fun _ _ => id)
/-- a block of one's own, newer than the rows, is turned -/
theorem Sq.other {b : Nat} {c : Array Value} (h : Sq w wr p4 p7 st va vg arcs fs) (hk : Kp (fun k => k = b) wr w1) (hb : wr.heap[b]? = some (.cells c 64 (0, 0))) (hge : w.heap.size ≤ b) (hva : va.ownBlock ≠ some b) : Sq w w1 p4 p7 st va vg arcs fs :=
  h.kept hk (fun e => by subst e; exact ty_ne h.out hb (by decide)) (fun e => by subst e; exact ty_ne h.mac hb (by decide)) (fun k hk2 e => by subst e; exact hva hk2) (fun k hk2 e => by subst e; obtain ⟨d, hd⟩ := own_ty h.grow hk2; exact ty_ne hd hb (by decide)) (fun k hk2 e => by have e2 : k = b := e; omega)
theorem Sq.macGrown {e s n : Nat} {v : Value} {xs : List Value} (h : Sq w wr p4 p7 st va vg arcs fs) (hr : wr.ownsRow w.heap.size e s v n xs) (he : e ≠ 25) (hg : wr.grownBy w1 v.ownBlock) : w1.heap[p7]? = some (.cells #[.int .i64 st, va, vg] 25 (0, 0)) :=
  (hg.block p7 (lt_at h.mac) (fun e2 => by obtain ⟨d', hd'⟩ := own_ty hr e2.symm; exact ty_ne h.mac hd' (fun h => he h.symm))).trans h.mac
/-- an arc more -/
theorem Sq.addA {v1 : Value} {a : Int × Int × Int × Int × Int} (h : Sq w wr p4 p7 st va vg arcs fs) (ho : w1.ownsRow w.heap.size 64 5 v1 (arcs.length + 1) (acs arcs ++ ac a)) (hg : wr.grownBy w1 va.ownBlock) : Sq w (w1.setCell ⟨p7, 1, none⟩ v1) p4 p7 st v1 vg (arcs ++ [a]) fs ∧ Kp (fun b => b = p7 ∨ va.ownBlock = some b) wr (w1.setCell ⟨p7, 1, none⟩ v1) := by
  have hk1 : Kp (fun b => b = p7 ∨ va.ownBlock = some b) wr w1 := (Kp.refl _ wr).grown hg (fun b hb _ => .inr hb)
  have hk : Kp (fun b => b = p7 ∨ va.ownBlock = some b) wr (w1.setCell ⟨p7, 1, none⟩ v1) := hk1.setCell _ _ _ (fun _ => .inl rfl)
  have nt : ∀ {b : Nat} {d : Array Value} {ty : TypeId}, wr.heap[b]? = some (.cells d ty (0, 0)) → ty ≠ 64 → ty ≠ 25 → ¬ (b = p7 ∨ va.ownBlock = some b) := fun {b d ty} hb hne h25 e => by
    rcases e with rfl | e
    · exact ty_ne hb h.mac h25
    · obtain ⟨d', hd'⟩ := own_ty h.arow e; exact ty_ne hb hd' hne
  have hm := h.macGrown h.arow (by decide) hg
  have hb := below_kp h.below hk (fun b hb e => by
    rcases e with rfl | e
    · have := h.le7; omega
    · have := (h.arow.lt b e).1; omega)
  refine ⟨⟨(hk.block _ (lt_at h.out) (fun e => ?_)).trans h.out, ?_, h.ne, h.le4, h.le7, ?_, own_kp2 h.grow hk (fun b hb => by obtain ⟨d, hd⟩ := own_ty h.grow hb; exact nt hd (by decide) (by decide)), hb⟩, hk⟩
  · rcases e with e | e
    · exact h.ne e
    · obtain ⟨d', hd'⟩ := own_ty h.arow e; exact ty_ne h.out hd' (by decide)
  · have := heap_setCell_same w1 p7 1 _ 25 v1 hm
    exact this
  · rw [List.length_append, show acs (arcs ++ [a]) = acs arcs ++ ac a by simp [acs]]
    refine own_kp2 ho (X := fun b => b = p7) ((Kp.refl _ w1).setCell _ _ _ (fun _ => rfl)) (fun b hb2 e => ?_)
    subst e
    obtain ⟨d', hd'⟩ := own_ty ho hb2
    exact ty_ne hm hd' (by decide)
/-- a final state more -/
theorem Sq.addG {v1 : Value} {f : Int × Int} (h : Sq w wr p4 p7 st va vg arcs fs) (ho : w1.ownsRow w.heap.size 66 2 v1 (fs.length + 1) (fcs fs ++ fc f)) (hg : wr.grownBy w1 vg.ownBlock) : Sq w (w1.setCell ⟨p7, 2, none⟩ v1) p4 p7 st va v1 arcs (fs ++ [f]) := by
  have hk1 : Kp (fun b => b = p7 ∨ vg.ownBlock = some b) wr w1 := (Kp.refl _ wr).grown hg (fun b hb _ => .inr hb)
  have hk : Kp (fun b => b = p7 ∨ vg.ownBlock = some b) wr (w1.setCell ⟨p7, 2, none⟩ v1) := hk1.setCell _ _ _ (fun _ => .inl rfl)
  have nt : ∀ {b : Nat} {d : Array Value} {ty : TypeId}, wr.heap[b]? = some (.cells d ty (0, 0)) → ty ≠ 66 → ty ≠ 25 → ¬ (b = p7 ∨ vg.ownBlock = some b) := fun {b d ty} hb hne h25 e => by
    rcases e with rfl | e
    · exact ty_ne hb h.mac h25
    · obtain ⟨d', hd'⟩ := own_ty h.grow e; exact ty_ne hb hd' hne
  have hm := h.macGrown h.grow (by decide) hg
  have hb := below_kp h.below hk (fun b hb e => by
    rcases e with rfl | e
    · have := h.le7; omega
    · have := (h.grow.lt b e).1; omega)
  refine ⟨(hk.block _ (lt_at h.out) (fun e => ?_)).trans h.out, ?_, h.ne, h.le4, h.le7, own_kp2 h.arow hk (fun b hb => by obtain ⟨d, hd⟩ := own_ty h.arow hb; exact nt hd (by decide) (by decide)), ?_, hb⟩
  · rcases e with e | e
    · exact h.ne e
    · obtain ⟨d', hd'⟩ := own_ty h.grow e; exact ty_ne h.out hd' (by decide)
  · have := heap_setCell_same w1 p7 2 _ 25 v1 hm
    exact this
  · rw [List.length_append, show fcs (fs ++ [f]) = fcs fs ++ fc f by simp [fcs]]
    refine own_kp2 ho (X := fun b => b = p7) ((Kp.refl _ w1).setCell _ _ _ (fun _ => rfl)) (fun b hb2 e => ?_)
    subst e
    obtain ⟨d', hd'⟩ := own_ty ho hb2
    exact ty_ne hm hd' (by decide)
end
end Go.Proofs.YtfjocafepigijaaDoor.Su
