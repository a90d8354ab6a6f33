/- The program's Apart (24): for machines that are wrong, that are not plain, that are. Conditions: as the theorems say. -/
import Derived.Test.YtfjocafepigijaaDoorFw
import Derived.Test.YtfjocafepigijaaDoorMc
import Derived.OwnWalk
namespace Go.Proofs.YtfjocafepigijaaDoor.Su
open Go.RowKit Go.Shelf Mv Po Ps Cm Ra Ot Pa

/-- two boxed machines -/
theorem box25 (w : World) (MA MC : Array Value) : ∃ W0, (w.alloc (.cells MA 25)).alloc (.cells MC 25) = W0 ∧ Below w.heap.size w W0 ∧ W0.heap[w.heap.size]? = some (.cells MA 25 (0, 0)) ∧ W0.heap[w.heap.size + 1]? = some (.cells MC 25 (0, 0)) := by
  have s1 : (w.alloc (.cells MA 25)).heap.size = w.heap.size + 1 := by simp
  have B1 := below_al w (.cells MA 25)
  refine ⟨_, rfl, B1.alloc B1.size _, ?_, ?_⟩
  · rw [heap_alloc_old _ _ (by rw [s1]; omega)]
    exact heap_alloc_new _ _
  · rw [← s1]
    exact heap_alloc_new _ _
/-- a machine is wrong -/
theorem apart_bad (S U : Int) (A B : AL) (F H : List (Int × Int)) (aa af ba bf' : Option Addr) (ca cf da df' : Nat) (w : World) (hA : Mv.Row w (.slice aa A.length ca) 5 A.length (acs A)) (hF : Mv.Row w (.slice af F.length cf) 2 F.length (fcs F)) (hB : Mv.Row w (.slice ba B.length da) 5 B.length (acs B)) (hH : Mv.Row w (.slice bf' H.length df') 2 H.length (fcs H)) (x y : Int) (hx : checkP ⟨S, A, F⟩ x) (hy : checkP ⟨U, B, H⟩ y) (h0 : Mc.both x y ≠ 0) :
    Calls Tryd.prog 24 #[.agg #[.int .i64 S, .slice aa A.length ca, .slice af F.length cf], .agg #[.int .i64 U, .slice ba B.length da, .slice bf' H.length df']] w fun e w' => e = .returned (.tuple #[.slice none 0 0, .bool false, .int .i64 (Mc.both x y)]) ∧ Below w.heap.size w w' := by
  obtain ⟨W0, hW0, B0, x1, x2⟩ := box25 w #[.int .i64 S, .slice aa A.length ca, .slice af F.length cf] #[.int .i64 U, .slice ba B.length da, .slice bf' H.length df']
  have b0 := cell_of_row _ _ 0 _ _ _ x1
  have b1 := cell_of_row _ _ 1 _ _ _ x1
  have b2 := cell_of_row _ _ 2 _ _ _ x1
  have b3 := cell_of_row _ _ 0 _ _ _ x2
  have b4 := cell_of_row _ _ 1 _ _ _ x2
  have b5 := cell_of_row _ _ 2 _ _ _ x2
  have K37 := Mc.both_any ⟨S, A, F⟩ ⟨U, B, H⟩ _ _ x y W0 ⟨_, _, rfl, hA.below B0, hF.below B0⟩ ⟨_, _, rfl, hB.below B0, hH.below B0⟩ hx hy
  obtain ⟨z, hz⟩ : ∃ z, Mc.both x y = z := ⟨_, rfl⟩
  rw [hz] at K37 h0 ⊢
  have q1 : (z != 0) = true := by simpa using h0
  have HB : Hid (Below w.heap.size w W0) := B0
  clear hA hF hB hH hx hy h0 x1 x2 B0 hz
  go_enter Tryd.func24, Tryd.ntmps24
  go_wp2_with (go_at_call 37; (with_reducible refine K37.mono ?_); clear K37; rintro e w1 ⟨rfl, hb1⟩; have HB1 : Hid (Below w.heap.size w w1) := HB.out.trans (hb1.mono HB.out.size); clear hb1)
  go_ret3
  exact ⟨rfl, HB1.out⟩
/-- a machine is not plain -/
theorem apart_un (S U : Int) (A B : AL) (F H : List (Int × Int)) (aa af ba bf' : Option Addr) (ca cf da df' : Nat) (w : World) (hA : Mv.Row w (.slice aa A.length ca) 5 A.length (acs A)) (hF : Mv.Row w (.slice af F.length cf) 2 F.length (fcs F)) (hB : Mv.Row w (.slice ba B.length da) 5 B.length (acs B)) (hH : Mv.Row w (.slice bf' H.length df') 2 H.length (fcs H)) (hx : checkP ⟨S, A, F⟩ 0) (hy : checkP ⟨U, B, H⟩ 0) (h0 : (plB A F && plB B H) = false) :
    Calls Tryd.prog 24 #[.agg #[.int .i64 S, .slice aa A.length ca, .slice af F.length cf], .agg #[.int .i64 U, .slice ba B.length da, .slice bf' H.length df']] w fun e w' => e = .returned (.tuple #[.slice none 0 0, .bool false, .int .i64 4]) ∧ Below w.heap.size w w' := by
  obtain ⟨W0, hW0, B0, x1, x2⟩ := box25 w #[.int .i64 S, .slice aa A.length ca, .slice af F.length cf] #[.int .i64 U, .slice ba B.length da, .slice bf' H.length df']
  have b0 := cell_of_row _ _ 0 _ _ _ x1
  have b1 := cell_of_row _ _ 1 _ _ _ x1
  have b2 := cell_of_row _ _ 2 _ _ _ x1
  have b3 := cell_of_row _ _ 0 _ _ _ x2
  have b4 := cell_of_row _ _ 1 _ _ _ x2
  have b5 := cell_of_row _ _ 2 _ _ _ x2
  have K37 := Mc.both_any ⟨S, A, F⟩ ⟨U, B, H⟩ _ _ 0 0 W0 ⟨_, _, rfl, hA.below B0, hF.below B0⟩ ⟨_, _, rfl, hB.below B0, hH.below B0⟩ hx hy
  rw [show Mc.both 0 0 = 0 from rfl] at K37
  have HX0 : Hid (W0.heap[w.heap.size]? = some (.cells #[.int .i64 S, .slice aa A.length ca, .slice af F.length cf] 25 (0, 0)) ∧ W0.heap[w.heap.size + 1]? = some (.cells #[.int .i64 U, .slice ba B.length da, .slice bf' H.length df'] 25 (0, 0)) ∧ Below w.heap.size w W0) := ⟨x1, x2, B0⟩
  have HR : Hid ((Mv.Row w (.slice aa A.length ca) 5 A.length (acs A) ∧ Mv.Row w (.slice af F.length cf) 2 F.length (fcs F)) ∧ Mv.Row w (.slice ba B.length da) 5 B.length (acs B) ∧ Mv.Row w (.slice bf' H.length df') 2 H.length (fcs H)) := ⟨⟨hA, hF⟩, hB, hH⟩
  obtain ⟨pa, hpa⟩ : ∃ b, plB A F = b := ⟨_, rfl⟩
  obtain ⟨pb, hpb⟩ : ∃ b, plB B H = b := ⟨_, rfl⟩
  have HPL : Hid (plB A F = pa ∧ plB B H = pb) := ⟨hpa, hpb⟩
  rw [hpa, hpb] at h0
  clear hA hF hB hH hx hy x1 x2 B0 hpa hpb
  go_enter Tryd.func24, Tryd.ntmps24
  go_upto_region 2 with (go_at_call 37; (with_reducible refine K37.mono ?_); clear K37; rintro e w1 ⟨rfl, hb1⟩; have HB1 : Hid (Below W0.heap.size W0 w1) := hb1; clear hb1)
  clear b0 b1 b2 b3 b4 b5 hW0
  have HX1 : Hid (w1.heap[w.heap.size]? = some (.cells #[.int .i64 S, .slice aa A.length ca, .slice af F.length cf] 25 (0, 0)) ∧ w1.heap[w.heap.size + 1]? = some (.cells #[.int .i64 U, .slice ba B.length da, .slice bf' H.length df'] 25 (0, 0)) ∧ Below w.heap.size w w1) := ⟨(HB1.out.block _ (lt_at HX0.out.1)).trans HX0.out.1, (HB1.out.block _ (lt_at HX0.out.2.1)).trans HX0.out.2.1, HX0.out.2.2.trans (HB1.out.mono HX0.out.2.2.size)⟩
  have b0 := cell_of_row _ _ 0 _ _ _ HX1.out.1
  have b1 := cell_of_row _ _ 1 _ _ _ HX1.out.1
  have b2 := cell_of_row _ _ 2 _ _ _ HX1.out.1
  have K46 := plain_any S A F aa af ca cf w1 (HR.out.1.1.below HX1.out.2.2) (HR.out.1.2.below HX1.out.2.2)
  rw [HPL.out.1] at K46
  clear HX0
  cases pa with
  | false =>
    go_wp2_with (go_at_call 46; (with_reducible refine K46.mono ?_); clear K46; rintro e w2 ⟨rfl, hb2⟩; have HB2 : Hid (Below w.heap.size w w2) := HX1.out.2.2.trans (hb2.mono HX1.out.2.2.size); clear hb2)
    go_ret3
    exact ⟨rfl, HB2.out⟩
  | true =>
    obtain rfl : pb = false := by simpa using h0
    go_wp2_with (first
      | (go_at_call 46; (with_reducible refine K46.mono ?_); clear K46; rintro e w2 ⟨rfl, hb2⟩; have HB2 : Hid (Below w.heap.size w w2) := HX1.out.2.2.trans (hb2.mono HX1.out.2.2.size); have x2 := (hb2.block _ (lt_at HX1.out.2.1)).trans HX1.out.2.1; have b3 := cell_of_row _ _ 0 _ _ _ x2; have b4 := cell_of_row _ _ 1 _ _ _ x2; have b5 := cell_of_row _ _ 2 _ _ _ x2; have K47 := plain_any U B H ba bf' da df' w2 (HR.out.2.1.below HB2.out) (HR.out.2.2.below HB2.out); rw [HPL.out.2] at K47; clear hb2 x2)
      | (go_at_call 46; (with_reducible refine K47.mono ?_); clear K47; rintro e w3 ⟨rfl, hb3⟩; have HB3 : Hid (Below w.heap.size w w3) := HB2.out.trans (hb3.mono HB2.out.size); clear hb3))
    go_ret3
    exact ⟨rfl, HB3.out⟩
/-- what Apart hands back for plain machines -/
def ApQ (S : Nat) (A : AL) (F : List (Int × Int)) (U : Nat) (B : AL) (H : List (Int × Int)) (w : World) (e : Ending) (w' : World) : Prop :=
  ∃ (v : Value) (b : Bool) (x : Int), e = .returned (.tuple #[v, .bool b, .int .i64 x]) ∧ Below w.heap.size w w' ∧ ((x = 7 ∧ (Many S A ∨ Many U B) ∧ v = .slice none 0 0 ∧ b = false) ∨ (x = 0 ∧ ∃ n m r, Done S A n ∧ Done U B m ∧ IsAp (tbl S A F n) (tbl U B H m) false r ∧ ((b = true ∧ ∃ t, r = some t ∧ w'.ownsRow w.heap.size 3 1 v t.length (ns t)) ∨ (b = false ∧ r = none ∧ v = .slice none 0 0))))
/-- newTable, told in one -/
theorem newTable_one (S : Nat) (A : AL) (F : List (Int × Int)) (aa af : Option Addr) (ca cf : Nat) (w : World) (hG : Gd S A) (hS40 : S ≤ 400) (hA : Mv.Row w (.slice aa A.length ca) 5 A.length (acs A)) (hF : Mv.Row w (.slice af F.length cf) 2 F.length (fcs F)) (hf : ∀ k (h : k < F.length), finB (S : Int) F[k] = true) (hTab : TabAt 0 Lib.deBruijn64tab w) (h00 : 0 < w.heap.size) :
    Calls Tryd.prog 47 #[.agg #[.int .i64 (S : Int), .slice aa A.length ca, .slice af F.length cf]] w fun e w' => ∃ (q : Option Addr) (x : Int), e = .returned (.tuple #[.pointer q, .int .i64 x]) ∧ Below w.heap.size w w' ∧ ((∃ n p g cap, q = some ⟨p, 0, none⟩ ∧ x = 0 ∧ Done S A n ∧ PT w' w.heap.size p g n cap (Xk S A n) (fk S A F n) (fun _ => false)) ∨ (q = none ∧ x = 7 ∧ Many S A)) :=
  (newTable_any S A F aa af ca cf w hG hS40 hA hF hf hTab h00).mono fun e w' h => by
    rcases h with ⟨n, p, g, cap, h1, h2, h3, h4, h5⟩ | ⟨h1, h2, h3⟩
    · exact ⟨_, _, h1, h5, .inl ⟨n, p, g, cap, rfl, rfl, h2, h3⟩⟩
    · exact ⟨_, _, h1, h3, .inr ⟨rfl, rfl, h2⟩⟩
theorem done_pos {S : Nat} {A : AL} {n : Nat} (h : Done S A n) : 0 < n := by
  have h1 := (tab_pre S A 0 n (Nat.zero_le _)).length_le
  rw [h.len] at h1
  exact h1
set_option maxHeartbeats 2000000 in
theorem apart_any (S U : Nat) (A B : AL) (F H : List (Int × Int)) (aa af ba bf' : Option Addr) (ca cf da df' : Nat) (w : World) (hG : Gd S A) (hG2 : Gd U B) (hS40 : S ≤ 400) (hU40 : U ≤ 400) (hA : Mv.Row w (.slice aa A.length ca) 5 A.length (acs A)) (hF : Mv.Row w (.slice af F.length cf) 2 F.length (fcs F)) (hB : Mv.Row w (.slice ba B.length da) 5 B.length (acs B)) (hH : Mv.Row w (.slice bf' H.length df') 2 H.length (fcs H)) (hf : ∀ k (h : k < F.length), finB (S : Int) F[k] = true) (hf2 : ∀ k (h : k < H.length), finB (U : Int) H[k] = true) (hTab : TabAt 0 Lib.deBruijn64tab w) (h00 : 0 < w.heap.size) (hx : checkP ⟨(S : Int), A, F⟩ 0) (hy : checkP ⟨(U : Int), B, H⟩ 0) (hp : plB A F = true) (hp2 : plB B H = true) :
    Calls Tryd.prog 24 #[.agg #[.int .i64 (S : Int), .slice aa A.length ca, .slice af F.length cf], .agg #[.int .i64 (U : Int), .slice ba B.length da, .slice bf' H.length df']] w (ApQ S A F U B H w) := by
  obtain ⟨W0, hW0, B0, x1, x2⟩ := box25 w #[.int .i64 (S : Int), .slice aa A.length ca, .slice af F.length cf] #[.int .i64 (U : Int), .slice ba B.length da, .slice bf' H.length df']
  have b0 := cell_of_row _ _ 0 _ _ _ x1
  have b1 := cell_of_row _ _ 1 _ _ _ x1
  have b2 := cell_of_row _ _ 2 _ _ _ x1
  have b3 := cell_of_row _ _ 0 _ _ _ x2
  have b4 := cell_of_row _ _ 1 _ _ _ x2
  have b5 := cell_of_row _ _ 2 _ _ _ x2
  have K37 := Mc.both_any ⟨(S : Int), A, F⟩ ⟨(U : Int), B, H⟩ _ _ 0 0 W0 ⟨_, _, rfl, hA.below B0, hF.below B0⟩ ⟨_, _, rfl, hB.below B0, hH.below B0⟩ hx hy
  rw [show Mc.both 0 0 = 0 from rfl] at K37
  have HX0 : Hid (W0.heap[w.heap.size]? = some (.cells #[.int .i64 (S : Int), .slice aa A.length ca, .slice af F.length cf] 25 (0, 0)) ∧ W0.heap[w.heap.size + 1]? = some (.cells #[.int .i64 (U : Int), .slice ba B.length da, .slice bf' H.length df'] 25 (0, 0)) ∧ Below w.heap.size w W0) := ⟨x1, x2, B0⟩
  have HR : Hid ((Mv.Row w (.slice aa A.length ca) 5 A.length (acs A) ∧ Mv.Row w (.slice af F.length cf) 2 F.length (fcs F)) ∧ Mv.Row w (.slice ba B.length da) 5 B.length (acs B) ∧ Mv.Row w (.slice bf' H.length df') 2 H.length (fcs H)) := ⟨⟨hA, hF⟩, hB, hH⟩
  have HPL : Hid (plB A F = true ∧ plB B H = true) := ⟨hp, hp2⟩
  have HGG : Hid ((Gd S A ∧ S ≤ 400 ∧ ∀ k (h : k < F.length), finB (S : Int) F[k] = true) ∧ (Gd U B ∧ U ≤ 400 ∧ ∀ k (h : k < H.length), finB (U : Int) H[k] = true)) := ⟨⟨hG, hS40, hf⟩, hG2, hU40, hf2⟩
  have HTB : Hid (∀ W, Below w.heap.size w W → TabAt 0 Lib.deBruijn64tab W ∧ 0 < W.heap.size) := fun W hW => ⟨Tz.tab_below hTab h00 hW, Nat.lt_of_lt_of_le h00 hW.size⟩
  clear hG hG2 hS40 hU40 hf hf2 hTab h00 hA hF hB hH hx hy hp hp2 x1 x2 B0
  go_enter Tryd.func24, Tryd.ntmps24
  go_upto_region 2 with (go_at_call 37; (with_reducible refine K37.mono ?_); clear K37; rintro e w1 ⟨rfl, hb1⟩; have HB1 : Hid (Below W0.heap.size W0 w1) := hb1; clear hb1)
  clear b0 b1 b2 b3 b4 b5 hW0
  have HX1 : Hid (w1.heap[w.heap.size]? = some (.cells #[.int .i64 (S : Int), .slice aa A.length ca, .slice af F.length cf] 25 (0, 0)) ∧ w1.heap[w.heap.size + 1]? = some (.cells #[.int .i64 (U : Int), .slice ba B.length da, .slice bf' H.length df'] 25 (0, 0)) ∧ Below w.heap.size w w1) := ⟨(HB1.out.block _ (lt_at HX0.out.1)).trans HX0.out.1, (HB1.out.block _ (lt_at HX0.out.2.1)).trans HX0.out.2.1, HX0.out.2.2.trans (HB1.out.mono HX0.out.2.2.size)⟩
  have b0 := cell_of_row _ _ 0 _ _ _ HX1.out.1
  have b1 := cell_of_row _ _ 1 _ _ _ HX1.out.1
  have b2 := cell_of_row _ _ 2 _ _ _ HX1.out.1
  have K46 := plain_any (S : Int) A F aa af ca cf w1 (HR.out.1.1.below HX1.out.2.2) (HR.out.1.2.below HX1.out.2.2)
  rw [HPL.out.1] at K46
  clear HX0 HB1
  go_upto_region 6 with (first
    | (go_at_call 46; (with_reducible refine K46.mono ?_); clear K46; rintro e w2 ⟨rfl, hb2⟩; have HX2 : Hid (w2.heap[w.heap.size]? = some (.cells #[.int .i64 (S : Int), .slice aa A.length ca, .slice af F.length cf] 25 (0, 0)) ∧ w2.heap[w.heap.size + 1]? = some (.cells #[.int .i64 (U : Int), .slice ba B.length da, .slice bf' H.length df'] 25 (0, 0)) ∧ Below w.heap.size w w2) := ⟨(hb2.block _ (lt_at HX1.out.1)).trans HX1.out.1, (hb2.block _ (lt_at HX1.out.2.1)).trans HX1.out.2.1, HX1.out.2.2.trans (hb2.mono HX1.out.2.2.size)⟩; have b3 := cell_of_row _ _ 0 _ _ _ HX2.out.2.1; have b4 := cell_of_row _ _ 1 _ _ _ HX2.out.2.1; have b5 := cell_of_row _ _ 2 _ _ _ HX2.out.2.1; have K47 := plain_any (U : Int) B H ba bf' da df' w2 (HR.out.2.1.below HX2.out.2.2) (HR.out.2.2.below HX2.out.2.2); rw [HPL.out.2] at K47; clear hb2)
    | (go_at_call 46; (with_reducible refine K47.mono ?_); clear K47; rintro e w3 ⟨rfl, hb3⟩; have HB3 : Hid (Below w2.heap.size w2 w3) := hb3; clear hb3))
  clear b0 b1 b2 b3 b4 b5
  have HX3 : Hid (w3.heap[w.heap.size]? = some (.cells #[.int .i64 (S : Int), .slice aa A.length ca, .slice af F.length cf] 25 (0, 0)) ∧ w3.heap[w.heap.size + 1]? = some (.cells #[.int .i64 (U : Int), .slice ba B.length da, .slice bf' H.length df'] 25 (0, 0)) ∧ Below w.heap.size w w3) := ⟨(HB3.out.block _ (lt_at HX2.out.1)).trans HX2.out.1, (HB3.out.block _ (lt_at HX2.out.2.1)).trans HX2.out.2.1, HX2.out.2.2.trans (HB3.out.mono HX2.out.2.2.size)⟩
  have b0 := cell_of_row _ _ 0 _ _ _ HX3.out.1
  have b1 := cell_of_row _ _ 1 _ _ _ HX3.out.1
  have b2 := cell_of_row _ _ 2 _ _ _ HX3.out.1
  have K47 := newTable_one S A F aa af ca cf w3 HGG.out.1.1 HGG.out.1.2.1 (HR.out.1.1.below HX3.out.2.2) (HR.out.1.2.below HX3.out.2.2) HGG.out.1.2.2 (HTB.out _ HX3.out.2.2).1 (HTB.out _ HX3.out.2.2).2
  clear HX1 HX2 HB3
  go_upto_region 7 with (go_at_call 47; (with_reducible refine K47.mono ?_); clear K47; rintro e w4 ⟨q, x, rfl, hb4, hor⟩; have HX4 : Hid (Below w3.heap.size w3 w4 ∧ ((∃ n p g cap, q = some ⟨p, 0, none⟩ ∧ x = 0 ∧ Done S A n ∧ PT w4 w3.heap.size p g n cap (Xk S A n) (fk S A F n) (fun _ => false)) ∨ (q = none ∧ x = 7 ∧ Many S A))) := ⟨hb4, hor⟩; clear hb4 hor)
  clear b0 b1 b2
  have HB4 : Hid (Below w.heap.size w w4) := HX3.out.2.2.trans (HX4.out.1.mono HX3.out.2.2.size)
  have HX5 : Hid (w4.heap[w.heap.size + 1]? = some (.cells #[.int .i64 (U : Int), .slice ba B.length da, .slice bf' H.length df'] 25 (0, 0))) := (HX4.out.1.block _ (lt_at HX3.out.2.1)).trans HX3.out.2.1
  rcases HX4.out.2 with ⟨n, p, g, cap, rfl, rfl, hD, hPT⟩ | ⟨rfl, rfl, hM⟩
  · have HD1 : Hid (Done S A n ∧ PT w4 w3.heap.size p g n cap (Xk S A n) (fk S A F n) (fun _ => false)) := ⟨hD, hPT⟩
    have b3 := cell_of_row _ _ 0 _ _ _ HX5.out
    have b4 := cell_of_row _ _ 1 _ _ _ HX5.out
    have b5 := cell_of_row _ _ 2 _ _ _ HX5.out
    have K47 := newTable_one U B H ba bf' da df' w4 HGG.out.2.1 HGG.out.2.2.1 (HR.out.2.1.below HB4.out) (HR.out.2.2.below HB4.out) HGG.out.2.2.2 (HTB.out _ HB4.out).1 (HTB.out _ HB4.out).2
    clear hD hPT HX3 HX4
    go_upto_region 10 with (go_at_call 47; (with_reducible refine K47.mono ?_); clear K47; rintro e w5 ⟨q, x, rfl, hb5, hor⟩; have HX6 : Hid (Below w4.heap.size w4 w5 ∧ ((∃ n p g cap, q = some ⟨p, 0, none⟩ ∧ x = 0 ∧ Done U B n ∧ PT w5 w4.heap.size p g n cap (Xk U B n) (fk U B H n) (fun _ => false)) ∨ (q = none ∧ x = 7 ∧ Many U B))) := ⟨hb5, hor⟩; clear hb5 hor)
    clear b3 b4 b5
    have HB5 : Hid (Below w.heap.size w w5) := HB4.out.trans (HX6.out.1.mono HB4.out.size)
    rcases HX6.out.2 with ⟨m, p', g', cap', rfl, rfl, hD2, hPT2⟩ | ⟨rfl, rfl, hM⟩
    · have K53 := firstApart_any (tbl S A F n) (tbl U B H m) w3.heap.size p g n cap w4.heap.size p' g' m cap' (Xk S A n) (Xk U B m) (fk S A F n) (fk U B H m) (fun _ => false) (fun _ => false) w5 (isT_tbl HD1.out.1) (isT_tbl hD2) (HD1.out.2.below HX6.out.1) hPT2 HD1.out.1.few hD2.few (done_pos HD1.out.1) (done_pos hD2)
      have HD2 : Hid (Done U B m) := hD2
      clear hD2 hPT2
      go_wp2_with (go_at_call 53; (with_reducible refine K53.mono ?_); clear K53; rintro e w6 ⟨v, b, r, rfl, hb6, hap, hor⟩; have HF : Hid (Below w5.heap.size w5 w6 ∧ IsAp (tbl S A F n) (tbl U B H m) false r ∧ ((b = true ∧ ∃ t, r = some t ∧ w6.ownsRow w5.heap.size 3 1 v t.length (ns t)) ∨ (b = false ∧ r = none ∧ v = .slice none 0 0))) := ⟨hb6, hap, hor⟩; clear hb6 hap hor)
      go_ret3
      refine ⟨v, b, 0, rfl, HB5.out.trans (HF.out.1.mono HB5.out.size), .inr ⟨rfl, n, m, r, HD1.out.1, HD2.out, HF.out.2.1, ?_⟩⟩
      rcases HF.out.2.2 with ⟨h1, t, h2, h3⟩ | h
      · exact .inl ⟨h1, t, h2, own_le h3 HB5.out.size⟩
      · exact .inr h
    · have HM : Hid (Many U B) := hM
      clear hM
      go_wp2
      go_ret3
      exact ⟨_, false, 7, rfl, HB5.out, .inl ⟨rfl, .inr HM.out, rfl, rfl⟩⟩
  · have HM : Hid (Many S A) := hM
    clear hM HX3 HX4
    go_wp2
    go_ret3
    exact ⟨_, false, 7, rfl, HB4.out, .inl ⟨rfl, .inl HM.out, rfl, rfl⟩⟩
end Go.Proofs.YtfjocafepigijaaDoor.Su
