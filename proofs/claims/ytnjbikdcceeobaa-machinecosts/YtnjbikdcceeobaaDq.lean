/- The document's cost answers what it must. Conditions: the machine is small, no text is longer than 61. -/
import Derived.Test.YtnjbikdcceeobaaRz
import Derived.Deep.Cut
import Derived.Deep.DeepCutAuto
namespace Go.Proofs.Ytnjbikdcceeobaa.Dq
open Go.RowKit Mv Wk Sy Rz

theorem box3 {w wr : World} {a b c : Value} (h : Below (w.alloc (.cells #[a, b, c] 25)).heap.size (w.alloc (.cells #[a, b, c] 25)) wr) : wr.cell? ⟨w.heap.size, 0, none⟩ = some a ∧ wr.cell? ⟨w.heap.size, 1, none⟩ = some b ∧ wr.cell? ⟨w.heap.size, 2, none⟩ = some c := by
  have hl : w.heap.size < (w.alloc (.cells #[a, b, c] 25)).heap.size := by simp
  have hn := heap_alloc_new w (.cells #[a, b, c] 25)
  exact ⟨(h.cell (p := ⟨w.heap.size, 0, none⟩) hl).trans (cell_of_row _ _ 0 _ 25 (0, 0) hn), (h.cell (p := ⟨w.heap.size, 1, none⟩) hl).trans (cell_of_row _ _ 1 _ 25 (0, 0) hn), (h.cell (p := ⟨w.heap.size, 2, none⟩) hl).trans (cell_of_row _ _ 2 _ 25 (0, 0) hn)⟩
theorem dear_beq {v : Nat} (h : v < dear) : ((v : Int) == 1152921504606846976) = false := CR.not_dear h
theorem dear_ne {v : Nat} (h : v < dear) : ¬ (v : Int) = 1152921504606846976 := by
  unfold dear at h
  omega

theorem carry {n : Nat} {a : Option Addr} {xs : List Value} {w W : World} (h : n = 0 ∨ ∃ b off, a = some ⟨b, off, none⟩ ∧ b < w.heap.size ∧ ∀ j u, xs[j]? = some u → w.cell? ⟨b, off + j, none⟩ = some u) (hW : Below w.heap.size w W) : n = 0 ∨ ∃ b off, a = some ⟨b, off, none⟩ ∧ b < W.heap.size ∧ ∀ j u, xs[j]? = some u → W.cell? ⟨b, off + j, none⟩ = some u := by
  rcases h with h | ⟨b, off, e, hb, hc⟩
  · exact .inl h
  · exact .inr ⟨b, off, e, Nat.lt_of_lt_of_le hb hW.size, fun j u hu => (hW.cell hb).trans (hc j u hu)⟩
set_option maxHeartbeats 4000000 in
set_option maxRecDepth 100000 in
theorem doc_any (m : M) (inn out : List Int) (v vi vo : Value) (w : World) (hM : IsM w v m) (hI : IsI w vi inn) (hO : IsI w vo out) (hfew : fewB m = true) (hil : inn.length ≤ 61) (hol : out.length ≤ 61) :
    Calls Try.prog 9 #[v, vi, vo] w fun e w' => ∃ c ok er, e = .returned (.tuple #[.int .i64 c, .bool ok, .int .i64 er]) ∧ Res m inn out c ok er ∧ Below w.heap.size w w' := by
  obtain ⟨st, arcs, fins⟩ := m
  have hchk := CkR.check_any ⟨st, arcs, fins⟩ v
  obtain ⟨va, vf, rfl, ⟨hxa, aa, ca, rfl, hna, hA⟩, ⟨hxf, af, cf, rfl, hnf, hF⟩⟩ := hM
  have HI : Hid (IsI w vi inn) := hI
  have HO : Hid (IsI w vo out) := hO
  obtain ⟨hxi, ai, ci, rfl, hni, hIc⟩ := hI
  obtain ⟨hxo, ao, co, rfl, hno, hOc⟩ := hO
  obtain ⟨x0, hx0⟩ := checkP_ex ⟨st, arcs, fins⟩
  dsimp only at hxa hna hA hxf hnf hF
  have HX0 : Hid (checkP ⟨st, arcs, fins⟩ x0) := hx0
  have HMB : Hid (∀ W, Below w.heap.size w W → IsM W (.agg #[.int .i64 st, .slice aa arcs.length ca, .slice af fins.length cf]) ⟨st, arcs, fins⟩) := fun W hW => IsM.below (m := ⟨st, arcs, fins⟩) (show IsM w (.agg #[.int .i64 st, .slice aa arcs.length ca, .slice af fins.length cf]) ⟨st, arcs, fins⟩ from ⟨.slice aa arcs.length ca, .slice af fins.length cf, rfl, ⟨hxa, aa, ca, rfl, hna, hA⟩, ⟨hxf, af, cf, rfl, hnf, hF⟩⟩) hW
  have hb0 : ∀ o, Below w.heap.size w (w.alloc o) := fun o => (Below.refl _ w).alloc (Nat.le_refl _) o
  have h6 : ∀ W, Below w.heap.size w W → Calls Try.prog 6 #[.agg #[.int .i64 st, .slice aa arcs.length ca, .slice af fins.length cf]] W fun e W' => e = .returned (.int .i64 x0) ∧ Below W.heap.size W W' := fun W hW => (hchk W (HMB.out W hW)).mono (fun e W' ⟨⟨x, h1, h2⟩, h3⟩ => ⟨by rw [h1, checkP_one h2 HX0.out], h3⟩)
  obtain ⟨jx, hjx⟩ : ∃ j, jn inn out = j := ⟨_, rfl⟩
  have hj : ∀ W, Below w.heap.size w W → Calls Try.prog 19 #[.slice ai inn.length ci, .slice ao out.length co] W fun e W' => e = .returned (.int .i64 jx) ∧ Below W.heap.size W W' := fun W hW => by
    rw [← hjx]
    exact joined_any inn out _ _ W (HI.out.below hW) (HO.out.below hW)
  have HJX : Hid (jn inn out = jx) := hjx
  have HAc : Hid (∀ W, Below w.heap.size w W → (arcs.length = 0 ∨ ∃ b off, aa = some ⟨b, off, none⟩ ∧ b < W.heap.size ∧ ∀ j u, (acs arcs)[j]? = some u → W.cell? ⟨b, off + j, none⟩ = some u) ∧ (fins.length = 0 ∨ ∃ b off, af = some ⟨b, off, none⟩ ∧ b < W.heap.size ∧ ∀ j u, (fcs fins)[j]? = some u → W.cell? ⟨b, off + j, none⟩ = some u) ∧ (inn.length = 0 ∨ ∃ b off, ai = some ⟨b, off, none⟩ ∧ b < W.heap.size ∧ ∀ j u, (inn.map (Value.int .i64))[j]? = some u → W.cell? ⟨b, off + j, none⟩ = some u) ∧ (out.length = 0 ∨ ∃ b off, ao = some ⟨b, off, none⟩ ∧ b < W.heap.size ∧ ∀ j u, (out.map (Value.int .i64))[j]? = some u → W.cell? ⟨b, off + j, none⟩ = some u)) := fun W hW => ⟨carry hA hW, carry hF hW, carry hIc hW, carry hOc hW⟩
  clear hx0 hchk hIc hOc hjx hA hF
  by_cases h0 : x0 = 0
  · subst h0
    obtain ⟨hsz, harc, hfin⟩ := checkP_ok HX0.out
    by_cases h1 : jx = 0
    · subst h1
      obtain ⟨f1, f2, f3⟩ := few_ok hfew
      have hst := size_ok hsz
      dsimp only at f1 f2 f3 hst harc hfin
      obtain ⟨S, rfl⟩ : ∃ S : Nat, st = (S : Int) := ⟨st.toNat, by omega⟩
      have hcost : ∀ W, Below w.heap.size w W → Calls Try.prog 20 #[.agg #[.int .i64 (S : Int), .slice aa arcs.length ca, .slice af fins.length cf], .slice ai inn.length ci, .slice ao out.length co, .bool true] W fun e W' => ∃ v : Nat, e = .returned (.int .i64 (v : Int)) ∧ IsCost ⟨(S : Int), arcs, fins⟩ inn out true v ∧ Below W.heap.size W W' := fun W hW => CR.cost_true S arcs fins inn out aa af ai ao ca cf ci co W (by omega) (by omega) hil hol (by omega) (by omega) harc hfin (HAc.out W hW).1 (HAc.out W hW).2.1 (HAc.out W hW).2.2.1 (HAc.out W hW).2.2.2
      have HCO : Hid _ := hcost
      clear hsz harc hfin hfew hst f1 f2 f3 hcost
      go_enter Try.func9, Try.ntmps9
      go_upto_region 7 with (first | (go_at_call 6; refine (h6 _ (hb0 _)).mono ?_; rintro e w1 ⟨rfl, hb1⟩; have bx := box3 hb1; obtain ⟨bx0, bx1, bx2⟩ := bx; have hw1 : Below w.heap.size w w1 := (hb0 _).trans (hb1.mono (by simp))) | (go_at_call 19; refine (hj w1 hw1).mono ?_; rintro e w2 ⟨rfl, hb2⟩; have hb2' : Below (w.alloc (.cells #[.int .i64 (S : Int), .slice aa arcs.length ca, .slice af fins.length cf] 25)).heap.size (w.alloc (.cells #[.int .i64 (S : Int), .slice aa arcs.length ca, .slice af fins.length cf] 25)) w2 := hb1.trans (hb2.mono hb1.size); have bx := box3 hb2'; obtain ⟨by0, by1, by2⟩ := bx; have hw2 : Below w.heap.size w w2 := hw1.trans (hb2.mono hw1.size)) | (go_at_call 20; refine (HCO.out w2 hw2).mono ?_; rintro e w3 ⟨v, rfl, hv, hb3⟩; have hw3 : Below w.heap.size w w3 := hw2.trans (hb3.mono hw2.size); have HC : Hid _ := isC_doc hv; clear hv hb3))
      rcases HC.out with ⟨hv, hi⟩ | ⟨hv, hi⟩
      · have HRs : Hid (Res ⟨(S : Int), arcs, fins⟩ inn out 0 false 0) := .inr (.inr ⟨HX0.out, HJX.out, rfl, .inl ⟨hi, rfl, rfl⟩⟩)
        have ev : (v : Int) = 1152921504606846976 := by rw [hv, CR.dear_int]
        have ev2 : ((v : Int) == 1152921504606846976) = true := by rw [ev]; rfl
        clear hi hv ev HC
        go_wp2
        go_ret3
        exact ⟨_, _, _, rfl, HRs.out, hw3⟩
      · have HRs : Hid (Res ⟨(S : Int), arcs, fins⟩ inn out (v : Int) true 0) := .inr (.inr ⟨HX0.out, HJX.out, rfl, .inr ⟨v, hi, rfl, rfl⟩⟩)
        have ev2 := dear_beq hv
        have ev3 := dear_ne hv
        clear hi hv HC
        go_wp2
        go_ret3
        exact ⟨_, _, _, rfl, HRs.out, hw3⟩
    · have HR : Hid (Res ⟨st, arcs, fins⟩ inn out 0 false jx) := .inr (.inl ⟨HX0.out, HJX.out, h1, rfl, rfl⟩)
      have e1 : (jx != 0) = true := by simpa using h1
      clear hsz harc hfin
      go_enter Try.func9, Try.ntmps9
      go_wp2_with (first | (go_at_call 6; refine (h6 _ (hb0 _)).mono ?_; rintro e w1 ⟨rfl, hb1⟩; have bx := box3 hb1; obtain ⟨bx0, bx1, bx2⟩ := bx; have hw1 : Below w.heap.size w w1 := (hb0 _).trans (hb1.mono (by simp))) | (go_at_call 19; refine (hj w1 hw1).mono ?_; rintro e w2 ⟨rfl, hb2⟩; have hb2' : Below (w.alloc (.cells #[.int .i64 st, .slice aa arcs.length ca, .slice af fins.length cf] 25)).heap.size (w.alloc (.cells #[.int .i64 st, .slice aa arcs.length ca, .slice af fins.length cf] 25)) w2 := hb1.trans (hb2.mono hb1.size); have bx := box3 hb2'; obtain ⟨by0, by1, by2⟩ := bx; have hw2 : Below w.heap.size w w2 := hw1.trans (hb2.mono hw1.size)))
      go_ret3
      exact ⟨_, _, _, rfl, HR.out, hw2⟩
  · have HR : Hid (Res ⟨st, arcs, fins⟩ inn out 0 false x0) := .inl ⟨HX0.out, h0, rfl, rfl⟩
    have e0 : (x0 != 0) = true := by simpa using h0
    have e00 : (x0 == 0) = false := by simpa using h0
    go_enter Try.func9, Try.ntmps9
    go_wp2_with (go_at_call 6; refine (h6 _ (hb0 _)).mono ?_; rintro e w1 ⟨rfl, hb1⟩; have bx := box3 hb1; obtain ⟨bx0, bx1, bx2⟩ := bx; have hw1 : Below w.heap.size w w1 := (hb0 _).trans (hb1.mono (by simp)))
    go_ret3
    exact ⟨_, _, _, rfl, HR.out, hw1⟩
end Go.Proofs.Ytnjbikdcceeobaa.Dq
