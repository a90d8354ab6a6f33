/- A box with a machine is written over: rows of numbers stay as they lie. No conditions. -/
import Derived.Test.YtfjocafepigijaaDoorBaM
import Derived.Test.YtfjocafepigijaaDoorFb
import Derived.Test.YtfjocafepigijaaDoorMbM
import Derived.Test.YtfjocafepigijaaDoorRbM
import Derived.Test.YtfjocafepigijaaDoorTz
import Derived.Deep.QuietTactic
import Derived.BigQuiet
import Derived.Deep.Cut
namespace Go.Proofs.YtfjocafepigijaaDoor.Su
open Go.RowKit Mv Sy Po Ps Cm Ra Ot Pa

/-- all but one block is as it was -/
def Ko (W W' : World) (X : Nat) : Prop := W.heap.size ≤ W'.heap.size ∧ ∀ b, b ≠ X → b < W.heap.size → W'.heap[b]? = W.heap[b]?
/-- a block with a machine, or none -/
def Bx (W : World) (X : Nat) : Prop := ∀ q i, W.cell? ⟨X, q, none⟩ = some (.int .i64 i) → q = 0
theorem cell_same {W W' : World} {b q : Nat} (h : W'.heap[b]? = W.heap[b]?) : W'.cell? ⟨b, q, none⟩ = W.cell? ⟨b, q, none⟩ := by
  unfold World.cell?
  rw [h]
theorem bx_laid {W : World} {X : Nat} {n : Int} {a1 a2 : Option Addr} {n1 k1 n2 k2 : Nat} (h : W.heap[X]? = some (.cells #[.int .i64 n, .slice a1 n1 k1, .slice a2 n2 k2] 25 (0, 0))) : Bx W X := fun q i hq => by
  match q with
  | 0 => rfl
  | 1 => have := cell_of_row _ _ 1 _ 25 (0, 0) h; rw [this] at hq; simp at hq
  | 2 => have := cell_of_row _ _ 2 _ 25 (0, 0) h; rw [this] at hq; simp at hq
  | q + 3 =>
    unfold World.cell? at hq
    simp only [h] at hq
    simp at hq
theorem row_ko {W W' : World} {v : Value} {k n X : Nat} {xs : List Value} (hk : 2 ≤ k) (hi : ∀ u ∈ xs, ∃ i, u = Value.int .i64 i) (h : Mv.Row W v k n xs) (hX : Bx W X) (hK : Ko W W' X) : Mv.Row W' v k n xs := by
  obtain ⟨hl, a, cap, hv, hn, h⟩ := h
  refine ⟨hl, a, cap, hv, hn, ?_⟩
  rcases h with h | ⟨b, off, ha, hlt, hc⟩
  · exact .inl h
  · by_cases h0 : n = 0
    · exact .inl h0
    have hne : b ≠ X := by
      intro e
      have h2 : 2 ≤ xs.length := by rw [hl]; exact Nat.le_trans hk (Nat.le_mul_of_pos_left _ (by omega))
      have g : ∀ j (hj : j < xs.length), off + j = 0 := fun j hj => by
        obtain ⟨i, hi⟩ := hi xs[j] (List.getElem_mem hj)
        have := hc j xs[j] (List.getElem?_eq_getElem hj)
        rw [e, hi] at this
        exact hX _ _ this
      have := g 1 (by omega)
      omega
    exact .inr ⟨b, off, ha, Nat.lt_of_lt_of_le hlt hK.1, fun j u hu => (cell_same (hK.2 b hne hlt)).trans (hc j u hu)⟩
theorem ints_acs (l : List (Int × Int × Int × Int × Int)) : ∀ u ∈ acs l, ∃ i, u = Value.int .i64 i := fun u hu => by
  unfold acs at hu
  obtain ⟨a, _, h⟩ := List.mem_flatMap.1 hu
  simp only [ac, List.mem_cons, List.not_mem_nil, or_false] at h
  rcases h with h | h | h | h | h <;> exact ⟨_, h⟩
theorem ints_fcs (l : List (Int × Int)) : ∀ u ∈ fcs l, ∃ i, u = Value.int .i64 i := fun u hu => by
  unfold fcs at hu
  obtain ⟨a, _, h⟩ := List.mem_flatMap.1 hu
  simp only [fc, List.mem_cons, List.not_mem_nil, or_false] at h
  rcases h with h | h <;> exact ⟨_, h⟩
theorem isM_ko {W W' : World} {v : Value} {m : M} {X : Nat} (h : IsM W v m) (hX : Bx W X) (hK : Ko W W' X) : IsM W' v m := by
  obtain ⟨va, vf, hv, h1, h2⟩ := h
  exact ⟨va, vf, hv, row_ko (by omega) (ints_acs _) h1 hX hK, row_ko (by omega) (ints_fcs _) h2 hX hK⟩

theorem ko_kp {W W' : World} {X : Nat} (h : Kp (fun b => b = X) W W') : Ko W W' X := ⟨h.size, fun b hb hl => h.block b hl hb⟩
/-- a machine is stored into a box -/
theorem set25 {W : World} {p : Nat} {a1 a2 : Option Addr} {n1 k1 n2 k2 : Nat} {n : Int} (h : W.heap[p]? = some (.cells #[.int .i64 n, .slice a1 n1 k1, .slice a2 n2 k2] 25 (0, 0))) (x y z : Value) :
    (((W.setCell ⟨p, 0, none⟩ x).setCell ⟨p, 1, none⟩ y).setCell ⟨p, 2, none⟩ z).heap[p]? = some (.cells #[x, y, z] 25 (0, 0)) ∧ Kp (fun b => b = p) W (((W.setCell ⟨p, 0, none⟩ x).setCell ⟨p, 1, none⟩ y).setCell ⟨p, 2, none⟩ z) ∧ Bx W p := by
  have hk0 : Kp (fun b => b = p) W (W.setCell ⟨p, 0, none⟩ x) := (Kp.refl _ W).setCell _ _ _ (fun _ => rfl)
  have hk1 : Kp (fun b => b = p) W ((W.setCell ⟨p, 0, none⟩ x).setCell ⟨p, 1, none⟩ y) := hk0.setCell _ _ _ (fun _ => rfl)
  have hk : Kp (fun b => b = p) W (((W.setCell ⟨p, 0, none⟩ x).setCell ⟨p, 1, none⟩ y).setCell ⟨p, 2, none⟩ z) := hk1.setCell _ _ _ (fun _ => rfl)
  exact ⟨heap_setCell_same _ p 2 _ 25 z (heap_setCell_same _ p 1 _ 25 y (heap_setCell_same W p 0 _ 25 x h)), hk, bx_laid h⟩
/-- SameMachine at any two machines -/
theorem same_gen {W : World} {v v' : Value} {M1 M2 : M} (h : IsM W v M1) (h' : IsM W v' M2) : Calls Tryd.prog 23 #[v, v'] W fun e W' => e = .returned (.bool (smB M1.st M2.st M1.arcs M2.arcs M1.fins M2.fins)) ∧ Below W.heap.size W W' := by
  obtain ⟨va, vf, rfl, hA, hF⟩ := h
  obtain ⟨va', vf', rfl, hA', hF'⟩ := h'
  have hA0 := hA
  have hF0 := hF
  have hA0' := hA'
  have hF0' := hF'
  obtain ⟨_, aa, ca, rfl, _, _⟩ := hA
  obtain ⟨_, af, cf, rfl, _, _⟩ := hF
  obtain ⟨_, aa', ca', rfl, _, _⟩ := hA'
  obtain ⟨_, af', cf', rfl, _, _⟩ := hF'
  exact same_m M1.st M2.st M1.arcs M2.arcs M1.fins M2.fins aa af aa' af' _ _ _ _ ca cf ca' cf' W rfl rfl rfl rfl hA0 hF0 hA0' hF0'
theorem same_yes9 {W : World} {v v' : Value} {M1 : M} (h : IsM W v M1) (h' : IsM W v' M1) : Calls Tryd.prog 23 #[v, v'] W fun e W' => e = .returned (.bool true) ∧ Below W.heap.size W W' := by
  have h1 := same_gen h h'
  rwa [show smB M1.st M1.st M1.arcs M1.arcs M1.fins M1.fins = true from decide_eq_true ⟨rfl, rfl, rfl⟩] at h1
theorem text_yes9 {W : World} {v v' : Value} {l : List Int} (h : IsI W v l) (h' : IsI W v' l) (hl : l.length ≤ 1000000) : Calls Tryd.prog 26 #[v, v'] W fun e W' => e = .returned (.bool true) ∧ Below W.heap.size W W' := by
  have h1 := Gc.same_any l l v v' W h h' hl
  rwa [show decide (l = l) = true from decide_eq_true rfl] at h1
end Go.Proofs.YtfjocafepigijaaDoor.Su
/- MachineSures: at two small machines the law returns true. Condition: the library's table lies as its text lays it. -/
namespace Go.Proofs.YtfjocafepigijaaDoor.Su
open Go.RowKit Mv Sy Po Ps Cm Ra Ot Pa

theorem both_l {x y : Int} (h : ¬ x = 0) : Mc.both x y = x := by unfold Mc.both; rw [if_neg h]
/-- two boxed machines -/
theorem box_two (w : World) (MA MB : Array Value) : ∃ V, (w.alloc (.cells MA 25)).alloc (.cells MB 25) = V ∧ ∀ W, Below V.heap.size V W → Below w.heap.size w W ∧ W.heap[w.heap.size]? = some (.cells MA 25 (0, 0)) ∧ W.heap[w.heap.size + 1]? = some (.cells MB 25 (0, 0)) := by
  have s1 : (w.alloc (.cells MA 25)).heap.size = w.heap.size + 1 := by simp
  have B1 := below_al w (.cells MA 25)
  refine ⟨_, rfl, fun W h => ?_⟩
  have B2 : Below w.heap.size w ((w.alloc (.cells MA 25)).alloc (.cells MB 25)) := B1.alloc B1.size _
  have x1 : ((w.alloc (.cells MA 25)).alloc (.cells MB 25)).heap[w.heap.size]? = some (.cells MA 25 (0, 0)) := by
    rw [heap_alloc_old _ _ (by rw [s1]; omega)]
    exact heap_alloc_new _ _
  have x2 : ((w.alloc (.cells MA 25)).alloc (.cells MB 25)).heap[w.heap.size + 1]? = some (.cells MB 25 (0, 0)) := by
    rw [← s1]
    exact heap_alloc_new _ _
  exact ⟨B2.trans (h.mono B2.size), (h.block _ (lt_at x1)).trans x1, (h.block _ (lt_at x2)).trans x2⟩
set_option maxHeartbeats 8000000 in
set_option maxRecDepth 100000 in
theorem sures_main (a b : M) (va vb : Value) (w : World) (ha : IsM w va a) (hb : IsM w vb b) (hf : fewB a = true) (hf2 : fewB b = true) (hT : TabAt 0 Lib.deBruijn64tab w) (hw0 : 0 < w.heap.size) :
    Calls Tryd.prog 5 #[va, vb] w fun e w' => e = .returned (.bool true) ∧ Below w.heap.size w w' := by
  obtain ⟨xa, hxa⟩ := Rz.checkP_ex a
  obtain ⟨xb, hxb⟩ := Rz.checkP_ex b
  obtain ⟨pa, hpa⟩ : ∃ p, plB a.arcs a.fins = p := ⟨_, rfl⟩
  obtain ⟨pb, hpb⟩ : ∃ p, plB b.arcs b.fins = p := ⟨_, rfl⟩
  have C7 : Hid (∀ W, Calls Tryd.prog 7 #[] W fun e W' => e = .returned (.bool true) ∧ Below W.heap.size W W') := fun W => Mb.begun_any Nx.field_any W
  have C8a : Hid (∀ W, Below w.heap.size w W → Calls Tryd.prog 8 #[va] W fun e W' => e = .returned (.bool true) ∧ Below W.heap.size W W') := fun W hW => by have := few_any a va W (ha.below hW); rwa [hf] at this
  have C8b : Hid (∀ W, Below w.heap.size w W → Calls Tryd.prog 8 #[vb] W fun e W' => e = .returned (.bool true) ∧ Below W.heap.size W W') := fun W hW => by have := few_any b vb W (hb.below hW); rwa [hf2] at this
  have C20 : Hid (∀ W, Below w.heap.size w W → Calls Tryd.prog 20 #[va] W (SvQ a W)) := fun W hW => sure_all a va W (ha.below hW) hf (Tz.tab_below hT hw0 hW) (Nat.lt_of_lt_of_le hw0 hW.size)
  have C10a : Hid (∀ W, Below w.heap.size w W → Calls Tryd.prog 10 #[va] W fun e W' => e = .returned (.int .i64 xa) ∧ Below W.heap.size W W') := fun W hW => (CkR.check_any a va W (ha.below hW)).mono (fun e W' ⟨⟨x, h1, h2⟩, h3⟩ => ⟨by rw [h1, checkP_one h2 hxa], h3⟩)
  have C10b : Hid (∀ W, Below w.heap.size w W → Calls Tryd.prog 10 #[vb] W fun e W' => e = .returned (.int .i64 xb) ∧ Below W.heap.size W W') := fun W hW => (CkR.check_any b vb W (hb.below hW)).mono (fun e W' ⟨⟨x, h1, h2⟩, h3⟩ => ⟨by rw [h1, checkP_one h2 hxb], h3⟩)
  have C21a : Hid (∀ W, Below w.heap.size w W → Calls Tryd.prog 21 #[va] W fun e W' => e = .returned (.bool pa) ∧ Below W.heap.size W W') := fun W hW => by
    obtain ⟨_, _, rfl, hA, hF⟩ := ha.below hW
    have hA0 := hA
    have hF0 := hF
    obtain ⟨_, aa, ca, rfl, _, _⟩ := hA
    obtain ⟨_, af, cf, rfl, _, _⟩ := hF
    have := rplain_any a.st a.arcs a.fins aa af ca cf W hA0 hF0
    rwa [hpa] at this
  have C21b : Hid (∀ W, Below w.heap.size w W → Calls Tryd.prog 21 #[vb] W fun e W' => e = .returned (.bool pb) ∧ Below W.heap.size W W') := fun W hW => by
    obtain ⟨_, _, rfl, hA, hF⟩ := hb.below hW
    have hA0 := hA
    have hF0 := hF
    obtain ⟨_, aa, ca, rfl, _, _⟩ := hA
    obtain ⟨_, af, cf, rfl, _, _⟩ := hF
    have := rplain_any b.st b.arcs b.fins aa af ca cf W hA0 hF0
    rwa [hpb] at this
  have C22 : Hid (xa = 0 → pa = true → ∀ W, Below w.heap.size w W → Calls Tryd.prog 22 #[va] W (SuD a W)) := fun e1 e2 W hW => sure_doc_all a va W (ha.below hW) (e1 ▸ hxa) (hpa.trans e2)
  have C24 : Hid (∀ W, Below w.heap.size w W → Calls Tryd.prog 24 #[va, vb] W (AvQ a b W)) := fun W hW => apart_all a b va vb W (ha.below hW) (hb.below hW) hf hf2 (Tz.tab_below hT hw0 hW) (Nat.lt_of_lt_of_le hw0 hW.size)
  have C25 : Hid (xa = 0 → xb = 0 → (pa && pb) = true → ∀ W, Below w.heap.size w W → Calls Tryd.prog 25 #[va, vb] W (DaD a b W)) := fun e1 e2 e3 W hW => da_all a b va vb W (ha.below hW) (hb.below hW) (e1 ▸ hxa) (e2 ▸ hxb) (by rw [hpa, hpb]; exact e3)
  have HX : Hid (checkP a xa ∧ checkP b xb ∧ plB a.arcs a.fins = pa ∧ plB b.arcs b.fins = pb) := ⟨hxa, hxb, hpa, hpb⟩
  obtain ⟨a1, a2, rfl, ⟨_, aa, ca, rfl, _, _⟩, ⟨_, af, cf, rfl, _, _⟩⟩ := ha
  obtain ⟨b1, b2, rfl, ⟨_, ba, da, rfl, _, _⟩, ⟨_, bf', df', rfl, _, _⟩⟩ := hb
  obtain ⟨V, hV, hVB⟩ := box_two w #[.int .i64 a.st, .slice aa a.arcs.length ca, .slice af a.fins.length cf] #[.int .i64 b.st, .slice ba b.arcs.length da, .slice bf' b.fins.length df']
  have QB : Hid (∀ W, Below V.heap.size V W → Below w.heap.size w W ∧ W.heap[w.heap.size]? = some (.cells #[.int .i64 a.st, .slice aa a.arcs.length ca, .slice af a.fins.length cf] 25 (0, 0)) ∧ W.heap[w.heap.size + 1]? = some (.cells #[.int .i64 b.st, .slice ba b.arcs.length da, .slice bf' b.fins.length df'] 25 (0, 0))) := hVB
  have QC : Hid (∀ W, Below V.heap.size V W → (W.cell? ⟨w.heap.size, 0, none⟩ = some (.int .i64 a.st) ∧ W.cell? ⟨w.heap.size, 1, none⟩ = some (.slice aa a.arcs.length ca) ∧ W.cell? ⟨w.heap.size, 2, none⟩ = some (.slice af a.fins.length cf)) ∧ W.cell? ⟨w.heap.size + 1, 0, none⟩ = some (.int .i64 b.st) ∧ W.cell? ⟨w.heap.size + 1, 1, none⟩ = some (.slice ba b.arcs.length da) ∧ W.cell? ⟨w.heap.size + 1, 2, none⟩ = some (.slice bf' b.fins.length df')) := fun W h => by
    obtain ⟨_, y1, y2⟩ := hVB W h
    exact ⟨⟨cell_of_row _ _ 0 _ _ _ y1, cell_of_row _ _ 1 _ _ _ y1, cell_of_row _ _ 2 _ _ _ y1⟩, cell_of_row _ _ 0 _ _ _ y2, cell_of_row _ _ 1 _ _ _ y2, cell_of_row _ _ 2 _ _ _ y2⟩
  clear hVB hxa hxb hpa hpb hT hw0 hf hf2
  go_enter Tryd.func5, Tryd.ntmps5
  go_upto_region 1 with fail
  clear hV
  have W0 : Hid (Below V.heap.size V V) := Below.refl _ _
  go_upto_region 5 with (first
    | (go_at_call 7; (with_reducible refine (C7.out _).mono ?_); rintro e w1 ⟨rfl, hb1⟩; have q1 := QB.out _ hb1; obtain ⟨⟨q10, q11, q12⟩, q13, q14, q15⟩ := QC.out _ hb1)
    | (go_at_call 8; (with_reducible refine (C8a.out _ (QB.out _ hb1).1).mono ?_); rintro e w2 ⟨rfl, hb2'⟩; have hb2 := hb1.trans (hb2'.mono hb1.size); obtain ⟨⟨q20, q21, q22⟩, q23, q24, q25⟩ := QC.out _ hb2; clear hb2')
    | (go_at_call 8; (with_reducible refine (C8b.out _ (QB.out _ hb2).1).mono ?_); rintro e w3 ⟨rfl, hb3'⟩; have HB3 : Hid (Below V.heap.size V w3) := hb2.trans (hb3'.mono hb2.size); clear hb3'))
  clear hb1 q1 q10 q11 q12 q13 q14 q15 hb2 q20 q21 q22 q23 q24 q25 C7 C8a C8b
  obtain ⟨⟨q30, q31, q32⟩, _⟩ := QC.out _ HB3.out
  go_upto_region 6 with (go_at_call 20; (with_reducible refine (C20.out _ (QB.out _ HB3.out).1).mono ?_); rintro e w4 ⟨sx, s1, sn, sc, t1, tn, tc, x, M', rfl, hb4, him, hsv⟩; have HS : Hid (Below V.heap.size V w4 ∧ IsM w4 (.agg #[.int .i64 sx, .slice s1 sn sc, .slice t1 tn tc]) M' ∧ SvA a x M') := ⟨HB3.out.trans (hb4.mono HB3.out.size), him, hsv⟩; clear hb4 him hsv)
  have HW5 : Hid (Below V.heap.size V (w4.alloc (.cells #[.int .i64 sx, .slice s1 sn sc, .slice t1 tn tc] 25)) ∧ (w4.alloc (.cells #[.int .i64 sx, .slice s1 sn sc, .slice t1 tn tc] 25)).heap[w4.heap.size]? = some (.cells #[.int .i64 sx, .slice s1 sn sc, .slice t1 tn tc] 25 (0, 0)) ∧ IsM (w4.alloc (.cells #[.int .i64 sx, .slice s1 sn sc, .slice t1 tn tc] 25)) (.agg #[.int .i64 sx, .slice s1 sn sc, .slice t1 tn tc]) M' ∧ SvA a x M' ∧ V.heap.size ≤ w4.heap.size) := ⟨HS.out.1.alloc HS.out.1.size _, heap_alloc_new _ _, HS.out.2.1.below (below_al _ _), HS.out.2.2, HS.out.1.size⟩
  generalize w4.alloc (.cells #[.int .i64 sx, .slice s1 sn sc, .slice t1 tn tc] 25) = w5 at *
  obtain ⟨px, hpx⟩ : ∃ p, w4.heap.size = p := ⟨_, rfl⟩
  rw [hpx] at HW5 ⊢
  clear hpx HS q30 q31 q32 C20
  obtain ⟨⟨q50, q51, q52⟩, _⟩ := QC.out _ HW5.out.1
  go_upto_region 7 with (go_at_call 10; (with_reducible refine (C10a.out _ (QB.out _ HW5.out.1).1).mono ?_); rintro e w6 ⟨rfl, hb6⟩; have HB6 : Hid (Below w5.heap.size w5 w6) := hb6; clear hb6)
  clear q50 q51 q52
  have HW7 : Hid (Below V.heap.size V (w6.alloc (.cells #[.int .i64 0, .slice none 0 0, .slice none 0 0] 25)) ∧ (w6.alloc (.cells #[.int .i64 0, .slice none 0 0, .slice none 0 0] 25)).heap[px]? = some (.cells #[.int .i64 sx, .slice s1 sn sc, .slice t1 tn tc] 25 (0, 0)) ∧ IsM (w6.alloc (.cells #[.int .i64 0, .slice none 0 0, .slice none 0 0] 25)) (.agg #[.int .i64 sx, .slice s1 sn sc, .slice t1 tn tc]) M' ∧ SvA a x M' ∧ (w6.alloc (.cells #[.int .i64 0, .slice none 0 0, .slice none 0 0] 25)).heap[w6.heap.size]? = some (.cells #[.int .i64 0, .slice none 0 0, .slice none 0 0] 25 (0, 0)) ∧ V.heap.size ≤ w6.heap.size ∧ px ≠ w6.heap.size) := by
    have hb : Below w5.heap.size w5 (w6.alloc (.cells #[.int .i64 0, .slice none 0 0, .slice none 0 0] 25)) := HB6.out.alloc HB6.out.size _
    have hl := lt_at HW5.out.2.1
    exact ⟨HW5.out.1.trans (hb.mono HW5.out.1.size), (hb.block _ hl).trans HW5.out.2.1, HW5.out.2.2.1.below hb, HW5.out.2.2.2.1, heap_alloc_new _ _, Nat.le_trans HW5.out.1.size HB6.out.size, by have := HB6.out.size; omega⟩
  generalize w6.alloc (.cells #[.int .i64 0, .slice none 0 0, .slice none 0 0] 25) = w7 at *
  obtain ⟨py, hpy⟩ : ∃ p, w6.heap.size = p := ⟨_, rfl⟩
  rw [hpy] at HW7 ⊢
  clear hpy HB6 HW5
  obtain ⟨⟨q70, q71, q72⟩, _⟩ := QC.out _ HW7.out.1
  obtain ⟨⟨q70, q71, q72⟩, _⟩ := QC.out _ HW7.out.1
  by_cases h0 : xa = 0
  · subst h0
    have K21 := C21a.out _ (QB.out _ HW7.out.1).1
    cases pa with
    | false =>
      go_upto_region 14 with (go_at_call 21; (with_reducible refine K21.mono ?_); clear K21; rintro e w8 ⟨rfl, hb8⟩; have HB8 : Hid (Below w7.heap.size w7 w8) := hb8; clear hb8)
      clear q70 q71 q72
      have HT : Hid (Below V.heap.size V w8 ∧ w8.heap[px]? = some (.cells #[.int .i64 sx, .slice s1 sn sc, .slice t1 tn tc] 25 (0, 0)) ∧ w8.heap[py]? = some (.cells #[.int .i64 0, .slice none 0 0, .slice none 0 0] 25 (0, 0)) ∧ IsM w8 (.agg #[.int .i64 sx, .slice s1 sn sc, .slice t1 tn tc]) M' ∧ IsM w8 (.agg #[.int .i64 0, .slice none 0 0, .slice none 0 0]) zM ∧ SvA a x M' ∧ SvA a 4 zM) := ⟨HW7.out.1.trans (HB8.out.mono HW7.out.1.size), (HB8.out.block _ (lt_at HW7.out.2.1)).trans HW7.out.2.1, (HB8.out.block _ (lt_at HW7.out.2.2.2.2.1)).trans HW7.out.2.2.2.2.1, HW7.out.2.2.1.below HB8.out, isM_zero w8, HW7.out.2.2.2.1, .inr (.inl ⟨HX.out.1, HX.out.2.2.1, rfl, rfl⟩)⟩
      clear HW7
      have hone := HT.out.2.2.2.2.2.1.one HT.out.2.2.2.2.2.2
      obtain rfl := hone.2.symm
      obtain rfl := hone.1.symm
      clear hone
      have x0 := cell_of_row _ _ 0 _ _ _ HT.out.2.1
      have x1 := cell_of_row _ _ 1 _ _ _ HT.out.2.1
      have x2 := cell_of_row _ _ 2 _ _ _ HT.out.2.1
      have y0 := cell_of_row _ _ 0 _ _ _ HT.out.2.2.1
      have y1 := cell_of_row _ _ 1 _ _ _ HT.out.2.2.1
      have y2 := cell_of_row _ _ 2 _ _ _ HT.out.2.2.1
      have K23 := same_yes9 HT.out.2.2.2.1 HT.out.2.2.2.2.1
      go_upto_region 16 with (go_at_call 23; (with_reducible refine K23.mono ?_); clear K23; rintro e w10 ⟨rfl, hb⟩; have HB10 : Hid (Below V.heap.size V w10) := HT.out.1.trans (hb.mono HT.out.1.size); clear hb)
      clear x0 x1 x2 y0 y1 y2
      obtain ⟨⟨q0, q1, q2⟩, q3, q4, q5⟩ := QC.out _ HB10.out
      have K24 := C24.out _ (QB.out _ HB10.out).1
      go_upto_region 17 with (go_at_call 24; (with_reducible refine K24.mono ?_); clear K24; rintro e w11 ⟨v, is, xr, r, rfl, hb, his, hv, hl, hap⟩; have HA : Hid (Below V.heap.size V w11 ∧ is = r.isSome ∧ IsI w11 v (tI r) ∧ (tI r).length ≤ 1000000 ∧ ApA a b xr r) := ⟨HB10.out.trans (hb.mono HB10.out.size), his, hv, hl, hap⟩; clear hb his hv hl hap)
      clear q0 q1 q2 q3 q4 q5
      obtain ⟨⟨q0, q1, q2⟩, q3, q4, q5⟩ := QC.out _ HA.out.1
      have K10 := C10a.out _ (QB.out _ HA.out.1).1
      go_upto_region 19 with (go_at_call 10; (with_reducible refine K10.mono ?_); clear K10; rintro e w12 ⟨rfl, hb⟩; have HB12 : Hid (Below w11.heap.size w11 w12) := hb; clear hb)
      clear q0 q1 q2 q3 q4 q5
      have HV12 : Hid (Below V.heap.size V w12) := HA.out.1.trans (HB12.out.mono HA.out.1.size)
      obtain ⟨⟨q0, q1, q2⟩, q3, q4, q5⟩ := QC.out _ HV12.out
      have K10 := C10b.out _ (QB.out _ HV12.out).1
      by_cases h1 : xb = 0
      · subst h1
        go_upto_region 20 with (go_at_call 10; (with_reducible refine K10.mono ?_); clear K10; rintro e w13 ⟨rfl, hb⟩; have HB13 : Hid (Below w11.heap.size w11 w13) := HB12.out.trans (hb.mono HB12.out.size); clear hb)
        clear q0 q1 q2 q3 q4 q5
        have HV13 : Hid (Below V.heap.size V w13) := HA.out.1.trans (HB13.out.mono HA.out.1.size)
        obtain ⟨⟨q0, q1, q2⟩, q3, q4, q5⟩ := QC.out _ HV13.out
        have K21 := C21a.out _ (QB.out _ HV13.out).1
        have hone := HA.out.2.2.2.2.one (.inr (.inl ⟨HX.out.1, HX.out.2.1, by rw [HX.out.2.2.1, HX.out.2.2.2]; rfl, rfl, rfl⟩))
        obtain rfl := hone.2
        obtain rfl := hone.1.symm
        obtain rfl := HA.out.2.1
        clear hone
        go_upto_region 29 with (go_at_call 21; (with_reducible refine K21.mono ?_); clear K21; rintro e w14 ⟨rfl, hb⟩; have HB14 : Hid (Below w11.heap.size w11 w14) := HB13.out.trans (hb.mono HB13.out.size); clear hb)
        clear q0 q1 q2 q3 q4 q5
        have HL : Hid (Below V.heap.size V w14) := HA.out.1.trans (HB14.out.mono HA.out.1.size)
        have K26 := text_yes9 (HA.out.2.2.1.below HB14.out) (isI_none w14) HA.out.2.2.2.1
        go_wp2_with (go_at_call 26; (with_reducible refine K26.mono ?_); clear K26; rintro e w20 ⟨rfl, hb⟩; have HB20 : Hid (Below w.heap.size w w20) := (QB.out _ HL.out).1.trans (hb.mono (QB.out _ HL.out).1.size); clear hb)
        go_ret
        exact ⟨rfl, HB20.out⟩
      · have hone := HA.out.2.2.2.2.one (.inl ⟨0, xb, HX.out.1, HX.out.2.1, h1, rfl, rfl⟩)
        obtain rfl := hone.2
        obtain rfl := hone.1.symm
        obtain rfl := HA.out.2.1
        clear hone
        have q9 : (xb == 0) = false := by simpa using h1
        clear h1
        go_upto_region 29 with (go_at_call 10; (with_reducible refine K10.mono ?_); clear K10; rintro e w13 ⟨rfl, hb⟩; have HB13 : Hid (Below w11.heap.size w11 w13) := HB12.out.trans (hb.mono HB12.out.size); clear hb)
        clear q0 q1 q2 q3 q4 q5
        have HL : Hid (Below V.heap.size V w13) := HA.out.1.trans (HB13.out.mono HA.out.1.size)
        have K26 := text_yes9 (HA.out.2.2.1.below HB13.out) (isI_none w13) HA.out.2.2.2.1
        go_wp2_with (go_at_call 26; (with_reducible refine K26.mono ?_); clear K26; rintro e w20 ⟨rfl, hb⟩; have HB20 : Hid (Below w.heap.size w w20) := (QB.out _ HL.out).1.trans (hb.mono (QB.out _ HL.out).1.size); clear hb)
        go_ret
        exact ⟨rfl, HB20.out⟩
    | true =>
      go_upto_region 11 with (go_at_call 21; (with_reducible refine K21.mono ?_); clear K21; rintro e w8 ⟨rfl, hb8⟩; have HB8 : Hid (Below w7.heap.size w7 w8 ∧ Below V.heap.size V w8) := ⟨hb8, HW7.out.1.trans (hb8.mono HW7.out.1.size)⟩; clear hb8)
      clear q70 q71 q72
      obtain ⟨⟨q0, q1, q2⟩, _⟩ := QC.out _ HB8.out.2
      have K22 := C22.out (by first | trivial | rfl | decide) (by first | trivial | rfl | decide) _ (QB.out _ HB8.out.2).1
      have z0 : w8.heap[py]? = some (.cells #[.int .i64 0, .slice none 0 0, .slice none 0 0] 25 (0, 0)) := (HB8.out.1.block _ (lt_at HW7.out.2.2.2.2.1)).trans HW7.out.2.2.2.2.1
      go_upto_region 12 with (go_at_call 22; (with_reducible refine K22.mono ?_); clear K22; rintro e w9 ⟨yt, y1, yn, yc, u1, un, uc, ok, rfl, hb9, hor⟩; have HB9 : Hid (Below w8.heap.size w8 w9 ∧ Below V.heap.size V w9 ∧ w9.heap[py]? = some (.cells #[.int .i64 0, .slice none 0 0, .slice none 0 0] 25 (0, 0)) ∧ ((ok = true ∧ ∃ M2, IsM w9 (.agg #[.int .i64 yt, .slice y1 yn yc, .slice u1 un uc]) M2 ∧ SvA a 0 M2) ∨ (ok = false ∧ SvA a 7 zM))) := ⟨hb9, HB8.out.2.trans (hb9.mono HB8.out.2.size), (hb9.block _ (lt_at z0)).trans z0, hor⟩; have z10 := cell_of_row _ _ 0 _ _ _ HB9.out.2.2.1; have z11 := cell_of_row _ _ 1 _ _ _ HB9.out.2.2.1; have z12 := cell_of_row _ _ 2 _ _ _ HB9.out.2.2.1; have f10 := frozen_of_row _ _ 0 _ _ HB9.out.2.2.1; have f11 := frozen_of_row _ _ 1 _ _ HB9.out.2.2.1; have f12 := frozen_of_row _ _ 2 _ _ HB9.out.2.2.1; clear hb9 hor)
      clear q0 q1 q2 z0 z10 z11 z12 f10 f11 f12
      obtain ⟨s25, k25, b25⟩ := set25 HB9.out.2.2.1 (.int .i64 yt) (.slice y1 yn yc) (.slice u1 un uc)
      have HS9 : Hid ((((w9.setCell ⟨py, 0, none⟩ (.int .i64 yt)).setCell ⟨py, 1, none⟩ (.slice y1 yn yc)).setCell ⟨py, 2, none⟩ (.slice u1 un uc)).heap[py]? = some (.cells #[.int .i64 yt, .slice y1 yn yc, .slice u1 un uc] 25 (0, 0)) ∧ Kp (fun b => b = py) w9 (((w9.setCell ⟨py, 0, none⟩ (.int .i64 yt)).setCell ⟨py, 1, none⟩ (.slice y1 yn yc)).setCell ⟨py, 2, none⟩ (.slice u1 un uc)) ∧ Bx w9 py) := ⟨s25, k25, b25⟩
      clear s25 k25 b25
      generalize ((w9.setCell ⟨py, 0, none⟩ (.int .i64 yt)).setCell ⟨py, 1, none⟩ (.slice y1 yn yc)).setCell ⟨py, 2, none⟩ (.slice u1 un uc) = wa at *
      have HX9 : Hid (w9.heap[px]? = some (.cells #[.int .i64 sx, .slice s1 sn sc, .slice t1 tn tc] 25 (0, 0)) ∧ IsM w9 (.agg #[.int .i64 sx, .slice s1 sn sc, .slice t1 tn tc]) M') := ⟨(HB9.out.1.block _ (lt_at ((HB8.out.1.block _ (lt_at HW7.out.2.1)).trans HW7.out.2.1))).trans ((HB8.out.1.block _ (lt_at HW7.out.2.1)).trans HW7.out.2.1), (HW7.out.2.2.1.below HB8.out.1).below HB9.out.1⟩
      have HXA : Hid (wa.heap[px]? = some (.cells #[.int .i64 sx, .slice s1 sn sc, .slice t1 tn tc] 25 (0, 0)) ∧ IsM wa (.agg #[.int .i64 sx, .slice s1 sn sc, .slice t1 tn tc]) M' ∧ Below V.heap.size V wa) := ⟨(HS9.out.2.1.block _ (lt_at HX9.out.1) HW7.out.2.2.2.2.2.2).trans HX9.out.1, isM_ko HX9.out.2 HS9.out.2.2 (ko_kp HS9.out.2.1), below_kp HB9.out.2.1 HS9.out.2.1 (fun b hb e => by have e2 : b = py := e; have := HW7.out.2.2.2.2.2.1; omega)⟩
      rcases HB9.out.2.2.2 with ⟨rfl, M2, hm2, hs2⟩ | ⟨rfl, hs2⟩
      · have HM2 : Hid (IsM wa (.agg #[.int .i64 yt, .slice y1 yn yc, .slice u1 un uc]) M2 ∧ SvA a 0 M2) := ⟨isM_ko hm2 HS9.out.2.2 (ko_kp HS9.out.2.1), hs2⟩
        clear hm2 hs2
        go_upto_region 14 with fail
        have HT : Hid (Below V.heap.size V wa ∧ wa.heap[px]? = some (.cells #[.int .i64 sx, .slice s1 sn sc, .slice t1 tn tc] 25 (0, 0)) ∧ wa.heap[py]? = some (.cells #[.int .i64 yt, .slice y1 yn yc, .slice u1 un uc] 25 (0, 0)) ∧ IsM wa (.agg #[.int .i64 sx, .slice s1 sn sc, .slice t1 tn tc]) M' ∧ IsM wa (.agg #[.int .i64 yt, .slice y1 yn yc, .slice u1 un uc]) M2 ∧ SvA a x M' ∧ SvA a 0 M2) := ⟨HXA.out.2.2, HXA.out.1, HS9.out.1, HXA.out.2.1, HM2.out.1, HW7.out.2.2.2.1, HM2.out.2⟩
        clear HW7 HB8 HB9 HX9 HXA HS9 HM2
        have hone := HT.out.2.2.2.2.2.1.one HT.out.2.2.2.2.2.2
        obtain rfl := hone.2.symm
        obtain rfl := hone.1.symm
        clear hone
        have x0 := cell_of_row _ _ 0 _ _ _ HT.out.2.1
        have x1 := cell_of_row _ _ 1 _ _ _ HT.out.2.1
        have x2 := cell_of_row _ _ 2 _ _ _ HT.out.2.1
        have y0 := cell_of_row _ _ 0 _ _ _ HT.out.2.2.1
        have y1 := cell_of_row _ _ 1 _ _ _ HT.out.2.2.1
        have y2 := cell_of_row _ _ 2 _ _ _ HT.out.2.2.1
        have K23 := same_yes9 HT.out.2.2.2.1 HT.out.2.2.2.2.1
        go_upto_region 16 with (go_at_call 23; (with_reducible refine K23.mono ?_); clear K23; rintro e w10 ⟨rfl, hb⟩; have HB10 : Hid (Below V.heap.size V w10) := HT.out.1.trans (hb.mono HT.out.1.size); clear hb)
        clear x0 x1 x2 y0 y1 y2
        obtain ⟨⟨q0, q1, q2⟩, q3, q4, q5⟩ := QC.out _ HB10.out
        have K24 := C24.out _ (QB.out _ HB10.out).1
        go_upto_region 17 with (go_at_call 24; (with_reducible refine K24.mono ?_); clear K24; rintro e w11 ⟨v, is, xr, r, rfl, hb, his, hv, hl, hap⟩; have HA : Hid (Below V.heap.size V w11 ∧ is = r.isSome ∧ IsI w11 v (tI r) ∧ (tI r).length ≤ 1000000 ∧ ApA a b xr r) := ⟨HB10.out.trans (hb.mono HB10.out.size), his, hv, hl, hap⟩; clear hb his hv hl hap)
        clear q0 q1 q2 q3 q4 q5
        obtain ⟨⟨q0, q1, q2⟩, q3, q4, q5⟩ := QC.out _ HA.out.1
        have K10 := C10a.out _ (QB.out _ HA.out.1).1
        go_upto_region 19 with (go_at_call 10; (with_reducible refine K10.mono ?_); clear K10; rintro e w12 ⟨rfl, hb⟩; have HB12 : Hid (Below w11.heap.size w11 w12) := hb; clear hb)
        clear q0 q1 q2 q3 q4 q5
        have HV12 : Hid (Below V.heap.size V w12) := HA.out.1.trans (HB12.out.mono HA.out.1.size)
        obtain ⟨⟨q0, q1, q2⟩, q3, q4, q5⟩ := QC.out _ HV12.out
        have K10 := C10b.out _ (QB.out _ HV12.out).1
        by_cases h1 : xb = 0
        · subst h1
          go_upto_region 20 with (go_at_call 10; (with_reducible refine K10.mono ?_); clear K10; rintro e w13 ⟨rfl, hb⟩; have HB13 : Hid (Below w11.heap.size w11 w13) := HB12.out.trans (hb.mono HB12.out.size); clear hb)
          clear q0 q1 q2 q3 q4 q5
          have HV13 : Hid (Below V.heap.size V w13) := HA.out.1.trans (HB13.out.mono HA.out.1.size)
          obtain ⟨⟨q0, q1, q2⟩, q3, q4, q5⟩ := QC.out _ HV13.out
          have K21 := C21a.out _ (QB.out _ HV13.out).1
          cases pb with
          | false =>
            have hone := HA.out.2.2.2.2.one (.inr (.inl ⟨HX.out.1, HX.out.2.1, by rw [HX.out.2.2.1, HX.out.2.2.2]; rfl, rfl, rfl⟩))
            obtain rfl := hone.2
            obtain rfl := hone.1.symm
            obtain rfl := HA.out.2.1
            clear hone
            go_upto_region 29 with (first
              | (go_at_call 21; (with_reducible refine K21.mono ?_); clear K21; rintro e w14 ⟨rfl, hb⟩; have HB14 : Hid (Below w11.heap.size w11 w14) := HB13.out.trans (hb.mono HB13.out.size); clear hb; have HV14 : Hid (Below V.heap.size V w14) := HA.out.1.trans (HB14.out.mono HA.out.1.size); obtain ⟨⟨r0, r1, r2⟩, r3, r4, r5⟩ := QC.out _ HV14.out; have K22 := C21b.out _ (QB.out _ HV14.out).1)
              | (go_at_call 21; (with_reducible refine K22.mono ?_); clear K22; rintro e w15 ⟨rfl, hb⟩; have HB15 : Hid (Below w11.heap.size w11 w15) := HB14.out.trans (hb.mono HB14.out.size); clear hb))
            clear q0 q1 q2 q3 q4 q5 r0 r1 r2 r3 r4 r5
            have HL : Hid (Below V.heap.size V w15) := HA.out.1.trans (HB15.out.mono HA.out.1.size)
            have K26 := text_yes9 (HA.out.2.2.1.below HB15.out) (isI_none w15) HA.out.2.2.2.1
            go_wp2_with (go_at_call 26; (with_reducible refine K26.mono ?_); clear K26; rintro e w20 ⟨rfl, hb⟩; have HB20 : Hid (Below w.heap.size w w20) := (QB.out _ HL.out).1.trans (hb.mono (QB.out _ HL.out).1.size); clear hb)
            go_ret
            exact ⟨rfl, HB20.out⟩
          | true =>
            go_upto_region 26 with (first
              | (go_at_call 21; (with_reducible refine K21.mono ?_); clear K21; rintro e w14 ⟨rfl, hb⟩; have HB14 : Hid (Below w11.heap.size w11 w14) := HB13.out.trans (hb.mono HB13.out.size); clear hb; have HV14 : Hid (Below V.heap.size V w14) := HA.out.1.trans (HB14.out.mono HA.out.1.size); obtain ⟨⟨r0, r1, r2⟩, r3, r4, r5⟩ := QC.out _ HV14.out; have K22 := C21b.out _ (QB.out _ HV14.out).1)
              | (go_at_call 21; (with_reducible refine K22.mono ?_); clear K22; rintro e w15 ⟨rfl, hb⟩; have HB15 : Hid (Below w11.heap.size w11 w15) := HB14.out.trans (hb.mono HB14.out.size); clear hb))
            clear q0 q1 q2 q3 q4 q5 r0 r1 r2 r3 r4 r5
            have HV15 : Hid (Below V.heap.size V w15) := HA.out.1.trans (HB15.out.mono HA.out.1.size)
            obtain ⟨⟨q0, q1, q2⟩, q3, q4, q5⟩ := QC.out _ HV15.out
            have K25 := C25.out (by first | trivial | rfl | decide) (by first | trivial | rfl | decide) (by first | trivial | rfl | decide) _ (QB.out _ HV15.out).1
            go_upto_region 27 with (go_at_call 25; (with_reducible refine K25.mono ?_); clear K25; rintro e w16 ⟨v2, is2, ok2, rfl, hb, hor⟩; have HD : Hid (Below w11.heap.size w11 w16 ∧ ((ok2 = false ∧ ApA a b 7 none) ∨ (ok2 = true ∧ ∃ r, is2 = r.isSome ∧ IsI w16 v2 (tI r) ∧ ApA a b 0 r))) := ⟨HB15.out.trans (hb.mono HB15.out.size), hor⟩; clear hb hor)
            clear q0 q1 q2 q3 q4 q5
            rcases HD.out.2 with ⟨rfl, hap⟩ | ⟨rfl, r2, rfl, hv2, hap⟩
            · have hone := HA.out.2.2.2.2.one hap
              obtain rfl := hone.2
              obtain rfl := hone.1.symm
              clear hone
              obtain rfl := HA.out.2.1
              clear hap
              have HL : Hid (Below V.heap.size V w16) := HA.out.1.trans (HD.out.1.mono HA.out.1.size)
              have K26 := text_yes9 (HA.out.2.2.1.below HD.out.1) (isI_none w16) HA.out.2.2.2.1
              go_wp2_with (go_at_call 26; (with_reducible refine K26.mono ?_); clear K26; rintro e w20 ⟨rfl, hb⟩; have HB20 : Hid (Below w.heap.size w w20) := (QB.out _ HL.out).1.trans (hb.mono (QB.out _ HL.out).1.size); clear hb)
              go_ret
              exact ⟨rfl, HB20.out⟩
            · have hone := HA.out.2.2.2.2.one hap
              obtain rfl := hone.2
              obtain rfl := hone.1.symm
              clear hone
              obtain rfl := HA.out.2.1
              have HL : Hid (Below V.heap.size V w16) := HA.out.1.trans (HD.out.1.mono HA.out.1.size)
              have K26 := text_yes9 (HA.out.2.2.1.below HD.out.1) hv2 HA.out.2.2.2.1
              obtain ⟨is, hisx⟩ : ∃ is, r.isSome = is := ⟨_, rfl⟩
              rw [hisx]
              clear hap hv2 hisx
              go_wp2_with (go_at_call 26; (with_reducible refine K26.mono ?_); clear K26; rintro e w20 ⟨rfl, hb⟩; have HB20 : Hid (Below w.heap.size w w20) := (QB.out _ HL.out).1.trans (hb.mono (QB.out _ HL.out).1.size); clear hb)
              go_ret
              exact ⟨rfl, HB20.out⟩
        · have hone := HA.out.2.2.2.2.one (.inl ⟨0, xb, HX.out.1, HX.out.2.1, h1, rfl, rfl⟩)
          obtain rfl := hone.2
          obtain rfl := hone.1.symm
          obtain rfl := HA.out.2.1
          clear hone
          have q9 : (xb == 0) = false := by simpa using h1
          clear h1
          go_upto_region 29 with (go_at_call 10; (with_reducible refine K10.mono ?_); clear K10; rintro e w13 ⟨rfl, hb⟩; have HB13 : Hid (Below w11.heap.size w11 w13) := HB12.out.trans (hb.mono HB12.out.size); clear hb)
          clear q0 q1 q2 q3 q4 q5
          have HL : Hid (Below V.heap.size V w13) := HA.out.1.trans (HB13.out.mono HA.out.1.size)
          have K26 := text_yes9 (HA.out.2.2.1.below HB13.out) (isI_none w13) HA.out.2.2.2.1
          go_wp2_with (go_at_call 26; (with_reducible refine K26.mono ?_); clear K26; rintro e w20 ⟨rfl, hb⟩; have HB20 : Hid (Below w.heap.size w w20) := (QB.out _ HL.out).1.trans (hb.mono (QB.out _ HL.out).1.size); clear hb)
          go_ret
          exact ⟨rfl, HB20.out⟩
      · have HS2 : Hid (SvA a 7 zM) := hs2
        clear hs2
        have z10 := cell_of_row _ _ 0 _ _ _ HS9.out.1
        have z11 := cell_of_row _ _ 1 _ _ _ HS9.out.1
        have z12 := cell_of_row _ _ 2 _ _ _ HS9.out.1
        have f10 := frozen_of_row _ _ 0 _ _ HS9.out.1
        have f11 := frozen_of_row _ _ 1 _ _ HS9.out.1
        have f12 := frozen_of_row _ _ 2 _ _ HS9.out.1
        go_upto_region 14 with fail
        clear z10 z11 z12 f10 f11 f12
        obtain ⟨s25, k25, b25⟩ := set25 HS9.out.1 (.int .i64 0) (.slice none 0 0) (.slice none 0 0)
        have HSB : Hid ((((wa.setCell ⟨py, 0, none⟩ (.int .i64 0)).setCell ⟨py, 1, none⟩ (.slice none 0 0)).setCell ⟨py, 2, none⟩ (.slice none 0 0)).heap[py]? = some (.cells #[.int .i64 0, .slice none 0 0, .slice none 0 0] 25 (0, 0)) ∧ Kp (fun b => b = py) wa (((wa.setCell ⟨py, 0, none⟩ (.int .i64 0)).setCell ⟨py, 1, none⟩ (.slice none 0 0)).setCell ⟨py, 2, none⟩ (.slice none 0 0)) ∧ Bx wa py) := ⟨s25, k25, b25⟩
        clear s25 k25 b25
        generalize ((wa.setCell ⟨py, 0, none⟩ (.int .i64 0)).setCell ⟨py, 1, none⟩ (.slice none 0 0)).setCell ⟨py, 2, none⟩ (.slice none 0 0) = wb at *
        have HT : Hid (Below V.heap.size V wb ∧ wb.heap[px]? = some (.cells #[.int .i64 sx, .slice s1 sn sc, .slice t1 tn tc] 25 (0, 0)) ∧ wb.heap[py]? = some (.cells #[.int .i64 0, .slice none 0 0, .slice none 0 0] 25 (0, 0)) ∧ IsM wb (.agg #[.int .i64 sx, .slice s1 sn sc, .slice t1 tn tc]) M' ∧ IsM wb (.agg #[.int .i64 0, .slice none 0 0, .slice none 0 0]) zM ∧ SvA a x M' ∧ SvA a 7 zM) := ⟨below_kp HXA.out.2.2 HSB.out.2.1 (fun b hb e => by have e2 : b = py := e; have := HW7.out.2.2.2.2.2.1; omega), (HSB.out.2.1.block _ (lt_at HXA.out.1) HW7.out.2.2.2.2.2.2).trans HXA.out.1, HSB.out.1, isM_ko HXA.out.2.1 HSB.out.2.2 (ko_kp HSB.out.2.1), isM_zero wb, HW7.out.2.2.2.1, HS2.out⟩
        clear HW7 HB8 HB9 HX9 HXA HS9 HSB HS2
        have hone := HT.out.2.2.2.2.2.1.one HT.out.2.2.2.2.2.2
        obtain rfl := hone.2.symm
        obtain rfl := hone.1.symm
        clear hone
        have x0 := cell_of_row _ _ 0 _ _ _ HT.out.2.1
        have x1 := cell_of_row _ _ 1 _ _ _ HT.out.2.1
        have x2 := cell_of_row _ _ 2 _ _ _ HT.out.2.1
        have y0 := cell_of_row _ _ 0 _ _ _ HT.out.2.2.1
        have y1 := cell_of_row _ _ 1 _ _ _ HT.out.2.2.1
        have y2 := cell_of_row _ _ 2 _ _ _ HT.out.2.2.1
        have K23 := same_yes9 HT.out.2.2.2.1 HT.out.2.2.2.2.1
        go_upto_region 16 with (go_at_call 23; (with_reducible refine K23.mono ?_); clear K23; rintro e w10 ⟨rfl, hb⟩; have HB10 : Hid (Below V.heap.size V w10) := HT.out.1.trans (hb.mono HT.out.1.size); clear hb)
        clear x0 x1 x2 y0 y1 y2
        obtain ⟨⟨q0, q1, q2⟩, q3, q4, q5⟩ := QC.out _ HB10.out
        have K24 := C24.out _ (QB.out _ HB10.out).1
        go_upto_region 17 with (go_at_call 24; (with_reducible refine K24.mono ?_); clear K24; rintro e w11 ⟨v, is, xr, r, rfl, hb, his, hv, hl, hap⟩; have HA : Hid (Below V.heap.size V w11 ∧ is = r.isSome ∧ IsI w11 v (tI r) ∧ (tI r).length ≤ 1000000 ∧ ApA a b xr r) := ⟨HB10.out.trans (hb.mono HB10.out.size), his, hv, hl, hap⟩; clear hb his hv hl hap)
        clear q0 q1 q2 q3 q4 q5
        obtain ⟨⟨q0, q1, q2⟩, q3, q4, q5⟩ := QC.out _ HA.out.1
        have K10 := C10a.out _ (QB.out _ HA.out.1).1
        go_upto_region 19 with (go_at_call 10; (with_reducible refine K10.mono ?_); clear K10; rintro e w12 ⟨rfl, hb⟩; have HB12 : Hid (Below w11.heap.size w11 w12) := hb; clear hb)
        clear q0 q1 q2 q3 q4 q5
        have HV12 : Hid (Below V.heap.size V w12) := HA.out.1.trans (HB12.out.mono HA.out.1.size)
        obtain ⟨⟨q0, q1, q2⟩, q3, q4, q5⟩ := QC.out _ HV12.out
        have K10 := C10b.out _ (QB.out _ HV12.out).1
        by_cases h1 : xb = 0
        · subst h1
          go_upto_region 20 with (go_at_call 10; (with_reducible refine K10.mono ?_); clear K10; rintro e w13 ⟨rfl, hb⟩; have HB13 : Hid (Below w11.heap.size w11 w13) := HB12.out.trans (hb.mono HB12.out.size); clear hb)
          clear q0 q1 q2 q3 q4 q5
          have HV13 : Hid (Below V.heap.size V w13) := HA.out.1.trans (HB13.out.mono HA.out.1.size)
          obtain ⟨⟨q0, q1, q2⟩, q3, q4, q5⟩ := QC.out _ HV13.out
          have K21 := C21a.out _ (QB.out _ HV13.out).1
          cases pb with
          | false =>
            have hone := HA.out.2.2.2.2.one (.inr (.inl ⟨HX.out.1, HX.out.2.1, by rw [HX.out.2.2.1, HX.out.2.2.2]; rfl, rfl, rfl⟩))
            obtain rfl := hone.2
            obtain rfl := hone.1.symm
            obtain rfl := HA.out.2.1
            clear hone
            go_upto_region 29 with (first
              | (go_at_call 21; (with_reducible refine K21.mono ?_); clear K21; rintro e w14 ⟨rfl, hb⟩; have HB14 : Hid (Below w11.heap.size w11 w14) := HB13.out.trans (hb.mono HB13.out.size); clear hb; have HV14 : Hid (Below V.heap.size V w14) := HA.out.1.trans (HB14.out.mono HA.out.1.size); obtain ⟨⟨r0, r1, r2⟩, r3, r4, r5⟩ := QC.out _ HV14.out; have K22 := C21b.out _ (QB.out _ HV14.out).1)
              | (go_at_call 21; (with_reducible refine K22.mono ?_); clear K22; rintro e w15 ⟨rfl, hb⟩; have HB15 : Hid (Below w11.heap.size w11 w15) := HB14.out.trans (hb.mono HB14.out.size); clear hb))
            clear q0 q1 q2 q3 q4 q5 r0 r1 r2 r3 r4 r5
            have HL : Hid (Below V.heap.size V w15) := HA.out.1.trans (HB15.out.mono HA.out.1.size)
            have K26 := text_yes9 (HA.out.2.2.1.below HB15.out) (isI_none w15) HA.out.2.2.2.1
            go_wp2_with (go_at_call 26; (with_reducible refine K26.mono ?_); clear K26; rintro e w20 ⟨rfl, hb⟩; have HB20 : Hid (Below w.heap.size w w20) := (QB.out _ HL.out).1.trans (hb.mono (QB.out _ HL.out).1.size); clear hb)
            go_ret
            exact ⟨rfl, HB20.out⟩
          | true =>
            go_upto_region 26 with (first
              | (go_at_call 21; (with_reducible refine K21.mono ?_); clear K21; rintro e w14 ⟨rfl, hb⟩; have HB14 : Hid (Below w11.heap.size w11 w14) := HB13.out.trans (hb.mono HB13.out.size); clear hb; have HV14 : Hid (Below V.heap.size V w14) := HA.out.1.trans (HB14.out.mono HA.out.1.size); obtain ⟨⟨r0, r1, r2⟩, r3, r4, r5⟩ := QC.out _ HV14.out; have K22 := C21b.out _ (QB.out _ HV14.out).1)
              | (go_at_call 21; (with_reducible refine K22.mono ?_); clear K22; rintro e w15 ⟨rfl, hb⟩; have HB15 : Hid (Below w11.heap.size w11 w15) := HB14.out.trans (hb.mono HB14.out.size); clear hb))
            clear q0 q1 q2 q3 q4 q5 r0 r1 r2 r3 r4 r5
            have HV15 : Hid (Below V.heap.size V w15) := HA.out.1.trans (HB15.out.mono HA.out.1.size)
            obtain ⟨⟨q0, q1, q2⟩, q3, q4, q5⟩ := QC.out _ HV15.out
            have K25 := C25.out (by first | trivial | rfl | decide) (by first | trivial | rfl | decide) (by first | trivial | rfl | decide) _ (QB.out _ HV15.out).1
            go_upto_region 27 with (go_at_call 25; (with_reducible refine K25.mono ?_); clear K25; rintro e w16 ⟨v2, is2, ok2, rfl, hb, hor⟩; have HD : Hid (Below w11.heap.size w11 w16 ∧ ((ok2 = false ∧ ApA a b 7 none) ∨ (ok2 = true ∧ ∃ r, is2 = r.isSome ∧ IsI w16 v2 (tI r) ∧ ApA a b 0 r))) := ⟨HB15.out.trans (hb.mono HB15.out.size), hor⟩; clear hb hor)
            clear q0 q1 q2 q3 q4 q5
            rcases HD.out.2 with ⟨rfl, hap⟩ | ⟨rfl, r2, rfl, hv2, hap⟩
            · have hone := HA.out.2.2.2.2.one hap
              obtain rfl := hone.2
              obtain rfl := hone.1.symm
              clear hone
              obtain rfl := HA.out.2.1
              clear hap
              have HL : Hid (Below V.heap.size V w16) := HA.out.1.trans (HD.out.1.mono HA.out.1.size)
              have K26 := text_yes9 (HA.out.2.2.1.below HD.out.1) (isI_none w16) HA.out.2.2.2.1
              go_wp2_with (go_at_call 26; (with_reducible refine K26.mono ?_); clear K26; rintro e w20 ⟨rfl, hb⟩; have HB20 : Hid (Below w.heap.size w w20) := (QB.out _ HL.out).1.trans (hb.mono (QB.out _ HL.out).1.size); clear hb)
              go_ret
              exact ⟨rfl, HB20.out⟩
            · have hone := HA.out.2.2.2.2.one hap
              obtain rfl := hone.2
              obtain rfl := hone.1.symm
              clear hone
              obtain rfl := HA.out.2.1
              have HL : Hid (Below V.heap.size V w16) := HA.out.1.trans (HD.out.1.mono HA.out.1.size)
              have K26 := text_yes9 (HA.out.2.2.1.below HD.out.1) hv2 HA.out.2.2.2.1
              obtain ⟨is, hisx⟩ : ∃ is, r.isSome = is := ⟨_, rfl⟩
              rw [hisx]
              clear hap hv2 hisx
              go_wp2_with (go_at_call 26; (with_reducible refine K26.mono ?_); clear K26; rintro e w20 ⟨rfl, hb⟩; have HB20 : Hid (Below w.heap.size w w20) := (QB.out _ HL.out).1.trans (hb.mono (QB.out _ HL.out).1.size); clear hb)
              go_ret
              exact ⟨rfl, HB20.out⟩
        · have hone := HA.out.2.2.2.2.one (.inl ⟨0, xb, HX.out.1, HX.out.2.1, h1, rfl, rfl⟩)
          obtain rfl := hone.2
          obtain rfl := hone.1.symm
          obtain rfl := HA.out.2.1
          clear hone
          have q9 : (xb == 0) = false := by simpa using h1
          clear h1
          go_upto_region 29 with (go_at_call 10; (with_reducible refine K10.mono ?_); clear K10; rintro e w13 ⟨rfl, hb⟩; have HB13 : Hid (Below w11.heap.size w11 w13) := HB12.out.trans (hb.mono HB12.out.size); clear hb)
          clear q0 q1 q2 q3 q4 q5
          have HL : Hid (Below V.heap.size V w13) := HA.out.1.trans (HB13.out.mono HA.out.1.size)
          have K26 := text_yes9 (HA.out.2.2.1.below HB13.out) (isI_none w13) HA.out.2.2.2.1
          go_wp2_with (go_at_call 26; (with_reducible refine K26.mono ?_); clear K26; rintro e w20 ⟨rfl, hb⟩; have HB20 : Hid (Below w.heap.size w w20) := (QB.out _ HL.out).1.trans (hb.mono (QB.out _ HL.out).1.size); clear hb)
          go_ret
          exact ⟨rfl, HB20.out⟩
  · have H0 : Hid (¬ xa = 0) := h0
    have q9 : (xa == 0) = false := by simpa using h0
    clear h0
    go_upto_region 14 with fail
    clear q70 q71 q72
    have HT : Hid (Below V.heap.size V w7 ∧ w7.heap[px]? = some (.cells #[.int .i64 sx, .slice s1 sn sc, .slice t1 tn tc] 25 (0, 0)) ∧ w7.heap[py]? = some (.cells #[.int .i64 0, .slice none 0 0, .slice none 0 0] 25 (0, 0)) ∧ IsM w7 (.agg #[.int .i64 sx, .slice s1 sn sc, .slice t1 tn tc]) M' ∧ IsM w7 (.agg #[.int .i64 0, .slice none 0 0, .slice none 0 0]) zM ∧ SvA a x M' ∧ SvA a xa zM) := ⟨HW7.out.1, HW7.out.2.1, HW7.out.2.2.2.2.1, HW7.out.2.2.1, isM_zero w7, HW7.out.2.2.2.1, .inl ⟨fun h => H0.out (checkP_one HX.out.1 h), HX.out.1, rfl⟩⟩
    clear HW7
    have hone := HT.out.2.2.2.2.2.1.one HT.out.2.2.2.2.2.2
    obtain rfl := hone.2.symm
    obtain rfl := hone.1.symm
    clear hone
    have x0 := cell_of_row _ _ 0 _ _ _ HT.out.2.1
    have x1 := cell_of_row _ _ 1 _ _ _ HT.out.2.1
    have x2 := cell_of_row _ _ 2 _ _ _ HT.out.2.1
    have y0 := cell_of_row _ _ 0 _ _ _ HT.out.2.2.1
    have y1 := cell_of_row _ _ 1 _ _ _ HT.out.2.2.1
    have y2 := cell_of_row _ _ 2 _ _ _ HT.out.2.2.1
    have K23 := same_yes9 HT.out.2.2.2.1 HT.out.2.2.2.2.1
    go_upto_region 16 with (go_at_call 23; (with_reducible refine K23.mono ?_); clear K23; rintro e w10 ⟨rfl, hb⟩; have HB10 : Hid (Below V.heap.size V w10) := HT.out.1.trans (hb.mono HT.out.1.size); clear hb)
    clear x0 x1 x2 y0 y1 y2
    obtain ⟨⟨q0, q1, q2⟩, q3, q4, q5⟩ := QC.out _ HB10.out
    have K24 := C24.out _ (QB.out _ HB10.out).1
    go_upto_region 17 with (go_at_call 24; (with_reducible refine K24.mono ?_); clear K24; rintro e w11 ⟨v, is, xr, r, rfl, hb, his, hv, hl, hap⟩; have HA : Hid (Below V.heap.size V w11 ∧ is = r.isSome ∧ IsI w11 v (tI r) ∧ (tI r).length ≤ 1000000 ∧ ApA a b xr r) := ⟨HB10.out.trans (hb.mono HB10.out.size), his, hv, hl, hap⟩; clear hb his hv hl hap)
    clear q0 q1 q2 q3 q4 q5
    obtain ⟨⟨q0, q1, q2⟩, q3, q4, q5⟩ := QC.out _ HA.out.1
    have K10 := C10a.out _ (QB.out _ HA.out.1).1
    have hone := HA.out.2.2.2.2.one (.inl ⟨xa, xb, HX.out.1, HX.out.2.1, by rw [both_l H0.out]; exact H0.out, (both_l H0.out).symm, rfl⟩)
    obtain rfl := hone.2
    obtain rfl := hone.1.symm
    obtain rfl := HA.out.2.1
    clear hone
    go_upto_region 29 with (go_at_call 10; (with_reducible refine K10.mono ?_); clear K10; rintro e w12 ⟨rfl, hb⟩; have HB12 : Hid (Below w11.heap.size w11 w12) := hb; clear hb)
    clear q0 q1 q2 q3 q4 q5
    have HL : Hid (Below V.heap.size V w12) := HA.out.1.trans (HB12.out.mono HA.out.1.size)
    have K26 := text_yes9 (HA.out.2.2.1.below HB12.out) (isI_none w12) HA.out.2.2.2.1
    go_wp2_with (go_at_call 26; (with_reducible refine K26.mono ?_); clear K26; rintro e w20 ⟨rfl, hb⟩; have HB20 : Hid (Below w.heap.size w w20) := (QB.out _ HL.out).1.trans (hb.mono (QB.out _ HL.out).1.size); clear hb)
    go_ret
    exact ⟨rfl, HB20.out⟩
end Go.Proofs.YtfjocafepigijaaDoor.Su
