/- What the law asks of each maker: what it hands back is right. Conditions: the machines are right, or what is wrong with them is known; both texts have at most 61 symbols. -/
import Derived.Test.YtegfhbjdfcoajaaPr
import Derived.Test.YtegfhbjdfcoajaaEi
import Derived.Test.YtegfhbjdfcoajaaCx
import Derived.Test.YtegfhbjdfcoajaaRe
import Derived.Test.YtegfhbjdfcoajaaTu
import Derived.Test.YtegfhbjdfcoajaaSi
import Derived.Test.YtegfhbjdfcoajaaMz
import Derived.Test.YtegfhbjdfcoajaaGn
import Derived.Test.YtegfhbjdfcoajaaCh
namespace Go.Proofs.Ytegfhbjdfcoajaa.Gd
open Go.RowKit Mv Wk Sy Rz Bw Mc CR Pd Pr

theorem least_one {P : Nat → Prop} {x y : Nat} (h : Least P x) (k : Least P y) : x = y := by
  rcases h with ⟨rfl, h1⟩ | ⟨h0, h1, h2⟩ <;> rcases k with ⟨rfl, k1⟩ | ⟨k0, k1, k2⟩
  · rfl
  · exact absurd k1 (h1 _)
  · exact absurd h1 (k1 _)
  · exact Nat.le_antisymm (h2 _ k1) (k2 _ h1)
theorem fix_of {f : Nat} {args : Array Value} {P : Nat → Prop} {w : World} (h : ∀ W, Below w.heap.size w W → Calls Try.prog f args W fun e w' => ∃ c : Nat, e = .returned (.int .i64 (c : Int)) ∧ Least P c ∧ Below W.heap.size W w') : ∃ c : Nat, Least P c ∧ ∀ W, Below w.heap.size w W → Calls Try.prog f args W fun e w' => e = .returned (.int .i64 (c : Int)) ∧ Below W.heap.size W w' := by
  obtain ⟨_, _, _, ⟨c, _, h1, _⟩, _⟩ := h w (Below.refl _ _) []
  exact ⟨c, h1, fun W hW => (h W hW).mono fun e w' ⟨d, e1, e2, e3⟩ => ⟨by rw [e1, least_one e2 h1], e3⟩⟩
theorem pos_of {m : M} (hc : checkP m 0) : ∀ f ∈ m.fins, 0 ≤ f.2 := fun f hf => by
  obtain ⟨_, _, hfin⟩ := checkP_ok hc
  obtain ⟨x, hx, rfl⟩ := List.getElem_of_mem hf
  have := hfin x hx
  unfold finB at this
  simp only [decide_eq_true_eq] at this
  omega

/-- all but one block is as it was -/
def Ko (W W' : World) (X : Nat) : Prop := W.heap.size ≤ W'.heap.size ∧ ∀ b, b ≠ X → b < W.heap.size → W'.heap[b]? = W.heap[b]?
/-- a block with a machine, or none -/
def Bx (W : World) (X : Nat) : Prop := ∀ q i, W.cell? ⟨X, q, none⟩ = some (.int .i64 i) → q = 0
theorem ko_below {W W' : World} {X : Nat} (h : Below W.heap.size W W') : Ko W W' X := ⟨h.size, fun b _ hb => h.block b hb⟩
theorem cell_same {W W' : World} {b q : Nat} (h : W'.heap[b]? = W.heap[b]?) : W'.cell? ⟨b, q, none⟩ = W.cell? ⟨b, q, none⟩ := by
  unfold World.cell?
  rw [h]
theorem bx_new (W : World) : Bx W W.heap.size := fun q i h => by
  have := World.block_lt_of_cell? W _ h
  exact absurd this (Nat.lt_irrefl _)
theorem bx_laid {W : World} {X : Nat} {n : Int} {a1 a2 : Option Addr} {n1 k1 n2 k2 : Nat} (h : W.heap[X]? = some (.cells #[.int .i64 n, .slice a1 n1 k1, .slice a2 n2 k2] 25 (0, 0))) : Bx W X := fun q i hq => by
  match q with
  | 0 => rfl
  | 1 => have := cell_of_row _ _ 1 _ 25 (0, 0) h; rw [this] at hq; simp at hq
  | 2 => have := cell_of_row _ _ 2 _ 25 (0, 0) h; rw [this] at hq; simp at hq
  | q + 3 =>
    unfold World.cell? at hq
    simp only [h] at hq
    simp at hq
theorem row_ko {W W' : World} {v : Value} {k n X : Nat} {xs : List Value} (hk : 2 ≤ k) (hi : ∀ u ∈ xs, ∃ i, u = Value.int .i64 i) (h : Mv.Row W v k n xs) (hX : Bx W X) (hK : Ko W W' X) : Mv.Row W' v k n xs := by
  obtain ⟨hl, a, cap, hv, hn, h⟩ := h
  refine ⟨hl, a, cap, hv, hn, ?_⟩
  rcases h with h | ⟨b, off, ha, hlt, hc⟩
  · exact .inl h
  · by_cases h0 : n = 0
    · exact .inl h0
    have hne : b ≠ X := by
      intro e
      have h2 : 2 ≤ xs.length := by rw [hl]; exact Nat.le_trans hk (Nat.le_mul_of_pos_left _ (by omega))
      have g : ∀ j (hj : j < xs.length), off + j = 0 := fun j hj => by
        obtain ⟨i, hi⟩ := hi xs[j] (List.getElem_mem hj)
        have := hc j xs[j] (List.getElem?_eq_getElem hj)
        rw [e, hi] at this
        exact hX _ _ this
      have := g 1 (by omega)
      omega
    exact .inr ⟨b, off, ha, Nat.lt_of_lt_of_le hlt hK.1, fun j u hu => (cell_same (hK.2 b hne hlt)).trans (hc j u hu)⟩
theorem ints_acs (l : List (Int × Int × Int × Int × Int)) : ∀ u ∈ acs l, ∃ i, u = Value.int .i64 i := fun u hu => by
  unfold acs at hu
  obtain ⟨a, _, h⟩ := List.mem_flatMap.1 hu
  simp only [ac, List.mem_cons, List.not_mem_nil, or_false] at h
  rcases h with h | h | h | h | h <;> exact ⟨_, h⟩
theorem ints_fcs (l : List (Int × Int)) : ∀ u ∈ fcs l, ∃ i, u = Value.int .i64 i := fun u hu => by
  unfold fcs at hu
  obtain ⟨a, _, h⟩ := List.mem_flatMap.1 hu
  simp only [fc, List.mem_cons, List.not_mem_nil, or_false] at h
  rcases h with h | h <;> exact ⟨_, h⟩
theorem isM_ko {W W' : World} {v : Value} {m : M} {X : Nat} (h : IsM W v m) (hX : Bx W X) (hK : Ko W W' X) : IsM W' v m := by
  obtain ⟨va, vf, hv, h1, h2⟩ := h
  exact ⟨va, vf, hv, row_ko (by omega) (ints_acs _) h1 hX hK, row_ko (by omega) (ints_fcs _) h2 hX hK⟩

/-- right says yes of it -/
def Goes (vi vo : Value) (w W : World) (v : Value) (g x want : Int) : Prop := ∀ W' X, Ko W W' X → Bx W X → Below w.heap.size w W' → ∀ sm : Bool, Calls Try.prog 12 #[v, .int .i64 g, .int .i64 x, .bool sm, vi, vo, .int .i64 want] W' fun r w' => r = .returned (.bool true) ∧ Below W'.heap.size W' w'
/-- a maker's word -/
def Makes (f : Nat) (args : Array Value) (vi vo : Value) (w : World) (x want : Int) : Prop := ∀ W, Below w.heap.size w W → Calls Try.prog f args W fun e W' => ∃ (n : Int) (a1 : Option Addr) (n1 k1 : Nat) (a2 : Option Addr) (n2 k2 : Nat) (g : Int), e = .returned (.tuple #[.agg #[.int .i64 n, .slice a1 n1 k1, .slice a2 n2 k2], .int .i64 g]) ∧ Goes vi vo w W' (.agg #[.int .i64 n, .slice a1 n1 k1, .slice a2 n2 k2]) g x want ∧ Below W.heap.size W W'
theorem makes_bad {f : Nat} {args : Array Value} {x : Int} {w : World} {vi vo : Value} (hx : x ≠ 0) (h : ∀ W, Below w.heap.size w W → Calls Try.prog f args W fun e w' => e = .returned (.tuple #[noM, .int .i64 x]) ∧ Below W.heap.size W w') (want : Int) : Makes f args vi vo w x want := fun W hW =>
  (h W hW).mono fun _ _ ⟨he, hb⟩ => ⟨0, none, 0, 0, none, 0, 0, x, he, fun W2 _ _ _ _ sm => right_bad x hx sm vi vo want W2, hb⟩
theorem makes_ok {f : Nat} {args : Array Value} {w : World} {vi vo : Value} {inn out : List Int} {m : M} {c : Nat} (h : ∀ W, Below w.heap.size w W → Calls Try.prog f args W fun e w' => ∃ v, e = .returned (.tuple #[v, .int .i64 0]) ∧ IsM w' v m ∧ Below W.heap.size W w') (hc : checkP m 0) (hI : IsI w vi inn) (hO : IsI w vo out) (hi : inn.length ≤ 61) (ho : out.length ≤ 61) (hcost : Least (Acc m inn out true) c) : Makes f args vi vo w 0 (c : Int) := fun W hW =>
  (h W hW).mono fun _ _ ⟨_, he, hM, hb⟩ => by
    have hM0 := hM
    obtain ⟨va, vf, hv, ⟨_, a1, k1, h1, _⟩, ⟨_, a2, k2, h2, _⟩⟩ := hM
    rw [h1, h2] at hv
    rw [hv] at he hM0
    exact ⟨_, _, _, _, _, _, _, 0, he, fun W2 X hK hX hw sm => right_ok m inn out c _ vi vo sm W2 (isM_ko hM0 hX hK) (hI.below hw) (hO.below hw) hc hi ho ((isCost_iff (pos_of hc)).2 hcost), hb⟩
theorem Goes.go {vi vo : Value} {w W : World} {v : Value} {g x want : Int} (h : Goes vi vo w W v g x want) : ∀ W' X, Ko W W' X → Bx W X → Below w.heap.size w W' → ∀ sm : Bool, Calls Try.prog 12 #[v, .int .i64 g, .int .i64 x, .bool sm, vi, vo, .int .i64 want] W' fun r w' => r = .returned (.bool true) ∧ Below W'.heap.size W' w' := h
theorem Makes.go {f : Nat} {args : Array Value} {vi vo : Value} {w : World} {x want : Int} (h : Makes f args vi vo w x want) : ∀ W, Below w.heap.size w W → Calls Try.prog f args W fun e W' => ∃ (n : Int) (a1 : Option Addr) (n1 k1 : Nat) (a2 : Option Addr) (n2 k2 : Nat) (g : Int), e = .returned (.tuple #[.agg #[.int .i64 n, .slice a1 n1 k1, .slice a2 n2 k2], .int .i64 g]) ∧ Goes vi vo w W' (.agg #[.int .i64 n, .slice a1 n1 k1, .slice a2 n2 k2]) g x want ∧ Below W.heap.size W W' := h
end Go.Proofs.Ytegfhbjdfcoajaa.Gd
/- The five makers' words, as the law asks for them. Conditions: the machines are few, both texts have at most 8 symbols together, each no longer than its capacity. -/
namespace Go.Proofs.Ytegfhbjdfcoajaa.Ge
open Go.RowKit Mv Wk Sy Rz Bw Mc CR Pd Pr Gd

variable {a b : M} {inn out : List Int} {va vb : Value} {ai ao : Option Addr} {ci co : Nat} {w : World}

theorem isJ_below {w W : World} {a : Option Addr} {c : Nat} {l : List Int} (h : IsJ w a c l) (hb : Below w.heap.size w W) : IsJ W a c l := ⟨h.1.below hb, h.2⟩

theorem pair_bad {x0 y0 : Int} (ha : IsM w va a) (hb : IsM w vb b) (hx : checkP a x0) (hy : checkP b y0) (hz : both x0 y0 ≠ 0) (vi vo : Value) (want : Int) : Makes 11 #[va, vb] vi vo w (both x0 y0) want ∧ Makes 13 #[va, vb] vi vo w (both x0 y0) want :=
  ⟨makes_bad hz (fun W hW => either_bad a b va vb x0 y0 W (ha.below hW) (hb.below hW) hx hy hz) want, makes_bad hz (fun W hW => chain_bad a b va vb x0 y0 W (ha.below hW) (hb.below hW) hx hy hz) want⟩
theorem pair_ok (ha : IsM w va a) (hb : IsM w vb b) (hx : checkP a 0) (hy : checkP b 0) (fa : fewB a = true) (fb : fewB b = true) (hi : inn.length ≤ 61) (ho : out.length ≤ 61) (hI : IsJ w ai ci inn) (hO : IsJ w ao co out) :
    ∃ c1 c2 c3 : Nat, (∀ W, Below w.heap.size w W → Calls Try.prog 9 #[va, .slice ai inn.length ci, .slice ao out.length co, .bool true] W fun e w' => e = .returned (.int .i64 (c1 : Int)) ∧ Below W.heap.size W w') ∧
      (∀ W, Below w.heap.size w W → Calls Try.prog 9 #[vb, .slice ai inn.length ci, .slice ao out.length co, .bool true] W fun e w' => e = .returned (.int .i64 (c2 : Int)) ∧ Below W.heap.size W w') ∧
      (∀ W, Below w.heap.size w W → Calls Try.prog 10 #[va, vb, .slice ai inn.length ci, .slice ao out.length co] W fun e w' => e = .returned (.int .i64 (c3 : Int)) ∧ Below W.heap.size W w') ∧
      Makes 11 #[va, vb] (.slice ai inn.length ci) (.slice ao out.length co) w 0 ((min c1 c2 : Nat) : Int) ∧ Makes 13 #[va, vb] (.slice ai inn.length ci) (.slice ao out.length co) w 0 (c3 : Int) := by
  obtain ⟨c1, l1, _, k1⟩ := cost_fix a va _ _ w inn out ha hx hi ho hI.1 hO.1
  obtain ⟨c2, l2, _, k2⟩ := cost_fix b vb _ _ w inn out hb hy hi ho hI.1 hO.1
  obtain ⟨c3, l3, k3⟩ := fix_of (fun W hW => parted_any a b va vb inn out ai ao ci co W (ha.below hW) (hb.below hW) hx hy hi ho (isJ_below hI hW) (isJ_below hO hW))
  refine ⟨c1, c2, c3, fun W hW => k1 W _ _ hW (hI.1.below hW) (hO.1.below hW), fun W hW => k2 W _ _ hW (hI.1.below hW) (hO.1.below hW), k3, ?_, ?_⟩
  · exact makes_ok (fun W hW => Ei.either_made a b va vb W (ha.below hW) (hb.below hW) hx hy fa fb) (either_ok hx hy fa fb) hI.1 hO.1 hi ho ((l1.or l2).congr fun u => either_acc (fit_of hx) (fit_of hy))
  · exact makes_ok (fun W hW => Cx.chain_made a b va vb W (ha.below hW) (hb.below hW) hx hy fa fb) (chain_ok hx hy fa fb) hI.1 hO.1 hi ho (l3.congr fun u => chain_acc (fit_of hx) (fit_of hy))
theorem one_bad {x0 : Int} (ha : IsM w va a) (hx : checkP a x0) (hz : x0 ≠ 0) (vi vo : Value) (want : Int) : Makes 16 #[va] vi vo w x0 want ∧ Makes 17 #[va] vi vo w x0 want ∧ Makes 18 #[va] vi vo w x0 want :=
  ⟨makes_bad hz (fun W hW => repeat_bad a va x0 W (ha.below hW) hx hz) want, makes_bad hz (fun W hW => turn_bad a va x0 W (ha.below hW) hx hz) want, makes_bad hz (fun W hW => side_bad a va x0 W (ha.below hW) hx hz) want⟩
theorem one_ok (ha : IsM w va a) (hx : checkP a 0) (fa : fewB a = true) (hl : inn.length + out.length ≤ 8) (hI : IsJ w ai ci inn) (hO : IsJ w ao co out) :
    ∃ c4 c5 c6 : Nat, (∀ W, Below w.heap.size w W → Calls Try.prog 14 #[va, .slice ai inn.length ci, .slice ao out.length co] W fun e w' => e = .returned (.int .i64 (c4 : Int)) ∧ Below W.heap.size W w') ∧
      (∀ W, Below w.heap.size w W → Calls Try.prog 9 #[va, .slice ao out.length co, .slice ai inn.length ci, .bool true] W fun e w' => e = .returned (.int .i64 (c5 : Int)) ∧ Below W.heap.size W w') ∧
      (∀ W, Below w.heap.size w W → Calls Try.prog 9 #[va, .slice ai inn.length ci, .slice none 0 0, .bool false] W fun e w' => e = .returned (.int .i64 (c6 : Int)) ∧ Below W.heap.size W w') ∧
      Makes 16 #[va] (.slice ai inn.length ci) (.slice ao out.length co) w 0 (c4 : Int) ∧ Makes 17 #[va] (.slice ai inn.length ci) (.slice ao out.length co) w 0 (c5 : Int) ∧
      (inn = out → Makes 18 #[va] (.slice ai inn.length ci) (.slice ao out.length co) w 0 (c6 : Int)) ∧ (inn ≠ out → Makes 18 #[va] (.slice ai inn.length ci) (.slice ao out.length co) w 0 1152921504606846976) := by
  have hi : inn.length ≤ 61 := by omega
  have ho : out.length ≤ 61 := by omega
  obtain ⟨c4, l4, k4⟩ := fix_of (fun W hW => Gn.again_any a va inn out ai ao ci co W (ha.below hW) hx hl (isJ_below hI hW) (isJ_below hO hW))
  obtain ⟨c5, l5, _, k5⟩ := cost_fix a va _ _ w out inn ha hx ho hi hO.1 hI.1
  obtain ⟨c6, l6, k6⟩ := fix_of (f := 9) (args := #[va, .slice ai inn.length ci, .slice none 0 0, .bool false]) (P := Acc a inn [] false) (w := w) (fun W hW => (Ch.cost_untold a inn va _ none 0 W (ha.below hW) (hI.1.below hW) hx hi).mono fun e w' ⟨c, h1, h2, h3⟩ => ⟨c, h1, (isCost_iff (pos_of hx)).1 h2, h3⟩)
  refine ⟨c4, c5, c6, k4, fun W hW => k5 W _ _ hW (hO.1.below hW) (hI.1.below hW), k6, ?_, ?_, ?_, ?_⟩
  · exact makes_ok (fun W hW => Re.repeat_made a va W (ha.below hW) hx fa) (repeat_ok hx fa) hI.1 hO.1 hi ho (l4.congr fun u => repeat_acc (fit_of hx))
  · exact makes_ok (fun W hW => Tu.turn_made a va W (ha.below hW) hx fa) (turn_ok hx) hI.1 hO.1 hi ho (l5.congr fun u => turn_acc)
  · intro e
    refine makes_ok (fun W hW => Si.side_made a va W (ha.below hW) hx fa) (side_ok hx) hI.1 hO.1 hi ho ?_
    rw [← e]
    exact l6.congr fun u => side_acc
  · intro e
    rw [dear_int]
    exact makes_ok (fun W hW => Si.side_made a va W (ha.below hW) hx fa) (side_ok hx) hI.1 hO.1 hi ho (.inl ⟨rfl, fun u => side_none e u⟩)
end Go.Proofs.Ytegfhbjdfcoajaa.Ge
