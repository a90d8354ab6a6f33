/- parted: the least cost of a walk of one machine and of one of another behind it. Conditions: both are right; texts of at most 61 symbols, no longer than their capacity. -/
import Derived.Test.YtegfhbjdfcoajaaMr
import Derived.Test.YtegfhbjdfcoajaaPl
import Derived.Test.YtegfhbjdfcoajaaCz
import Derived.Deep.QuietTactic
import Derived.BigQuiet
import Derived.Deep.Cut
import Derived.Deep.CutRange
namespace Go.Proofs.Ytegfhbjdfcoajaa.Pd
open Go.RowKit Mv Wk Sy Rz Bw Mc CR

structure After (w : World) where
  W : World
  h : Below w.heap.size w W
theorem wp_region_after {P : Program} {id : Nat} {Q : Exit → Act → World → Prop} {a : Act} {w : World} {l : List Oper} (hm : P.follows .mixedOrders = true) (hB : Region.lexB .any l.toArray = true)
    (h : wpQuiet P l.toArray (fun w' => ∃ p : After w, w' = p.W) (fun a' => ∀ w', (∃ p : After w, w' = p.W) → Q .normal a' w') l a) : (Code.region id l.toArray true).wp P Q a w :=
  wp_region_quiet (C := fun w' => ∃ p : After w, w' = p.W) hm hB ⟨⟨w.drew, (Below.refl _ _).drew⟩, rfl⟩ (by simpa using h)
theorem after_of {P : Program} {f : FuncId} {args : Array Value} {w : World} {p : After w} {v : Value}
    (h : Calls P f args p.W fun e w' => e = .returned v ∧ Below p.W.heap.size p.W w') : Calls P f args p.W fun e w'' => e = .returned v ∧ ∃ p' : After w, w'' = p'.W :=
  h.mono fun _ w' ⟨he, hb⟩ => ⟨he, ⟨w', p.h.trans (hb.mono p.h.size)⟩, rfl⟩

/-- a list of numbers, and room behind it -/
def IsJ (w : World) (a : Option Addr) (c : Nat) (l : List Int) : Prop := IsI w (.slice a l.length c) l ∧ l.length ≤ c
theorem isI_nil (w : World) (a : Option Addr) (c : Nat) : IsI w (.slice a 0 c) [] := ⟨rfl, a, c, rfl, by simp, .inl rfl⟩
theorem isI_cut {w : World} {b off c : Nat} {l : List Int} (h : IsI w (.slice (some ⟨b, off, none⟩) l.length c) l) (i n c' : Nat) (hin : i + n ≤ l.length) : IsI w (.slice (some ⟨b, off + i, none⟩) n c') ((l.drop i).take n) := by
  obtain ⟨_, a, cc, hv, hn, hc⟩ := h
  simp only [Value.slice.injEq, true_and] at hv
  obtain ⟨rfl, rfl⟩ := hv
  have hl : ((l.drop i).take n).length = n := by rw [List.length_take, List.length_drop]; omega
  refine ⟨by simp [ints], some ⟨b, off + i, none⟩, c', by rw [hl], by omega, ?_⟩
  rcases hc with h0 | ⟨b', off', hab, hlt, hc⟩
  · exact .inl (by omega)
  · simp only [Option.some.injEq, Addr.mk.injEq, and_true] at hab
    obtain ⟨rfl, rfl⟩ := hab
    refine .inr ⟨b, off + i, rfl, hlt, fun j u hu => ?_⟩
    have := hc (i + j) u (by
      simp only [ints, List.getElem?_map] at hu ⊢
      rw [List.getElem?_take] at hu
      split at hu
      · rwa [List.getElem?_drop] at hu
      · cases hu)
    rw [← Nat.add_assoc] at this
    exact this
/-- the cost of a machine, fixed -/
theorem cost_fix (m : M) (va v1 v2 : Value) (w : World) (l1 l2 : List Int) (hM : IsM w va m) (hc : checkP m 0) (h1 : l1.length ≤ 61) (h2 : l2.length ≤ 61) (i1 : IsI w v1 l1) (i2 : IsI w v2 l2) :
    ∃ c : Nat, Least (Acc m l1 l2 true) c ∧ (c = dear ∨ c ≤ 11532001000000) ∧ ∀ W u1 u2, Below w.heap.size w W → IsI W u1 l1 → IsI W u2 l2 → Calls Try.prog 9 #[va, u1, u2, .bool true] W fun e w' => e = .returned (.int .i64 (c : Int)) ∧ Below W.heap.size W w' := by
  obtain ⟨c, hc1, hc2⟩ := cost_ex m l1 l2 va v1 v2 w hM i1 i2 hc h1 h2
  have hpos : ∀ f ∈ m.fins, 0 ≤ f.2 := fun f hf => by
    obtain ⟨_, _, hfin⟩ := checkP_ok hc
    obtain ⟨x, hx, rfl⟩ := List.getElem_of_mem hf
    have := hfin x hx
    unfold finB at this
    simp only [decide_eq_true_eq] at this
    omega
  refine ⟨c, (isCost_iff hpos).1 hc1, hc2, fun W u1 u2 hW j1 j2 => ?_⟩
  exact (cost_of m l1 l2 va u1 u2 W (hM.below hW) j1 j2 hc h1 h2).mono fun e w' ⟨d, e1, e2, e3⟩ => ⟨by rw [e1, e2.one hc1], e3⟩
theorem isI_some {w : World} {a : Option Addr} {c : Nat} {l : List Int} (h : IsI w (.slice a l.length c) l) (hne : 0 < l.length) : ∃ b off, a = some ⟨b, off, none⟩ := by
  obtain ⟨_, a', cc, hv, hn, hc⟩ := h
  simp only [Value.slice.injEq, true_and] at hv
  obtain ⟨rfl, rfl⟩ := hv
  rcases hc with h0 | ⟨b, off, hab, _⟩
  · omega
  · exact ⟨b, off, hab⟩
/-- what a slice of it may look like -/
def Look (a : Option Addr) (n i : Nat) (x : Option Addr) : Prop := n = 0 ∨ ∃ b off, a = some ⟨b, off, none⟩ ∧ x = some ⟨b, off + i, none⟩
theorem look0 {a x : Option Addr} {n i : Nat} (h : n = 0) : Look a n i x := .inl h
theorem look_pre {b off n : Nat} : Look (some ⟨b, off, none⟩) n 0 (some ⟨b, off, none⟩) := .inr ⟨b, off, rfl, rfl⟩
theorem look_suf {b off n i : Nat} : Look (some ⟨b, off, none⟩) n i (some ⟨b, off + i, none⟩) := .inr ⟨b, off, rfl, rfl⟩
theorem isI_look {w : World} {a x : Option Addr} {c : Nat} {l : List Int} (h : IsI w (.slice a l.length c) l) {i n c' : Nat} (hin : i + n ≤ l.length) (hx : Look a n i x) : IsI w (.slice x n c') ((l.drop i).take n) := by
  rcases hx with rfl | ⟨b, off, rfl, rfl⟩
  · rw [List.take_zero]; exact isI_nil w x c'
  · exact isI_cut h i n c' hin
theorem any_look {a : Option Addr} {w : World} {c : Nat} {l : List Int} (h : IsI w (.slice a l.length c) l) (i n : Nat) (hin : i + n ≤ l.length) : ∃ x, Look a n i x := by
  by_cases h0 : n = 0
  · exact ⟨none, .inl h0⟩
  · obtain ⟨b, off, rfl⟩ := isI_some h (by omega)
    exact ⟨some ⟨b, off + i, none⟩, .inr ⟨b, off, rfl, rfl⟩⟩

theorem min_if (x c d : Nat) : (if (c : Int) + (d : Int) < (x : Int) then (c : Int) + (d : Int) else (x : Int)) = ((min x (c + d) : Nat) : Int) := by
  split <;> omega
theorem not_lt_dear {c : Nat} (h : ¬ c < dear) : decide ((c : Int) < 1152921504606846976) = false := by
  unfold dear at h
  exact decide_eq_false (by omega)
theorem least_le {P : Nat → Prop} {x : Nat} (h : Least P x) : x ≤ dear := by
  rcases h with ⟨rfl, _⟩ | ⟨h, _⟩
  · exact Nat.le_refl _
  · exact Nat.le_of_lt h
theorem sum_wrap {c d : Nat} (hc : c = dear ∨ c ≤ 11532001000000) (hd : d = dear ∨ d ≤ 11532001000000) (h1 : c < dear) (h2 : d < dear) : IntKind.i64.wrap ((c : Int) + (d : Int)) = ((c + d : Nat) : Int) := by
  have a := hc.resolve_left (fun e => by rw [e] at h1; exact Nat.lt_irrefl _ h1)
  have b := hd.resolve_left (fun e => by rw [e] at h2; exact Nat.lt_irrefl _ h2)
  clear hc hd h1 h2
  rw [IntKind.wrap_i64]
  omega

set_option maxHeartbeats 8000000 in
set_option maxRecDepth 100000 in
theorem parted_any (a b : M) (va vb : Value) (inn out : List Int) (ai ao : Option Addr) (ci co : Nat) (w : World) (ha : IsM w va a) (hb : IsM w vb b) (hx : checkP a 0) (hy : checkP b 0) (hi : inn.length ≤ 61) (ho : out.length ≤ 61) (hI : IsJ w ai ci inn) (hO : IsJ w ao co out) :
    Calls Try.prog 10 #[va, vb, .slice ai inn.length ci, .slice ao out.length co] w fun e w' => ∃ c : Nat, e = .returned (.int .i64 (c : Int)) ∧ Least (Parted a b inn out) c ∧ Below w.heap.size w w' := by
  have HI : Hid (IsI w (.slice ai inn.length ci) inn) := hI.1
  have HO : Hid (IsI w (.slice ao out.length co) out) := hO.1
  have hci := hI.2
  have hco := hO.2
  have KA : Hid (∀ l1 l2 v1 v2, l1.length ≤ 61 → l2.length ≤ 61 → IsI w v1 l1 → IsI w v2 l2 → ∃ c : Nat, Least (Acc a l1 l2 true) c ∧ (c = dear ∨ c ≤ 11532001000000) ∧ ∀ W u1 u2, Below w.heap.size w W → IsI W u1 l1 → IsI W u2 l2 → Calls Try.prog 9 #[va, u1, u2, .bool true] W fun e w' => e = .returned (.int .i64 (c : Int)) ∧ Below W.heap.size W w') := fun l1 l2 v1 v2 h1 h2 i1 i2 => cost_fix a va v1 v2 w l1 l2 ha hx h1 h2 i1 i2
  have KB : Hid (∀ l1 l2 v1 v2, l1.length ≤ 61 → l2.length ≤ 61 → IsI w v1 l1 → IsI w v2 l2 → ∃ c : Nat, Least (Acc b l1 l2 true) c ∧ (c = dear ∨ c ≤ 11532001000000) ∧ ∀ W u1 u2, Below w.heap.size w W → IsI W u1 l1 → IsI W u2 l2 → Calls Try.prog 9 #[vb, u1, u2, .bool true] W fun e w' => e = .returned (.int .i64 (c : Int)) ∧ Below W.heap.size W w') := fun l1 l2 v1 v2 h1 h2 i1 i2 => cost_fix b vb v1 v2 w l1 l2 hb hy h1 h2 i1 i2
  clear hI hO hx hy
  obtain ⟨a1, a2, rfl, ⟨_, aa, ca, rfl, _, _⟩, ⟨_, af, cf, rfl, _, _⟩⟩ := ha
  obtain ⟨b1, b2, rfl, ⟨_, ba, cb, rfl, _, _⟩, ⟨_, bf, cg, rfl, _, _⟩⟩ := hb
  obtain ⟨st, arcs, fins⟩ := a
  obtain ⟨st', arcs', fins'⟩ := b
  dsimp only at *
  have HB0 : Hid (Below w.heap.size w ((w.alloc (.cells #[.int .i64 st, .slice aa arcs.length ca, .slice af fins.length cf] 25)).alloc (.cells #[.int .i64 st', .slice ba arcs'.length cb, .slice bf fins'.length cg] 25))) := ((Below.refl _ w).alloc (Nat.le_refl _) _).alloc (by simp) _
  have HBX : Hid (((w.alloc (.cells #[.int .i64 st, .slice aa arcs.length ca, .slice af fins.length cf] 25)).alloc (.cells #[.int .i64 st', .slice ba arcs'.length cb, .slice bf fins'.length cg] 25)).heap[w.heap.size]? = some (.cells #[.int .i64 st, .slice aa arcs.length ca, .slice af fins.length cf] 25 (0, 0)) ∧ ((w.alloc (.cells #[.int .i64 st, .slice aa arcs.length ca, .slice af fins.length cf] 25)).alloc (.cells #[.int .i64 st', .slice ba arcs'.length cb, .slice bf fins'.length cg] 25)).heap[w.heap.size + 1]? = some (.cells #[.int .i64 st', .slice ba arcs'.length cb, .slice bf fins'.length cg] 25 (0, 0))) := ⟨(Below.heap_alloc _ _ _ (by simp)).trans (heap_alloc_new _ _), second _ _ _⟩
  go_enter Try.func10, Try.ntmps10
  go_wp2
  obtain ⟨W0, hW0⟩ : ∃ W0, (w.alloc (.cells #[.int .i64 st, .slice aa arcs.length ca, .slice af fins.length cf] 25)).alloc (.cells #[.int .i64 st', .slice ba arcs'.length cb, .slice bf fins'.length cg] 25) = W0 := ⟨_, rfl⟩
  rw [hW0] at HB0 HBX ⊢
  clear hW0
  go_loopw [9, 10] (fun bv iv wr => ∃ (x i : Nat), bv = .int .i64 (x : Int) ∧ iv = .int .i64 (i : Int) ∧ i ≤ inn.length + 1 ∧ Least (Seen ⟨st, arcs, fins⟩ ⟨st', arcs', fins'⟩ inn out i 0) x ∧ Below W0.heap.size W0 wr) (fun _ iv _ => inn.length + 1 - (intOf iv).toNat)
  case atStart => exact ⟨dear, 0, by rw [← dear_int], rfl, by omega, seen_start _ _ _ _, Below.refl _ _⟩
  case round =>
    obtain ⟨x, i, rfl, rfl, hi1, hL, hbw⟩ := hrel
    have HL : Hid _ := hL
    clear hL
    by_cases hil : i ≤ inn.length
    · have di : decide ((i : Int) ≤ (inn.length : Int)) = true := decide_eq_true (by omega)
      have di2 : (i : Int) ≤ (inn.length : Int) := by omega
      have HBW : Hid (Below W0.heap.size W0 wr) := hbw
      clear hbw
      go_wp2
      go_loopw [9, 11] (fun bv jv wr => ∃ (x j : Nat), bv = .int .i64 (x : Int) ∧ jv = .int .i64 (j : Int) ∧ j ≤ out.length + 1 ∧ Least (Seen ⟨st, arcs, fins⟩ ⟨st', arcs', fins'⟩ inn out i j) x ∧ Below W0.heap.size W0 wr) (fun _ jv _ => out.length + 1 - (intOf jv).toNat)
      case atStart => exact ⟨x, 0, rfl, rfl, by omega, HL.out, HBW.out⟩
      case round =>
        rename_i wr1 x1
        clear HBW HL
        obtain ⟨x, j, rfl, rfl, hj1, hL, hbw⟩ := hrel
        have HL : Hid (Least (Seen ⟨st, arcs, fins⟩ ⟨st', arcs', fins'⟩ inn out i j) x) := hL
        clear hL
        by_cases hjl : j ≤ out.length
        · have dj : decide ((j : Int) ≤ (out.length : Int)) = true := decide_eq_true (by omega)
          have dj2 : (j : Int) ≤ (out.length : Int) := by omega
          obtain ⟨y1, hy1⟩ := any_look HI.out 0 i (by omega)
          obtain ⟨y2, hy2⟩ := any_look HO.out 0 j (by omega)
          obtain ⟨y3, hy3⟩ := any_look HI.out i (inn.length - i) (by omega)
          obtain ⟨y4, hy4⟩ := any_look HO.out j (out.length - j) (by omega)
          obtain ⟨c, lc, bc, kc⟩ := KA.out (inn.take i) (out.take j) _ _ (by rw [List.length_take]; omega) (by rw [List.length_take]; omega) (isI_look (c' := 0) HI.out (by omega) hy1) (isI_look (c' := 0) HO.out (by omega) hy2)
          obtain ⟨d, ld, bd, kd⟩ := KB.out (inn.drop i) (out.drop j) (.slice y3 (inn.length - i) 0) (.slice y4 (out.length - j) 0) (by rw [List.length_drop]; omega) (by rw [List.length_drop]; omega) (by have := isI_look (c' := 0) HI.out (by omega) hy3; rwa [List.take_of_length_le (by simp)] at this) (by have := isI_look (c' := 0) HO.out (by omega) hy4; rwa [List.take_of_length_le (by simp)] at this)
          have HST : Hid _ := seen_step hil hjl HL.out (piece_least lc ld bc bd)
          have HBW : Hid (Below W0.heap.size W0 wr) := hbw
          have HWW : Hid (Below w.heap.size w wr) := HB0.out.trans (hbw.mono HB0.out.size)
          have RA : ∀ p : After wr, p.W.cell? ⟨w.heap.size, 0, none⟩ = some (.int .i64 st) ∧ p.W.cell? ⟨w.heap.size, 1, none⟩ = some (.slice aa arcs.length ca) ∧ p.W.cell? ⟨w.heap.size, 2, none⟩ = some (.slice af fins.length cf) := fun p => (by
            have g := (p.h.block _ (Nat.lt_of_lt_of_le (Array.getElem?_eq_some_iff.1 HBX.out.1).1 HBW.out.size)).trans ((HBW.out.block _ (Array.getElem?_eq_some_iff.1 HBX.out.1).1).trans HBX.out.1)
            exact ⟨cell_of_row _ _ 0 _ 25 (0, 0) g, cell_of_row _ _ 1 _ 25 (0, 0) g, cell_of_row _ _ 2 _ 25 (0, 0) g⟩)
          have RB : ∀ p : After wr, p.W.cell? ⟨w.heap.size + 1, 0, none⟩ = some (.int .i64 st') ∧ p.W.cell? ⟨w.heap.size + 1, 1, none⟩ = some (.slice ba arcs'.length cb) ∧ p.W.cell? ⟨w.heap.size + 1, 2, none⟩ = some (.slice bf fins'.length cg) := fun p => (by
            have g := (p.h.block _ (Nat.lt_of_lt_of_le (Array.getElem?_eq_some_iff.1 HBX.out.2).1 HBW.out.size)).trans ((HBW.out.block _ (Array.getElem?_eq_some_iff.1 HBX.out.2).1).trans HBX.out.2)
            exact ⟨cell_of_row _ _ 0 _ 25 (0, 0) g, cell_of_row _ _ 1 _ 25 (0, 0) g, cell_of_row _ _ 2 _ 25 (0, 0) g⟩)
          have KC : Hid (∀ (p : After wr) x1 n1 c1 x2 n2 c2, n1 = i → n2 = j → Look ai i 0 x1 → Look ao j 0 x2 → Calls Try.prog 9 #[.agg #[.int .i64 st, .slice aa arcs.length ca, .slice af fins.length cf], .slice x1 n1 c1, .slice x2 n2 c2, .bool true] p.W fun e w' => e = .returned (.int .i64 (c : Int)) ∧ Below p.W.heap.size p.W w') := fun p x1 n1 c1 x2 n2 c2 e1 e2 h1 h2 => by
            subst e1 e2
            have hp : Below w.heap.size w p.W := HWW.out.trans (p.h.mono HWW.out.size)
            exact kc p.W _ _ hp (isI_look (HI.out.below hp) (by omega) h1) (isI_look (HO.out.below hp) (by omega) h2)
          have KD : Hid (∀ (p : After wr) x1 n1 c1 x2 n2 c2, n1 = inn.length - i → n2 = out.length - j → Look ai (inn.length - i) i x1 → Look ao (out.length - j) j x2 → Calls Try.prog 9 #[.agg #[.int .i64 st', .slice ba arcs'.length cb, .slice bf fins'.length cg], .slice x1 n1 c1, .slice x2 n2 c2, .bool true] p.W fun e w' => e = .returned (.int .i64 (d : Int)) ∧ Below p.W.heap.size p.W w') := fun p x1 n1 c1 x2 n2 c2 e1 e2 h1 h2 => by
            subst e1 e2
            have hp : Below w.heap.size w p.W := HWW.out.trans (p.h.mono HWW.out.size)
            refine kd p.W _ _ hp ?_ ?_
            · have := isI_look (c' := c1) (HI.out.below hp) (by omega) h1
              rwa [List.take_of_length_le (by simp)] at this
            · have := isI_look (c' := c2) (HO.out.below hp) (by omega) h2
              rwa [List.take_of_length_le (by simp)] at this
          clear lc ld kc kd hy1 hy2 hy3 hy4 y1 y2 y3 y4 hbw
          have sI : inn.length = 0 ∨ ((∃ b off, ai = some ⟨b, off, none⟩) ∧ ci = i) ∨ ((∃ b off, ai = some ⟨b, off, none⟩) ∧ ¬ ci = i) := by
            by_cases h0 : inn.length = 0
            · exact .inl h0
            · by_cases h1 : ci = i
              · exact .inr (.inl ⟨isI_some HI.out (by omega), h1⟩)
              · exact .inr (.inr ⟨isI_some HI.out (by omega), h1⟩)
          have sO : out.length = 0 ∨ ((∃ b off, ao = some ⟨b, off, none⟩) ∧ co = j) ∨ ((∃ b off, ao = some ⟨b, off, none⟩) ∧ ¬ co = j) := by
            by_cases h0 : out.length = 0
            · exact .inl h0
            · by_cases h1 : co = j
              · exact .inr (.inl ⟨isI_some HO.out (by omega), h1⟩)
              · exact .inr (.inr ⟨isI_some HO.out (by omega), h1⟩)
          have f1 : (i : Int) ≤ (ci : Int) := by omega
          have f2 : (j : Int) ≤ (co : Int) := by omega
          have f3 : i ≤ ci := by omega
          have f4 : j ≤ co := by omega
          haveI : Inhabited (After wr) := ⟨⟨_, Below.refl _ _⟩⟩
          have HDC : Hid (c = dear ∨ c ≤ 11532001000000) := bc
          have HDD : Hid (d = dear ∨ d ≤ 11532001000000) := bd
          clear bc bd
          rcases sI with hn0 | ⟨⟨b, off, rfl⟩, hci0⟩ | ⟨⟨b, off, rfl⟩, hci0⟩ <;> rcases sO with hm0 | ⟨⟨b', off', rfl⟩, hco0⟩ | ⟨⟨b', off', rfl⟩, hco0⟩
          all_goals
            go_upto_region 8 with fail
            refine wp_region_after (by kernel_rfl) (by kernel_rfl) ?_
            repeat (go_big_quiet_step (first | (go_at_call 9; (with_reducible refine after_of (KC.out _ _ _ _ _ _ _ (by omega) (by omega) (by first | exact look_pre | exact look_suf | exact look0 (by omega)) (by first | exact look_pre | exact look_suf | exact look0 (by omega))))) | (go_at_call 9; (with_reducible refine after_of (KD.out _ _ _ _ _ _ _ (by omega) (by omega) (by first | exact look_pre | exact look_suf | exact look0 (by omega)) (by first | exact look_pre | exact look_suf | exact look0 (by omega)))))))
            refine wpQuiet_nil ?_
            intro W hw'
            obtain ⟨⟨W, hW⟩, rfl⟩ := hw'
            clear KC KD RA RB
            by_cases hcd : c < dear ∧ d < dear
            · have dC := lt_dear hcd.1
              have dD := lt_dear hcd.2
              have w1 := sum_wrap HDC.out HDD.out hcd.1 hcd.2
              have w2 : wrap64 ((c : Int) + (d : Int)) = ((c + d : Nat) : Int) := (wrap_same _).symm.trans w1
              have HCD : Hid (c < dear ∧ d < dear) := hcd
              clear hcd
              go_wp2
              refine ⟨⟨min x (c + d), j + 1, congrArg (Value.int .i64) (min_if x c d), congrArg (Value.int .i64) (by omega), by omega, ?_, HBW.out.trans (hW.mono HBW.out.size)⟩, ?_⟩
              · have h := HST.out
                rw [if_pos HCD.out] at h
                exact h
              · simp [intOf]
                omega
            · have HCD : Hid (¬ (c < dear ∧ d < dear)) := hcd
              by_cases hc0 : c < dear
              · have dC := lt_dear hc0
                have dD := not_lt_dear (fun h => hcd ⟨hc0, h⟩)
                clear hcd hc0
                go_wp2
                refine ⟨⟨x, j + 1, rfl, congrArg (Value.int .i64) (by omega), by omega, ?_, HBW.out.trans (hW.mono HBW.out.size)⟩, ?_⟩
                · have h := HST.out
                  rw [if_neg HCD.out, Nat.min_eq_left (least_le HL.out)] at h
                  exact h
                · simp [intOf]
                  omega
              · have dC := not_lt_dear hc0
                clear hcd hc0
                go_wp2
                refine ⟨⟨x, j + 1, rfl, congrArg (Value.int .i64) (by omega), by omega, ?_, HBW.out.trans (hW.mono HBW.out.size)⟩, ?_⟩
                · have h := HST.out
                  rw [if_neg HCD.out, Nat.min_eq_left (least_le HL.out)] at h
                  exact h
                · simp [intOf]
                  omega
        · have ej : j = out.length + 1 := by omega
          have dj : decide ((j : Int) ≤ (out.length : Int)) = false := decide_eq_false (by omega)
          have dj2 : ¬ (j : Int) ≤ (out.length : Int) := by omega
          have HR : Hid _ := seen_row (ej ▸ HL.out)
          have HBW : Hid (Below W0.heap.size W0 wr) := hbw
          clear ej hbw
          go_wp2
          go_roundw
          case rel => exact ⟨x, i + 1, rfl, by go_num, by omega, HR.out, HBW.out⟩
          case measure => simp [intOf]; omega
    · have ei : i = inn.length + 1 := by omega
      have di : decide ((i : Int) ≤ (inn.length : Int)) = false := decide_eq_false (by omega)
      have di2 : ¬ (i : Int) ≤ (inn.length : Int) := by omega
      have HR : Hid _ := seen_end (ei ▸ HL.out)
      clear ei
      go_wp2
      go_ret
      exact ⟨x, rfl, HR.out, HB0.out.trans (hbw.mono HB0.out.size)⟩
end Go.Proofs.Ytegfhbjdfcoajaa.Pd
