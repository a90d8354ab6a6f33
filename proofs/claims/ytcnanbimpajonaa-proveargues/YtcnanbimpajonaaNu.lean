/- Lists of numbers that lie in blocks of their own; Clone, literals, renumbered. Conditions: they are short; numbers of places are places. -/
import Derived.Test.YtcnanbimpajonaaCl
import Derived.Maps.AppendAt
namespace Go.Proofs.Ytcnanbimpajonaa.Nu
open Go.RowKit Cl

def nc (xs : List Int) : List Value := xs.map fun x => Value.int .i64 x
theorem nc_length (xs : List Int) : (nc xs).length = xs.length := by simp [nc]
theorem nc_at {xs : List Int} {j : Nat} (h : j < xs.length) : (nc xs)[j]? = some (.int .i64 xs[j]) := by simp [nc, h]
theorem nc_one (xs : List Int) : ∀ u ∈ nc xs, u.oneCell' = true := by
  intro u hu
  obtain ⟨x, _, rfl⟩ := List.mem_map.1 hu
  rfl
theorem nc_app (xs ys : List Int) : nc xs ++ nc ys = nc (xs ++ ys) := by simp [nc]

/-- a list of numbers, nil or in a block of numbers -/
def IsN (w : World) (v : Value) (xs : List Int) : Prop :=
  ∃ a cap, v = .slice a xs.length cap ∧ ((a = none ∧ cap = 0 ∧ xs = []) ∨ ∃ b off cur fz, a = some ⟨b, off, none⟩ ∧ w.heap[b]? = some (.cells cur 3 fz) ∧ ∀ j x, xs[j]? = some x → cur[off + j]? = some (.int .i64 x))
theorem IsN.of_kept {w w' : World} {v : Value} {xs : List Int} (h : IsN w v xs) (hk : ∀ (k : Nat) (cur : Array Value) (fz : Nat × Nat), w.heap[k]? = some (Obj.cells cur 3 fz) → w'.heap[k]? = some (Obj.cells cur 3 fz)) : IsN w' v xs := by
  obtain ⟨a, cap, hv, h⟩ := h
  refine ⟨a, cap, hv, ?_⟩
  rcases h with h | ⟨b, off, cur, fz, ha, hb, hc⟩
  · exact .inl h
  · exact .inr ⟨b, off, cur, fz, ha, hk b cur fz hb, hc⟩
theorem IsN.below {w w' : World} {v : Value} {xs : List Int} (h : IsN w v xs) (hb : Below w.heap.size w w') : IsN w' v xs :=
  h.of_kept fun k _ _ hk => (hb.block k (Array.getElem?_eq_some_iff.1 hk).1).trans hk
theorem IsN.alloc {w : World} {v : Value} {xs : List Int} (h : IsN w v xs) (o : Obj) : IsN (w.alloc o) v xs := h.below ((Below.refl _ w).alloc (Nat.le_refl _) o)
theorem IsN.cells {w : World} {v : Value} {xs : List Int} (h : IsN w v xs) : ∃ a cap, v = .slice a xs.length cap ∧ (xs.length = 0 ∨ ∃ b off, a = some ⟨b, off, none⟩ ∧ b < w.heap.size ∧ ∀ j (hj : j < xs.length), w.cell? ⟨b, off + j, none⟩ = some (.int .i64 xs[j])) := by
  obtain ⟨a, cap, hv, h⟩ := h
  refine ⟨a, cap, hv, ?_⟩
  rcases h with ⟨_, _, h⟩ | ⟨b, off, cur, fz, ha, hb, hc⟩
  · exact .inl (by rw [h]; rfl)
  · exact .inr ⟨b, off, ha, (Array.getElem?_eq_some_iff.1 hb).1, fun j hj => by rw [cell_of_row w b _ cur 3 fz hb]; exact hc j _ (List.getElem?_eq_getElem hj)⟩
theorem own_isN {w : World} {base n : Nat} {v : Value} {xs : List Int} (h : w.ownsRow base 3 1 v n (nc xs)) : IsN w v xs := by
  obtain ⟨hl, h⟩ := h
  rw [nc_length, Nat.mul_one] at hl
  subst hl
  rcases h with ⟨hv, h0⟩ | ⟨g, cap, cur, hv, _, hg, _, _, _, ht⟩
  · have e := List.length_eq_zero_iff.1 h0
    subst e
    exact ⟨none, 0, hv, .inl ⟨rfl, rfl, rfl⟩⟩
  · refine ⟨_, cap, hv, .inr ⟨g, 0, cur, (0, 0), rfl, hg, fun j x hx => ?_⟩⟩
    have hj : j < xs.length := (List.getElem?_eq_some_iff.1 hx).1
    have e : (nc xs)[j]? = some (.int .i64 x) := by rw [nc_at hj, (List.getElem?_eq_some_iff.1 hx).2]
    rw [← ht, List.getElem?_take_of_lt (by omega), Array.getElem?_toList] at e
    rw [Nat.zero_add]
    exact e
theorem info3 : (Try.prog.info? 3).map (fun i => (i.zero, i.size, i.bytes)) = some (some (.int .i64 0), 1, 8) := by kernel_rfl
theorem below_of_grown {w w' : World} {base e size n : Nat} {v : Value} {xs : List Value} (hg : w.grownBy w' v.ownBlock) (h : w.ownsRow base e size v n xs) (_ : base ≤ w.heap.size) : Below base w w' :=
  ⟨hg.os, hg.tape, hg.output, hg.size, fun k hk => hg.block k (by omega) (fun e => by have := (h.lt k e.symm).1; omega)⟩
theorem add_at (b off j : Nat) : (⟨b, off, none⟩ : Addr).add j = ⟨b, off + j, none⟩ := by unfold Addr.add; split <;> simp_all

theorem nil22 (w : World) (a : Option Addr) (n c : Nat) : (binOp .eql 29 (.slice a n c) (.slice none 0 0)).run Try.prog w = .ok (.bool a.isNone) w := by
  simp only [binOp]
  simp [Op.equal, Op.maxDepth, Lib.run_equalIn_slice_nil w 9999 29 3 a n c 0 0 Try.underlying29]

set_option maxHeartbeats 1000000 in
set_option maxRecDepth 100000 in
theorem clone_any (v : Value) (xs : List Int) (w : World) (h : IsN w v xs) (hl : xs.length ≤ 100000) : Calls Try.prog 45 #[v] w fun e w' => ∃ v', e = .returned v' ∧ IsN w' v' xs ∧ Below w.heap.size w w' := by
  obtain ⟨a, cap, rfl, h⟩ := h
  obtain ⟨i0, hi, hz0, hz1, hz2⟩ := info_parts info3
  have hnil := nil22
  rcases h with ⟨rfl, rfl, rfl⟩ | ⟨b, off, cur, fz, rfl, hb, hc⟩
  · go_enter Try.func45, Try.ntmps45
    go_wp2
    go_ret
    exact ⟨_, rfl, ⟨none, 0, rfl, .inl ⟨rfl, rfl, rfl⟩⟩, Below.refl _ _⟩
  · have h0 : (w.alloc (.cells #[] 3)).ownsRow w.heap.size 3 1 (.slice (some ⟨w.heap.size, 0, none⟩) 0 0) 0 [] := World.ownsRow_lit w #[] 0 (Nat.le_refl _) (Nat.zero_le _) rfl
    have hbl : b < w.heap.size := (Array.getElem?_eq_some_iff.1 hb).1
    have hn : ∀ j u, (nc xs)[j]? = some u → (w.alloc (.cells #[] 3)).cell? ((⟨b, off, none⟩ : Addr).add j) = some u := fun j u hu => by
      have hj : j < xs.length := by have := (List.getElem?_eq_some_iff.1 hu).1; rwa [nc_length] at this
      rw [nc_at hj] at hu
      rw [add_at, World.cell?_alloc_past _ _ _ hbl, cell_of_row w b _ cur 3 fz hb, ← hu]
      exact hc j _ (List.getElem?_eq_getElem hj)
    have HH : Hid ((w.alloc (.cells #[] 3)).ownsRow w.heap.size 3 1 (.slice (some ⟨w.heap.size, 0, none⟩) 0 0) 0 []) := h0
    have HN : Hid _ := hn
    clear h0 hn hc hb
    go_enter Try.func45, Try.ntmps45
    go_wp2_with (refine wpList_append_own_at _ rfl _ _ 29 rfl w.heap.size 3 i0 (.int .i64 0) 1 8 Try.underlying29 hi hz0 hz1 hz2 rfl (by decide) _ _ _ rfl HH.out ⟨b, off, none⟩ xs.length cap (nc xs) rfl (by rw [nc_length, Nat.mul_one]) HN.out (nc_one xs) (by unfold maxLen; omega) (by omega) (by simp) ?_; intro v1 w1 ho1 hg1 _ _)
    go_ret
    refine ⟨_, rfl, own_isN ho1, ?_⟩
    have h1 : Below w.heap.size w (w.alloc (.cells #[] 3)) := (Below.refl _ w).alloc (Nat.le_refl _) _
    exact h1.trans (below_of_grown (v := .slice (some ⟨w.heap.size, 0, none⟩) 0 0) hg1 HH.out (by simp))

/-- all literals -/
def lits : List Int := [1, -1, 2, -2, 3, -3, 4, -4, 5, -5, 6, -6]
theorem lits_take (k : Nat) (h : k < 6) : lits.take (2 * k) ++ [(k : Int) + 1, -((k : Int) + 1)] = lits.take (2 * (k + 1)) := by
  match k, h with
  | 0, _ => rfl
  | 1, _ => rfl
  | 2, _ => rfl
  | 3, _ => rfl
  | 4, _ => rfl
  | 5, _ => rfl
theorem two_at (w : World) (a b : Value) (t : TypeId) : ∀ j u, [a, b][j]? = some u → (w.alloc (.cells #[a, b] t)).cell? ((⟨w.heap.size, 0, none⟩ : Addr).add j) = some u := by
  intro j u hj
  match j, hj with
  | 0, hj => simp at hj; subst hj; simp [Addr.add]
  | 1, hj => simp at hj; subst hj; simp [Addr.add]
theorem one_at (w : World) (a : Value) (t : TypeId) : ∀ j u, [a][j]? = some u → (w.alloc (.cells #[a] t)).cell? ((⟨w.heap.size, 0, none⟩ : Addr).add j) = some u := by
  intro j u hj
  match j, hj with
  | 0, hj => simp at hj; subst hj; simp [Addr.add]

set_option maxHeartbeats 1000000 in
set_option maxRecDepth 100000 in
theorem literals_any (w : World) : Calls Try.prog 29 #[] w fun e w' => ∃ v', e = .returned v' ∧ IsN w' v' lits ∧ Below w.heap.size w w' := by
  obtain ⟨i0, hi, hz0, hz1, hz2⟩ := info_parts info3
  go_enter Try.func29, Try.ntmps29
  go_wp2
  go_loopw [1, 2] (fun v iv wr => ∃ k : Nat, iv = .int .i64 ((k : Int) + 1) ∧ k ≤ 6 ∧ wr.ownsRow w.heap.size 3 1 v (2 * k) (nc (lits.take (2 * k))) ∧ Below w.heap.size w wr) (fun _ iv _ => 7 - (intOf iv).toNat)
  case atStart => exact ⟨0, rfl, Nat.zero_le _, World.ownsRow_nil _ _ _ _, Below.refl _ _⟩
  case round =>
    obtain ⟨k, rfl, hk, hown, hb⟩ := hrel
    by_cases hlt : k < 6
    · have HO : Hid (wr.ownsRow w.heap.size 3 1 u1 (2 * k) (nc (lits.take (2 * k)))) := hown
      have HB : Hid (Below w.heap.size w wr) := hb
      have hws : w.heap.size ≤ wr.heap.size := hb.size
      clear hown hb
      go_wp2_with (refine wpList_append_own_at _ rfl _ _ 29 rfl w.heap.size 3 i0 (.int .i64 0) 1 8 Try.underlying29 hi hz0 hz1 hz2 rfl (by decide) _ _ _ rfl (HO.out.alloc _) ⟨wr.heap.size, 0, none⟩ 2 2 (nc [(k : Int) + 1, -((k : Int) + 1)]) rfl rfl (two_at _ _ _ _) (nc_one _) (by unfold maxLen; omega) (by omega) (by simp; omega) ?_; intro v1 w1 ho1 hg1 _ _; have HO1 : Hid (w1.ownsRow w.heap.size 3 1 v1 (2 * k + 2) (nc (lits.take (2 * k)) ++ nc [(k : Int) + 1, -((k : Int) + 1)])) := ho1; have HB1 : Hid (Below w.heap.size w w1) := (HB.out.alloc hws _).trans (below_of_grown hg1 (HO.out.alloc _) (by simp; omega)); clear ho1 hg1)
      go_roundw
      case rel =>
        refine ⟨k + 1, by go_num, hlt, ?_, HB1.out⟩
        have e := HO1.out
        rw [nc_app, lits_take k hlt] at e
        exact e
      case measure => simp [intOf]; omega
    · have ek : k = 6 := by omega
      subst ek
      have HO : Hid (IsN wr u1 lits) := own_isN hown
      clear hown
      go_wp2
      go_ret
      exact ⟨_, rfl, HO.out, hb⟩

set_option maxHeartbeats 1000000 in
set_option maxRecDepth 100000 in
theorem renumbered_any (vf vn : Value) (fs ns : List Int) (w : World) (hf : IsN w vf fs) (hn : IsN w vn ns) (hl : fs.length ≤ 100000) (hr : ∀ x ∈ fs, 0 ≤ x ∧ x < (ns.length : Int)) :
    Calls Try.prog 34 #[vf, vn] w fun e w' => ∃ v', e = .returned v' ∧ IsN w' v' (fs.map fun x => ns.getD x.toNat 0) ∧ Below w.heap.size w w' := by
  obtain ⟨i0, hi, hz0, hz1, hz2⟩ := info_parts info3
  obtain ⟨af, cf, rfl, hcf⟩ := hf.cells
  obtain ⟨an, cn, rfl, hcn⟩ := hn.cells
  have HF : Hid _ := hcf
  have HN : Hid _ := hcn
  have HR : Hid _ := hr
  clear hcf hcn hr hf hn
  go_enter Try.func34, Try.ntmps34
  go_wp2
  go_loopw [5, 10] (fun v iv wr => ∃ k : Nat, iv = .int .i64 (k : Int) ∧ k ≤ fs.length ∧ wr.ownsRow w.heap.size 3 1 v k (nc ((fs.take k).map fun x => ns.getD x.toNat 0)) ∧ Below w.heap.size w wr) (fun _ iv _ => fs.length - (intOf iv).toNat)
  case atStart => exact ⟨0, rfl, Nat.zero_le _, World.ownsRow_nil _ _ _ _, Below.refl _ _⟩
  case round =>
    obtain ⟨k, rfl, hk, hown, hb⟩ := hrel
    by_cases hlt : k < fs.length
    · obtain ⟨bf, of, rfl, hbf, hcf⟩ := HF.out.resolve_left (by omega)
      obtain ⟨x, hx⟩ : ∃ x, fs[k] = x := ⟨_, rfl⟩
      have hxr := HR.out x (hx ▸ List.getElem_mem hlt)
      obtain ⟨m, rfl⟩ : ∃ m : Nat, x = (m : Int) := ⟨x.toNat, by omega⟩
      have hm : m < ns.length := by omega
      obtain ⟨bn, on, rfl, hbn, hcn⟩ := HN.out.resolve_left (by omega)
      have c0 : wr.cell? ⟨bf, of + k, none⟩ = some (.int .i64 (m : Int)) := by rw [hb.cell hbf, hcf k hlt, hx]
      have c1 : wr.cell? ⟨bn, on + m, none⟩ = some (.int .i64 ns[m]) := by rw [hb.cell hbn, hcn m hm]
      obtain ⟨z, hz⟩ : ∃ z, ns[m] = z := ⟨_, rfl⟩
      rw [hz] at c1
      have HX : Hid (fs[k] = (m : Int)) := hx
      have HZ : Hid (ns.getD (m : Int).toNat 0 = z) := by show ns.getD (m : Int).toNat 0 = z; simp [List.getD, hm, hz]
      have HO : Hid (wr.ownsRow w.heap.size 3 1 u5 k (nc ((fs.take k).map fun x => ns.getD x.toNat 0))) := hown
      have HB : Hid (Below w.heap.size w wr) := hb
      have hws : w.heap.size ≤ wr.heap.size := hb.size
      clear hown hb hx hz hxr hcf hcn
      go_wp2_with (refine wpList_append_own_at _ rfl _ _ 29 rfl w.heap.size 3 i0 (.int .i64 0) 1 8 Try.underlying29 hi hz0 hz1 hz2 rfl (by decide) _ _ _ rfl (HO.out.alloc _) ⟨wr.heap.size, 0, none⟩ 1 1 (nc [z]) rfl rfl (one_at _ _ _) (nc_one _) (by unfold maxLen; omega) (by omega) (by simp; omega) ?_; intro v1 w1 ho1 hg1 _ _; have HO1 : Hid (w1.ownsRow w.heap.size 3 1 v1 (k + 1) (nc ((fs.take k).map fun x => ns.getD x.toNat 0) ++ nc [z])) := ho1; have HB1 : Hid (Below w.heap.size w w1) := (HB.out.alloc hws _).trans (below_of_grown hg1 (HO.out.alloc _) (by simp; omega)); clear ho1 hg1)
      go_roundw
      case rel =>
        refine ⟨k + 1, by go_num, hlt, ?_, HB1.out⟩
        have e := HO1.out
        rw [nc_app] at e
        rw [List.take_succ_eq_append_getElem hlt, List.map_append, HX.out, List.map_singleton, HZ.out]
        exact e
      case measure => simp [intOf]; omega
    · have ek : k = fs.length := by omega
      subst ek
      rw [List.take_length] at hown
      have HO : Hid (IsN wr u5 (fs.map fun x => ns.getD x.toNat 0)) := own_isN hown
      clear hown
      go_wp2
      go_ret
      exact ⟨_, rfl, HO.out, hb⟩
end Go.Proofs.Ytcnanbimpajonaa.Nu
