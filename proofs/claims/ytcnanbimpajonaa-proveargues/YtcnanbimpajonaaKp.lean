/- The second half of needed, in plain words and in memory: the lines that are kept, told anew; renumbered, with where its list lies. No conditions. -/
import Derived.Test.YtcnanbimpajonaaAg
namespace Go.Proofs.Ytcnanbimpajonaa.Kp
open Go.RowKit Cl Nu Ag

/-- a list of numbers that lies outside block q -/
def IsNP (q : Nat) (w : World) (v : Value) (xs : List Int) : Prop :=
  ∃ a cap, v = .slice a xs.length cap ∧ ((a = none ∧ cap = 0 ∧ xs = []) ∨ ∃ b off cur fz, a = some ⟨b, off, none⟩ ∧ b ≠ q ∧ w.heap[b]? = some (.cells cur 3 fz) ∧ ∀ j x, xs[j]? = some x → cur[off + j]? = some (.int .i64 x))
theorem IsNP.isN {q : Nat} {w : World} {v : Value} {xs : List Int} (h : IsNP q w v xs) : IsN w v xs := by
  obtain ⟨a, cap, hv, h⟩ := h
  refine ⟨a, cap, hv, ?_⟩
  rcases h with h | ⟨b, off, cur, fz, ha, _, hb, hc⟩
  · exact .inl h
  · exact .inr ⟨b, off, cur, fz, ha, hb, hc⟩
theorem IsNP.of_lt {q : Nat} {w : World} {v : Value} {xs : List Int} (h : IsN w v xs) (hq : w.heap.size ≤ q) : IsNP q w v xs := by
  obtain ⟨a, cap, hv, h⟩ := h
  refine ⟨a, cap, hv, ?_⟩
  rcases h with h | ⟨b, off, cur, fz, ha, hb, hc⟩
  · exact .inl h
  · exact .inr ⟨b, off, cur, fz, ha, by have := (Array.getElem?_eq_some_iff.1 hb).1; omega, hb, hc⟩
theorem IsNP.of_own {q base n : Nat} {w : World} {v : Value} {xs : List Int} (h : w.ownsRow base 3 1 v n (nc xs)) (hq : q < base) : IsNP q w v xs := by
  obtain ⟨hl, h⟩ := h
  rw [nc_length, Nat.mul_one] at hl
  subst hl
  rcases h with ⟨hv, h0⟩ | ⟨g, cap, cur, hv, hbg, hg, _, _, _, ht⟩
  · have e := List.length_eq_zero_iff.1 h0
    subst e
    exact ⟨none, 0, hv, .inl ⟨rfl, rfl, rfl⟩⟩
  · refine ⟨_, cap, hv, .inr ⟨g, 0, cur, (0, 0), rfl, by omega, hg, fun j x hx => ?_⟩⟩
    have hj : j < xs.length := (List.getElem?_eq_some_iff.1 hx).1
    have e : (nc xs)[j]? = some (.int .i64 x) := by rw [nc_at hj, (List.getElem?_eq_some_iff.1 hx).2]
    rw [← ht, List.getElem?_take_of_lt (by omega), Array.getElem?_toList] at e
    rw [Nat.zero_add]
    exact e
/-- lists of numbers outside q lie as they lay -/
def K3 (q : Nat) (w w' : World) : Prop := ∀ (k : Nat) (cur : Array Value) (fz : Nat × Nat), k ≠ q → w.heap[k]? = some (Obj.cells cur 3 fz) → w'.heap[k]? = some (Obj.cells cur 3 fz)
theorem IsNP.kept {q : Nat} {w w' : World} {v : Value} {xs : List Int} (h : IsNP q w v xs) (hk : K3 q w w') : IsNP q w' v xs := by
  obtain ⟨a, cap, hv, h⟩ := h
  refine ⟨a, cap, hv, ?_⟩
  rcases h with h | ⟨b, off, cur, fz, ha, hne, hb, hc⟩
  · exact .inl h
  · exact .inr ⟨b, off, cur, fz, ha, hne, hk b cur fz hne hb, hc⟩
theorem K3.of_below {q : Nat} {w w' : World} (h : Below w.heap.size w w') : K3 q w w' := fun k _ _ _ hk => (h.block k (Array.getElem?_eq_some_iff.1 hk).1).trans hk
/-- a line that is kept, told anew -/
def renum (bs : List Bool) (l : Ln) : Ln := (l.1, l.2.1, if l.1 = 1 then l.2.2 else l.2.2.map fun n => (((bs.take n.toNat).count true : Nat) : Int))
def keptL (bs : List Bool) (L : List Ln) : Nat → List Ln
  | 0 => []
  | k + 1 => keptL bs L k ++ (match bs[k]?, L[k]? with
    | some true, some l => [renum bs l]
    | _, _ => [])
theorem keptL_len (bs : List Bool) (L : List Ln) : ∀ k, k ≤ bs.length → k ≤ L.length → (keptL bs L k).length = (bs.take k).count true
  | 0, _, _ => rfl
  | k + 1, h1, h2 => by
    have ih := keptL_len bs L k (by omega) (by omega)
    have e1 : bs[k]? = some (bs[k]'(by omega)) := List.getElem?_eq_getElem (by omega)
    have e2 : L[k]? = some (L[k]'(by omega)) := List.getElem?_eq_getElem (by omega)
    unfold keptL
    rw [e1, e2, List.take_succ_eq_append_getElem (by omega), List.count_append, List.length_append, ih]
    cases bs[k]'(by omega) <;> simp
theorem keptL_no {bs : List Bool} {L : List Ln} {k : Nat} (h : bs[k]? = some false) : keptL bs L (k + 1) = keptL bs L k := by
  show keptL bs L k ++ _ = _
  rw [h]
  simp
theorem keptL_yes {bs : List Bool} {L : List Ln} {k : Nat} {l : Ln} (h : bs[k]? = some true) (hl : L[k]? = some l) : keptL bs L (k + 1) = keptL bs L k ++ [renum bs l] := by
  show keptL bs L k ++ _ = _
  rw [h, hl]
/-- the numbers that are told are right up to k -/
def NsOk (bs : List Bool) (ns : List Int) (k : Nat) : Prop := ∀ j : Nat, j < k → bs[j]? = some true → ns[j]? = some (((bs.take j).count true : Nat) : Int)
theorem NsOk.no {bs : List Bool} {ns : List Int} {k : Nat} (h : NsOk bs ns k) (hb : bs[k]? = some false) : NsOk bs ns (k + 1) := by
  intro j hj hbj
  by_cases e : j = k
  · subst e; rw [hb] at hbj; cases hbj
  · exact h j (by omega) hbj
theorem NsOk.yes {bs : List Bool} {ns : List Int} {k : Nat} (h : NsOk bs ns k) (hk : k < ns.length) : NsOk bs (ns.set k (((bs.take k).count true : Nat) : Int)) (k + 1) := by
  intro j hj hbj
  rw [List.getElem?_set]
  by_cases e : k = j
  · subst e
    simp [hk]
  · rw [if_neg e]
    exact h j (by omega) hbj
theorem renum_yes {bs : List Bool} {ns : List Int} {k : Nat} {r : Int} {c : C} {fr : List Int} (h : NsOk bs ns k) (hr : r ≠ 1) (hf : ∀ n ∈ fr, 0 ≤ n ∧ n < (k : Int)) (hb : ∀ n ∈ fr, bs[n.toNat]? = some true) : renum bs (r, c, fr) = (r, c, fr.map fun x => ns.getD x.toNat 0) := by
  unfold renum
  rw [if_neg hr]
  congr 2
  apply List.map_congr_left
  intro n hn
  have h1 := h n.toNat (by have := hf n hn; omega) (hb n hn)
  rw [List.getD_eq_getElem?_getD, h1]
  rfl

structure Lp (q : Nat) (A : World) (bs : List Bool) (L : List Ln) (k : Nat) (ns : List Int) (Z : List (Ln × Value)) (v : Value) (wr : World) : Prop where
  fst : Z.map Prod.fst = keptL bs L k
  row : wr.ownsRow (q + 1) 38 5 v Z.length (zcs Z)
  frm : ∀ z ∈ Z, IsNP q wr z.2 z.1.2.2
  num : wr.heap[q]? = some (.cells (nc ns).toArray 3 (0, 0))
  bel : Below q A wr
theorem Lp.lt {q : Nat} {A : World} {bs : List Bool} {L : List Ln} {k : Nat} {ns : List Int} {Z : List (Ln × Value)} {v : Value} {wr : World} (h : Lp q A bs L k ns Z v wr) : q < wr.heap.size := (Array.getElem?_eq_some_iff.1 h.num).1
theorem Lp.below {q : Nat} {A : World} {bs : List Bool} {L : List Ln} {k : Nat} {ns : List Int} {Z : List (Ln × Value)} {v : Value} {wr w' : World} (h : Lp q A bs L k ns Z v wr) (hb : Below wr.heap.size wr w') : Lp q A bs L k ns Z v w' :=
  ⟨h.fst, own_below h.row hb, fun z hz => (h.frm z hz).kept (K3.of_below hb), (hb.block q h.lt).trans h.num, h.bel.trans (hb.mono (Nat.le_of_lt h.lt))⟩
theorem Lp.alloc {q : Nat} {A : World} {bs : List Bool} {L : List Ln} {k : Nat} {ns : List Int} {Z : List (Ln × Value)} {v : Value} {wr : World} (h : Lp q A bs L k ns Z v wr) (o : Obj) : Lp q A bs L k ns Z v (wr.alloc o) := h.below ((Below.refl _ wr).alloc (Nat.le_refl _) o)
theorem Lp.rowNe {q : Nat} {A : World} {bs : List Bool} {L : List Ln} {k : Nat} {ns : List Int} {Z : List (Ln × Value)} {v : Value} {wr : World} (h : Lp q A bs L k ns Z v wr) : v.ownBlock ≠ some q := fun e => by have := (h.row.lt q e).1; omega
theorem own_set {w : World} {base e size n b : Nat} {v : Value} {xs : List Value} (h : w.ownsRow base e size v n xs) (hne : v.ownBlock ≠ some b) (j : Nat) (u : Value) : (w.setCell ⟨b, j, none⟩ u).ownsRow base e size v n xs := by
  refine ⟨h.1, ?_⟩
  rcases h.2 with h' | ⟨g, cap, cur, hv, hbg, hg, rest⟩
  · exact .inl h'
  · refine .inr ⟨g, cap, cur, hv, hbg, ?_, rest⟩
    rw [Below.heap_setCell _ _ _ _ (fun e => hne (by rw [hv]; exact congrArg some e))]
    exact hg
theorem Lp.setNum {q : Nat} {A : World} {bs : List Bool} {L : List Ln} {k : Nat} {ns : List Int} {Z : List (Ln × Value)} {v : Value} {wr : World} (h : Lp q A bs L k ns Z v wr) (j : Nat) (x : Int) : Lp q A bs L k (ns.set j x) Z v (wr.setCell ⟨q, j, none⟩ (.int .i64 x)) := by
  have e : (nc ns).toArray.setIfInBounds j (.int .i64 x) = (nc (ns.set j x)).toArray := by
    apply Array.ext'
    simp [nc, List.map_set]
  refine ⟨h.fst, own_set h.row h.rowNe j _, fun z hz => (h.frm z hz).kept (fun k cur fz hk hb => by rw [Below.heap_setCell _ _ _ _ hk]; exact hb), ?_, h.bel.setCell (Nat.le_refl _) _⟩
  rw [← e]
  exact heap_setCell_same wr q j _ 3 _ h.num
/-- a store into a box of a line -/
theorem Lp.setBox {q : Nat} {A : World} {bs : List Bool} {L : List Ln} {k : Nat} {ns : List Int} {Z : List (Ln × Value)} {v : Value} {wr : World} (h : Lp q A bs L k ns Z v wr) {bx : Nat} {cur : Array Value} {fz : Nat × Nat} (hb : wr.heap[bx]? = some (.cells cur 38 fz)) (hq : q < bx) (hv : v.ownBlock ≠ some bx) (j : Nat) (u : Value) : Lp q A bs L k ns Z v (wr.setCell ⟨bx, j, none⟩ u) := by
  refine ⟨h.fst, own_set h.row hv j _, fun z hz => (h.frm z hz).kept (fun k cur' fz' _ hk => ?_), ?_, h.bel.setCell (Nat.le_of_lt hq) _⟩
  · rw [Below.heap_setCell _ _ _ _ (fun e => by dsimp only at e; rw [e, hb] at hk; cases hk)]
    exact hk
  · rw [Below.heap_setCell _ _ _ _ (fun e => by dsimp only at e; omega)]
    exact h.num
theorem Lp.app {q : Nat} {A : World} {bs : List Bool} {L : List Ln} {k : Nat} {ns : List Int} {Z : List (Ln × Value)} {v v' : Value} {wr w' : World} {l : Ln} {r : Int} {c : C} {fr : List Int} {fv : Value} (h : Lp q A bs L k ns Z v wr) (hb : bs[k]? = some true) (hl : L[k]? = some l) (hr : renum bs l = (r, c, fr)) (hf : IsNP q wr fv fr)
    (ho : w'.ownsRow (q + 1) 38 5 v' (Z.length + 1) (zcs Z ++ zc ((r, c, fr), fv))) (hg : wr.grownBy w' v.ownBlock) : Lp q A bs L (k + 1) ns (Z ++ [((r, c, fr), fv)]) v' w' := by
  have hty : ∀ b, v.ownBlock = some b → ∃ cur, wr.heap[b]? = some (.cells cur 38 (0, 0)) := fun b hb => own_ty h.row hb
  have hk3 : K3 q wr w' := fun b cur fz _ hk => by
    rw [hg.block b (Array.getElem?_eq_some_iff.1 hk).1 (fun e => by obtain ⟨c', hc'⟩ := hty b e.symm; rw [hk] at hc'; cases hc')]
    exact hk
  refine ⟨?_, ?_, fun z hz => ?_, ?_, ?_⟩
  · rw [List.map_append, h.fst, keptL_yes hb hl, hr]; rfl
  · rw [List.length_append, ← zcs_snoc]
    exact ho
  · rcases List.mem_append.1 hz with hz | hz
    · exact (h.frm z hz).kept hk3
    · rw [List.mem_singleton] at hz
      subst hz
      exact hf.kept hk3
  · exact (hg.block q h.lt (fun e => h.rowNe e.symm)).trans h.num
  · exact ⟨hg.os.trans h.bel.os, hg.tape.trans h.bel.tape, hg.output.trans h.bel.output, Nat.le_trans h.bel.size hg.size, fun b hb => (hg.block b (by have := h.lt; omega) (fun e => by have := (h.row.lt b e.symm).1; omega)).trans (h.bel.block b hb)⟩

set_option maxHeartbeats 1000000 in
set_option maxRecDepth 100000 in
theorem renumbered_own (vf vn : Value) (fs ns : List Int) (w : World) (hf : IsN w vf fs) (hn : IsN w vn ns) (hl : fs.length ≤ 100000) (hr : ∀ x ∈ fs, 0 ≤ x ∧ x < (ns.length : Int)) :
    Calls Try.prog 34 #[vf, vn] w fun e w' => ∃ v', e = .returned v' ∧ w'.ownsRow w.heap.size 3 1 v' fs.length (nc (fs.map fun x => ns.getD x.toNat 0)) ∧ Below w.heap.size w w' := by
  obtain ⟨i0, hi, hz0, hz1, hz2⟩ := info_parts info3
  obtain ⟨af, cf, rfl, hcf⟩ := hf.cells
  obtain ⟨an, cn, rfl, hcn⟩ := hn.cells
  have HF : Hid _ := hcf
  have HN : Hid _ := hcn
  have HR : Hid _ := hr
  clear hcf hcn hr hf hn
  go_enter Try.func34, Try.ntmps34
  go_wp2
  go_loopw [5, 10] (fun v iv wr => ∃ k : Nat, iv = .int .i64 (k : Int) ∧ k ≤ fs.length ∧ wr.ownsRow w.heap.size 3 1 v k (nc ((fs.take k).map fun x => ns.getD x.toNat 0)) ∧ Below w.heap.size w wr) (fun _ iv _ => fs.length - (intOf iv).toNat)
  case atStart => exact ⟨0, rfl, Nat.zero_le _, World.ownsRow_nil _ _ _ _, Below.refl _ _⟩
  case round =>
    obtain ⟨k, rfl, hk, hown, hb⟩ := hrel
    by_cases hlt : k < fs.length
    · obtain ⟨bf, of, rfl, hbf, hcf⟩ := HF.out.resolve_left (by omega)
      obtain ⟨x, hx⟩ : ∃ x, fs[k] = x := ⟨_, rfl⟩
      have hxr := HR.out x (hx ▸ List.getElem_mem hlt)
      obtain ⟨m, rfl⟩ : ∃ m : Nat, x = (m : Int) := ⟨x.toNat, by omega⟩
      have hm : m < ns.length := by omega
      obtain ⟨bn, on, rfl, hbn, hcn⟩ := HN.out.resolve_left (by omega)
      have c0 : wr.cell? ⟨bf, of + k, none⟩ = some (.int .i64 (m : Int)) := by rw [hb.cell hbf, hcf k hlt, hx]
      have c1 : wr.cell? ⟨bn, on + m, none⟩ = some (.int .i64 ns[m]) := by rw [hb.cell hbn, hcn m hm]
      obtain ⟨z, hz⟩ : ∃ z, ns[m] = z := ⟨_, rfl⟩
      rw [hz] at c1
      have HX : Hid (fs[k] = (m : Int)) := hx
      have HZ : Hid (ns.getD (m : Int).toNat 0 = z) := by show ns.getD (m : Int).toNat 0 = z; simp [List.getD, hm, hz]
      have HO : Hid (wr.ownsRow w.heap.size 3 1 u5 k (nc ((fs.take k).map fun x => ns.getD x.toNat 0))) := hown
      have HB : Hid (Below w.heap.size w wr) := hb
      have hws : w.heap.size ≤ wr.heap.size := hb.size
      clear hown hb hx hz hxr hcf hcn
      go_wp2_with (refine wpList_append_own_at _ rfl _ _ 29 rfl w.heap.size 3 i0 (.int .i64 0) 1 8 Try.underlying29 hi hz0 hz1 hz2 rfl (by decide) _ _ _ rfl (HO.out.alloc _) ⟨wr.heap.size, 0, none⟩ 1 1 (nc [z]) rfl rfl (one_at _ _ _) (nc_one _) (by unfold maxLen; omega) (by omega) (by simp; omega) ?_; intro v1 w1 ho1 hg1 _ _; have HO1 : Hid (w1.ownsRow w.heap.size 3 1 v1 (k + 1) (nc ((fs.take k).map fun x => ns.getD x.toNat 0) ++ nc [z])) := ho1; have HB1 : Hid (Below w.heap.size w w1) := (HB.out.alloc hws _).trans (below_of_grown hg1 (HO.out.alloc _) (by simp; omega)); clear ho1 hg1)
      go_roundw
      case rel =>
        refine ⟨k + 1, by go_num, hlt, ?_, HB1.out⟩
        have e := HO1.out
        rw [nc_app] at e
        rw [List.take_succ_eq_append_getElem hlt, List.map_append, HX.out, List.map_singleton, HZ.out]
        exact e
      case measure => simp [intOf]; omega
    · have ek : k = fs.length := by omega
      subst ek
      rw [List.take_length] at hown
      have HO : Hid (wr.ownsRow w.heap.size 3 1 u5 fs.length (nc (fs.map fun x => ns.getD x.toNat 0))) := hown
      clear hown
      go_wp2
      go_ret
      exact ⟨_, rfl, HO.out, hb⟩
end Go.Proofs.Ytcnanbimpajonaa.Kp
