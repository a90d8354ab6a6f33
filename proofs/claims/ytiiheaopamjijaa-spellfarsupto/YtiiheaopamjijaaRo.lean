/- The program's rows. Condition: both lists have at most 200 units. -/
import Derived.Test.YtiiheaopamjijaaAp
import Derived.Test.YtiiheaopamjijaaBs
namespace Go.Proofs.Ytiiheaopamjijaa.Ro
open Go.RowKit Rw Ay Fi Nx Ap Bs

theorem info52 : (Try.prog.info? 52).map (fun i => (i.zero, i.size, i.bytes)) = some (some (.agg (cs fun _ => 0)), 201, 1608) := by kernel_rfl

/-- the cells of a list of rows -/
def tcs (T : List (Nat → Int)) : List Value := T.flatMap fun f => (cs f).toList
theorem tcs_snoc (T : List (Nat → Int)) (f : Nat → Int) : tcs (T ++ [f]) = tcs T ++ (cs f).toList := by simp [tcs]
/-- the rows behind so many units -/
def upTo (l us : List ByteArray) (k : Nat) : List (Nat → Int) := (List.range (k + 1)).map fun i => rowOf l (us.take i)
theorem upTo_len (l us : List ByteArray) (k : Nat) : (upTo l us k).length = k + 1 := by simp [upTo]
theorem upTo_succ (l us : List ByteArray) (k : Nat) : upTo l us (k + 1) = upTo l us k ++ [rowOf l (us.take (k + 1))] := by
  unfold upTo
  rw [List.range_succ, List.map_append]
  rfl

theorem own_block {A B : World} {base e s g n c : Nat} {xs : List Value} (h : A.ownsRow base e s (.slice (some ⟨g, 0, none⟩) n c) n xs) (hb : B.heap[g]? = A.heap[g]?) : B.ownsRow base e s (.slice (some ⟨g, 0, none⟩) n c) n xs := by
  refine ⟨h.1, ?_⟩
  rcases h.2 with ⟨h', _⟩ | ⟨g', cap', cur, h', hbb, hg, hr⟩
  · simp at h'
  · have e' : g' = g := by
      simp only [Value.slice.injEq, Option.some.injEq, Addr.mk.injEq] at h'
      exact h'.1.1.symm
    subst e'
    exact .inr ⟨_, cap', cur, h', hbb, hb.trans hg, hr⟩
theorem own_lt {A : World} {base e s g n c : Nat} {xs : List Value} (h : A.ownsRow base e s (.slice (some ⟨g, 0, none⟩) n c) n xs) : g < A.heap.size := by
  rcases h.2 with ⟨h', _⟩ | ⟨g', cap', cur, h', hbb, hg, hr⟩
  · simp at h'
  · have e' : g' = g := by
      simp only [Value.slice.injEq, Option.some.injEq, Addr.mk.injEq] at h'
      exact h'.1.1.symm
    subst e'
    exact (Array.getElem?_eq_some_iff.1 hg).1
theorem keep4 {A B : World} {g b : Nat} (hb : Below A.heap.size A B) (hg : g < A.heap.size) (hn : g ≠ b) (f : Nat → Int) (o : Obj) : ((B.setRow b (cs f)).alloc o).heap[g]? = A.heap[g]? := by
  have h2 := hb.size
  rw [Below.heap_alloc _ _ _ (by simp; omega), setRow_other _ _ _ _ hn]
  exact hb.block g hg
theorem keep0 {A B : World} {g : Nat} (hb : Below A.heap.size A B) (hg : g < A.heap.size) (f : Nat → Int) (o : Obj) : (((B.alloc (.cells (cs fun _ => 0) 52)).setRow B.heap.size (cs f)).alloc o).heap[g]? = A.heap[g]? := by
  have h2 := hb.size
  rw [Below.heap_alloc _ _ _ (by simp; omega), setRow_other _ _ _ _ (by omega), Below.heap_alloc _ _ _ (by omega)]
  exact hb.block g hg
theorem Arr_grown {A B : World} {b g : Nat} {f : Nat → Int} (h : Arr A b f) (hg : A.grownBy B (some g)) (hn : b ≠ g) : Arr B b f := (hg.block b h.lt (fun e => hn (by simpa using e))).trans h

set_option maxHeartbeats 1000000 in
set_option maxRecDepth 100000 in
theorem rows_any (v v' : Value) (us l : List ByteArray) (w : World) (h : IsZ w v us) (h' : IsZ w v' l) (hn : us.length ≤ 200) (hn' : l.length ≤ 200) :
    Calls Try.prog 14 #[v, v'] w fun e w' => ∃ r, e = .returned r ∧ Row w' r 201 (us.length + 1) (tcs (upTo l us us.length)) ∧ Below w.heap.size w w' := by
  obtain ⟨a, cap, rfl, hc⟩ := h.len
  obtain ⟨a', cap', rfl, hc'⟩ := h'.len
  obtain ⟨i52, hi, hz0, hz1, hz2⟩ := info_parts info52
  have hz := z52
  have c1 := first_any (.slice a' l.length cap') l
  have hbd := fun k => rowOf_bd l (us.take k) hn'
  go_enter Try.func14, Try.ntmps14
  go_wp2_with (first
   | (at_make; refine wpList_make_own _ rfl _ _ 40 rfl w.heap.size 52 i52 (.agg (cs fun _ => 0)) 201 Try.underlying40 hi hz0 hz1 .i64 .i64 _ (us.length + 1) rfl rfl (by simp) (by rw [hz2]; omega) (by unfold maxLen; omega) (Nat.le_refl _) ?_; intro w1 hown1 hgrow1; have B1 : Below w.heap.size w w1 := (Below.refl _ w).grown hgrow1 (Nat.le_refl _) (by simp); have h1 := h'.below B1)
   | (go_at_call 21; refine (c1 w1 h1 hn').mono ?_; rintro e w2 ⟨rfl, hb2⟩)
   | (with_reducible show wpList _ _ _ ({ dst := _, op := Op.store 52 _ _, type := _, pos := _, after := _, guard := _ } :: _) _ _; refine wpList_st rfl (.tmp 6) (.tmp 14) rfl _ _ _ rfl rfl (Arr.new _ _) ?_; have R0 := (Arr.new w2 (fun _ => 0)).row (f0 l.length); have hk0 := fun o => keep0 hb2 (own_lt hown1) (f0 l.length) o)
   | (with_reducible show wpList _ _ _ ({ dst := _, op := Op.load 52 _, type := _, pos := _, after := _, guard := _ } :: _) _ _; refine wpList_ld rfl (.tmp 6) rfl _ _ rfl R0 ?_)
   | (with_reducible show wpList _ _ _ ({ dst := _, op := Op.buildSlice 40 _ _, type := _, pos := _, after := _, guard := _ } :: _) _ _; refine wpList_bs rfl (.tmp 16) rfl _ rfl ?_)
   | (at_builtin; refine wpList_append_fits _ rfl (.tmp 15) (.tmp 17) 40 rfl w.heap.size 52 i52 201 Try.underlying40 hi hz1 w.heap.size 0 (us.length + 1) [] rfl (own_block hown1 (hk0 _)) ⟨_, 0, none⟩ 1 1 (cs (f0 l.length)).toList rfl (by simp [cs_size]) (new_cells _ _) (cs_ones _) (by omega) ?_; intro w3 hown3 hgrow3))
  have hlt1 := own_lt hown1
  have hlt2 := hb2.size
  have R3 : Arr w3 w2.heap.size (rowOf l (us.take 0)) := Arr_grown (R0.alloc _) hgrow3 (by omega)
  have B2 := B1.trans (hb2.mono B1.size)
  have B3 : Below w.heap.size w w3 := ((below_setRow (B2.alloc B2.size _) (by omega) _).alloc (by simp; omega) _).grown hgrow3 (by simp; omega) (fun k hk => by simp at hk; omega)
  have hown3' : w3.ownsRow w.heap.size 52 201 (.slice (some ⟨w.heap.size, 0, none⟩) (0 + 1) (us.length + 1)) (0 + 1) (tcs (upTo l us 0)) := by
    have e : tcs (upTo l us 0) = (cs (f0 l.length)).toList := by simp [tcs, upTo, rowOf]
    rw [e]
    exact hown3
  clear hgrow3 hown3 R0 hown1 hgrow1 h1 hk0 hz hz0 c1
  go_loopw [5, 21] (fun x i wr => ∃ k : Nat, x = .slice (some ⟨w.heap.size, 0, none⟩) (k + 1) (us.length + 1) ∧ i = .int .i64 k ∧ k ≤ us.length ∧ Arr wr w2.heap.size (rowOf l (us.take k)) ∧ wr.ownsRow w.heap.size 52 201 (.slice (some ⟨w.heap.size, 0, none⟩) (k + 1) (us.length + 1)) (k + 1) (tcs (upTo l us k)) ∧ Below w.heap.size w wr) (fun _ i _ => us.length - (intOf i).toNat)
  case atStart => exact ⟨0, rfl, rfl, by omega, R3, hown3', B3⟩
  case round =>
    obtain ⟨k, rfl, rfl, hk, R0, hown, RB⟩ := hrel
    by_cases hlt : k < us.length
    · obtain ⟨bl, ol, rfl⟩ := h.addr (by omega)
      have hat := h.at k hlt
      have p := (RB.cell (p := ⟨bl, ol + k, none⟩) hat.1).trans hat.2
      have c2 := next_any (rowOf l (us.take k)) us[k] (.slice a' l.length cap') l wr (h'.below RB) hn' (fun j => by have := hbd k j; rw [List.length_take] at this; omega)
      have eS := rowOf_take l us k hlt
      clear hat
      have hgl := own_lt hown
      go_wp2_with (first
        | (go_at_call 22; refine c2.mono ?_; rintro e w4 ⟨rfl, hb4⟩; have R2 := R0.below hb4 R0.lt; have R5 := R2.row (nx us[k] l (rowOf l (us.take k))); have hk4 := fun o => keep4 hb4 hgl (b := w2.heap.size) (by omega) (nx us[k] l (rowOf l (us.take k))) o)
        | (with_reducible show wpList _ _ _ ({ dst := _, op := Op.load 52 _, type := _, pos := _, after := _, guard := _ } :: _) _ _; refine wpList_ld rfl (.tmp 6) rfl _ _ rfl R0 ?_)
        | (with_reducible show wpList _ _ _ ({ dst := _, op := Op.load 52 _, type := _, pos := _, after := _, guard := _ } :: _) _ _; refine wpList_ld rfl (.tmp 6) rfl _ _ rfl R5 ?_)
        | (with_reducible show wpList _ _ _ ({ dst := _, op := Op.store 52 _ _, type := _, pos := _, after := _, guard := _ } :: _) _ _; refine wpList_st rfl (.tmp 6) (.tmp 28) rfl _ _ _ rfl rfl R2 ?_)
        | (with_reducible show wpList _ _ _ ({ dst := _, op := Op.buildSlice 40 _ _, type := _, pos := _, after := _, guard := _ } :: _) _ _; refine wpList_bs rfl (.tmp 30) rfl _ rfl ?_)
        | (at_builtin; refine wpList_append_fits _ rfl (.tmp 29) (.tmp 31) 40 rfl w.heap.size 52 i52 201 Try.underlying40 hi hz1 w.heap.size (k + 1) (us.length + 1) _ rfl (own_block hown (hk4 _)) ⟨_, 0, none⟩ 1 1 (cs (nx us[k] l (rowOf l (us.take k)))).toList rfl (by simp [cs_size]) (new_cells _ _) (cs_ones _) (by omega) ?_; intro w5 hown5 hgrow5))
      have hs4 := hb4.size
      have R6 := (Arr_grown (R5.alloc _) hgrow5 (by omega)).congr (g := rowOf l (us.take (k + 1))) (fun j _ => by rw [eS])
      rw [← eS, ← tcs_snoc, ← upTo_succ] at hown5
      have R4 := RB.trans (hb4.mono RB.size)
      refine ⟨⟨k + 1, rfl, by simp, by omega, R6, hown5, ?_⟩, by simp [intOf]; omega⟩
      exact ((below_setRow R4 (by omega) _).alloc (by simp; omega) _).grown hgrow5 (by simp; omega) (fun k hk => by simp at hk; omega)
    · have : k = us.length := by omega
      subst this
      go_wp2
      go_ret
      exact ⟨_, rfl, row_of_own hown (by omega), RB⟩
end Go.Proofs.Ytiiheaopamjijaa.Ro
