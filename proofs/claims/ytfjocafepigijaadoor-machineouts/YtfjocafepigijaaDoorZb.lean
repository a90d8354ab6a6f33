/- slices.Collect of a set's members. Conditions: those of members. -/
import Derived.Test.YtfjocafepigijaaDoorIaM
import Derived.Maps.AppendAt
import Derived.Maps.OwnIn
namespace Go.Proofs.YtfjocafepigijaaDoor.Za
open Go.RowKit Go.Shelf Mv Set Rf Tz Pa
attribute [local go_sem] Oper.semAt_some

theorem own_ge {A : World} {base e s n q : Nat} {u : Value} {xs : List Value} (h : A.ownsRow base e s u n xs) (hq : u.ownBlock = some q) : base ≤ q ∧ q < A.heap.size := h.lt q hq
theorem own_past {l : Nat} {A B : World} (hp : Past l A B) {base e s n : Nat} {u : Value} {xs : List Value} (h : A.ownsRow base e s u n xs) (hl : l < base) : B.ownsRow base e s u n xs := by
  refine ⟨h.1, ?_⟩
  rcases h.2 with h' | ⟨g, cap, cur, hu, hb, hg, hrest⟩
  · exact .inl h'
  · exact .inr ⟨g, cap, cur, hu, hb, (hp.block g (Array.getElem?_eq_some_iff.1 hg).1 (by omega)).trans hg, hrest⟩
theorem below_past {l n : Nat} {w A B : World} (hp : Past l A B) (h : Below n w A) (hn : n ≤ A.heap.size) (hl : n ≤ l) : Below n w B :=
  h.trans ⟨hp.os, hp.tape, hp.output, hp.size, fun k hk => hp.block k (by omega) (by omega)⟩
theorem al (W : World) (o : Obj) : Below W.heap.size W (W.alloc o) := (Below.refl _ _).alloc (Nat.le_refl _) _
/-- what holds between two rounds of Collect -/
def InvC (w : World) (nV : Nat) (pre : List Nat) (O : Nat → Prop) (A : World) : Prop :=
  ∃ u, Boxed A w.heap.size 26 u ∧ A.ownsRow (nV + 2) 3 1 u pre.length (ns pre) ∧ Below w.heap.size w A ∧ O = (fun q => q = w.heap.size ∨ u.ownBlock = some q)
theorem InvC.past {w : World} {nV : Nat} {pre : List Nat} {O : Nat → Prop} {A B : World} (h : InvC w nV pre O A) (hp : Past (nV + 1) A B) (h1 : w.heap.size < nV) : InvC w nV pre O B := by
  obtain ⟨u, hb, hrow, hBA, hO⟩ := h
  exact ⟨u, (hp.block _ hb.lt (by omega)).trans hb, own_past hp hrow (by omega), below_past hp hBA hBA.size (by omega), hO⟩
theorem ns_app (pre : List Nat) (x : Nat) : ns (pre ++ [x]) = ns pre ++ [.int .i64 (x : Int)] := by simp [ns]
theorem endC {w : World} {nV : Nat} (pre : List Nat) (x : Nat) {A w7 : World} {u v' : Value} {tmp : Obj} (hb7 : Boxed A w.heap.size 26 u) (hrow : A.ownsRow (nV + 2) 3 1 u pre.length (ns pre))
    (hown : w7.ownsRow (nV + 2) 3 1 v' (pre.length + 1) (ns pre ++ [.int .i64 (x : Int)])) (hgrow : (A.alloc tmp).grownBy w7 u.ownBlock) (hat : v'.ownBlock = u.ownBlock ∨ v'.ownBlock = some (A.alloc tmp).heap.size) (hBA : Below w.heap.size w A) (hn : w.heap.size < nV) :
    ∃ O', Kept (fun q => q = w.heap.size ∨ u.ownBlock = some q) O' A (w7.setCell ⟨w.heap.size, 0, none⟩ v') ∧ InvC w nV (pre ++ [x]) O' (w7.setCell ⟨w.heap.size, 0, none⟩ v') := by
  have hs := grownBy_setCell' w7 w.heap.size v'
  have g1 := al A tmp
  have hv1 : Boxed w7 w.heap.size 26 u := (hb7.alloc tmp).kept hgrow (hb7.not_row (by decide) hrow)
  have s2 := g1.size
  have s3 := hgrow.size
  have K : Kept (fun q => q = w.heap.size ∨ u.ownBlock = some q) (fun q => q = w.heap.size ∨ v'.ownBlock = some q) A (w7.setCell ⟨w.heap.size, 0, none⟩ v') := by
    refine ⟨hs.os.trans (hgrow.os.trans g1.os), hs.tape.trans (hgrow.tape.trans g1.tape), hs.output.trans (hgrow.output.trans g1.output), Nat.le_trans (by omega) hs.size, fun q hq hno => ?_⟩
    simp only [not_or] at hno ⊢
    refine ⟨⟨hno.1, fun h => ?_⟩, ?_⟩
    · rcases hat with hat | hat
      · exact hno.2 (hat.symm.trans h)
      · rw [hat, Option.some.injEq, World.size_alloc] at h
        omega
    · exact (Below.heap_setCell _ _ _ q hno.1).trans ((hgrow.block q (by omega) (fun h => hno.2 h.symm)).trans (g1.block q (by omega)))
  have hown0 : ∀ q, q < nV + 2 → u.ownBlock ≠ some q := fun q hq h => by have := (own_ge hrow h).1; omega
  refine ⟨_, K, v', hv1.set v', ?_, K.below hBA hBA.size (fun q hq h => ?_), rfl⟩
  · rw [ns_app, List.length_append]
    exact hown.kept hs (.inr (hv1.not_row (by decide) hown).symm)
  · rcases h with h | h
    · omega
    · exact hown0 q (by omega) h
set_option maxHeartbeats 2000000 in
set_option maxRecDepth 100000 in
theorem seq_any (ws : List Nat) (n2 base : Nat) (v : Value) (w0 w : World) (B : Nat) (hset : IsSet w0 base v n2 ws) (hT : TabAt 0 Lib.deBruijn64tab w0) (h00 : 0 < w0.heap.size) (hw : Below w0.heap.size w0 w) (hB : w.heap[B]? = some (.cells #[v] 77 (0, 0))) (hlen : ws.length ≤ 281474976710656) (hml : (ms ws).length ≤ 100000) :
    Calls Tryd.prog 69 #[.slice none 0 0, .func (.func 70) #[] #[.pointer (some ⟨B, 0, none⟩)]] w fun e w' => ∃ u, e = .returned u ∧ w'.ownsRow w.heap.size 3 1 u (ms ws).length (ns (ms ws)) ∧ Below w.heap.size w w' := by
  obtain ⟨i0, hi, hz0, hz1, hz2⟩ := info_parts inf3
  refine (callsIn_wide (n := 5)).1 ?_
  refine callsIn_of_wp_marks Tryd.func69 rfl trivial (wpIn_wide.2 ?_) rfl
  simp only [Tryd.ntmps69, List.size_toArray, List.length_cons, List.length_nil, Nat.reduceAdd, Nat.reduceSub, Array.replicate_succ, Array.replicate_zero, List.push_toArray, List.append_toArray, List.nil_append, List.cons_append]
  go_wp2
  have b7V : Boxed (w.alloc (.cells #[.slice none 0 0] 26)) w.heap.size 26 (.slice none 0 0) := Boxed.new _ _ _
  have BV : Below w.heap.size w (w.alloc (.cells #[.slice none 0 0] 26)) := al _ _
  have sV : (w.alloc (.cells #[.slice none 0 0] 26)).heap.size = w.heap.size + 1 := by simp
  have hBV := (heap_alloc_old w (.cells #[.slice none 0 0] 26) (Am.lt_at hB)).trans hB
  have hBl := Am.lt_at hB
  generalize hV : w.alloc (.cells #[.slice none 0 0] 26) = V at *
  clear hV
  refine wpIn_wide.1 (range_tells (n := 5) rfl (by omega) (gf := 70) (lb := #[.pointer (some ⟨B, 0, none⟩)]) rfl trivial (enters_of Tryd.func70 (by kernel_rfl) rfl)
    (members_tells ws n2 base v w0 V B (5 - 1) (by omega) hset hT h00 (hw.trans (BV.mono hw.size)) hBV hlen) (Below.refl _ _) ?hX (fun _ => rfl) (InvC w V.heap.size) ?hI ?hO (fun q => q = w.heap.size) ?h0 ?hround ?hdone)
  case hX =>
    rintro q (hq | rfl)
    · have := hw.size
      omega
    · omega
  case hI =>
    intro pre O A B hi hr hp
    exact hi.past hp (by omega)
  case hO =>
    rintro pre O A q ⟨u, hb7, hrow, hBA, rfl⟩ (rfl | hq)
    · exact ⟨by have := hw.size; omega, hb7.lt, by omega, by omega⟩
    · obtain ⟨h1, h2⟩ := own_ge hrow hq
      exact ⟨by have := hw.size; omega, h2, by omega, by omega⟩
  case h0 =>
    intro A hA
    refine ⟨.slice none 0 0, (hA.block _ (by omega)).trans b7V, World.ownsRow_nil _ _ _ _, BV.trans (hA.mono BV.size), ?_⟩
    funext q
    simp [Value.ownBlock]
  case hround =>
    rintro pre O x A hA hrec hinv hpre
    have hl : pre.length < 100000 := by
      have h2 := hpre.length_le
      rw [List.length_append, List.length_singleton] at h2
      omega
    refine ⟨{ tmps := #[.slice none 0 0, .func (.func 70) #[] #[.pointer (some ⟨B, 0, none⟩)], .pointer (some ⟨w.heap.size, 0, none⟩), undef, .slice none 0 0, .int .i64 (x : Int), .func (.func 70) #[] #[.pointer (some ⟨B, 0, none⟩)], .int .i64 (x : Int), undef, undef, undef, undef, undef], defers := [] }, A, ?_, Below.refl _ _, ?_⟩
    · intro K hK
      gi_wp2
      exact hK
    · intro r
      obtain ⟨A', hA'⟩ : ∃ A', A.putObj (V.heap.size + 1) (.loop r) = A' := ⟨_, rfl⟩
      have hP : Past (V.heap.size + 1) A A' := by rw [← hA']; exact Past.put _ _ _
      have hinv' := hinv.past hP (by omega)
      have hszA : V.heap.size + 2 ≤ A'.heap.size := Nat.le_trans hA hP.size
      rw [hA']
      clear hA' hP hinv hrec
      obtain ⟨u, hb7, hrow, hBA, rfl⟩ := hinv'
      have hc := hb7.cell
      have hnV : w.heap.size < V.heap.size := by omega
      obtain ⟨au, cu, rfl⟩ := Am.own_slice hrow
      clear sV
      gi_wp2_with (gi_at_builtin; refine wpListIn_append_own_at _ rfl _ _ 26 rfl (V.heap.size + 2) 3 i0 (.int .i64 0) 1 8 Tryd.underlying26 hi hz0 hz1 hz2 rfl (by decide) _ _ _ rfl (hrow.alloc _) ⟨A'.heap.size, 0, none⟩ 1 1 [.int .i64 (x : Int)] rfl rfl (cell_one_at _ _ _ rfl) (ns_one x) (by simp only [maxLen]; omega) (by omega) (by simp; omega) ?_; intro v' w7 hown' hgrow _ hat; obtain ⟨g', cap', rfl⟩ := ownsRow_succ hown'; have hv1 : Boxed w7 w.heap.size 26 (.slice au pre.length cu) := (hb7.alloc _).kept hgrow (hb7.not_row (by decide) hrow); have hc1 := hv1.cell; have hf1 := hv1.frozen)
      exact endC pre x hb7 hrow hown' hgrow hat hBA hnV
  case hdone =>
    rintro ys O A hA hS ⟨u, hb7, hrow, hBA, rfl⟩ hdf
    have hc := hb7.cell
    subst hS
    have hP := Past.put V.heap.size A (.deferred none)
    have hr2 := Cu.own_base (own_past hP hrow (by omega)) (show w.heap.size ≤ V.heap.size + 2 by omega)
    have hB2 := below_past hP hBA hBA.size (by omega)
    obtain ⟨au, cu, rfl⟩ := Am.own_slice hrow
    go_wp2
    refine ⟨by simp, .inl ⟨_, _, rfl, run_takeDeferred hdf, ?_⟩⟩
    exact ⟨_, results_tmp rfl _ _ _, .slice au (ms ws).length cu, rfl, hr2, hB2⟩
set_option maxHeartbeats 1000000 in
theorem collect_any (ws : List Nat) (n2 base : Nat) (v : Value) (w0 w : World) (B : Nat) (hset : IsSet w0 base v n2 ws) (hT : TabAt 0 Lib.deBruijn64tab w0) (h00 : 0 < w0.heap.size) (hw : Below w0.heap.size w0 w) (hB : w.heap[B]? = some (.cells #[v] 77 (0, 0))) (hlen : ws.length ≤ 281474976710656) (hml : (ms ws).length ≤ 100000) :
    Calls Tryd.prog 42 #[.func (.func 70) #[] #[.pointer (some ⟨B, 0, none⟩)]] w fun e w' => ∃ u, e = .returned u ∧ w'.ownsRow w.heap.size 3 1 u (ms ws).length (ns (ms ws)) ∧ Below w.heap.size w w' := by
  have K := seq_any ws n2 base v w0 w B hset hT h00 hw hB hlen hml
  clear hset hT hw hB hml hlen
  go_enter Tryd.func42, Tryd.ntmps42
  go_wp2_with (go_at_call 69; (with_reducible refine K.mono ?_); clear K; rintro e w1 ⟨u, rfl, h1, h2⟩; have H1 : Hid _ := h1; have H2 : Hid _ := h2; clear h1 h2)
  go_ret
  exact ⟨_, rfl, H1.out, H2.out⟩
set_option maxHeartbeats 1000000 in
theorem members_any (a : Option Addr) (n c : Nat) (w : World) : Calls Tryd.prog 43 #[.slice a n c] w fun e w' => e = .returned (.func (.func 70) #[] #[.pointer (some ⟨w.heap.size, 0, none⟩)]) ∧ w' = w.alloc (.cells #[.slice a n c] 77) := by
  go_enter Tryd.func43, Tryd.ntmps43
  go_wp2
  go_ret
  exact ⟨rfl, rfl⟩
end Go.Proofs.YtfjocafepigijaaDoor.Za
