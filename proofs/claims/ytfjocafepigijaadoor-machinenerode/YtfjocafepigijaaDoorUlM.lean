/- closeSet (74): a set, with those to which arcs that read nothing lead. Conditions: the arcs lie by states; their states are states. -/
import Derived.Test.YtfjocafepigijaaDoorFf
import Derived.Test.YtfjocafepigijaaDoorZb
import Derived.Test.YtfjocafepigijaaDoorOhM
import Derived.Test.YtfjocafepigijaaDoorFaM
import Derived.Deep.LoopGhost
import Derived.Test.YtfjocafepigijaaDoorUgM
namespace Go.Proofs.YtfjocafepigijaaDoor.Su
open Go.RowKit Go.Shelf Mv Po Ps Cm Ra Set Rf Tz Za Pa Ot
attribute [local go_sem] Oper.semAt_some

/-- the arcs' rows lie, to be read -/
structure Rr (w : World) (base sb S : Nat) (A : AL) (V : Nat → Value) (vs : List Value) : Prop where
  heads : w.ownsRow base 22 1 (.slice (some ⟨sb, 0, none⟩) S S) S vs
  head : ∀ f, f < S → vs[f]? = some (V f)
  rows : ∀ k, w.ownsRow base 64 5 (V k) (rws (fun a => a) A k).length (acs (rws (fun a => a) A k))
theorem Rr.kept {w w' : World} {base sb S : Nat} {A : AL} {V : Nat → Value} {vs : List Value} {X : Nat → Prop} (h : Rr w base sb S A V vs) (hk : Kp X w w') (hX : ∀ b c ty, w.heap[b]? = some (.cells c ty (0, 0)) → ty = 22 ∨ ty = 64 → ¬ X b) : Rr w' base sb S A V vs :=
  ⟨own_kp2 h.heads hk (fun b hb => by obtain ⟨d, hd⟩ := own_ty h.heads hb; exact hX b d 22 hd (.inl rfl)), h.head, fun k => own_kp2 (h.rows k) hk (fun b hb => by obtain ⟨d, hd⟩ := own_ty (h.rows k) hb; exact hX b d 64 hd (.inr rfl))⟩
theorem Rr.cell {w : World} {base sb S : Nat} {A : AL} {V : Nat → Value} {vs : List Value} (h : Rr w base sb S A V vs) {f : Nat} (hf : f < S) : w.cell? ⟨sb, f, none⟩ = some (V f) := (h.heads.cellAt f (by omega)).trans (h.head f hf)
/-- what holds between two states -/
structure Cw (w wr : World) (base nV S : Nat) (u v : Value) (ws st : List Nat) : Prop where
  box : Boxed wr w.heap.size 26 u
  row : wr.ownsRow w.heap.size 3 1 u st.length (ns st)
  set : IsSet wr base v S ws
  dfr : wr.heap[nV]? = some (.deferred (some []))
  kp : Kp (fun b => v.ownBlock = some b) w wr
theorem Cw.below {w wr w1 : World} {base nV S : Nat} {u v : Value} {ws st : List Nat} (h : Cw w wr base nV S u v ws st) (hb : Below wr.heap.size wr w1) : Cw w w1 base nV S u v ws st :=
  ⟨(hb.block _ h.box.lt).trans h.box, own_kp2 h.row (kp_below hb (fun _ => False)) (fun _ _ => id), ⟨own_kp2 h.set.1 (kp_below hb (fun _ => False)) (fun _ _ => id), h.set.2⟩, (hb.block _ (lt_at h.dfr)).trans h.dfr, h.kp.trans (kp_below hb _)⟩
/-- the states that wait are cut by one -/
theorem own_cut {w : World} {base e g n cap : Nat} {l : List Nat} {x : Nat} (h : w.ownsRow base e 1 (.slice (some ⟨g, 0, none⟩) (n + 1) cap) (n + 1) (ns (l ++ [x]))) (hl : l.length = n) : w.ownsRow base e 1 (.slice (some ⟨g, 0, none⟩) n cap) n (ns l) := by
  refine ⟨by simp [ns, hl], ?_⟩
  rcases h.2 with ⟨h1, h2⟩ | ⟨g', cap', cur, h1, h2, h3, h4, h5, h6, h7⟩
  · omega
  · rw [Value.slice.injEq] at h1
    obtain ⟨e1, _, e3⟩ := h1
    refine .inr ⟨g', cap', cur, by rw [e1, e3], h2, h3, by omega, h5, h6, ?_⟩
    rw [ns_app] at h7
    have h8 := congrArg (List.take n) h7
    rw [List.take_take, List.take_append_of_le_length (by simp [ns, hl])] at h8
    rw [show min n ((n + 1) * 1) = n * 1 by omega] at h8
    rw [h8, List.take_of_length_le (by simp [ns, hl])]
theorem Cw.pop {w wr : World} {base nV S g n cap x : Nat} {v : Value} {ws st : List Nat} (h : Cw w wr base nV S (.slice (some ⟨g, 0, none⟩) (n + 1) cap) v ws (st ++ [x])) (hl : st.length = n) : Cw w (wr.setCell ⟨w.heap.size, 0, none⟩ (.slice (some ⟨g, 0, none⟩) n cap)) base nV S (.slice (some ⟨g, 0, none⟩) n cap) v ws st := by
  have hk : Kp (fun b => b = w.heap.size) wr (wr.setCell ⟨w.heap.size, 0, none⟩ (.slice (some ⟨g, 0, none⟩) n cap)) := (Kp.refl _ wr).setCell _ _ _ (fun _ => rfl)
  have h2 := h.row
  rw [List.length_append, List.length_singleton, hl] at h2
  obtain ⟨d, hd⟩ := own_ty h2 (k := g) rfl
  refine ⟨h.box.set _, ?_, ⟨own_kp2 h.set.1 hk (fun b hb e => by subst e; obtain ⟨c, hc⟩ := own_ty h.set.1 hb; exact ty_ne hc h.box (by decide)), h.set.2⟩, (hk.block _ (lt_at h.dfr) (fun e => by have := h.dfr; rw [e, h.box] at this; cases this)).trans h.dfr, kp_then h.kp hk (fun i hi e => by omega)⟩
  rw [hl]
  exact own_kp2 (own_cut h2 hl) hk (fun b hb e => by subst e; have hb2 : some g = some w.heap.size := hb; cases hb2; exact ty_ne hd h.box (by decide))
/-- a number is put into the set -/
theorem Cw.add {w wr w1 : World} {base nV S t : Nat} {u v : Value} {ws st : List Nat} (h : Cw w wr base nV S u v ws st) (hs : IsSet w1 base v S (Set.put ws t)) (hg : wr.grownBy w1 v.ownBlock) : Cw w w1 base nV S u v (Set.put ws t) st := by
  have hk : Kp (fun b => v.ownBlock = some b) wr w1 := (Kp.refl _ wr).grown hg (fun b hb _ => hb)
  have nt : ∀ {b : Nat} {d : Array Value} {ty : TypeId}, wr.heap[b]? = some (.cells d ty (0, 0)) → ty ≠ 136 → ¬ v.ownBlock = some b := fun {b d ty} hb hne e => by
    obtain ⟨d', hd⟩ := own_ty h.set.1 e; exact ty_ne hb hd hne
  exact ⟨(hk.block _ h.box.lt (nt h.box (by decide))).trans h.box, own_kp2 h.row hk (fun b hb => by obtain ⟨d, hd⟩ := own_ty h.row hb; exact nt hd (by decide)), hs, (hk.block _ (lt_at h.dfr) (fun e => by obtain ⟨d', hd⟩ := own_ty h.set.1 e; rw [h.dfr] at hd; cases hd)).trans h.dfr, h.kp.trans hk⟩
/-- a state more waits -/
theorem Cw.push {w wr w1 : World} {base nV S t : Nat} {u u' v : Value} {ws st : List Nat} (h : Cw w wr base nV S u v ws st) (ho : w1.ownsRow w.heap.size 3 1 u' (st.length + 1) (ns st ++ [.int .i64 (t : Int)])) (hg : wr.grownBy w1 u.ownBlock) : Boxed w1 w.heap.size 26 u ∧ Cw w (w1.setCell ⟨w.heap.size, 0, none⟩ u') base nV S u' v ws (st ++ [t]) := by
  have hk : Kp (fun b => u.ownBlock = some b) wr w1 := (Kp.refl _ wr).grown hg (fun b hb _ => hb)
  have nt : ∀ {b : Nat} {d : Array Value} {ty : TypeId}, wr.heap[b]? = some (.cells d ty (0, 0)) → ty ≠ 3 → ¬ u.ownBlock = some b := fun {b d ty} hb hne e => by
    obtain ⟨d', hd⟩ := own_ty h.row e; exact ty_ne hb hd hne
  have hb1 : Boxed w1 w.heap.size 26 u := (hk.block _ h.box.lt (nt h.box (by decide))).trans h.box
  have hk2 : Kp (fun b => b = w.heap.size) w1 (w1.setCell ⟨w.heap.size, 0, none⟩ u') := (Kp.refl _ w1).setCell _ _ _ (fun _ => rfl)
  have hs1 := own_kp2 h.set.1 hk (fun b hb => by obtain ⟨d, hd⟩ := own_ty h.set.1 hb; exact nt hd (by decide))
  have hd1 := (hk.block _ (lt_at h.dfr) (fun e => by obtain ⟨d', hd⟩ := own_ty h.row e; rw [h.dfr] at hd; cases hd)).trans h.dfr
  refine ⟨hb1, hb1.set _, ?_, ⟨own_kp2 hs1 hk2 (fun b hb e => by subst e; obtain ⟨c, hc⟩ := own_ty hs1 hb; exact ty_ne hc hb1 (by decide)), h.set.2⟩, (hk2.block _ (lt_at hd1) (fun e => by rw [e, hb1] at hd1; cases hd1)).trans hd1, kp_then (kp_then h.kp hk (fun i hi e => ?_)) hk2 (fun i hi e => by omega)⟩
  · rw [List.length_append, ns_app]
    exact own_kp2 ho hk2 (fun b hb e => by subst e; obtain ⟨c, hc⟩ := own_ty ho hb; exact ty_ne hc hb1 (by decide))
  · have := (h.row.lt i e).1; omega
theorem own_cap2 {w : World} {b e size n n' cap : Nat} {a : Option Addr} {xs : List Value} (h : w.ownsRow b e size (.slice a n' cap) n xs) (hn : 0 < n) : n ≤ cap ∧ cap ≤ maxLen := by
  rcases h.2 with ⟨_, h0⟩ | ⟨g, cap', cur, hv, _, _, hnc, hcm, _⟩
  · omega
  · simp only [Value.slice.injEq] at hv
    obtain ⟨_, _, rfl⟩ := hv
    exact ⟨hnc, hcm⟩
/-- a row that a call owns lies to be read -/
theorem own_rd {w : World} {base e s n : Nat} {v : Value} {xs : List Value} (h : w.ownsRow base e s v n xs) (hn : n ≤ 140737488355328) : Mv.Row w v s n xs := by
  obtain ⟨a, c, hv⟩ := oslice h
  refine ⟨h.1, a, c, hv, hn, ?_⟩
  rcases Nat.eq_zero_or_pos n with h0 | h0
  · exact .inl h0
  · obtain ⟨g, cap, hv2, _, hg⟩ := own_some h h0
    rw [hv] at hv2
    rw [Value.slice.injEq] at hv2
    refine .inr ⟨g, 0, hv2.1, hg, fun j u hu => ?_⟩
    have hj : j < n * s := by have := (List.getElem?_eq_some_iff.1 hu).1; have := h.1; omega
    have hcap := h
    rw [hv, hv2.1] at hcap
    rw [Nat.zero_add]
    exact (hcap.cellAt j hj).trans hu
theorem ms_mem {ws : List Nat} {S : Nat} (hl : ws.length = (S + 63) / 64) (h : ∀ v, Set.mem ws v = true → v < S) (v : Nat) : v ∈ ms ws ↔ Set.mem ws v = true := by
  rw [ms_all ws S (by omega) h, List.mem_filter, List.mem_range]
  exact ⟨fun k => k.2, fun k => ⟨h v k, k⟩⟩
theorem ms_len {ws : List Nat} {S : Nat} (hl : ws.length = (S + 63) / 64) (h : ∀ v, Set.mem ws v = true → v < S) : (ms ws).length ≤ S := by
  rw [ms_all ws S (by omega) h]
  exact Nat.le_trans (List.length_filter_le _ _) (by simp)
set_option maxHeartbeats 8000000 in
set_option maxRecDepth 100000 in
theorem closeSet_any (S base sb rb : Nat) (A : AL) (V : Nat → Value) (vs : List Value) (v : Value) (ws0 : List Nat) (bs : List Bool) (w : World)
    (hR : Rr w rb sb S A V vs) (hset : IsSet w base v S ws0) (hA : Ag S ws0 bs) (hG : Gd S A) (hTab : TabAt 0 Lib.deBruijn64tab w) (h00 : 0 < w.heap.size) :
    Calls Tryd.prog 74 #[.slice (some ⟨sb, 0, none⟩) S S, v] w fun e w' => e = .returned (.tuple #[]) ∧ ∃ ws', IsSet w' base v S ws' ∧ Ag S ws' (clo S A bs) ∧ Kp (fun b => v.ownBlock = some b) w w' := by
  obtain ⟨i0, hi, hz0, hz1, hz2⟩ := info_parts inf3'
  have hS0 := hG.pos
  have hS3 := hG.few
  obtain ⟨vg, vc, rfl, _, _⟩ := own_some hset.1 (by rw [hA.wl]; omega)
  have hml := ms_len hA.wl (fun x hx => hA.lt hx)
  obtain ⟨ln, hln⟩ : ∃ ln, ws0.length = ln := ⟨_, rfl⟩
  have HLS : Hid (ln = (S + 63) / 64) := by show _ = _; rw [← hln]; exact hA.wl
  rw [hln]
  refine (callsIn_wide (n := 5)).1 ?_
  refine callsIn_of_wp_marks Tryd.func74 rfl trivial (wpIn_wide.2 ?_) rfl
  simp only [Tryd.ntmps74, List.size_toArray, List.length_cons, List.length_nil, Nat.reduceAdd, Nat.reduceSub, Array.replicate_succ, Array.replicate_zero, List.push_toArray, List.append_toArray, List.nil_append, List.cons_append]
  have b1 := below_al w (.cells #[.slice none 0 0] 26)
  have b2 := b1.alloc b1.size (.cells #[.slice (some ⟨vg, 0, none⟩) ln vc] 77)
  have s1 : (w.alloc (.cells #[.slice none 0 0] 26)).heap.size = w.heap.size + 1 := by simp
  have x4 : Boxed ((w.alloc (.cells #[.slice none 0 0] 26)).alloc (.cells #[.slice (some ⟨vg, 0, none⟩) ln vc] 77)) w.heap.size 26 (.slice none 0 0) := (Boxed.new w 26 _).alloc _
  have xB : ((w.alloc (.cells #[.slice none 0 0] 26)).alloc (.cells #[.slice (some ⟨vg, 0, none⟩) ln vc] 77)).heap[w.heap.size + 1]? = some (.cells #[.slice (some ⟨vg, 0, none⟩) ln vc] 77 (0, 0)) := by
    rw [← s1]; exact heap_alloc_new _ _
  have K43 := members_any (some ⟨vg, 0, none⟩) ln vc (w.alloc (.cells #[.slice none 0 0] 26))
  rw [s1] at K43
  have HX : Hid (((w.alloc (.cells #[.slice none 0 0] 26)).alloc (.cells #[.slice (some ⟨vg, 0, none⟩) ln vc] 77)).heap.size = w.heap.size + 2) := by show _ = _; simp
  have HH : Hid (Rr w rb sb S A V vs ∧ IsSet w base (.slice (some ⟨vg, 0, none⟩) ln vc) S ws0 ∧ Ag S ws0 bs ∧ Gd S A ∧ TabAt 0 Lib.deBruijn64tab w ∧ 0 < w.heap.size) := ⟨hR, by rw [← hln]; exact hset, hA, hG, hTab, h00⟩
  have HLN : Hid (ws0.length = ln) := hln
  clear hR hset hA hG hTab h00 hln s1
  go_wp2_with (go_at_call 43; (with_reducible refine K43.mono ?_); clear K43; rintro e w1 ⟨rfl, rfl⟩)
  have HB2 : Hid (Below w.heap.size w ((w.alloc (.cells #[.slice none 0 0] 26)).alloc (.cells #[.slice (some ⟨vg, 0, none⟩) ln vc] 77))) := b2
  have hs3 := HX.out
  generalize ((w.alloc (.cells #[.slice none 0 0] 26)).alloc (.cells #[.slice (some ⟨vg, 0, none⟩) ln vc] 77)) = V1 at *
  clear b1 b2 HX
  refine wpIn_wide.1 (range_tells (n := 5) rfl (by omega) (gf := 70) (lb := #[.pointer (some ⟨w.heap.size + 1, 0, none⟩)]) ?hgg trivial (enters_of Tryd.func70 (by kernel_rfl) rfl)
    (members_tells ws0 S base (.slice (some ⟨vg, 0, none⟩) ln vc) w V1 (w.heap.size + 1) (5 - 1) (by omega) HH.out.2.1 HH.out.2.2.2.2.1 HH.out.2.2.2.2.2 HB2.out xB HH.out.2.1.2.2.2) (Below.refl _ _) ?hX (fun _ => rfl) (InvC w V1.heap.size) ?hI ?hO (fun q => q = w.heap.size) ?h0 ?hround ?hdone)
  case hgg => rfl
  case hX =>
    rintro q (hq | rfl)
    · omega
    · omega
  case hI =>
    intro pre O A B hi hr hp
    exact hi.past hp (by omega)
  case hO =>
    rintro pre O A q ⟨u, hb7, hrow, hBA, rfl⟩ (rfl | hq)
    · exact ⟨by omega, hb7.lt, by omega, by omega⟩
    · obtain ⟨h1, h2⟩ := own_ge hrow hq
      exact ⟨by omega, h2, by omega, by omega⟩
  case h0 =>
    intro A hA
    refine ⟨.slice none 0 0, (hA.block _ (by omega)).trans x4, World.ownsRow_nil _ _ _ _, HB2.out.trans (hA.mono HB2.out.size), ?_⟩
    funext q
    simp [Value.ownBlock]
  case hround =>
    rintro pre O x A' hA hrec hinv hpre
    have hl : pre.length < 100000 := by
      have h2 := hpre.length_le
      rw [List.length_append, List.length_singleton] at h2
      omega
    refine ⟨{ tmps := #[.slice (some ⟨sb, 0, none⟩) S S, .slice (some ⟨vg, 0, none⟩) ln vc, undef, undef, .pointer (some ⟨w.heap.size, 0, none⟩), .int .i64 (x : Int), undef, undef, undef, .slice (some ⟨vg, 0, none⟩) ln vc, .func (.func 70) #[] #[.pointer (some ⟨w.heap.size + 1, 0, none⟩)], .int .i64 (x : Int), undef, undef, undef, undef, undef, undef, undef, undef, undef, undef, undef, undef, undef, undef, undef, undef, undef, undef, undef, undef, undef, undef, undef, undef, undef, undef, undef, undef, undef, undef, undef, undef, undef, undef, undef, undef, undef, undef, undef, undef, undef, undef], defers := [] }, A', ?_, Below.refl _ _, ?_⟩
    · intro K hK
      clear hs3
      gi_wp2
      exact hK
    · intro r
      obtain ⟨A'', hA'⟩ : ∃ B, A'.putObj (V1.heap.size + 1) (.loop r) = B := ⟨_, rfl⟩
      have hP : Past (V1.heap.size + 1) A' A'' := by rw [← hA']; exact Past.put _ _ _
      have hinv' := hinv.past hP (by omega)
      have hszA : V1.heap.size + 2 ≤ A''.heap.size := Nat.le_trans hA hP.size
      rw [hA']
      clear hA' hP hinv hrec
      obtain ⟨u, hb7, hrow, hBA, rfl⟩ := hinv'
      have hc := hb7.cell
      have hnV : w.heap.size < V1.heap.size := by omega
      obtain ⟨au, cu, rfl⟩ := Am.own_slice hrow
      have HSZ : Hid (V1.heap.size = w.heap.size + 2) := hs3
      clear hs3
      gi_wp2_with (gi_at_builtin; refine wpListIn_append_own_at _ rfl _ _ 26 rfl (V1.heap.size + 2) 3 i0 (.int .i64 0) 1 8 Tryd.underlying26 hi hz0 hz1 hz2 rfl (by decide) _ _ _ rfl (hrow.alloc _) ⟨A''.heap.size, 0, none⟩ 1 1 [.int .i64 (x : Int)] rfl rfl (cell_one_at _ _ _ rfl) (ns_one x) (by simp only [maxLen]; omega) (by omega) (by simp; omega) ?_; intro v' w7 hown' hgrow _ hat; obtain ⟨g', cap', rfl⟩ := ownsRow_succ hown'; have hv1 : Boxed w7 w.heap.size 26 (.slice au pre.length cu) := (hb7.alloc _).kept hgrow (hb7.not_row (by decide) hrow); have hc1 := hv1.cell; have hf1 := hv1.frozen)
      exact endC pre x hb7 hrow hown' hgrow hat hBA hnV
  case hdone =>
    rintro ys O A' hA' hSS ⟨u, hb7, hrow, hBA, rfl⟩ hdf
    subst hSS
    have HC0 : Hid (Cw w A' base V1.heap.size S u (.slice (some ⟨vg, 0, none⟩) ln vc) ws0 (ms ws0)) := ⟨hb7, Cu.own_base hrow (by omega), ⟨own_kp2 HH.out.2.1.1 (kp_below hBA (fun _ => False)) (fun _ _ => id), HH.out.2.1.2⟩, hdf, kp_below hBA _⟩
    have HW0 : Hid (Wl S A bs ws0 (ms ws0)) := HH.out.2.2.1.begin (ms_mem HH.out.2.2.1.wl (fun x hx => HH.out.2.2.1.lt hx))
    have HSZ : Hid (V1.heap.size = w.heap.size + 2) := hs3
    have HGK : Hid (2 * un S ws0 + (ms ws0).length ≤ 9000) := by show _ ≤ _; have := un_le S ws0; omega
    clear hb7 hrow hBA hdf hA' hml hs3
    try simp only [Exit.inBlock, Exit.then]
    go_wp2
    go_loopg [] (2 * un S ws0 + (ms ws0).length) (fun gk wr => ∃ (ws st : List Nat) (u : Value), True ∧ Cw w wr base V1.heap.size S u (.slice (some ⟨vg, 0, none⟩) ln vc) ws st ∧ Wl S A bs ws st ∧ gk = 2 * un S ws + st.length ∧ gk ≤ 9000)
    case atStart => exact ⟨ws0, ms ws0, u, trivial, HC0.out, HW0.out, rfl, HGK.out⟩
    case round =>
      clear HC0 HW0
      obtain ⟨ws, st, u, _, hcw, hwl, hgk, hg9⟩ := hrel
      have HG : Hid (gk = 2 * un S ws + st.length) := hgk
      have HG9 : Hid (gk ≤ 9000) := hg9
      have HW : Hid (Wl S A bs ws st) := hwl
      obtain ⟨au, cu, rfl⟩ := oslice hcw.row
      have HC : Hid (Cw w wr base V1.heap.size S (.slice au st.length cu) (.slice (some ⟨vg, 0, none⟩) ln vc) ws st) := hcw
      have c4 := hcw.box.cell
      have f4 := hcw.box.frozen
      clear hcw hwl hgk hg9
      by_cases hne : 0 < st.length
      · obtain ⟨st1, x, rfl⟩ : ∃ l x, st = l ++ [x] := ⟨st.dropLast, st.getLast (fun e => by subst e; exact absurd hne (by simp)), (List.dropLast_concat_getLast _).symm⟩
        obtain ⟨n, hn⟩ : ∃ n, st1.length = n := ⟨_, rfl⟩
        have HN : Hid (st1.length = n) := hn
        have hn1 : (st1 ++ [x]).length = n + 1 := by rw [List.length_append, hn]; rfl
        have HC1 : Hid (Cw w wr base V1.heap.size S (.slice au (n + 1) cu) (.slice (some ⟨vg, 0, none⟩) ln vc) ws (st1 ++ [x])) := by have h := HC.out; rw [hn1] at h; exact h
        rw [hn1] at c4
        have hrow := HC1.out.row
        rw [hn1] at hrow
        obtain ⟨ug, uc, hue, hug, _⟩ := own_some hrow (Nat.succ_pos _)
        rw [Value.slice.injEq] at hue
        obtain ⟨rfl, _, rfl⟩ := hue
        obtain ⟨hcap, hcm⟩ := own_cap2 hrow (Nat.succ_pos _)
        have hx := hrow.cellAt n (by omega)
        rw [show (ns (st1 ++ [x]))[n]? = some (.int .i64 (x : Int)) by rw [ns_app, List.getElem?_append_right (by simp [ns, hn]), show n - (ns st1).length = 0 by simp [ns, hn]]; rfl] at hx
        have hncap : n ≤ cu := by omega
        have hxS : x < S := (HW.out.snd x (HW.out.stk x (by simp))).1
        have hug1 : w.heap.size ≠ ug := fun e => by
          subst e
          obtain ⟨d, hd⟩ := own_ty hrow (k := w.heap.size) rfl
          exact ty_ne hd HC1.out.box (by decide)
        have hnb : n ≤ 9000 := by have h1 := HG.out; have h2 := HG9.out; rw [List.length_append, hn] at h1; omega
        clear hcm
        have HC2 : Hid (Cw w (wr.setCell ⟨w.heap.size, 0, none⟩ (.slice (some ⟨ug, 0, none⟩) n cu)) base V1.heap.size S (.slice (some ⟨ug, 0, none⟩) n cu) (.slice (some ⟨vg, 0, none⟩) ln vc) ws st1) := HC1.out.pop hn
        have HWI : Hid (Wi S A bs x 0 ws st1) := HW.out.pop
        have nR : ∀ {W : World}, Kp (fun b => (Value.slice (some ⟨vg, 0, none⟩) ln vc).ownBlock = some b) w W → Rr W rb sb S A V vs := fun {W} hk => HH.out.1.kept hk (fun b c ty hb ht e => by obtain ⟨d, hd⟩ := own_ty HH.out.2.1.1 e; exact ty_ne hb hd (by rcases ht with h | h <;> subst h <;> decide))
        have HNR : Hid (∀ W, Kp (fun b => (Value.slice (some ⟨vg, 0, none⟩) ln vc).ownBlock = some b) w W → Rr W rb sb S A V vs) := fun W hk => nR hk
        have hvx := (HNR.out _ HC2.out.kp).cell hxS
        obtain ⟨ax, cx, hVx⟩ := oslice (HH.out.1.rows x)
        obtain ⟨nx, hnx⟩ : ∃ nx, (rws (fun a => a) A x).length = nx := ⟨_, rfl⟩
        have HNX : Hid ((rws (fun a => a) A x).length = nx) := hnx
        rw [hnx] at hVx
        rw [hVx] at hvx
        have HVX : Hid (V x = .slice ax nx cx) := hVx
        clear hrow hn hn1 HC HC1 HW nR hne hnx hVx
        go_upto_region 7 with fail
        clear c4 hx
        generalize wr.setCell ⟨w.heap.size, 0, none⟩ (.slice (some ⟨ug, 0, none⟩) n cu) = W2 at *
        clear f4
        have HM : Hid (gk = 2 * un S ws + st1.length + 1) := by show _ = _; rw [HG.out, List.length_append]; rfl
        have hnx2 : nx ≤ 20000 := by rw [← HNX.out]; exact Nat.le_trans (rws_len _ _ _) HH.out.2.2.2.1.len
        go_upto_region 8 with fail
        clear hvx
        go_loopw [35] (fun i wr => ∃ (y : Nat) (ws' st : List Nat) (u : Value), i = .int .i64 (y : Int) ∧ y ≤ nx ∧ Cw w wr base V1.heap.size S u (.slice (some ⟨vg, 0, none⟩) ln vc) ws' st ∧ Wi S A bs x y ws' st ∧ 2 * un S ws' + st.length + 1 ≤ gk) (fun i _ => nx - (intOf i).toNat)
        case atStart => exact ⟨0, ws, st1, _, rfl, Nat.zero_le _, HC2.out, HWI.out, by rw [HM.out]; exact Nat.le_refl _⟩
        case round =>
          clear HC2 HWI HM HG
          obtain ⟨y, ws', st, u, rfl, hy, hcw, hwi, hms⟩ := hrel
          obtain ⟨au, cu', rfl⟩ := oslice hcw.row
          obtain ⟨sn, hsn⟩ : ∃ n, st.length = n := ⟨_, rfl⟩
          rw [hsn] at hcw
          have HSN : Hid (st.length = sn) := hsn
          have HC : Hid (Cw w wr base V1.heap.size S (.slice au sn cu') (.slice (some ⟨vg, 0, none⟩) ln vc) ws' st) := hcw
          have HW : Hid (Wi S A bs x y ws' st) := hwi
          have HMS : Hid (2 * un S ws' + st.length + 1 ≤ gk) := hms
          clear hcw hwi hms hsn
          by_cases hlt : y < nx
          · have hyl : y < (rws (fun a => a) A x).length := by rw [HNX.out]; exact hlt
            obtain ⟨f, t, i, o, c, he⟩ : ∃ f t i o c0, (rws (fun a => a) A x)[y] = (f, t, i, o, c0) := ⟨_, _, _, _, _, rfl⟩
            have HE : Hid ((rws (fun a => a) A x)[y]? = some (f, t, i, o, c)) := by show _ = _; rw [List.getElem?_eq_getElem hyl, he]
            have hrd := own_rd ((HNR.out _ HC.out.kp).rows x) (by rw [HNX.out]; omega)
            rw [HVX.out, ← HNX.out] at hrd
            obtain ⟨ab, ao, rfl, _, p0, p1, p2, p3, p4⟩ := arc_cells hrd hyl he
            obtain ⟨tn, hin, htn, htS⟩ : ∃ tn : Nat, (0 ≤ i ∧ i ≤ 60) ∧ t = (tn : Int) ∧ tn < S := by
              have h1 := (rw_mem.1 (List.mem_of_getElem? HE.out)).1
              obtain ⟨k, hk, hk2⟩ := List.getElem_of_mem h1
              obtain ⟨f', t', i', o', x', hq, _, h3, h4, _⟩ := HH.out.2.2.2.1.nat hk
              rw [hk2] at hq
              simp only [Prod.mk.injEq] at hq
              exact ⟨t', by omega, hq.2.1, h3⟩
            subst htn
            have hx1 := heap_alloc_new wr (.cells #[.int .i64 f, .int .i64 (tn : Int), .int .i64 i, .int .i64 o, .int .i64 c] 64)
            have HC3 : Hid (Cw w (wr.alloc (.cells #[.int .i64 f, .int .i64 (tn : Int), .int .i64 i, .int .i64 o, .int .i64 c] 64)) base V1.heap.size S (.slice au sn cu') (.slice (some ⟨vg, 0, none⟩) ln vc) ws' st) := HC.out.below (below_al _ _)
            clear hrd he hyl
            go_upto_region 10 with fail
            clear p0 p1 p2 p3 p4
            generalize wr.alloc (.cells #[.int .i64 f, .int .i64 (tn : Int), .int .i64 i, .int .i64 o, .int .i64 c] 64) = W3 at *
            generalize wr.heap.size = b8 at *
            have c1 := cell_of_row _ _ 1 _ _ _ hx1
            have c2 := cell_of_row _ _ 2 _ _ _ hx1
            have HX1 : Hid (W3.heap[b8]? = some (.cells #[.int .i64 f, .int .i64 (tn : Int), .int .i64 i, .int .i64 o, .int .i64 c] 64 (0, 0))) := hx1
            clear hx1
            by_cases hz : i = 0
            · subst hz
              have K60 := add_any base (.slice (some ⟨vg, 0, none⟩) ln vc) S tn ws' W3 HC3.out.set htS (by omega)
              obtain ⟨m, hm⟩ : ∃ m, Set.mem ws' tn = m := ⟨_, rfl⟩
              have HMM : Hid (Set.mem ws' tn = m) := hm
              rw [hm] at K60
              clear hm
              have HLT : Hid (tn / 64 < ws'.length) := by show _ < _; have := HW.out.wl; omega
              cases m with
              | true =>
                go_wp2_with (go_at_call 60; (with_reducible refine K60.mono ?_); clear K60; rintro e w5 ⟨rfl, hs5, hg5⟩; have HC5 : Hid (Cw w w5 base V1.heap.size S (.slice au sn cu') (.slice (some ⟨vg, 0, none⟩) ln vc) (Set.put ws' tn) st) := HC3.out.add hs5 hg5; clear hs5 hg5)
                go_roundw
                case rel => exact ⟨y + 1, Set.put ws' tn, st, _, by go_num, hlt, HC5.out, HW.out.old HE.out rfl HMM.out, by rw [un_same HLT.out HMM.out]; exact HMS.out⟩
                case measure => simp [intOf]; omega
              | false =>
                have hbd : sn ≤ 9000 := by have h1 := HMS.out; have h2 := HG9.out; rw [HSN.out] at h1; omega
                go_wp2_with (first
                  | (go_at_call 60; (with_reducible refine K60.mono ?_); clear K60; rintro e w5 ⟨rfl, hs5, hg5⟩; have HC5 : Hid (Cw w w5 base V1.heap.size S (.slice au sn cu') (.slice (some ⟨vg, 0, none⟩) ln vc) (Set.put ws' tn) st) := HC3.out.add hs5 hg5; have hx5 : w5.heap[b8]? = some (.cells #[.int .i64 f, .int .i64 (tn : Int), .int .i64 0, .int .i64 o, .int .i64 c] 64 (0, 0)) := (hg5.block b8 (lt_at HX1.out) (fun e2 => by obtain ⟨d', hd'⟩ := own_ty HC3.out.set.1 e2.symm; exact ty_ne HX1.out hd' (by decide))).trans HX1.out; have d1 := cell_of_row _ _ 1 _ _ _ hx5; have d4 := HC5.out.box.cell; have HRW : Hid (w5.ownsRow w.heap.size 3 1 (.slice au sn cu') sn (ns st)) := (by have h := HC5.out.row; rw [HSN.out] at h; exact h); have hsz := HC5.out.kp.size; clear hs5 hg5 hx5)
                  | (refine wpList_append_own_at _ rfl _ _ 26 rfl w.heap.size 3 i0 (.int .i64 0) 1 8 Tryd.underlying26 hi hz0 hz1 hz2 rfl (by decide) _ _ _ rfl (HRW.out.alloc _) ⟨_, 0, none⟩ 1 1 [.int .i64 (tn : Int)] rfl rfl (Pa.cell_one_at _ _ _ rfl) (ns_one tn) (by simp only [maxLen]; omega) (by omega) (by simp; omega) ?_; intro v6 w6 ho6 hg6 _ hl6; obtain ⟨g6, cap6, rfl⟩ := ownsRow_succ ho6; have hpu := (HC5.out.below (below_al w5 (.cells #[.int .i64 (tn : Int)] 3))).push (t := tn) (by rw [HSN.out]; exact ho6) hg6; have k4 := hpu.1.cell; have k5 := hpu.1.frozen; have HC6 : Hid _ := hpu.2; clear ho6 hg6 hl6 hpu))
                go_roundw
                case rel => exact ⟨y + 1, Set.put ws' tn, st ++ [tn], _, by go_num, hlt, HC6.out, HW.out.new HE.out rfl rfl htS, by have h1 := un_put htS HLT.out HMM.out; have h2 := HMS.out; rw [List.length_append]; show 2 * _ + (_ + 1) + 1 ≤ _; omega⟩
                case measure => simp [intOf]; omega
            · have q1 : (i == 0) = false := by simpa using hz
              go_wp2
              repeat (go_quiet (fail); go_wp2)
              go_roundw
              case rel => exact ⟨y + 1, ws', st, _, by go_num, hlt, by first | exact HC3.out | exact HC3.out.below (below_drewN (Below.refl _ _) _), HW.out.skip HE.out hz, HMS.out⟩
              case measure => simp [intOf]; omega
          · obtain rfl : y = nx := by omega
            have HWF : Hid (Wl S A bs ws' st) := HW.out.fin (by rw [HNX.out]; exact Nat.le_refl _)
            go_wp2
            go_roundg (2 * un S ws' + st.length)
            case measure => exact HMS.out
            case rel => exact ⟨ws', st, _, trivial, HC.out, HWF.out, rfl, Nat.le_trans (Nat.le_of_lt HMS.out) HG9.out⟩
      · obtain rfl : st = [] := List.eq_nil_of_length_eq_zero (by omega)
        have HAG : Hid (Ag S ws (clo S A bs)) := ag_of HW.out
        have c5 : wr.cell? ⟨w.heap.size, 0, none⟩ = some (.slice au 0 cu) := c4
        clear c4 hne
        go_wp2
        have hP := Past.put V1.heap.size wr (.deferred none)
        have hk : Kp (fun b => b = V1.heap.size) wr (wr.putObj V1.heap.size (.deferred none)) := ⟨hP.os, hP.tape, hP.output, hP.size, fun k hk hn => hP.block k hk hn⟩
        have hvl := (HH.out.2.1.1.lt vg rfl).2
        have hsz := HSZ.out
        refine ⟨by simp, .inl ⟨_, _, rfl, run_takeDeferred HC.out.dfr, ?_⟩⟩
        exact ⟨_, by simp [results, Tryd.f74], rfl, ws, ⟨own_kp2 HC.out.set.1 hk (fun b hb e => by have hb2 : some vg = some b := hb; cases hb2; omega), HC.out.set.2⟩, HAG.out, kp_then HC.out.kp hk (fun i hi e => by omega)⟩
end Go.Proofs.YtfjocafepigijaaDoor.Su
/- write (101) walked: the sets of nodes that are come to by writing a symbol. Conditions: as in spread. -/
namespace Go.Proofs.YtfjocafepigijaaDoor.Ot
open Go.RowKit Mv Sy Po Ps Cm Pa Am Wd St Ra Set

/-- sets by symbols, without their array -/
structure Gs (base : Nat) (w : World) (M : Nat) (G : Gt) : Prop where
  set : ∀ c p, G c = some p → IsSet w base p.1 M p.2 ∧ p.2.length = (M + 63) / 64
  apart : ∀ c c' p p', c ≠ c' → G c = some p → G c' = some p' → ∀ b, p.1.ownBlock = some b → p'.1.ownBlock ≠ some b
theorem gv_one {base M : Nat} {w : World} {G : Gt} (h : ∀ c p, G c = some p → IsSet w base p.1 M p.2 ∧ p.2.length = (M + 63) / 64) (j : Nat) : (gv G j).oneCell' = true := by
  unfold gv
  cases hg : G j with
  | none => rfl
  | some p =>
    obtain ⟨a, c, hv⟩ := oslice (h j p hg).1.1
    dsimp only
    rw [hv]; rfl
theorem kp_row (w : World) (b : Nat) (c : Array Value) : Kp (fun k => k = b) w (w.setRow b c) := ⟨rfl, rfl, rfl, by simp [World.setRow], fun k _ hn => setRow_other w b k c hn⟩
end Go.Proofs.YtfjocafepigijaaDoor.Ot
