/- put (63): a set more in a front, and whether one of its nodes needs nothing. Conditions: as in spread; at most 100,000 sets. -/
import Derived.Test.YtfjocafepigijaaDoorUn
import Derived.Sort.CutIn
import Derived.BigFrameIn
namespace Go.Proofs.YtfjocafepigijaaDoor.Ot
open Go.RowKit Go.Shelf Mv Sy Po Ps Cm Pa Am Wd St Ra Set Rf Tz Za
attribute [local go_sem] Oper.semAt_some

theorem inf77 : (Tryd.prog.info? 77).map (fun i => (i.zero, i.size, i.bytes)) = some (some (.slice none 0 0), 1, 24) := by kernel_rfl
theorem inf4 : (Tryd.prog.info? 4).map (fun i => (i.zero, i.size, i.bytes)) = some (some (.bool false), 1, 1) := by kernel_rfl
/-- what holds between two rounds -/
def InvE (w : World) (N : Nat → Nat) (T bE p4 : Nat) (pre : List Nat) (O : Nat → Prop) (A : World) : Prop :=
  Boxed A bE 4 (.bool (pre.any fun v => N v == 0)) ∧ Boxed A p4 60 (.pointer (some ⟨T, 0, none⟩)) ∧ Below w.heap.size w A ∧ O = (fun q => q = bE)
theorem InvE.past {w : World} {N : Nat → Nat} {T bE p4 l : Nat} {pre : List Nat} {O : Nat → Prop} {A B : World} (h : InvE w N T bE p4 pre O A) (hp : Past l A B) (h1 : bE < l) (h2 : p4 < l) (h3 : w.heap.size ≤ l) : InvE w N T bE p4 pre O B :=
  ⟨(hp.block _ h.1.lt (by omega)).trans h.1, (hp.block _ h.2.1.lt (by omega)).trans h.2.1, below_past hp h.2.2.1 h.2.2.1.size h3, h.2.2.2⟩
theorem sl_one (v : Value) (h : v.oneCell' = true) : ∀ u ∈ [v], u.oneCell' = true := fun u hu => by rw [List.mem_singleton.1 hu]; exact h
theorem below_al (W : World) (o : Obj) : Below W.heap.size W (W.alloc o) := (Below.refl _ _).alloc (Nat.le_refl _) _
theorem grown_undrew {w w' : World} {r : Option Nat} (h : w.drew.grownBy w' r) : w.grownBy w' r := ⟨h.os, h.tape, h.output, h.size, h.block⟩
theorem cell_bool (w : World) (g : Nat) (b : Bool) (hg : g = w.heap.size) : ∀ j u, [Value.bool b][j]? = some u → (w.alloc (.cells #[.bool b] 4)).drew.cell? ((⟨g, 0, none⟩ : Addr).add j) = some u := by
  subst hg
  exact cell_one_new w (.bool b) 4
theorem own_new {u v : Value} {n m : Nat} (h : u.ownBlock = v.ownBlock ∨ u.ownBlock = some m) (hn : n ≤ m) : ∀ b, u.ownBlock = some b → v.ownBlock = some b ∨ n ≤ b := fun b hb => by
  rcases h with h | h
  · exact .inl (h ▸ hb)
  · rw [h] at hb; cases hb; exact .inr hn
theorem endE {w A : World} {N : Nat → Nat} {T bE p4 x : Nat} {pre : List Nat} {b b' : Bool} (hE : Boxed A bE 4 (.bool b)) (h4 : Boxed A p4 60 (.pointer (some ⟨T, 0, none⟩))) (hB : Below w.heap.size w A) (hle : w.heap.size ≤ bE) (hb : ((pre ++ [x]).any fun v => N v == 0) = b') :
    ∃ O', Kept (fun q => q = bE) O' A (A.setCell ⟨bE, 0, none⟩ (.bool b')) ∧ InvE w N T bE p4 (pre ++ [x]) O' (A.setCell ⟨bE, 0, none⟩ (.bool b')) := by
  have hk : Kp (fun b => b = bE) A (A.setCell ⟨bE, 0, none⟩ (.bool b')) := (Kp.refl _ A).setCell _ _ _ (fun _ => rfl)
  refine ⟨fun q => q = bE, ⟨hk.os, hk.tape, hk.output, hk.size, fun q hq hn => ⟨hn, hk.block q hq hn⟩⟩, by rw [hb]; exact hE.set _, (hk.block _ h4.lt (fun e => by subst e; exact ty_ne h4 hE (by decide))).trans h4, ?_, rfl⟩
  exact ⟨hk.os.trans hB.os, hk.tape.trans hB.tape, hk.output.trans hB.output, Nat.le_trans hB.size hk.size, fun k hk2 => (hk.block k (Nat.lt_of_lt_of_le hk2 hB.size) (fun e => by omega)).trans (hB.block k hk2)⟩
def PuQ (base f M : Nat) (w : World) (vs vk ve v : Value) (sts : List (Value × Nat)) (ks : List (Value × List Nat)) (es : List Bool) (ws : List Nat) (N : Nat → Nat) (e : Ending) (w' : World) : Prop :=
  e = .returned (.int .i64 (ks.length : Int)) ∧ ∃ vk' ve', Fr base w' f vs vk' ve' sts (ks ++ [(v, ws)]) (es ++ [en N ws]) M ∧ Kp (fun b => b = f ∨ vk.ownBlock = some b ∨ ve.ownBlock = some b) w w' ∧ (∀ b, vk'.ownBlock = some b → vk.ownBlock = some b ∨ w.heap.size ≤ b) ∧ ∀ b, ve'.ownBlock = some b → ve.ownBlock = some b ∨ w.heap.size ≤ b
set_option maxHeartbeats 4000000 in
set_option maxRecDepth 100000 in
theorem put_any (base b2 f T S sb ci nb cN M : Nat) (ai : Option Addr) (tx : List Int) (R : Nat → List Arc) (V : Nat → Value) (N : Nat → Nat) (vs vk ve v : Value) (sts : List (Value × Nat)) (ks : List (Value × List Nat)) (es : List Bool) (ws : List Nat) (w : World)
    (hT : Tr b2 w T S sb ci nb cN M ai tx R V N) (hTab : TabAt 0 Lib.deBruijn64tab w) (hF : Fr base w f vs vk ve sts ks es M) (hset : IsSet w base v M ws) (hlen : ws.length = (M + 63) / 64) (hmb : ∀ x, mem ws x = true → x < M) (hap : ∀ p ∈ ks, ∀ b, p.1.ownBlock = some b → v.ownBlock ≠ some b) (hks : ks.length ≤ 100000) (hes : es.length = ks.length) (hbs : base ≤ w.heap.size) :
    Calls Tryd.prog 63 #[.pointer (some ⟨f, 0, none⟩), .pointer (some ⟨T, 0, none⟩), v] w (PuQ base f M w vs vk ve v sts ks es ws N) := by
  obtain ⟨i7, hi7, hy0, hy1, hy2⟩ := info_parts inf77
  obtain ⟨i4, hi4, hx0, hx1, hx2⟩ := info_parts inf4
  obtain ⟨av, cv, rfl⟩ := oslice hset.1
  have h00 : 0 < w.heap.size := Nat.lt_of_le_of_lt (Nat.zero_le _) (lt_at hT.trk)
  have HML : Hid (∀ x ∈ ms ws, x < M) := by
    intro x hx
    rw [ms_all ws M hset.2.2.1 hmb] at hx
    exact hmb x (List.mem_filter.1 hx).2
  refine (callsIn_wide (n := 5)).1 ?_
  refine callsIn_of_wp_marks Tryd.func63 rfl trivial (wpIn_wide.2 ?_) rfl
  simp only [Tryd.ntmps63, List.size_toArray, List.length_cons, List.length_nil, Nat.reduceAdd, Nat.reduceSub, Array.replicate_succ, Array.replicate_zero, List.push_toArray, List.append_toArray, List.nil_append, List.cons_append]
  have b1 := (Below.refl w.heap.size w).alloc (Nat.le_refl _) (.cells #[.pointer (some ⟨T, 0, none⟩)] 60)
  have b2' := b1.alloc b1.size (.cells #[.bool false] 4)
  have b3 := b2'.alloc b2'.size (.cells #[.slice av ws.length cv] 77)
  have s1 : (w.alloc (.cells #[.pointer (some ⟨T, 0, none⟩)] 60)).heap.size = w.heap.size + 1 := by simp
  have s2 : ((w.alloc (.cells #[.pointer (some ⟨T, 0, none⟩)] 60)).alloc (.cells #[.bool false] 4)).heap.size = w.heap.size + 2 := by simp
  have s3 : (((w.alloc (.cells #[.pointer (some ⟨T, 0, none⟩)] 60)).alloc (.cells #[.bool false] 4)).alloc (.cells #[.slice av ws.length cv] 77)).heap.size = w.heap.size + 3 := by simp
  have x4 : Boxed (((w.alloc (.cells #[.pointer (some ⟨T, 0, none⟩)] 60)).alloc (.cells #[.bool false] 4)).alloc (.cells #[.slice av ws.length cv] 77)) w.heap.size 60 (.pointer (some ⟨T, 0, none⟩)) := ((Boxed.new w 60 _).alloc _).alloc _
  have x7 : Boxed (((w.alloc (.cells #[.pointer (some ⟨T, 0, none⟩)] 60)).alloc (.cells #[.bool false] 4)).alloc (.cells #[.slice av ws.length cv] 77)) (w.heap.size + 1) 4 (.bool false) := by
    rw [← s1]; exact (Boxed.new _ 4 _).alloc _
  have xB : (((w.alloc (.cells #[.pointer (some ⟨T, 0, none⟩)] 60)).alloc (.cells #[.bool false] 4)).alloc (.cells #[.slice av ws.length cv] 77)).heap[w.heap.size + 2]? = some (.cells #[.slice av ws.length cv] 77 (0, 0)) := by
    rw [← s2]; exact heap_alloc_new _ _
  have K43 := members_any av ws.length cv ((w.alloc (.cells #[.pointer (some ⟨T, 0, none⟩)] 60)).alloc (.cells #[.bool false] 4))
  have HBV : Hid (Below w.heap.size w (((w.alloc (.cells #[.pointer (some ⟨T, 0, none⟩)] 60)).alloc (.cells #[.bool false] 4)).alloc (.cells #[.slice av ws.length cv] 77))) := b3
  have HX : Hid (Boxed (((w.alloc (.cells #[.pointer (some ⟨T, 0, none⟩)] 60)).alloc (.cells #[.bool false] 4)).alloc (.cells #[.slice av ws.length cv] 77)) w.heap.size 60 (.pointer (some ⟨T, 0, none⟩)) ∧ Boxed (((w.alloc (.cells #[.pointer (some ⟨T, 0, none⟩)] 60)).alloc (.cells #[.bool false] 4)).alloc (.cells #[.slice av ws.length cv] 77)) (w.heap.size + 1) 4 (.bool false) ∧ (((w.alloc (.cells #[.pointer (some ⟨T, 0, none⟩)] 60)).alloc (.cells #[.bool false] 4)).alloc (.cells #[.slice av ws.length cv] 77)).heap[w.heap.size + 2]? = some (.cells #[.slice av ws.length cv] 77 (0, 0)) ∧ (((w.alloc (.cells #[.pointer (some ⟨T, 0, none⟩)] 60)).alloc (.cells #[.bool false] 4)).alloc (.cells #[.slice av ws.length cv] 77)).heap.size = w.heap.size + 3) := ⟨x4, x7, xB, s3⟩
  have HH : Hid (Tr b2 w T S sb ci nb cN M ai tx R V N ∧ TabAt 0 Lib.deBruijn64tab w ∧ Fr base w f vs vk ve sts ks es M ∧ IsSet w base (.slice av ws.length cv) M ws ∧ ws.length = (M + 63) / 64 ∧ (∀ p ∈ ks, ∀ b, p.1.ownBlock = some b → (Value.slice av ws.length cv).ownBlock ≠ some b) ∧ es.length = ks.length ∧ base ≤ w.heap.size ∧ 0 < w.heap.size) := ⟨hT, hTab, hF, hset, hlen, hap, hes, hbs, h00⟩
  clear hT hTab hF hset hlen hmb hap hes hbs b1 b2' b3 s1 s2 s3 x4 x7 xB h00
  go_wp2_with (go_at_call 43; (with_reducible refine K43.mono ?_); clear K43; rintro e w1 ⟨rfl, rfl⟩)
  generalize ((w.alloc (.cells #[.pointer (some ⟨T, 0, none⟩)] 60)).alloc (.cells #[.bool false] 4)).alloc (.cells #[.slice av ws.length cv] 77) = V1 at *
  have hs3 := HX.out.2.2.2
  refine wpIn_wide.1 (range_tells (n := 5) rfl (by omega) (gf := 70) (lb := #[.pointer (some ⟨w.heap.size + 2, 0, none⟩)]) ?hgg trivial (enters_of Tryd.func70 (by kernel_rfl) rfl)
    (members_tells ws M base (.slice av ws.length cv) w V1 (w.heap.size + 2) (5 - 1) (by omega) HH.out.2.2.2.1 HH.out.2.1 HH.out.2.2.2.2.2.2.2.2 HBV.out HX.out.2.2.1 HH.out.2.2.2.1.2.2.2) (Below.refl _ _) ?hX (fun _ => rfl) (InvE w N T (w.heap.size + 1) w.heap.size) ?hI ?hO (fun q => q = w.heap.size + 1) ?h0 ?hround ?hdone)
  case hgg => rfl
  case hX =>
    rintro q (hq | rfl)
    · omega
    · omega
  case hI =>
    intro pre O A B hi hr hp
    exact hi.past hp (by omega) (by omega) (by omega)
  case hO =>
    rintro pre O A q ⟨h1, h2, h3, rfl⟩ rfl
    exact ⟨by omega, h1.lt, by omega, by omega⟩
  case h0 =>
    intro A hA
    exact ⟨(hA.block _ (by omega)).trans HX.out.2.1, (hA.block _ (by omega)).trans HX.out.1, HBV.out.trans (hA.mono HBV.out.size), rfl⟩
  case hround =>
    rintro pre O x A hA hrec hinv hpre
    have hxM : x < M := HML.out x (hpre.subset (by simp))
    refine ⟨{ tmps := #[.pointer (some ⟨f, 0, none⟩), .pointer (some ⟨T, 0, none⟩), .slice av ws.length cv, undef, .pointer (some ⟨w.heap.size, 0, none⟩), undef, .int .i64 0, .pointer (some ⟨w.heap.size + 1, 0, none⟩), .int .i64 (x : Int), .slice av ws.length cv, .func (.func 70) #[] #[.pointer (some ⟨w.heap.size + 1 + 1, 0, none⟩)], .int .i64 (x : Int), undef, undef, undef, undef, undef, undef, undef, undef, undef, undef, undef, undef, undef, undef, undef, undef, undef, undef, undef, undef, undef, undef, undef, undef, undef, undef, undef, undef, undef, undef, undef, undef, undef, undef, undef, undef, undef], defers := [] }, A, ?_, Below.refl _ _, ?_⟩
    · intro K hK
      clear hs3
      gi_wp2
      exact hK
    · intro r
      obtain ⟨A', hA'⟩ : ∃ A', A.putObj (V1.heap.size + 1) (.loop r) = A' := ⟨_, rfl⟩
      have hP : Past (V1.heap.size + 1) A A' := by rw [← hA']; exact Past.put _ _ _
      have hinv' := hinv.past hP (by omega) (by omega) (by omega)
      rw [hA']
      clear hA' hP hinv hrec hpre
      obtain ⟨hE, h4, hBA, rfl⟩ := hinv'
      have HI : Hid (Boxed A' (w.heap.size + 1) 4 (.bool (pre.any fun v => N v == 0)) ∧ Boxed A' w.heap.size 60 (.pointer (some ⟨T, 0, none⟩)) ∧ Below w.heap.size w A') := ⟨hE, h4, hBA⟩
      have hc := hE.cell
      have hfz := hE.frozen
      have hc4 := h4.cell
      have hT2 := HH.out.1.below (hBA.mono HH.out.1.le)
      have t3 := cell_of_row _ _ 3 _ _ _ hT2.trk
      have nc := hT2.need x hxM
      have hcN := hT2.cap
      obtain ⟨nx, hnx⟩ : ∃ nx, N x = nx := ⟨_, rfl⟩
      rw [hnx] at nc
      have HNX : Hid (N x = nx) := hnx
      obtain ⟨pa, hpa⟩ : ∃ pa, (pre.any fun v => N v == 0) = pa := ⟨_, rfl⟩
      rw [hpa] at hc
      have HPA : Hid ((pre.any fun v => N v == 0) = pa) := hpa
      clear hE h4 hBA hT2 hnx hpa hs3
      cases pa with
      | true =>
        gi_wp2
        exact endE HI.out.1 HI.out.2.1 HI.out.2.2 (by omega) (by rw [List.any_append, HPA.out, Bool.true_or])
      | false =>
        gi_wp2
        exact endE HI.out.1 HI.out.2.1 HI.out.2.2 (by omega) (by rw [List.any_append, HPA.out]; show (false || ((N x == 0) || false)) = _; rw [HNX.out, Bool.false_or, Bool.or_false]; first | rfl | (cases nx <;> rfl) | (by_cases h : nx = 0 <;> simp [h]))
  case hdone =>
    rintro ys O A hA hS ⟨hE, h4, hBA, rfl⟩ hdf
    subst hS
    have hFA : Fr base A f vs vk ve sts ks es M := HH.out.2.2.1.below hBA
    obtain ⟨ak, ck, rfl⟩ := oslice hFA.sets
    obtain ⟨ae, ce, rfl⟩ := oslice hFA.ends
    have HFA : Hid (Fr base (A.alloc (.cells #[.slice av ws.length cv] 77)) f vs (.slice ak ks.length ck) (.slice ae es.length ce) sts ks es M) := hFA.below ((Below.refl _ _).alloc (Nat.le_refl _) _)
    have HSA : Hid (IsSet (A.alloc (.cells #[.slice av ws.length cv] 77)) base (.slice av ws.length cv) M ws) := ⟨(own_kp2 HH.out.2.2.2.1.1 (kp_below hBA (fun _ => False)) (fun _ _ => id)).alloc _, HH.out.2.2.2.1.2⟩
    have HB : Hid (Boxed A (w.heap.size + 1) 4 (.bool (en N ws)) ∧ Below w.heap.size w A ∧ A.heap[V1.heap.size]? = some (.deferred (some [])) ∧ w.heap.size + 3 ≤ A.heap.size) := ⟨hE, hBA, hdf, by omega⟩
    have k1 := cell_of_row _ _ 1 _ _ _ hFA.row
    have HK0 : Hid (Kp (fun _ => False) w (A.alloc (.cells #[.slice av ws.length cv] 77))) := (kp_below hBA _).trans (kp_below ((Below.refl _ _).alloc (Nat.le_refl _) _) _)
    have hsz : base ≤ A.heap.size := Nat.le_trans HH.out.2.2.2.2.2.2.2.1 hBA.size
    have HS3 : Hid (V1.heap.size = w.heap.size + 3) := hs3
    clear hFA hE h4 hBA hdf hs3
    try simp only [Exit.inBlock, Exit.then]
    go_wp2_with (refine wpList_append_own_at _ rfl _ _ 120 rfl base 77 i7 (.slice none 0 0) 1 24 Tryd.underlying120 hi7 hy0 hy1 hy2 rfl (by decide) _ _ _ rfl HFA.out.sets ⟨_, 0, none⟩ 1 1 [.slice av ws.length cv] rfl rfl (cell_one_new _ _ _) (sl_one _ rfl) (by unfold maxLen; omega) (by omega) (by simp; omega) ?_; intro v1 w5 ho1 hg1 _ hl1; obtain ⟨g1, c1, rfl, _, _⟩ := own_some ho1 (Nat.succ_pos _); have hfr := HFA.out.f1 HFA.out.sets (by decide) hg1; have k2 := cell_of_row _ _ 1 _ _ _ hfr; have k3 := frozen_of_row _ _ 1 _ _ hfr; have HN : Hid _ := HFA.out.addSet ho1 hg1 HSA.out HH.out.2.2.2.2.1 HH.out.2.2.2.2.2.1; have HL1 : Hid (∀ b, (Value.slice (some ⟨g1, 0, none⟩) (ks.length + 1) c1).ownBlock = some b → (Value.slice ak ks.length ck).ownBlock = some b ∨ w.heap.size ≤ b) := own_new hl1 HK0.out.size; clear ho1 hg1 hl1 hfr)
    have HB2 : Hid (Boxed (w5.setCell ⟨f, 1, none⟩ (.slice (some ⟨g1, 0, none⟩) (ks.length + 1) c1)) (w.heap.size + 1) 4 (.bool (en N ws)) ∧ (w5.setCell ⟨f, 1, none⟩ (.slice (some ⟨g1, 0, none⟩) (ks.length + 1) c1)).heap[V1.heap.size]? = some (.deferred (some [])) ∧ Kp (fun b => b = f ∨ (Value.slice ak ks.length ck).ownBlock = some b ∨ (Value.slice ae es.length ce).ownBlock = some b) w (w5.setCell ⟨f, 1, none⟩ (.slice (some ⟨g1, 0, none⟩) (ks.length + 1) c1))) := by
      have hfl : f < w.heap.size := lt_at HH.out.2.2.1.row
      have hb1 := (HB.out.1.alloc (.cells #[.slice av ws.length cv] 77))
      have hd1 := (heap_alloc_old A (.cells #[.slice av ws.length cv] 77) (lt_at HB.out.2.2.1)).trans HB.out.2.2.1
      refine ⟨(HN.out.2.block _ hb1.lt (fun e => ?_)).trans hb1, (HN.out.2.block _ (lt_at hd1) (fun e => ?_)).trans hd1, kp_then ((HK0.out).mono (fun _ _ e => e.elim)) HN.out.2 (fun i _ e => ?_)⟩
      · rcases e with e | e
        · omega
        · obtain ⟨c, hc⟩ := own_ty HFA.out.sets e; exact ty_ne hc hb1 (by decide)
      · rcases e with e | e
        · have := HS3.out; omega
        · obtain ⟨c, hc⟩ := own_ty HFA.out.sets e; rw [hd1] at hc; cases hc
      · rcases e with e | e
        · exact .inl e
        · exact .inr (.inl e)
    have HF2 : Hid (Fr base (w5.setCell ⟨f, 1, none⟩ (.slice (some ⟨g1, 0, none⟩) (ks.length + 1) c1)) f vs (.slice (some ⟨g1, 0, none⟩) (ks.length + 1) c1) (.slice ae es.length ce) sts (ks ++ [(.slice av ws.length cv, ws)]) es M) := HN.out.1
    have HZ2 : Hid (base ≤ (w5.setCell ⟨f, 1, none⟩ (.slice (some ⟨g1, 0, none⟩) (ks.length + 1) c1)).heap.size) := Nat.le_trans HH.out.2.2.2.2.2.2.2.1 HB2.out.2.2.size
    clear HN k1 k2 k3 HFA HSA HB HK0 hsz
    generalize w5.setCell ⟨f, 1, none⟩ (.slice (some ⟨g1, 0, none⟩) (ks.length + 1) c1) = W2 at *
    have k2 := cell_of_row _ _ 2 _ _ _ HF2.out.row
    have k22 : ∀ o, (W2.alloc o).cell? ⟨f, 2, none⟩ = some (.slice ae es.length ce) := fun o => cell_of_row _ _ 2 _ _ _ (HF2.out.below ((Below.refl _ _).alloc (Nat.le_refl _) o)).row
    have kE := HB2.out.1.cell
    have HES : Hid (es.length ≤ 100000) := by show _ ≤ _; rw [HH.out.2.2.2.2.2.2.1]; exact hks
    go_cut [] from 33 to 43 (fun wx => ∃ v2, Fr base wx f vs (.slice (some ⟨g1, 0, none⟩) (ks.length + 1) c1) v2 sts (ks ++ [(.slice av ws.length cv, ws)]) (es ++ [en N ws]) M ∧ Kp (fun b => b = f ∨ (Value.slice ae es.length ce).ownBlock = some b) W2 wx ∧ ∀ b, v2.ownBlock = some b → (Value.slice ae es.length ce).ownBlock = some b ∨ W2.heap.size ≤ b)
    case first =>
      refine wp_region_noPanic ?_
      go_region_law (refine step_append_at rfl (.tmp 37) (.tmp 39) 67 rfl base 4 i4 (.bool false) 1 1 Tryd.underlying67 hi4 hx0 hx1 hx2 rfl (by decide) _ _ _ rfl (HF2.out.ends.alloc _).drew ⟨_, 0, none⟩ 1 1 [.bool (en N ws)] rfl rfl (cell_bool _ _ _ (by simp)) (sl_one _ rfl) (by have := HES.out; unfold maxLen; omega) (by have := HES.out; omega) (by have := HZ2.out; simp; omega) ?_; intro v1 w6 ho1 hg1 hl1; obtain ⟨g2, c2, rfl, _, _⟩ := own_some ho1 (Nat.succ_pos _); have hfr := (HF2.out.below ((below_al W2 (.cells #[.bool (en N ws)] 4)))).f1 (HF2.out.ends.alloc _) (by decide) (grown_undrew hg1); have q2 := cell_of_row _ _ 2 _ _ _ hfr; have q3 := frozen_of_row _ _ 2 _ _ hfr; have HN : Hid _ := (HF2.out.below (below_al W2 (.cells #[.bool (en N ws)] 4))).addEnd ho1 (grown_undrew hg1); have HL2 : Hid _ := own_new hl1 (below_al W2 (.cells #[.bool (en N ws)] 4)).size; clear ho1 hg1 hl1 hfr)
      all_goals (refine NoPanic.normal ?_; go_wp2_with fail; go_meet)
      all_goals exact ⟨_, HN.out.1, kp_then (kp_below (below_al W2 (.cells #[.bool (en N ws)] 4)) _) HN.out.2 (fun _ _ e => e), HL2.out⟩
    case rest =>
    obtain ⟨v2, hf3, hk3, hl3⟩ := hcut
    have HL3 : Hid (∀ b, v2.ownBlock = some b → (Value.slice ae es.length ce).ownBlock = some b ∨ w.heap.size ≤ b) := fun b hb => (hl3 b hb).imp id (Nat.le_trans HB2.out.2.2.size)
    clear hl3
    have HF3 : Hid (Fr base wc f vs (.slice (some ⟨g1, 0, none⟩) (ks.length + 1) c1) v2 sts (ks ++ [(.slice av ws.length cv, ws)]) (es ++ [en N ws]) M) := hf3
    have HK3 : Hid (Kp (fun b => b = f ∨ (Value.slice ak ks.length ck).ownBlock = some b ∨ (Value.slice ae es.length ce).ownBlock = some b) w wc ∧ wc.heap[V1.heap.size]? = some (.deferred (some []))) := by
      refine ⟨kp_then HB2.out.2.2 hk3 (fun i _ e => e.imp id .inr), (hk3.block _ (lt_at HB2.out.2.1) (fun e => ?_)).trans HB2.out.2.1⟩
      rcases e with e | e
      · have := lt_at HH.out.2.2.1.row; have := HS3.out; omega
      · obtain ⟨c, hc⟩ := own_ty HF2.out.ends e; rw [HB2.out.2.1] at hc; cases hc
    have m1 := cell_of_row _ _ 1 _ _ _ hf3.row
    clear hf3 hk3 k2 k22 kE
    go_wp2
    refine ⟨by simp, .inl ⟨_, _, rfl, run_takeDeferred HK3.out.2, ?_⟩⟩
    have hP := Past.put V1.heap.size wc (.deferred none)
    have hkp : Kp (fun b => b = V1.heap.size) wc (wc.putObj V1.heap.size (.deferred none)) := ⟨hP.os, hP.tape, hP.output, hP.size, fun k hk hn => hP.block k hk hn⟩
    refine ⟨_, results_tmp rfl _ _ _, ?_, _, _, HF3.out.kept hkp (fun b e1 e2 => ?_), kp_then HK3.out.1 hkp (fun i hi e => ?_), HL1.out, HL3.out⟩
    · show Ending.returned (.int .i64 _) = _
      congr 2
    · subst e1
      obtain ⟨_, c, ty, hc, _⟩ := HF3.out.X e2
      rw [HK3.out.2] at hc
      cases hc
    · have := HS3.out; omega
end Go.Proofs.YtfjocafepigijaaDoor.Ot
