/- jointArcs: the arcs between useful pairs. Conditions: few states, few arcs. -/
import Derived.Test.YtfjocafepigijaaDoorSkM
import Derived.Test.YtfjocafepigijaaDoorIb
import Derived.Test.YtfjocafepigijaaDoorIa
import Derived.Test.YtfjocafepigijaaDoorMlM
import Derived.Test.YtfjocafepigijaaDoorZbM
namespace Go.Proofs.YtfjocafepigijaaDoor.Cu
open Go.RowKit Go.Shelf Mv Set Qp Sk Po Ps Wd Se Mp St Cm Nm Nx Ra Am Pa Tc Rf Na Rii
open CR (nc)
attribute [local go_sem] Oper.semAt_some

/-- what does not turn while the arcs are put together -/
structure Jc (w wr : World) (v : Value) (L : List Nat) (i : Nat) : Prop where
 x4 : wr.heap[w.heap.size]? = some (.cells #[v] 77 (0, 0))
 x6 : wr.heap[w.heap.size + 1]? = some (.cells #[.slice none 0 0] 22 (0, 0))
 x7 : wr.heap[w.heap.size + 3]? = some (.cells #[.map (some (w.heap.size + 2))] 138 (0, 0))
 nm : IsNm wr (w.heap.size + 2) i (nmG L i)
 below : Below w.heap.size w wr
theorem Jc.kept {w wr w' : World} {v : Value} {L : List Nat} {i : Nat} (h : Jc w wr v L i) {X : Nat → Prop} (hk : Kp X wr w') (h4 : ¬ X w.heap.size) (h6 : ¬ X (w.heap.size + 1)) (h7 : ¬ X (w.heap.size + 3)) (hn : ¬ X (w.heap.size + 2)) (hX : ∀ k, k < wr.heap.size → X k → w.heap.size ≤ k) : Jc w w' v L i :=
 ⟨(hk.block _ (lt_at h.x4) h4).trans h.x4, (hk.block _ (lt_at h.x6) h6).trans h.x6, (hk.block _ (lt_at h.x7) h7).trans h.x7, h.nm.kept (hk.block _ h.nm.lt hn), below_kp h.below hk h.below.size hX⟩
theorem Jc.alloc {w wr : World} {v : Value} {L : List Nat} {i : Nat} (h : Jc w wr v L i) (o : Obj) : Jc w (wr.alloc o) v L i := h.kept ((Kp.refl (fun _ => False) wr).alloc o) id id id id (fun _ _ h => h.elim)
theorem Jc.below' {w wr w' : World} {v : Value} {L : List Nat} {i : Nat} (h : Jc w wr v L i) (hb : Below wr.heap.size wr w') : Jc w w' v L i := h.kept (X := fun _ => False) ⟨hb.os, hb.tape, hb.output, hb.size, fun k hk _ => hb.block k hk⟩ id id id id (fun _ _ h => h.elim)
theorem Jc.num {w wr w' : World} {v : Value} {L : List Nat} {i : Nat} (h : Jc w wr v L i) (hi : i < L.length) (hnd : L.Nodup) (hnm : IsNm w' (w.heap.size + 2) (i + 1) (fun a' => if a' = L[i] then some i else nmG L i a')) (hg : wr.grownBy w' (some (w.heap.size + 2))) : Jc w w' v L (i + 1) := by
 have hk : Kp (fun b => b = w.heap.size + 2) wr w' := (Kp.refl _ wr).grown hg (fun b hb _ => (Option.some.inj hb).symm)
 obtain ⟨es, cl, hm⟩ := h.nm.ty
 refine ⟨(hk.block _ (lt_at h.x4) (by omega)).trans h.x4, (hk.block _ (lt_at h.x6) (by omega)).trans h.x6, (hk.block _ (lt_at h.x7) (by omega)).trans h.x7, ?_, below_kp h.below hk h.below.size (fun k _ x => by omega)⟩
 rw [nmG_up hnd hi] at hnm
 exact hnm
theorem jc_first (w : World) (v : Value) (L : List Nat) : Jc w ((((w.alloc (.cells #[v] 77)).alloc (.cells #[.slice none 0 0] 22)).alloc (.map #[] 0)).alloc (.cells #[.map (some (w.heap.size + 2))] 138)) v L 0 := by
 have s1 : (w.alloc (.cells #[v] 77)).heap.size = w.heap.size + 1 := by simp
 have s2 : ((w.alloc (.cells #[v] 77)).alloc (.cells #[.slice none 0 0] 22)).heap.size = w.heap.size + 2 := by simp
 have s3 : (((w.alloc (.cells #[v] 77)).alloc (.cells #[.slice none 0 0] 22)).alloc (.map #[] 0)).heap.size = w.heap.size + 3 := by simp
 have b1 : Below w.heap.size w (w.alloc (.cells #[v] 77)) := (Below.refl _ w).alloc (Nat.le_refl _) _
 have b2 := b1.alloc (show w.heap.size ≤ _ by rw [s1]; omega) (.cells #[.slice none 0 0] 22)
 have b3 := b2.alloc (show w.heap.size ≤ _ by rw [s2]; omega) (.map #[] 0)
 have b4 := b3.alloc (show w.heap.size ≤ _ by rw [s3]; omega) (.cells #[.map (some (w.heap.size + 2))] 138)
 have hm := Na.made ((w.alloc (.cells #[v] 77)).alloc (.cells #[.slice none 0 0] 22))
 rw [s2] at hm
 refine ⟨?_, ?_, ?_, ?_, b4⟩
 ·rw [heap_alloc_old _ _ (by rw [s3]; omega), heap_alloc_old _ _ (by rw [s2]; omega), heap_alloc_old _ _ (by rw [s1]; omega)]
  exact heap_alloc_new _ _
 ·rw [heap_alloc_old _ _ (by rw [s3]; omega), heap_alloc_old _ _ (by rw [s2]; omega)]
  have := heap_alloc_new (w.alloc (.cells #[v] 77)) (.cells #[.slice none 0 0] 22)
  rw [s1] at this
  exact this
 ·have := heap_alloc_new (((w.alloc (.cells #[v] 77)).alloc (.cells #[.slice none 0 0] 22)).alloc (.map #[] 0)) (.cells #[.map (some (w.heap.size + 2))] 138)
  rw [s3] at this
  exact this
 ·rw [nmG_zero]
  exact hm.kept (heap_alloc_old _ _ (by rw [s3]; omega))
theorem load_one {w : World} {g : Nat} {a : Option Addr} {n c : Nat} (h : w.cell? ⟨g, 0, none⟩ = some (.slice a n c)) : (loadVar 22 ⟨g, 0, none⟩).run Tryd.prog w = .ok (.slice a n c) w := by
 go_simp
theorem results_one {fn : Func} {p : Tmp} (hr : fn.results = #[.cell p 22]) {tmps : Array Value} {g : Nat} (hp : tmps.getD p undef = .pointer (some ⟨g, 0, none⟩)) {w : World} {a : Option Addr} {n c : Nat} (h : w.cell? ⟨g, 0, none⟩ = some (.slice a n c)) : (results fn tmps).run Tryd.prog w = .ok (.slice a n c) w := by
 have e : (results fn tmps).run Tryd.prog w = ((asAddr (tmps.getD p undef)).run Tryd.prog w).andThen fun a w₁ => (loadVar 22 a).run Tryd.prog w₁ := by
  simp only [results, hr]
  simp [Sem.run_bind, Result.andThen]
 rw [e, hp]
 simp only [asAddr, Sem.run_pure, Result.andThen_ok]
 exact load_one h
/-- what holds between two rounds -/
def InvJ (base : Nat) (V : World) (Lb : Nat) (X0 : Nat → Prop) (J0 : List Arc) (f : Arc → List Arc) (pre : List Arc) (O : Nat → Prop) (A : World) : Prop := Lst base A Lb (chP (J0 ++ pre.flatMap f)) O ∧ Kp X0 V A ∧ ∀ k, O k → X0 k ∨ V.heap.size + 2 ≤ k
theorem InvJ.past {base : Nat} {V : World} {Lb : Nat} {X0 : Nat → Prop} {J0 : List Arc} {f : Arc → List Arc} {pre : List Arc} {O : Nat → Prop} {A B : World} {A0 : List Arc} (h : InvJ base V Lb X0 J0 f pre O A) (hV : Lst base V Lb A0 X0) (hp : Past (V.heap.size + 1) A B) : InvJ base V Lb X0 J0 f pre O B := by
 obtain ⟨h1, h2, h3⟩ := h
 have hk : Kp (fun b => b = V.heap.size + 1) A B := ⟨hp.os, hp.tape, hp.output, hp.size, fun k hk hne => hp.block k hk hne⟩
 refine ⟨h1.kept hk (fun k hk e => ?_), ⟨hp.os.trans h2.os, hp.tape.trans h2.tape, hp.output.trans h2.output, Nat.le_trans h2.size hp.size, fun k hk hx => (hp.block k (Nat.lt_of_lt_of_le hk h2.size) (by omega)).trans (h2.block k hk hx)⟩, h3⟩
 rcases h3 k hk with h4 | h4
 ·have : k < V.heap.size := by
   rcases hV with ⟨_, h, rfl⟩ | ⟨mb, va, h, _, rfl⟩
   ·have e2 : k = Lb := h4
    rw [e2]; exact lt_at h
   ·rcases h4 with rfl | rfl | h4
    ·exact lt_at h.row
    ·exact h.mp.lt
    ·exact (h.arcs.lt k h4).2
  omega
 ·omega
set_option maxHeartbeats 8000000 in
set_option maxRecDepth 100000 in
theorem joint_any (C SA SB fb gb gc nb m n b2 n2 : Nat) (F R G : Nat → List Arc) (gs ws L : List Nat) (av : Option Addr) (cv : Nat) (ap : Option Addr) (cp : Nat) (w : World)
  (HCP : Hid (IsCp w C SA SB F R fb gb gc nb m gs G)) (HFO : Hid (FOk SA F)) (HRO : Hid (ROk SB R)) (hSA : SA ≤ 40) (hSB : SB ≤ 40) (h0 : 0 < SB) (HN : Hid (n = SA * SB)) (HSET : Hid (IsSet w b2 (.slice av ws.length cv) n2 ws)) (HN2 : Hid (n ≤ n2))
  (HPR : Hid (L.length = 0 ∨ ∃ pb po, ap = some ⟨pb, po, none⟩ ∧ pb < w.heap.size ∧ ∀ i (h : i < L.length), w.cell? ⟨pb, po + i, none⟩ = some (.int .i64 (L[i] : Nat)))) (HLN : Hid (∀ i (h : i < L.length), L[i] < n)) (HND : Hid L.Nodup) (HLM : Hid (∀ k, k < n → mem ws k = true → k ∈ L)) (hLl : L.length ≤ 1600)
  (HAE : Hid (∀ k, k < n → ∀ e ∈ arcsP F R SB k, ∃ z : Nat, e.2.1 = (z : Int) ∧ z < n ∧ W64 e.2.2.1 ∧ W64 e.2.2.2.1)) (HJL : Hid ((jl (fun k => mem ws k) (arcsP F R SB) L L.length).length ≤ 19200)) :
  Calls Tryd.prog 44 #[.pointer (some ⟨C, 0, none⟩), .slice av ws.length cv, .slice ap L.length cp] w fun e w' => ∃ va, e = .returned va ∧ w'.ownsRow w.heap.size 64 5 va (chP (jl (fun k => mem ws k) (arcsP F R SB) L L.length)).length (acs (chP (jl (fun k => mem ws k) (arcsP F R SB) L L.length))) ∧ Below w.heap.size w w' := by
 have hn16 : n ≤ 1600 := by rw [HN.out]; exact Nat.le_trans (Nat.mul_le_mul hSA hSB) (by decide)
 have hmm := @run_makeMap Tryd.prog
 have HJ0 : Hid (Jc w ((((w.alloc (.cells #[.slice av ws.length cv] 77)).alloc (.cells #[.slice none 0 0] 22)).alloc (.map #[] 0)).alloc (.cells #[.map (some (w.heap.size + 2))] 138)) (.slice av ws.length cv) L 0) := jc_first w (.slice av ws.length cv) L
 refine (callsIn_wide (n := 5)).1 ?_
 refine callsIn_of_wp_marks Tryd.func44 rfl trivial (wpIn_wide.2 ?_) rfl
 simp only [Tryd.ntmps44, List.size_toArray, List.length_cons, List.length_nil, Nat.reduceAdd, Nat.reduceSub, Array.replicate_succ, Array.replicate_zero, List.push_toArray, List.append_toArray, List.nil_append, List.cons_append]
 go_upto_region 2 with fail
 generalize hV : (((w.alloc (.cells #[.slice av ws.length cv] 77)).alloc (.cells #[.slice none 0 0] 22)).alloc (.map #[] 0)).alloc (.cells #[.map (some (w.heap.size + 2))] 138) = V0 at *
 clear hV hmm
 go_wp2
 go_loopw [17] (fun a wr => ∃ i : Nat, a = .int .i64 i ∧ i ≤ L.length ∧ Jc w wr (.slice av ws.length cv) L i) (fun a _ => L.length - (intOf a).toNat)
 case atStart => exact ⟨0, rfl, Nat.zero_le _, HJ0.out⟩
 case round =>
  clear HJ0
  obtain ⟨i, rfl, hi, hj⟩ := hrel
  have HJ : Hid (Jc w wr (.slice av ws.length cv) L i) := hj
  by_cases hlt : i < L.length
  ·obtain ⟨pb, po, rfl, hpl, hpc⟩ := HPR.out.resolve_left (by omega)
   have hPn := HLN.out i hlt
   obtain ⟨P, hP⟩ : ∃ P, L[i] = P := ⟨_, rfl⟩
   have p0 := (hj.below.cell (p := ⟨pb, po + i, none⟩) hpl).trans (hpc i hlt)
   obtain ⟨w2, hmu, hnm, hgr⟩ := hj.nm.store (c := i) (show i < maxLen by unfold maxLen; omega) (a := L[i]) (by omega)
   have HJ2 : Hid (Jc w w2 (.slice av ws.length cv) L (i + 1)) := hj.num hlt HND.out hnm hgr
   rw [hP] at p0 hPn hmu
   have u7 := cell_of_row _ _ 0 _ _ _ hj.x7
   clear hj hpc hnm hgr hP
   go_wp2
   go_roundw
   case rel => exact ⟨i + 1, by go_num, hlt, HJ2.out⟩
   case measure => simp [intOf]; omega
  ·obtain rfl : i = L.length := by omega
   clear hj
   go_upto_region 8 with fail
   have HJ3 : Hid (Jc w (wr.alloc (.cells #[.slice none 0 0, .map none] 132)) (.slice av ws.length cv) L L.length) := HJ.out.alloc _
   have HL3 : Hid (Lst w.heap.size (wr.alloc (.cells #[.slice none 0 0, .map none] 132)) wr.heap.size (chP (jl (fun k => mem ws k) (arcsP F R SB) L 0)) (fun b => b = wr.heap.size)) := .inl ⟨rfl, heap_alloc_new _ _, rfl⟩
   have hlb : w.heap.size ≤ wr.heap.size := HJ.out.below.size
   have hlb4 : w.heap.size + 3 < wr.heap.size := lt_at HJ.out.x7
   clear HJ
   generalize hV : wr.alloc (.cells #[.slice none 0 0, .map none] 132) = V1 at *
   clear hV
   generalize wr.heap.size = Lb at *
   go_wp2
   refine wp_loop_ghost_k (fun gk a wr => ∃ (i : Nat) (rs : List Nat) (O : Nat → Prop) (v11 v12 v29 v30 v31 v32 v33 v34 v35 v57 : Value), i ≤ L.length ∧ gk = L.length - i ∧ Jc w wr (.slice av ws.length cv) L L.length ∧ Lst w.heap.size wr Lb (chP (jl (fun k => mem ws k) (arcsP F R SB) L i)) O ∧ rs.Nodup ∧ (∀ r ∈ rs, w.heap.size ≤ r ∧ wr.heap[r]? = some (.deferred (some []))) ∧ a = { tmps := #[.pointer (some ⟨C, 0, none⟩), .slice av ws.length cv, .slice ap L.length cp, undef, .pointer (some ⟨w.heap.size, 0, none⟩), undef, .pointer (some ⟨w.heap.size + 1, 0, none⟩), .pointer (some ⟨w.heap.size + 1 + 1 + 1, 0, none⟩), u8, u9, .pointer (some ⟨Lb, 0, none⟩), v11, v12, undef, .map (some (w.heap.size + 1 + 1)), .slice ap L.length cp, .int .i64 (L.length : Int), .int .i64 (L.length : Int), .bool false, u19, u20, u21, u22, u23, u24, u25, .slice ap L.length cp, .int .i64 (L.length : Int), .int .i64 (i : Int), v29, v30, v31, v32, v33, v34, v35, undef, undef, undef, undef, undef, undef, undef, undef, undef, undef, undef, undef, undef, undef, undef, undef, undef, undef, undef, undef, undef, v57, undef, undef], defers := mks rs }) L.length ?_ ?_
   ·exact ⟨0, [], _, undef, undef, undef, undef, undef, undef, undef, undef, undef, undef, Nat.zero_le _, rfl, HJ3.out, HL3.out, List.nodup_nil, fun r h => (by cases h), rfl⟩
   rintro gk a wr ⟨i, rs, O, v11, v12, v29, v30, v31, v32, v33, v34, v35, v57, hi, hgk, hj, hl, hnd, hrs, rfl⟩ J K hJ hK
   have HJ : Hid (∀ k a' w', _ → J k a' w') := hJ
   have HK : Hid (∀ a' w', Handed J gk a' w' → K a' w') := hK
   have HJc : Hid (Jc w wr (.slice av ws.length cv) L L.length) := hj
   have HLs : Hid (Lst w.heap.size wr Lb (chP (jl (fun k => mem ws k) (arcsP F R SB) L i)) O) := hl
   have HRS : Hid (rs.Nodup ∧ ∀ r ∈ rs, w.heap.size ≤ r ∧ wr.heap[r]? = some (.deferred (some []))) := ⟨hnd, hrs⟩
   have HGK : Hid (gk = L.length - i) := hgk
   clear HJ3 HL3 hJ hK hj hl hnd hrs hgk
   by_cases hlt : i < L.length
   ·obtain ⟨pb, po, rfl, hpl, hpc⟩ := HPR.out.resolve_left (by omega)
    have hkn := HLN.out i hlt
    obtain ⟨k, hk⟩ : ∃ k, L[i] = k := ⟨_, rfl⟩
    have HLK : Hid (L.getD i 0 = k) := by show _ = _; rw [List.getD_eq_getElem?_getD, List.getElem?_eq_getElem hlt, Option.getD_some, hk]
    have p0 := (HJc.out.below.cell (p := ⟨pb, po + i, none⟩) hpl).trans (hpc i hlt)
    rw [hk] at p0 hkn
    have hk16 : k ≤ 1600 := by omega
    have hpS := Nat.div_lt_of_lt_mul (show k < SB * SA by rw [Nat.mul_comm, ← HN.out]; exact hkn)
    have hqS := Nat.mod_lt k h0
    obtain ⟨p, hp⟩ : ∃ p, k / SB = p := ⟨_, rfl⟩
    obtain ⟨q, hq⟩ : ∃ q, k % SB = q := ⟨_, rfl⟩
    have HPQ : Hid (k / SB = p ∧ k % SB = q) := ⟨hp, hq⟩
    rw [hp] at hpS
    rw [hq] at hqS
    have hal := (Below.refl _ wr).alloc (Nat.le_refl _) (.cells #[.int .i64 (i : Int)] 3)
    have HJ1 : Hid (Jc w (wr.alloc (.cells #[.int .i64 (i : Int)] 3)) (.slice av ws.length cv) L L.length) := HJc.out.alloc _
    have KA := arcs_any C SB k p q _ (wr.alloc (.cells #[.int .i64 (i : Int)] 3)) (HCP.out.on HJ1.out.below).row rfl h0 hSB hk16 hp hq
    have x11 := heap_alloc_new wr (.cells #[.int .i64 (i : Int)] 3)
    have HL1 : Hid (Lst w.heap.size (wr.alloc (.cells #[.int .i64 (i : Int)] 3)) Lb (chP (jl (fun k => mem ws k) (arcsP F R SB) L i)) O) := HLs.out.kept ((Kp.refl (fun _ => False) wr).alloc _) (fun _ _ => id)
    have HR1 : Hid (rs.Nodup ∧ ∀ r ∈ rs, w.heap.size ≤ r ∧ (wr.alloc (.cells #[.int .i64 (i : Int)] 3)).heap[r]? = some (.deferred (some []))) := ⟨HRS.out.1, fun r hr => ⟨(HRS.out.2 r hr).1, (hal.block r (lt_at (HRS.out.2 r hr).2)).trans (HRS.out.2 r hr).2⟩⟩
    clear HJc HLs HRS hal hpc hk hp hq
    go_wp2_with (go_at_call 72; (with_reducible refine KA.mono ?_); clear KA; rintro e V ⟨bC, bp, bk, bq, rfl, hbx, hbv⟩; have HBX : Hid (Bx V bC bp bk bq C p k q) := hbx; have HBV : Hid (Below _ _ V) := hbv; clear hbx hbv)
    clear p0
    have HJV : Hid (Jc w V (.slice av ws.length cv) L L.length) := HJ1.out.below' HBV.out
    have HLV : Hid (Lst w.heap.size V Lb (chP (jl (fun k => mem ws k) (arcsP F R SB) L i)) O) := HL1.out.kept (X := fun _ => False) ⟨HBV.out.os, HBV.out.tape, HBV.out.output, HBV.out.size, fun k hk _ => HBV.out.block k hk⟩ (fun _ _ => id)
    have HRV : Hid (rs.Nodup ∧ ∀ r ∈ rs, w.heap.size ≤ r ∧ V.heap[r]? = some (.deferred (some []))) := ⟨HR1.out.1, fun r hr => ⟨(HR1.out.2 r hr).1, (HBV.out.block r (lt_at (HR1.out.2 r hr).2)).trans (HR1.out.2 r hr).2⟩⟩
    have xV := (HBV.out.block _ (lt_at x11)).trans x11
    clear HJ1 HL1 HR1 HBV x11
    generalize wr.heap.size = b11 at *
    have hLbV : Lb < V.heap.size := lt_at HLV.out.lb.2.choose_spec
    have hwV : w.heap.size ≤ V.heap.size := HJV.out.below.size
    refine wpIn_wide.1 (range_tells3 (n := 5) rfl (by omega) (gf := 96) (lb := #[.pointer (some ⟨bC, 0, none⟩), .pointer (some ⟨bp, 0, none⟩), .pointer (some ⟨bk, 0, none⟩), .pointer (some ⟨bq, 0, none⟩)]) rfl trivial (enters_of Tryd.func96 (by kernel_rfl) rfl)
     (arcs_tells C SA SB fb gb gc nb m k p q bC bp bk bq (5 - 1) F R G gs w V (by omega) HCP.out HFO.out HRO.out hSA hSB HPQ.out hpS hqS HJV.out.below HBX.out) (Below.refl _ _) ?hX (fun _ => rfl) (InvJ w.heap.size V Lb O (jl (fun k => mem ws k) (arcsP F R SB) L i) (jm (fun k => mem ws k) L i)) ?hI ?hO O ?h0 ?hround ?hdone)
    case hX =>
     have b1 := lt_at HBX.out.c
     have b2 := lt_at HBX.out.p
     have b3 := lt_at HBX.out.k
     have b4 := lt_at HBX.out.q
     rintro j (hj | rfl | rfl | rfl | rfl) <;> omega
    case hI => exact fun pre O' A B h hr hp => h.past HLV.out hp
    case hO =>
     rintro pre O' A j h hj
     have hd := h.2.2 j hj
     have hlt := (h.1.lt hlb hj).2
     have b1 := lt_at HBX.out.c
     have b2 := lt_at HBX.out.p
     have b3 := lt_at HBX.out.k
     have b4 := lt_at HBX.out.q
     rcases hd with hd | hd
     ·have h2 := HLV.out.lt hlb hd
      refine ⟨?_, hlt, by omega, by omega⟩
      rintro (hj | rfl | rfl | rfl | rfl)
      ·omega
      ·exact HLV.out.kind HBX.out.c (by decide) (by decide) hd
      ·exact HLV.out.kind HBX.out.p (by decide) (by decide) hd
      ·exact HLV.out.kind HBX.out.k (by decide) (by decide) hd
      ·exact HLV.out.kind HBX.out.q (by decide) (by decide) hd
     ·exact ⟨by rintro (hj | rfl | rfl | rfl | rfl) <;> omega, hlt, by omega, by omega⟩
    case h0 =>
     intro A hA
     have hk : Kp (fun _ => False) V A := ⟨hA.os, hA.tape, hA.output, hA.size, fun j hj _ => hA.block j hj⟩
     exact ⟨by simpa using HLV.out.kept hk (fun _ _ => id), hk.mono (fun _ _ h => h.elim), fun j hj => .inl hj⟩
    case hround =>
     rintro pre O' x A hA hrec hinv hpre
     have hxm : x ∈ arcsP F R SB k := by
      obtain ⟨t, ht⟩ := hpre
      rw [← ht]
      simp
     obtain ⟨z, hz, hzn, hwi, hwo⟩ := HAE.out k hkn x hxm
     have hlen := jl_part (U := fun k => mem ws k) (A := arcsP F R SB) hlt HJL.out (pre := pre) (by rw [HLK.out]; exact List.IsPrefix.trans (List.prefix_append _ _) hpre)
     have HPL : Hid ((chP (jl (fun k => mem ws k) (arcsP F R SB) L i ++ pre.flatMap (jm (fun k => mem ws k) L i))).length ≤ 19200) := Nat.le_trans (chP_len _) hlen
     obtain ⟨xF, xT, xI, xO, xW⟩ := x
     dsimp only at hz hwi hwo
     subst hz
     refine ⟨{ tmps := #[.pointer (some ⟨C, 0, none⟩), .slice av ws.length cv, .slice (some ⟨pb, po, none⟩) L.length cp, undef, .pointer (some ⟨w.heap.size, 0, none⟩), undef, .pointer (some ⟨w.heap.size + 1, 0, none⟩), .pointer (some ⟨w.heap.size + 1 + 1 + 1, 0, none⟩), u8, u9, .pointer (some ⟨Lb, 0, none⟩), .pointer (some ⟨b11, 0, none⟩), .int .i64 (k : Int), .pointer (some ⟨A.heap.size, 0, none⟩), .map (some (w.heap.size + 1 + 1)), .slice (some ⟨pb, po, none⟩) L.length cp, .int .i64 (L.length : Int), .int .i64 (L.length : Int), .bool false, u19, u20, u21, u22, u23, u24, u25, .slice (some ⟨pb, po, none⟩) L.length cp, .int .i64 (L.length : Int), .int .i64 (i : Int), .bool true, .int .i64 (i : Int), .pointer (some ⟨pb, po + i, none⟩), .int .i64 (k : Int), .pointer (some ⟨C, 0, none⟩), .int .i64 (k : Int), .func (.func 96) #[] #[.pointer (some ⟨bC, 0, none⟩), .pointer (some ⟨bp, 0, none⟩), .pointer (some ⟨bk, 0, none⟩), .pointer (some ⟨bq, 0, none⟩)], .agg #[.int .i64 xF, .int .i64 (z : Int), .int .i64 xI, .int .i64 xO, .int .i64 xW], undef, undef, undef, undef, undef, undef, undef, undef, undef, undef, undef, undef, undef, undef, undef, undef, undef, undef, undef, undef, v57, undef, undef], defers := [] }, A.alloc (.cells #[.int .i64 xF, .int .i64 (z : Int), .int .i64 xI, .int .i64 xO, .int .i64 xW] 64), fun K hK => ?_, (Below.refl _ A).alloc (Nat.le_refl _) _, fun r => ?_⟩
     ·dsimp only [encA]
      gi_wp2
      exact hK
     ·clear hxm hlen hpre
      have hrA : IsRec (V.heap.size + 1) (A.alloc (.cells #[.int .i64 xF, .int .i64 (z : Int), .int .i64 xI, .int .i64 xO, .int .i64 xW] 64)) := by
       obtain ⟨r', hr'⟩ := hrec
       exact ⟨r', (heap_alloc_old A (.cells #[.int .i64 xF, .int .i64 (z : Int), .int .i64 xI, .int .i64 xO, .int .i64 xW] 64) (lt_at hr')).trans hr'⟩
      have hP2 : Past (V.heap.size + 1) (A.alloc (.cells #[.int .i64 xF, .int .i64 (z : Int), .int .i64 xI, .int .i64 xO, .int .i64 xW] 64)) ((A.alloc (.cells #[.int .i64 xF, .int .i64 (z : Int), .int .i64 xI, .int .i64 xO, .int .i64 xW] 64)).putObj (V.heap.size + 1) (.loop r)) := Past.put _ _ _
      have hP : Past (V.heap.size + 1) A ((A.alloc (.cells #[.int .i64 xF, .int .i64 (z : Int), .int .i64 xI, .int .i64 xO, .int .i64 xW] 64)).putObj (V.heap.size + 1) (.loop r)) := (Past.of_below ((Below.refl _ A).alloc (Nat.le_refl _) _)).trans hP2
      have hbx : ((A.alloc (.cells #[.int .i64 xF, .int .i64 (z : Int), .int .i64 xI, .int .i64 xO, .int .i64 xW] 64)).putObj (V.heap.size + 1) (.loop r)).heap[A.heap.size]? = some (.cells #[.int .i64 xF, .int .i64 (z : Int), .int .i64 xI, .int .i64 xO, .int .i64 xW] 64 (0, 0)) := (hP2.block _ (by simp) (by omega)).trans (heap_alloc_new _ _)
      have hin := hinv.past HLV.out hP
      have hszA : V.heap.size + 2 ≤ ((A.alloc (.cells #[.int .i64 xF, .int .i64 (z : Int), .int .i64 xI, .int .i64 xO, .int .i64 xW] 64)).putObj (V.heap.size + 1) (.loop r)).heap.size := Nat.le_trans hA hP.size
      have hnO : ¬ O' A.heap.size := fun h => absurd (hinv.1.lt hlb h).2 (by omega)
      have hbA : A.heap.size < ((A.alloc (.cells #[.int .i64 xF, .int .i64 (z : Int), .int .i64 xI, .int .i64 xO, .int .i64 xW] 64)).putObj (V.heap.size + 1) (.loop r)).heap.size := lt_at hbx
      have hbV : V.heap.size ≤ A.heap.size := by omega
      clear hP hP2 hrA hrec hinv
      generalize hVA : (A.alloc (.cells #[.int .i64 xF, .int .i64 (z : Int), .int .i64 xI, .int .i64 xO, .int .i64 xW] 64)).putObj (V.heap.size + 1) (.loop r) = A1 at *
      clear hVA
      generalize A.heap.size = bx at *
      have hkp := hin.2.1
      have hn4 := HLV.out.kind HJV.out.x4 (by decide) (by decide)
      have hn7 := HLV.out.kind HJV.out.x7 (by decide) (by decide)
      have hn11 := HLV.out.kind xV (by decide) (by decide)
      have hnm : ¬ O (w.heap.size + 2) := by
       obtain ⟨es, cl, hm⟩ := HJV.out.nm.ty
       exact HLV.out.maps hm (by omega)
      have x4 := (hkp.block _ (lt_at HJV.out.x4) hn4).trans HJV.out.x4
      have x7 := (hkp.block _ (lt_at HJV.out.x7) hn7).trans HJV.out.x7
      have x11 := (hkp.block _ (lt_at xV) hn11).trans xV
      have hnm1 := HJV.out.nm.kept (hkp.block _ HJV.out.nm.lt hnm)
      have HBW : Hid (Below w.heap.size w A1) := below_kp HJV.out.below hkp HJV.out.below.size (fun j _ hj => (HLV.out.lt hlb hj).1)
      have KH := has_quiet b2 (.slice av ws.length cv) n2 z ws A1 (set_below HSET.out HBW.out) (Nat.lt_of_lt_of_le hzn HN2.out) (by omega)
      have HIN : Hid (InvJ w.heap.size V Lb O (jl (fun k => mem ws k) (arcsP F R SB) L i) (jm (fun k => mem ws k) L i) pre O' A1) := hin
      have c4 := cell_of_row _ _ 0 _ _ _ x4
      have cz := cell_of_row _ _ 1 _ _ _ hbx
      have HX : Hid (A1.heap[w.heap.size + 3]? = some (.cells #[.map (some (w.heap.size + 2))] 138 (0, 0)) ∧ A1.heap[b11]? = some (.cells #[.int .i64 (i : Int)] 3 (0, 0)) ∧ A1.heap[bx]? = some (.cells #[.int .i64 xF, .int .i64 (z : Int), .int .i64 xI, .int .i64 xO, .int .i64 xW] 64 (0, 0)) ∧ IsNm A1 (w.heap.size + 2) L.length (nmG L L.length) ∧ ¬ O' bx) := ⟨x7, x11, hbx, hnm1, hnO⟩
      clear hin hkp hn4 hn7 hn11 hnm x4 x7 x11 hbx hnm1 hnO
      cases hmz : mem ws z with
      | false =>
       rw [hmz] at KH
       gi_wp2_with (refine ⟨trivial, ?_⟩; gi_at_call 68; refine (CallsIn.inRound _ (callsIn_wide.2 KH)).mono ?_; rintro e w6 ⟨rfl, d, rfl⟩)
       refine ⟨O', ⟨rfl, rfl, rfl, Nat.le_refl _, fun j hj hno => ⟨hno, rfl⟩⟩, ?_⟩
       obtain ⟨q1, q2, q3⟩ := HIN.out
       refine ⟨?_, q2.drewN d, q3⟩
       rw [List.flatMap_append]
       have e0 : [((xF, (z : Int), xI, xO, xW) : Arc)].flatMap (jm (fun k => mem ws k) L i) = [] := by simp [jm, hmz]
       rw [e0, List.append_nil]
       exact q1.kept ((Kp.refl (fun _ => False) A1).drewN d) (fun _ _ => id)
      | true =>
       rw [hmz] at KH
       have hzL := HLM.out z hzn hmz
       have hcz := nmG_all hzL
       obtain ⟨id_, hid⟩ : ∃ id_, L.idxOf z = id_ := ⟨_, rfl⟩
       rw [hid] at hcz
       have hidl : id_ ≤ 1600 := by rw [← hid]; exact Nat.le_of_lt (Nat.lt_of_lt_of_le (List.idxOf_lt_length_of_mem hzL) hLl)
       have HLO : Hid (∀ W : World, IsNm W (w.heap.size + 2) L.length (nmG L L.length) → (Instr.lookup 138 (.map (some (w.heap.size + 2))) (.int .i64 (z : Int)) false).run Tryd.prog W = .ok (.int .i64 (id_ : Int)) W) := fun W h => h.look (by omega) hcz
       have HIJ : Hid ([((xF, (z : Int), xI, xO, xW) : Arc)].flatMap (jm (fun k => mem ws k) L i) = [((i : Int), (id_ : Int), xI, xO, xW)]) := by show _ = _; simp [jm, hmz, hid]
       have HOK : Hid (Ok4 ((i : Int), (id_ : Int), xI, xO)) := ⟨wf_small i (by omega), wf_small id_ (by omega), hwi, hwo⟩
       clear hcz hid hzL
       gi_upto_region 14 with (refine ⟨trivial, ?_⟩; gi_at_call 68; refine (CallsIn.inRound _ (callsIn_wide.2 KH)).mono ?_; rintro e w6 ⟨rfl, d, rfl⟩)
       clear KH c4 cz
       have HI2 : Hid (InvJ w.heap.size V Lb O (jl (fun k => mem ws k) (arcsP F R SB) L i) (jm (fun k => mem ws k) L i) pre O' (A1.drewN d).drew) := ⟨HIN.out.1.kept ((Kp.refl (fun _ => False) A1).drewN (d + 1)) (fun _ _ => id), HIN.out.2.1.drewN (d + 1), HIN.out.2.2⟩
       have HX2 : Hid ((A1.drewN d).drew.heap[w.heap.size + 3]? = some (.cells #[.map (some (w.heap.size + 2))] 138 (0, 0)) ∧ (A1.drewN d).drew.heap[b11]? = some (.cells #[.int .i64 (i : Int)] 3 (0, 0)) ∧ (A1.drewN d).drew.heap[bx]? = some (.cells #[.int .i64 xF, .int .i64 (z : Int), .int .i64 xI, .int .i64 xO, .int .i64 xW] 64 (0, 0)) ∧ IsNm (A1.drewN d).drew (w.heap.size + 2) L.length (nmG L L.length) ∧ ¬ O' bx) := HX.out
       have HK0 : Hid (Kp (fun b => b = bx ∨ O' b) A1 (A1.drewN d).drew) := (Kp.refl _ A1).drewN (d + 1)
       refine region_in (l := V.heap.size + 1) (S := fun W => W.heap[w.heap.size + 3]? = some (.cells #[.map (some (w.heap.size + 2))] 138 (0, 0)) ∧ W.heap[b11]? = some (.cells #[.int .i64 (i : Int)] 3 (0, 0)) ∧ IsNm W (w.heap.size + 2) L.length (nmG L L.length)) (by kernel_rfl) (mild_of (by kernel_rfl)) (fun ⟨_, _, h⟩ => h) (by exact ⟨HX2.out.1, HX2.out.2.1, HX2.out.2.2.2.1⟩) (fun hS0 => ?_)
       generalize hVd : (A1.drewN d).drew = A3 at *
       clear hVd
       have hbx := HX2.out.2.2.1
       have b0 := cell_of_row _ _ 0 _ _ _ hbx
       have b1 := cell_of_row _ _ 1 _ _ _ hbx
       have f0 := frozen_of_row _ _ 0 _ 64 hbx
       have g1 := heap_setCell_same A3 bx 0 _ 64 (.int .i64 (i : Int)) hbx
       have g2 := heap_setCell_same _ bx 1 _ 64 (.int .i64 (id_ : Int)) g1
       have b1' := cell_of_row _ _ 1 _ _ _ g1
       have f1' := frozen_of_row _ _ 1 _ 64 g1
       have e3 : w.heap.size + 3 ≠ bx := by omega
       have e11 : b11 ≠ bx := by have := lt_at xV; omega
       have e2 : w.heap.size + 2 ≠ bx := by omega
       have hS1 : (A3.setCell ⟨bx, 0, none⟩ (.int .i64 (i : Int))).heap[w.heap.size + 3]? = some (.cells #[.map (some (w.heap.size + 2))] 138 (0, 0)) ∧ (A3.setCell ⟨bx, 0, none⟩ (.int .i64 (i : Int))).heap[b11]? = some (.cells #[.int .i64 (i : Int)] 3 (0, 0)) ∧ IsNm (A3.setCell ⟨bx, 0, none⟩ (.int .i64 (i : Int))) (w.heap.size + 2) L.length (nmG L L.length) := ⟨(heap_setCell_other A3 ⟨bx, 0, none⟩ _ _ e3).trans hS0.1, (heap_setCell_other A3 ⟨bx, 0, none⟩ _ _ e11).trans hS0.2.1, hS0.2.2.kept (heap_setCell_other A3 ⟨bx, 0, none⟩ _ _ e2)⟩
       have hS2 : ((A3.setCell ⟨bx, 0, none⟩ (.int .i64 (i : Int))).setCell ⟨bx, 1, none⟩ (.int .i64 (id_ : Int))).heap[w.heap.size + 3]? = some (.cells #[.map (some (w.heap.size + 2))] 138 (0, 0)) ∧ ((A3.setCell ⟨bx, 0, none⟩ (.int .i64 (i : Int))).setCell ⟨bx, 1, none⟩ (.int .i64 (id_ : Int))).heap[b11]? = some (.cells #[.int .i64 (i : Int)] 3 (0, 0)) ∧ IsNm ((A3.setCell ⟨bx, 0, none⟩ (.int .i64 (i : Int))).setCell ⟨bx, 1, none⟩ (.int .i64 (id_ : Int))) (w.heap.size + 2) L.length (nmG L L.length) := ⟨(heap_setCell_other (A3.setCell ⟨bx, 0, none⟩ (.int .i64 (i : Int))) ⟨bx, 1, none⟩ _ _ e3).trans hS1.1, (heap_setCell_other (A3.setCell ⟨bx, 0, none⟩ (.int .i64 (i : Int))) ⟨bx, 1, none⟩ _ _ e11).trans hS1.2.1, hS1.2.2.kept (heap_setCell_other (A3.setCell ⟨bx, 0, none⟩ (.int .i64 (i : Int))) ⟨bx, 1, none⟩ _ _ e2)⟩
       refine take_at 0 42 (.int .i64 (i : Int)) rfl rfl rfl (by kernel_rfl) (by kernel_rfl) (by kernel_rfl) (fun _ _ _ h => h) (fun W9 hSw => by have q := cell_of_row _ _ 0 _ _ _ hSw.2.1; go_simp) hS0 ?_
       simp only [zS0, zS1, zS2]
       refine take_at 1 43 (.map (some (w.heap.size + 2))) rfl rfl rfl (by kernel_rfl) (by kernel_rfl) (by kernel_rfl) (fun _ _ _ h => h) (fun W9 hSw => by have q := cell_of_row _ _ 0 _ _ _ hSw.1; go_simp) hS0 ?_
       simp only [zS0, zS1, zS2]
       refine take_at 2 44 (.pointer (some ⟨bx, 1, none⟩)) rfl rfl rfl (by kernel_rfl) (by kernel_rfl) (by kernel_rfl) (fun _ _ _ h => h) (fun W9 hSw => by go_simp) hS0 ?_
       simp only [zS0, zS1, zS2]
       refine one_at 3 (by kernel_rfl) rfl rfl ?_
       refine op_value (.int .i64 (z : Int)) 45 (w' := A3) rfl (by go_simp) ⟨hS0, ?_⟩
       simp only [zS0, zS1, zS2]
       refine take_at 5 47 (.pointer (some ⟨bx, 0, none⟩)) rfl rfl rfl (by kernel_rfl) (by kernel_rfl) (by kernel_rfl) (fun _ _ _ h => h) (fun W9 hSw => by go_simp) hS0 ?_
       simp only [zS0, zS1, zS2]
       refine take_at 4 46 (.int .i64 (id_ : Int)) rfl rfl rfl (by kernel_rfl) (by kernel_rfl) (by kernel_rfl) (fun _ _ _ h => h) (fun W9 hSw => by have q := HLO.out _ hSw.2.2; go_simp) hS0 ?_
       simp only [zS0, zS1, zS2]
       refine one_at 6 (by kernel_rfl) rfl rfl ?_
       refine op_skip (w' := A3.setCell ⟨bx, 0, none⟩ (.int .i64 (i : Int))) rfl (by go_simp) ⟨hS1, ?_⟩
       refine take_at 7 48 (.pointer (some ⟨bx, 1, none⟩)) rfl rfl rfl (by kernel_rfl) (by kernel_rfl) (by kernel_rfl) (fun _ _ _ h => h) (fun W9 hSw => by go_simp) hS1 ?_
       simp only [zS0, zS1, zS2]
       refine one_at 8 (by kernel_rfl) rfl rfl ?_
       refine op_skip (w' := (A3.setCell ⟨bx, 0, none⟩ (.int .i64 (i : Int))).setCell ⟨bx, 1, none⟩ (.int .i64 (id_ : Int))) rfl (by go_simp) ⟨hS2, ?_⟩
       refine wpAnyH_done (by kernel_rfl) ?_ _
       have hkx : Kp (fun b => b = bx) A3 ((A3.setCell ⟨bx, 0, none⟩ (.int .i64 (i : Int))).setCell ⟨bx, 1, none⟩ (.int .i64 (id_ : Int))) := ((Kp.refl (fun b => b = bx) A3).setCell bx 0 (.int .i64 (i : Int)) (fun _ => rfl)).setCell bx 1 (.int .i64 (id_ : Int)) (fun _ => rfl)
       have HL4 : Hid (Lst w.heap.size ((A3.setCell ⟨bx, 0, none⟩ (.int .i64 (i : Int))).setCell ⟨bx, 1, none⟩ (.int .i64 (id_ : Int))) Lb (chP (jl (fun k => mem ws k) (arcsP F R SB) L i ++ pre.flatMap (jm (fun k => mem ws k) L i))) O') := HI2.out.1.kept hkx (fun j hj e => HX2.out.2.2.2.2 (by rw [← show j = bx from e]; exact hj))
       have HK4 : Hid (Kp (fun b => b = bx ∨ O' b) A1 ((A3.setCell ⟨bx, 0, none⟩ (.int .i64 (i : Int))).setCell ⟨bx, 1, none⟩ (.int .i64 (id_ : Int)))) := HK0.out.trans (hkx.mono (fun _ _ e => .inl e))
       have hb4 : ((A3.setCell ⟨bx, 0, none⟩ (.int .i64 (i : Int))).setCell ⟨bx, 1, none⟩ (.int .i64 (id_ : Int))).heap[bx]? = some (.cells #[.int .i64 (i : Int), .int .i64 (id_ : Int), .int .i64 xI, .int .i64 xO, .int .i64 xW] 64 (0, 0)) := by simpa using g2
       clear hS0 hS1 hS2 hbx b0 b1 f0 g1 g2 b1' f1' e3 e11 e2 hkx HX2 HI2 HK0
       generalize hV4 : (A3.setCell ⟨bx, 0, none⟩ (.int .i64 (i : Int))).setCell ⟨bx, 1, none⟩ (.int .i64 (id_ : Int)) = A4 at *
       clear hV4
       have q0 := cell_of_row _ _ 0 _ _ _ hb4
       have q1 := cell_of_row _ _ 1 _ _ _ hb4
       have q2 := cell_of_row _ _ 2 _ _ _ hb4
       have q3 := cell_of_row _ _ 3 _ _ _ hb4
       have q4 := cell_of_row _ _ 4 _ _ _ hb4
       have hz4 := HK4.out.size
       have KP := HL4.out.put (i : Int) (id_ : Int) xI xO xW HOK.out (Nat.le_trans HPL.out (by decide)) (Nat.le_trans HBW.out.size hz4)
       have hln := Nat.le_trans (putP_len (chP (jl (fun k => mem ws k) (arcsP F R SB) L i ++ pre.flatMap (jm (fun k => mem ws k) L i))) ((i : Int), (id_ : Int), xI, xO, xW)) (Nat.succ_le_succ HPL.out)
       obtain ⟨AA, hAA⟩ : ∃ AA, putP (chP (jl (fun k => mem ws k) (arcsP F R SB) L i ++ pre.flatMap (jm (fun k => mem ws k) L i))) ((i : Int), (id_ : Int), xI, xO, xW) = AA := ⟨_, rfl⟩
       have HAA : Hid (chP (jl (fun k => mem ws k) (arcsP F R SB) L i ++ (pre ++ [((xF, (z : Int), xI, xO, xW) : Arc)]).flatMap (jm (fun k => mem ws k) L i)) = AA) := by
        show _ = _
        rw [List.flatMap_append, HIJ.out, ← List.append_assoc, chP_up]
        exact hAA
       rw [hAA] at KP hln
       obtain ⟨ln, hlne⟩ : ∃ ln, AA.length = ln := ⟨_, rfl⟩
       rw [hlne] at hln
       have HLE : Hid (AA.length = ln) := hlne
       have hgt : ¬ (20000 : Int) < (ln : Int) := by omega
       have hszK : V.heap.size + 2 ≤ A4.heap.size := Nat.le_trans hszA hz4
       have hbx4 : bx < A4.heap.size := lt_at hb4
       clear hAA hb4 hlne hln hz4
       gi_wp2_with (refine ⟨trivial, ?_⟩; gi_at_call 65; refine (CallsIn.inRound _ (callsIn_wide.2 KP)).mono ?_; clear KP; rintro e w9 ⟨rfl, O2, hl2, hk2, ho2⟩; obtain ⟨ad, cd, vm, hrow, hown⟩ := hl2.head; have l0 := cell_of_row _ _ 0 _ _ _ hrow; rw [HLE.out] at l0; have HL9 : Hid (Lst w.heap.size w9 Lb AA O2) := hl2; have HK9 : Hid (Kp O' A4 w9) := hk2; have HO9 : Hid (∀ k, O2 k → O' k ∨ A4.heap.size ≤ k) := ho2; clear hl2 hk2 ho2 hrow hown)
       have hK : Kp (fun b => b = bx ∨ O' b) A1 w9 := HK4.out.trans (HK9.out.mono (fun _ _ e => .inr e))
       have hq3 := HIN.out.2.2
       refine ⟨O2, ⟨hK.os, hK.tape, hK.output, hK.size, fun j hj hno => ⟨fun h2 => ?_, hK.block j (by omega) (by rintro (rfl | h); exact absurd hj (Nat.lt_irrefl _); exact hno h)⟩⟩, by rw [HAA.out]; exact HL9.out, ⟨hK.os.trans HIN.out.2.1.os, hK.tape.trans HIN.out.2.1.tape, hK.output.trans HIN.out.2.1.output, Nat.le_trans HIN.out.2.1.size hK.size, fun j hj hno => (hK.block j (by omega) (fun h => ?_)).trans (HIN.out.2.1.block j hj hno)⟩, fun j hj => ?_⟩
       ·rcases HO9.out j h2 with h | h
        ·exact hno h
        ·omega
       ·rcases h with rfl | h
        ·omega
        ·rcases hq3 j h with h | h
         ·exact hno h
         ·omega
       ·rcases HO9.out j hj with h | h
        ·exact hq3 j h
        ·exact .inr (by omega)
    case hdone =>
     rintro xs O' A hA hxs hinv hdf
     subst hxs
     obtain ⟨hls, hkp, hoo⟩ := hinv
     have HLA : Hid (Lst w.heap.size A Lb (chP (jl (fun k => mem ws k) (arcsP F R SB) L (i + 1))) O') := by show Lst _ _ _ _ _; rw [jl_up, HLK.out]; exact hls
     have hn4 := HLV.out.kind HJV.out.x4 (by decide) (by decide)
     have hn6 := HLV.out.kind HJV.out.x6 (by decide) (by decide)
     have hn7 := HLV.out.kind HJV.out.x7 (by decide) (by decide)
     have hnm : ¬ O (w.heap.size + 2) := by
      obtain ⟨es, cl, hm⟩ := HJV.out.nm.ty
      exact HLV.out.maps hm (by omega)
     have HJA : Hid (Jc w A (.slice av ws.length cv) L L.length) := HJV.out.kept hkp hn4 hn6 hn7 hnm (fun j _ hj => (HLV.out.lt hlb hj).1)
     have HRA : Hid ((V.heap.size :: rs).Nodup ∧ ∀ r ∈ V.heap.size :: rs, w.heap.size ≤ r ∧ A.heap[r]? = some (.deferred (some []))) := by
      refine ⟨List.nodup_cons.2 ⟨fun h => absurd (lt_at (HRV.out.2 _ h).2) (Nat.lt_irrefl _), HRV.out.1⟩, fun r hr => ?_⟩
      rcases List.mem_cons.1 hr with rfl | hr
      ·exact ⟨hwV, hdf⟩
      ·have h1 := (HRV.out.2 r hr).2
       exact ⟨(HRV.out.2 r hr).1, (hkp.block r (lt_at h1) (HLV.out.mark h1)).trans h1⟩
     clear hls hkp hoo hn4 hn6 hn7 hnm hdf hA
     go_wp2
     exact HK.out _ _ (Handed.intro (L.length - (i + 1)) (by rw [HGK.out]; omega) (HJ.out _ _ _ ⟨i + 1, V.heap.size :: rs, O', _, _, _, _, _, _, _, _, _, _, hlt, rfl, HJA.out, HLA.out, HRA.out.1, HRA.out.2, rfl⟩))
   ·obtain rfl : i = L.length := by omega
    obtain ⟨ad, cd, vm, hrow, hown⟩ := HLs.out.head
    have l0 := cell_of_row _ _ 0 _ _ _ hrow
    have r0 := cell_of_row _ _ 0 _ _ _ HJc.out.x6
    have f0 := frozen_of_row _ _ 0 _ 22 HJc.out.x6
    have HOW : Hid (wr.ownsRow w.heap.size 64 5 (.slice ad (chP (jl (fun k => mem ws k) (arcsP F R SB) L L.length)).length cd) (chP (jl (fun k => mem ws k) (arcsP F R SB) L L.length)).length (acs (chP (jl (fun k => mem ws k) (arcsP F R SB) L L.length)))) := hown
    clear hown hrow
    go_wp2
    have hk6 : Kp (fun b => b = w.heap.size + 1) wr (wr.setCell ⟨w.heap.size + 1, 0, none⟩ (.slice ad (chP (jl (fun k => mem ws k) (arcsP F R SB) L L.length)).length cd)) := (Kp.refl _ wr).setCell _ _ _ (fun _ => rfl)
    refine leave_marks rs _ HRS.out.1 (fun r hr => ?_) (fun w' hk => ?_)
    ·have h1 := (HRS.out.2 r hr).2
     exact (hk6.block r (lt_at h1) (fun e => by rw [e, HJc.out.x6] at h1; cases h1)).trans h1
    ·have x6' := heap_setCell_same wr (w.heap.size + 1) 0 _ 22 (.slice ad (chP (jl (fun k => mem ws k) (arcsP F R SB) L L.length)).length cd) HJc.out.x6
     have hn6 : w.heap.size + 1 ∉ rs := fun h => by have h1 := (HRS.out.2 _ h).2; rw [HJc.out.x6] at h1; cases h1
     have y6 := (hk.block _ (lt_at x6') hn6).trans x6'
     have o1 := own_kp2 HOW.out hk6 (fun b e1 e2 => by subst e2; obtain ⟨d, hd⟩ := own_ty HOW.out e1; exact ty_ne hd HJc.out.x6 (by decide))
     have o2 := own_kp2 o1 hk (fun b e1 e2 => by obtain ⟨d, hd⟩ := own_ty HOW.out e1; have h1 := (HRS.out.2 _ e2).2; rw [hd] at h1; cases h1)
     have bb : Below w.heap.size w w' := below_kp (below_kp HJc.out.below hk6 HJc.out.below.size (fun j _ e => by have : j = w.heap.size + 1 := e; omega)) hk (Nat.le_trans HJc.out.below.size hk6.size) (fun j _ e => (HRS.out.2 j e).1)
     exact ⟨_, results_one rfl rfl (cell_of_row _ _ 0 _ _ _ (by simpa using y6)), _, rfl, o2, bb⟩
end Go.Proofs.YtfjocafepigijaaDoor.Cu
