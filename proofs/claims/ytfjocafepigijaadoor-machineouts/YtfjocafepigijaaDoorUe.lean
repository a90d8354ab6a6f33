/- newTrack (33) walked: it hands back a track whose table says how many symbols each node still needs. Conditions: a machine of at most 40 states and 120 arcs, a text of at most 60 symbols, at most 8 to be written. -/
import Derived.Test.YtfjocafepigijaaDoorGbM
namespace Go.Proofs.YtfjocafepigijaaDoor.Ot
open Go.RowKit Mv Sy Po Ps Cm Pa Am Wd St Ra
open CR (nc)

/-- a track, the table, the rows of arriving arcs, the nodes that wait -/
structure N3 (w wr : World) (T S sb ci bx : Nat) (ai : Option Addr) (tx : List Int) (R : Nat → List Arc) (V : Nat → Value) (vs : List Value) (mb : Array Value) (nb M sb2 : Nat) (R2 : Nat → List Arc) (V2 : Nat → Value) (vs2 : List Value) (N st : List Nat) (vE : Value) : Prop where
  nk : Nk w wr T S sb ci bx ai tx R V vs (.slice (some ⟨nb, 0, none⟩) M M) mb
  heads2 : wr.ownsRow w.heap.size 22 1 (.slice (some ⟨sb2, 0, none⟩) S S) S vs2
  head2 : ∀ f, f < S → vs2[f]? = some (V2 f)
  rows2 : ∀ k, wr.ownsRow w.heap.size 64 5 (V2 k) (R2 k).length (acs (R2 k))
  need : wr.ownsRow w.heap.size 3 1 (.slice (some ⟨nb, 0, none⟩) M M) M (ns N)
  len : N.length = M
  stk : wr.ownsRow w.heap.size 3 1 vE st.length (ns st)
  ap : vE.ownBlock ≠ some nb
theorem txt_of {w wr : World} {ai : Option Addr} {ci : Nat} {tx : List Int} (h : Mv.Row w (.slice ai tx.length ci) 1 tx.length (ints tx)) (hb : Below w.heap.size w wr) : Txt w.heap.size wr ai tx := by
  obtain ⟨_, a, c, e, _, hx⟩ := h
  simp only [Value.slice.injEq, true_and] at e
  obtain ⟨rfl, rfl⟩ := e
  rcases hx with h0 | ⟨b, off, e1, e2, e3⟩
  · exact .inl h0
  · exact .inr ⟨b, off, e1, e2, fun j u hu => (hb.cell (p := ⟨b, off + j, none⟩) e2).trans (e3 j u hu)⟩
theorem N3.me {w wr : World} {T S sb ci bx : Nat} {ai : Option Addr} {tx : List Int} {R : Nat → List Arc} {V : Nat → Value} {vs : List Value} {mb : Array Value} {nb M sb2 : Nat} {R2 : Nat → List Arc} {V2 : Nat → Value} {vs2 : List Value} {N st : List Nat} {vE : Value} (h : N3 w wr T S sb ci bx ai tx R V vs mb nb M sb2 R2 V2 vs2 N st vE) : Me w.heap.size wr wr nb M M vE vE (.slice none 0 0) N st [] :=
  ⟨h.need, h.len, h.stk, ⟨rfl, .inl ⟨rfl, rfl⟩⟩, h.ap, (by intro e; cases e), fun _ _ e => (by cases e), fun _ hb _ => hb, fun _ e => (by cases e), Kp.refl _ _⟩
theorem N3.next {w wr w' : World} {T S sb ci bx : Nat} {ai : Option Addr} {tx : List Int} {R : Nat → List Arc} {V : Nat → Value} {vs : List Value} {mb : Array Value} {nb M sb2 : Nat} {R2 : Nat → List Arc} {V2 : Nat → Value} {vs2 : List Value} {N st N' mo : List Nat} {vE vz vm : Value} (h : N3 w wr T S sb ci bx ai tx R V vs mb nb M sb2 R2 V2 vs2 N st vE) (hm : Me w.heap.size wr w' nb M M vE vz vm N' [] mo) : N3 w w' T S sb ci bx ai tx R V vs mb nb M sb2 R2 V2 vs2 N' mo vm := by
  have hX : ∀ k, (k = nb ∨ vE.ownBlock = some k) → w.heap.size ≤ k ∧ ∃ c, wr.heap[k]? = some (.cells c 3 (0, 0)) := by
    rintro k (rfl | hk)
    · exact ⟨(h.need.lt _ rfl).1, own_ty h.need rfl⟩
    · exact ⟨(h.stk.lt _ hk).1, own_ty h.stk hk⟩
  have nt : ∀ {b : Nat} {c : Array Value} {ty : TypeId}, wr.heap[b]? = some (.cells c ty (0, 0)) → ty ≠ 3 → ¬ (b = nb ∨ vE.ownBlock = some b) := fun {b c ty} hb hne e => by
    obtain ⟨d, hd⟩ := (hX b e).2
    exact ty_ne hb hd hne
  refine ⟨h.nk.kept hm.kp hX, own_kp2 h.heads2 hm.kp (fun b hb => ?_), h.head2, fun k => own_kp2 (h.rows2 k) hm.kp (fun b hb => ?_), hm.need, hm.len, hm.mor, hm.a2⟩
  · obtain ⟨d, hd⟩ := own_ty h.heads2 hb
    exact nt hd (by decide)
  · obtain ⟨d, hd⟩ := own_ty (h.rows2 k) hb
    exact nt hd (by decide)
theorem N3.ma {w wr : World} {T S sb ci bx : Nat} {ai : Option Addr} {tx : List Int} {R : Nat → List Arc} {V : Nat → Value} {vs : List Value} {mb : Array Value} {nb M sb2 : Nat} {A : List Arc} {V2 : Nat → Value} {vs2 : List Value} {N st : List Nat} {vE : Value} (h : N3 w wr T S sb ci bx ai tx R V vs mb nb M sb2 (rws tn A) V2 vs2 N st vE) (hin : Mv.Row w (.slice ai tx.length ci) 1 tx.length (ints tx)) (hM : M = S * (tx.length + 1)) (hR : Rgt S A) (hA : A.length ≤ 120) : MA w.heap.size wr T S sb2 ci M ai (.slice (some ⟨sb, 0, none⟩) S S) (.slice (some ⟨nb, 0, none⟩) M M) tx (rws tn A) V2 vs2 := by
  refine ⟨⟨h.nk.row, txt_of hin h.nk.below, h.heads2, h.head2, h.rows2, h.nk.below.size⟩, hM, fun p _ => ⟨Nat.le_trans (rws_len _ _ _) hA, fun a ha => ?_⟩⟩
  obtain ⟨h1, _⟩ := List.mem_filter.1 ha
  obtain ⟨a', ha', rfl⟩ := List.mem_map.1 h1
  exact (hR.arc a' ha').1
theorem N3.tr {w wr : World} {T S sb ci bx : Nat} {ai : Option Addr} {tx : List Int} {A : List Arc} {V : Nat → Value} {vs : List Value} {mb : Array Value} {nb M sb2 L : Nat} {R2 : Nat → List Arc} {V2 : Nat → Value} {vs2 : List Value} {N st : List Nat} {vE : Value} (h : N3 w wr T S sb ci bx ai tx (rws (fun a => a) A) V vs mb nb M sb2 R2 V2 vs2 N st vE) (hin : Mv.Row w (.slice ai tx.length ci) 1 tx.length (ints tx)) (hM : M = S * (tx.length + 1)) (hA : A.length ≤ 120) : Tr wr.heap.size wr T S sb ci nb M M ai tx (rws (fun a => a) A) V (fun v => N.getD v (L + 1)) := by
  refine ⟨h.nk.row, lt_at h.nk.row, ?_, (h.nk.heads.lt _ rfl).2, fun f hf => (h.nk.heads.cellAt f (by omega)).trans (h.nk.head f hf), fun f _ => Rw.of_own (h.nk.rows f) (Nat.le_trans (rws_len _ _ _) (Nat.le_trans hA (by decide))), (h.need.lt _ rfl).2, fun v hv => ?_, Nat.le_refl _, hM, Nat.le_refl _⟩
  · rcases txt_of hin h.nk.below with h1 | ⟨b, off, e1, e2, e3⟩
    · exact .inl h1
    · exact .inr ⟨b, off, e1, Nat.lt_of_lt_of_le e2 h.nk.below.size, e3⟩
  · have hv2 : v < N.length := by rw [h.len]; exact hv
    rw [h.need.cellAt v (by omega)]
    rw [List.getD_eq_getElem?_getD, List.getElem?_eq_getElem hv2]
    simp [ns, hv2]
theorem ends_up {w V1 w2 : World} {T S sb ci bx : Nat} {ai : Option Addr} {tx : List Int} {R : Nat → List Arc} {V : Nat → Value} {vs : List Value} {mb : Array Value} {nb M k x : Nat} {N st : List Nat} {vE v1 : Value} {o : Obj} (h : Nk w V1 T S sb ci bx ai tx R V vs (.slice (some ⟨nb, 0, none⟩) M M) mb) (hn : V1.ownsRow w.heap.size 3 1 (.slice (some ⟨nb, 0, none⟩) M M) M (ns N))
    (hs : V1.ownsRow w.heap.size 3 1 vE k (ns st)) (ho : w2.ownsRow w.heap.size 3 1 v1 (k + 1) (ns st ++ ns [x])) (hg : (V1.alloc o).grownBy w2 vE.ownBlock) (hap : vE.ownBlock ≠ some nb) (hl : v1.ownBlock = vE.ownBlock ∨ v1.ownBlock = some (V1.alloc o).heap.size) :
    Hid (Nk w w2 T S sb ci bx ai tx R V vs (.slice (some ⟨nb, 0, none⟩) M M) mb ∧ w2.ownsRow w.heap.size 3 1 (.slice (some ⟨nb, 0, none⟩) M M) M (ns N) ∧ w2.ownsRow w.heap.size 3 1 v1 (k + 1) (ns (st ++ [x])) ∧ v1.ownBlock ≠ some nb) := by
  have hk : Kp (fun b => vE.ownBlock = some b) (V1.alloc o) w2 := (Kp.refl _ _).grown hg (fun b hb _ => hb)
  have hs' := hs.alloc o
  have hn' := hn.alloc o
  refine ⟨(h.laid ((Below.refl _ _).alloc (Nat.le_refl _) o)).kept hk (fun b hb => ⟨(hs'.lt _ hb).1, own_ty hs' hb⟩), own_kp hn' hk hap, by rw [ns_snoc]; exact ho, ?_⟩
  rcases hl with hl | hl
  · rw [hl]; exact hap
  · rw [hl]; intro e; have h9 := (hn'.lt nb rfl).2; injection e with e; omega
theorem small1 {z : Nat} (h : z ≤ 1000) : z + 1 ≤ maxLen := by unfold maxLen; omega
theorem small8 {z : Nat} (h : z ≤ 1000) : (z + 1) * 8 ≤ 140737488355328 := by omega
theorem le_al {w : World} {n : Nat} {o : Obj} (h : n ≤ w.heap.size) : n ≤ (w.alloc o).heap.size := by simp; omega
theorem next_or {p0 p1 : Nat → List Nat} {F N mo : List Nat} {L k : Nat} (hk : k ≤ L) (h : Ms p0 p1 F L (fun v => N.getD v (L + 1)) k [] mo) (hb : mo.length + 121 * fr k N ≤ 400000) : (k + 1 ≤ L ∧ mo.length + 121 * fr (k + 1) N ≤ 400000 ∧ Ms p0 p1 F L (fun v => N.getD v (L + 1)) (k + 1) mo []) ∨ (k + 1 = L + 1 ∧ ∃ mo, Ms p0 p1 F L (fun v => N.getD v (L + 1)) L [] mo) := by
  rcases Nat.lt_or_ge k L with h1 | h1
  · exact .inl ⟨h1, by have := fr_up k N; omega, h.next h1⟩
  · obtain rfl : k = L := by omega
    exact .inr ⟨rfl, mo, h⟩
def TrQ (w : World) (S L : Nat) (A : List Arc) (Fs : List (Int × Int)) (ai : Option Addr) (ci : Nat) (tx : List Int) (e : Ending) (w' : World) : Prop :=
  ∃ T sb nb cN V N, e = .returned (.pointer (some ⟨T, 0, none⟩)) ∧ Tr w'.heap.size w' T S sb ci nb cN (S * (tx.length + 1)) ai tx (rws (fun a => a) A) V N ∧ Nd (Eg S tx A) (fn S tx Fs) (S * (tx.length + 1)) L N ∧ (∀ v, N v ≤ L + 1) ∧ Below w.heap.size w w'
set_option maxHeartbeats 8000000 in
set_option maxRecDepth 100000 in
theorem track_any (S L ci : Nat) (A : List Arc) (Fs : List (Int × Int)) (va vf : Value) (ai : Option Addr) (tx : List Int) (w : World)
    (hrow : Mv.Row w va 5 A.length (acs A)) (hrf : Mv.Row w vf 2 Fs.length (fcs Fs)) (hin : Mv.Row w (.slice ai tx.length ci) 1 tx.length (ints tx)) (hR : Rgt S A) (hFs : ∀ f ∈ Fs, ∃ s : Nat, f.1 = (s : Int) ∧ s < S) (hS : S ≤ 40) (hA : A.length ≤ 120) (hF : Fs.length ≤ 40) (hl : tx.length ≤ 60) (hL : L ≤ 8) :
    Calls Tryd.prog 33 #[.agg #[.int .i64 S, va, vf], .slice ai tx.length ci, .int .i64 L] w (TrQ w S L A Fs ai ci tx) := by
  obtain ⟨i0, hi, hz0, hz1, hz2⟩ := info_parts inf3
  have HRA : Hid (Mv.Row w va 5 A.length (acs A)) := hrow
  have HRF : Hid (Mv.Row w vf 2 Fs.length (fcs Fs)) := hrf
  obtain ⟨z1, aa, ca, rfl, z2, z3⟩ := hrow
  obtain ⟨z4, af, cf, rfl, z5, z6⟩ := hrf
  clear z1 z2 z3 z4 z5 z6
  have HIN : Hid (Mv.Row w (.slice ai tx.length ci) 1 tx.length (ints tx)) := hin
  have HR : Hid (Rgt S A) := hR
  have HFs : Hid (∀ f ∈ Fs, ∃ s : Nat, f.1 = (s : Int) ∧ s < S) := hFs
  have h0 := hR.pos
  obtain ⟨M, hM, hw, hw'⟩ : ∃ M : Nat, M = S * (tx.length + 1) ∧ wrap64 ((S : Int) * ((tx.length : Int) + 1)) = (M : Int) ∧ M ≤ 2480 := by
    have h9 : S * (tx.length + 1) ≤ 40 * 61 := Nat.mul_le_mul hS (by omega)
    refine ⟨S * (tx.length + 1), rfl, ?_, by omega⟩
    have e : (S : Int) * ((tx.length : Int) + 1) = ((S * (tx.length + 1) : Nat) : Int) := by simp
    rw [e]; unfold wrap64; omega
  have HM : Hid (M = S * (tx.length + 1) ∧ M ≤ 2480) := ⟨hM, hw'⟩
  have hmk := Cu.run_mk26 M (Nat.le_trans hw' (by decide))
  have hV0 := (Below.refl w.heap.size w).alloc (Nat.le_refl _) (.cells #[.int .i64 S, .slice aa A.length ca, .slice af Fs.length cf] 25)
  have hbx := heap_alloc_new w (.cells #[.int .i64 S, .slice aa A.length ca, .slice af Fs.length cf] 25)
  have HA20 : Hid (A.length ≤ 120 ∧ Fs.length ≤ 40) := ⟨hA, hF⟩
  have HAf : Hid (∀ a ∈ A, ∃ f : Nat, a.1 = (f : Int) ∧ f < S) := fun a ha => (hR.arc a ha).1
  clear hin hR hFs hA hM hw'
  go_enter Tryd.func33, Tryd.ntmps33
  go_upto_region 1 with fail
  generalize hV : w.alloc (.cells #[.int .i64 S, .slice aa A.length ca, .slice af Fs.length cf] 25) = V0 at *
  clear hV
  have HB0 : Hid (Below w.heap.size w V0) := hV0
  have HG0 : Hid (w.heap.size ≤ w.heap.size) := Nat.le_refl _
  obtain ⟨bx, hbxe⟩ : ∃ bx, w.heap.size = bx := ⟨_, rfl⟩
  rw [hbxe] at hbx
  have HBX : Hid (V0.heap[bx]? = some (.cells #[.int .i64 S, .slice aa A.length ca, .slice af Fs.length cf] 25 (0, 0))) := hbx
  have HBE : Hid (w.heap.size = bx) := hbxe
  have c0 := cell_of_row _ _ 0 _ _ _ hbx
  have c1 := cell_of_row _ _ 1 _ _ _ hbx
  have c2 := cell_of_row _ _ 2 _ _ _ hbx
  rw [hbxe]
  clear hV0 hbx hbxe
  go_cut [7] from 14 to 21 (fun s7 wx => ∃ (T sb : Nat) (V : Nat → Value) (vs : List Value), s7 = .pointer (some ⟨T, 0, none⟩) ∧ Nk w wx T S sb ci bx ai tx (rws (fun a => a) A) V vs (.slice none 0 0) #[.int .i64 S, .slice aa A.length ca, .slice af Fs.length cf])
  case first =>
    go_region_with (go_at_call 39; refine (leaving_any S A (.slice aa A.length ca) (.slice af Fs.length cf) _ (row_drew (HRA.out.below HB0.out)) HAf.out hS (Nat.le_trans HA20.out.1 (by decide))).mono ?_; rintro e w1 ⟨sb, V, vs, rfl, hrt⟩; have HRT : Hid (Rt V0 w1 sb S (rws (fun a => a) A) V vs) := rt_undrew hrt; clear hrt; have d0 := (HRT.out.below.cell (p := ⟨bx, 0, none⟩) (lt_at HBX.out)).trans c0)
    all_goals (go_wp2_with fail; go_meet)
    all_goals exact ⟨_, sb, V, vs, rfl, Nk.first HRT.out HB0.out HBX.out (Nat.le_of_eq HBE.out)⟩
  case rest =>
  obtain ⟨T, sb, V, vs, rfl, hN0⟩ := hcut
  have HN1 : Hid (Nk w (wc.alloc (.cells (madeCells #[.int .i64 0] M) 3)) T S sb ci bx ai tx (rws (fun a => a) A) V vs (.slice none 0 0) #[.int .i64 S, .slice aa A.length ca, .slice af Fs.length cf]) := hN0.laid ((Below.refl _ _).alloc (Nat.le_refl _) _)
  have t3 := frozen_of_row _ _ 3 _ _ HN1.out.row
  have t3c := cell_of_row _ _ 3 _ _ _ HN1.out.row
  have c0 := cell_of_row _ _ 0 _ _ _ hN0.box
  have HNB : Hid ((wc.alloc (.cells (madeCells #[.int .i64 0] M) 3)).ownsRow w.heap.size 3 1 (.slice (some ⟨wc.heap.size, 0, none⟩) M M) M (ns (List.replicate M 0))) := Cu.nums_new wc w.heap.size M hN0.below.size (Nat.le_trans HM.out.2 (by decide))
  clear hN0 c1 c2
  go_upto_region 3 with fail
  have HN2 : Hid (Nk w ((wc.alloc (.cells (madeCells #[.int .i64 0] M) 3)).setCell ⟨T, 3, none⟩ (.slice (some ⟨wc.heap.size, 0, none⟩) M M)) T S sb ci bx ai tx (rws (fun a => a) A) V vs (.slice (some ⟨wc.heap.size, 0, none⟩) M M) #[.int .i64 S, .slice aa A.length ca, .slice af Fs.length cf]) := HN1.out.need _
  have HNB2 : Hid (((wc.alloc (.cells (madeCells #[.int .i64 0] M) 3)).setCell ⟨T, 3, none⟩ (.slice (some ⟨wc.heap.size, 0, none⟩) M M)).ownsRow w.heap.size 3 1 (.slice (some ⟨wc.heap.size, 0, none⟩) M M) M (ns (List.replicate M 0))) := own_kp HNB.out ((Kp.refl (fun b => b = T) _).setCell _ _ _ (fun _ => rfl)) (fun e => by obtain ⟨d, hd⟩ := own_ty HNB.out (k := wc.heap.size) rfl; rw [e] at hd; exact ty_ne hd HN1.out.row (by decide))
  clear HN1 HNB t3 t3c c0 hmk hw
  generalize hV2 : (wc.alloc (.cells (madeCells #[.int .i64 0] M) 3)).setCell ⟨T, 3, none⟩ (.slice (some ⟨wc.heap.size, 0, none⟩) M M) = V2 at *
  clear hV2
  generalize wc.heap.size = nb at *
  have t3c := cell_of_row _ _ 3 _ _ _ HN2.out.row
  have hML : M ≤ 2480 := HM.out.2
  go_wp2
  go_loopw [36] (fun a wr => ∃ (y : Nat) (N : List Nat), a = .int .i64 y ∧ y ≤ M ∧ N.length = M ∧ (∀ j, j < y → N[j]? = some (L + 1)) ∧ Nk w wr T S sb ci bx ai tx (rws (fun a => a) A) V vs (.slice (some ⟨nb, 0, none⟩) M M) #[.int .i64 S, .slice aa A.length ca, .slice af Fs.length cf] ∧ wr.ownsRow w.heap.size 3 1 (.slice (some ⟨nb, 0, none⟩) M M) M (ns N)) (fun a _ => M - (intOf a).toNat)
  case atStart => exact ⟨0, List.replicate M 0, rfl, Nat.zero_le _, by simp, fun j hj => absurd hj (Nat.not_lt_zero _), HN2.out, HNB2.out⟩
  case round =>
    clear HN2 HNB2 t3c
    obtain ⟨y, N, rfl, hy, hNl, hNy, hNk, hnb⟩ := hrel
    have HNK : Hid (Nk w wr T S sb ci bx ai tx (rws (fun a => a) A) V vs (.slice (some ⟨nb, 0, none⟩) M M) #[.int .i64 S, .slice aa A.length ca, .slice af Fs.length cf]) := hNk
    have HNR : Hid (wr.ownsRow w.heap.size 3 1 (.slice (some ⟨nb, 0, none⟩) M M) M (ns N)) := hnb
    by_cases hlt : y < M
    · have t3c := cell_of_row _ _ 3 _ _ _ hNk.row
      have n1 := hnb.frozenAt y
      have hyN : y < N.length := by omega
      have n2 := hnb.cellAt y (by omega)
      obtain ⟨ny, hny⟩ : ∃ ny, (ns N)[y]? = some (.int .i64 ((ny : Nat) : Int)) := ⟨N[y], by simp [ns, hyN]⟩
      rw [hny] at n2
      clear hny
      have HS : Hid ((wr.setCell ⟨nb, y, none⟩ (.int .i64 ((L + 1 : Nat) : Int))).ownsRow w.heap.size 3 1 (.slice (some ⟨nb, 0, none⟩) M M) M (ns (N.set y (L + 1)))) := by
        have := (hnb.stored y (.int .i64 ((L + 1 : Nat) : Int))).1
        unfold ns
        rw [List.map_set]
        exact this
      have HK : Hid (Nk w (wr.setCell ⟨nb, y, none⟩ (.int .i64 ((L + 1 : Nat) : Int))) T S sb ci bx ai tx (rws (fun a => a) A) V vs (.slice (some ⟨nb, 0, none⟩) M M) #[.int .i64 S, .slice aa A.length ca, .slice af Fs.length cf]) := hNk.kept ((Kp.refl (fun b => b = nb) _).setCell _ _ _ (fun _ => rfl)) (fun k e => by subst e; exact ⟨(hnb.lt _ rfl).1, own_ty hnb rfl⟩)
      have HNY : Hid (∀ j, j < y + 1 → (N.set y (L + 1))[j]? = some (L + 1)) := by
        intro j hj
        rw [List.getElem?_set]
        by_cases e : y = j
        · rw [if_pos e, if_pos hyN]
        · rw [if_neg e]; exact hNy j (by omega)
      have HNL : Hid ((N.set y (L + 1)).length = M) := by show _ = _; rw [List.length_set]; exact hNl
      rw [show ((L + 1 : Nat) : Int) = (L : Int) + 1 by omega] at HS HK
      clear hNk hnb hNy hNl hyN HNK HNR
      go_wp2
      go_roundw
      case rel => exact ⟨y + 1, _, by go_num, hlt, HNL.out, HNY.out, HK.out, HS.out⟩
      case measure => simp [intOf]; omega
    · obtain rfl : y = M := by omega
      have hNe : N = List.replicate y (L + 1) := by
        apply List.ext_getElem?
        intro j
        by_cases hj : j < y
        · rw [hNy j hj, List.getElem?_replicate, if_pos hj]
        · rw [List.getElem?_eq_none (by omega), List.getElem?_replicate, if_neg hj]
      rw [hNe] at HNR
      have c2 := cell_of_row _ _ 2 _ _ _ hNk.box
      clear hNk hnb hNy hNl hNe hlt hy
      go_wp2
      go_loopw [9, 51] (fun b a wr => ∃ (z : Nat) (vE : Value), b = vE ∧ a = .int .i64 z ∧ z ≤ Fs.length ∧ Nk w wr T S sb ci bx ai tx (rws (fun a => a) A) V vs (.slice (some ⟨nb, 0, none⟩) y y) #[.int .i64 S, .slice aa A.length ca, .slice af Fs.length cf] ∧ wr.ownsRow w.heap.size 3 1 (.slice (some ⟨nb, 0, none⟩) y y) y (ns (List.replicate y (L + 1))) ∧ wr.ownsRow w.heap.size 3 1 vE z (ns (fn S tx (Fs.take z))) ∧ vE.ownBlock ≠ some nb) (fun _ a _ => Fs.length - (intOf a).toNat)
      case atStart => exact ⟨0, _, rfl, rfl, Nat.zero_le _, HNK.out, HNR.out, ⟨rfl, .inl ⟨rfl, rfl⟩⟩, by intro e; cases e⟩
      case round =>
        clear HNK HNR c2
        obtain ⟨z, vE, rfl, rfl, hz, hNk, hnb, hst, hap⟩ := hrel
        obtain ⟨av, cv, rfl⟩ := oslice hst
        have HNK : Hid (Nk w wr T S sb ci bx ai tx (rws (fun a => a) A) V vs (.slice (some ⟨nb, 0, none⟩) y y) #[.int .i64 S, .slice aa A.length ca, .slice af Fs.length cf]) := hNk
        have HNR : Hid (wr.ownsRow w.heap.size 3 1 (.slice (some ⟨nb, 0, none⟩) y y) y (ns (List.replicate y (L + 1)))) := hnb
        have HST : Hid (wr.ownsRow w.heap.size 3 1 (.slice av z cv) z (ns (fn S tx (Fs.take z)))) := hst
        have HAP : Hid ((Value.slice av z cv).ownBlock ≠ some nb) := hap
        by_cases hlt : z < Fs.length
        · obtain ⟨fb, fo, rfl, hfl, hfc⟩ : ∃ b off, af = some ⟨b, off, none⟩ ∧ b < w.heap.size ∧ ∀ j u, (fcs Fs)[j]? = some u → wr.cell? ⟨b, off + j, none⟩ = some u := by
            obtain ⟨_, a', c', e', _, hx⟩ := HRF.out
            simp only [Value.slice.injEq, true_and] at e'
            obtain ⟨rfl, rfl⟩ := e'
            obtain ⟨b, off, e, hb, hc⟩ := hx.resolve_left (by omega)
            exact ⟨b, off, e, hb, fun j u hu => (hNk.below.cell (p := ⟨b, off + j, none⟩) hb).trans (hc j u hu)⟩
          obtain ⟨fs, hfs, hfS⟩ := HFs.out _ (List.getElem_mem hlt)
          have u := fcs_at Fs z hlt
          obtain ⟨f2, hf2⟩ : ∃ f2, Fs[z] = ((fs : Int), f2) := ⟨_, Prod.ext hfs rfl⟩
          rw [hf2] at u
          have p0 := hfc _ _ u.1
          have p1 := hfc _ _ u.2
          rw [← Nat.add_assoc] at p1
          dsimp only at p0 p1
          have HTK : Hid (fn S tx (Fs.take (z + 1)) = fn S tx (Fs.take z) ++ [tx.length * S + fs]) := by
            show _ = _
            rw [List.take_succ_eq_append_getElem hlt, hf2]
            simp [fn]
          obtain ⟨P0, hP0, hw1, hP9⟩ : ∃ P0 : Nat, P0 = tx.length * S ∧ wrap64 ((tx.length : Int) * (S : Int)) = (P0 : Int) ∧ P0 ≤ 2400 := by
            have h9 : tx.length * S ≤ 60 * 40 := Nat.mul_le_mul hl hS
            refine ⟨tx.length * S, rfl, ?_, h9⟩
            rw [← Int.natCast_mul]; unfold wrap64; omega
          have hfs40 : fs ≤ 40 := Nat.le_trans (Nat.le_of_lt hfS) hS
          obtain ⟨nd, hnd, hadd, hnd9⟩ : ∃ nd : Nat, nd = tx.length * S + fs ∧ (P0 : Int) + (fs : Int) = (nd : Int) ∧ nd ≤ 2440 := ⟨P0 + fs, by rw [hP0], by simp, Nat.add_le_add hP9 hfs40⟩
          have HND : Hid (nd = tx.length * S + fs) := hnd
          have HV1 : Hid (Nk w (wr.alloc (.cells #[.int .i64 (fs : Int), .int .i64 f2] 66)) T S sb ci bx ai tx (rws (fun a => a) A) V vs (.slice (some ⟨nb, 0, none⟩) y y) #[.int .i64 S, .slice aa A.length ca, .slice (some ⟨fb, fo, none⟩) Fs.length cf]) := HNK.out.laid ((Below.refl _ _).alloc (Nat.le_refl _) _)
          have HV2 : Hid ((wr.alloc (.cells #[.int .i64 (fs : Int), .int .i64 f2] 66)).ownsRow w.heap.size 3 1 (.slice (some ⟨nb, 0, none⟩) y y) y (ns (List.replicate y (L + 1)))) := HNR.out.alloc _
          have HV3 : Hid ((wr.alloc (.cells #[.int .i64 (fs : Int), .int .i64 f2] 66)).ownsRow w.heap.size 3 1 (.slice av z cv) z (ns (fn S tx (Fs.take z)))) := HST.out.alloc _
          have hx := heap_alloc_new wr (.cells #[.int .i64 (fs : Int), .int .i64 f2] 66)
          clear hNk hnb hst hap hfc u hfs hf2 hP0 hnd HNK HNR HST hfl
          go_upto_region 12 with fail
          clear p0 p1
          generalize hV1 : wr.alloc (.cells #[.int .i64 (fs : Int), .int .i64 f2] 66) = V1 at *
          clear hV1
          generalize wr.heap.size = bf at *
          have q0 := cell_of_row _ _ 0 _ _ _ hx
          have c0 := cell_of_row _ _ 0 _ _ _ HV1.out.box
          clear hx
          have hsz : w.heap.size ≤ V1.heap.size := HV1.out.below.size
          have HZ : Hid (z ≤ 1000) := Nat.le_trans (Nat.le_of_lt hlt) (Nat.le_trans hF (by decide))
          go_wp2_with (refine wpList_append_own_at _ rfl _ _ 26 rfl w.heap.size 3 i0 (.int .i64 0) 1 8 Tryd.underlying26 hi hz0 hz1 hz2 rfl (by decide) _ _ _ rfl (HV3.out.alloc _) ⟨_, 0, none⟩ 1 1 (ns [nd]) rfl rfl (cell_one_at _ _ _ rfl) (ns_one _) (small1 HZ.out) (small8 HZ.out) (le_al hsz) ?_; intro v1 w2 ho1 hg1 _ hl1; have HN := ends_up HV1.out HV2.out HV3.out ho1 hg1 HAP.out hl1; obtain ⟨gg, cc, rfl, _, _⟩ := own_some ho1 (Nat.succ_pos _); clear ho1 hg1 hl1)
          go_roundw
          case rel => exact ⟨z + 1, _, rfl, by go_num, hlt, HN.out.1, HN.out.2.1, by rw [HTK.out, ← HND.out]; exact HN.out.2.2.1, HN.out.2.2.2⟩
          case measure => simp [intOf]; omega
        · obtain rfl : z = Fs.length := by omega
          rw [List.take_length] at HST
          have HAT : Hid (∀ a ∈ A, ∃ f : Nat, a.2.1 = (f : Int) ∧ f < S) := fun a ha => (HR.out.arc a ha).2.1
          have K61 := arriving_any S A (.slice aa A.length ca) (.slice af Fs.length cf) wr (HRA.out.below hNk.below) HAT.out hS (Nat.le_trans HA20.out.1 (by decide))
          have b0 := cell_of_row _ _ 0 _ _ _ hNk.box
          have b1 := cell_of_row _ _ 1 _ _ _ hNk.box
          have b2 := cell_of_row _ _ 2 _ _ _ hNk.box
          clear hNk hnb hst hap hlt hz
          go_upto_region 15 with (go_at_call 61; (with_reducible refine K61.mono ?_); clear K61; rintro e w1 ⟨sb2, V2, vs2, rfl, hrt⟩; have HRT : Hid (Rt wr w1 sb2 S (rws tn A) V2 vs2) := hrt; clear hrt)
          clear b0 b1 b2
          have HN3 : Hid (N3 w w1 T S sb ci bx ai tx (rws (fun a => a) A) V vs #[.int .i64 S, .slice aa A.length ca, .slice af Fs.length cf] nb y sb2 (rws tn A) V2 vs2 (List.replicate y (L + 1)) (fn S tx Fs) (.slice av Fs.length cv)) :=
            ⟨HNK.out.laid HRT.out.below, own_low HRT.out.heads HNK.out.below.size, HRT.out.head, fun k => own_low (HRT.out.rows k) HNK.out.below.size, own_kp HNR.out (kp_below HRT.out.below (fun _ => False)) id, by simp, by rw [show (fn S tx Fs).length = Fs.length by simp [fn]]; exact own_kp2 HST.out (kp_below HRT.out.below (fun _ => False)) (fun _ _ => id), HAP.out⟩
          clear HNK HNR HST HAP HRT
          have HFN : Hid (∀ v ∈ fn S tx Fs, v < y) := by
            show ∀ v ∈ fn S tx Fs, v < y
            rw [HM.out.1]
            intro v hv
            obtain ⟨f, hf, rfl⟩ := List.mem_map.1 hv
            obtain ⟨s, hs, hsS⟩ := HFs.out f hf
            rw [hs, show ((s : Int)).toNat = s from rfl, Nat.mul_comm S, Nat.succ_mul]
            exact Nat.add_lt_add_left hsS _
          have HMS0 : Hid (Ms (q0 S tx (rws tn A)) (q1 S tx (rws tn A)) (fn S tx Fs) L (fun v => (List.replicate y (L + 1)).getD v (L + 1)) 0 (fn S tx Fs) []) := by
            show Ms _ _ _ _ _ _ _ _
            rw [show (fun v => (List.replicate y (L + 1)).getD v (L + 1)) = fun _ => L + 1 from funext fun v => by rw [List.getD_eq_getElem?_getD, List.getElem?_replicate]; split <;> rfl]
            exact Ms.begin _ _ _ _
          have HB4 : Hid ((fn S tx Fs).length + 121 * fr 0 (List.replicate y (L + 1)) ≤ 400000) := by
            show _ ≤ _
            have h1 := fr_le 0 (List.replicate y (L + 1))
            rw [List.length_replicate] at h1
            have h2 := HM.out.2
            have h3 : (fn S tx Fs).length = Fs.length := by simp [fn]
            omega
          go_upto_region 16 with fail
          go_loopw [9, 13] (fun b a wr => ∃ (k : Nat) (vE : Value) (N st : List Nat), b = vE ∧ a = .int .i64 k ∧ k ≤ L + 1 ∧ N3 w wr T S sb ci bx ai tx (rws (fun a => a) A) V vs #[.int .i64 S, .slice aa A.length ca, .slice af Fs.length cf] nb y sb2 (rws tn A) V2 vs2 N st vE ∧ (∀ v ∈ st, v < y) ∧ ((k ≤ L ∧ st.length + 121 * fr k N ≤ 400000 ∧ Ms (q0 S tx (rws tn A)) (q1 S tx (rws tn A)) (fn S tx Fs) L (fun v => N.getD v (L + 1)) k st []) ∨ (k = L + 1 ∧ ∃ mo, Ms (q0 S tx (rws tn A)) (q1 S tx (rws tn A)) (fn S tx Fs) L (fun v => N.getD v (L + 1)) L [] mo))) (fun _ a _ => L + 1 - (intOf a).toNat)
          case atStart => exact ⟨0, _, List.replicate y (L + 1), fn S tx Fs, rfl, rfl, Nat.zero_le _, HN3.out, HFN.out, .inl ⟨Nat.zero_le _, HB4.out, HMS0.out⟩⟩
          case round =>
            clear HN3 HMS0 HB4
            obtain ⟨k, vE, N, st, rfl, rfl, hk, hn3, hst, hor⟩ := hrel
            obtain ⟨av1, cv1, rfl⟩ := oslice hn3.stk
            have HN3 : Hid (N3 w wr T S sb ci bx ai tx (rws (fun a => a) A) V vs #[.int .i64 S, .slice aa A.length ca, .slice af Fs.length cf] nb y sb2 (rws tn A) V2 vs2 N st (.slice av1 st.length cv1)) := hn3
            by_cases hkL : k ≤ L
            · obtain ⟨hb4, hms⟩ : st.length + 121 * fr k N ≤ 400000 ∧ Ms (q0 S tx (rws tn A)) (q1 S tx (rws tn A)) (fn S tx Fs) L (fun v => N.getD v (L + 1)) k st [] := by
                rcases hor with h | ⟨h, _⟩
                · exact h.2
                · omega
              have K62 := measure_any w.heap.size T S sb2 ci nb y y L k 400000 ai (.slice (some ⟨sb, 0, none⟩) S S) (.slice av1 st.length cv1) tx (rws tn A) V2 vs2 (fn S tx Fs) N st wr (hn3.ma HIN.out HM.out.1 HR.out HA20.out.1) hn3.me hms hst hb4 (Nat.le_refl _) HM.out.2 h0 hS (Nat.le_trans hl (by decide))
              have hkL' : (k : Int) ≤ (L : Int) := by omega
              clear hn3 hms hst hb4 hor
              go_wp2_with (go_at_call 62; (with_reducible refine K62.mono ?_); clear K62; rintro e w1 ⟨N', mo, vm, vz, rfl, hme, hms, hmo, hb4⟩; have HN4 : Hid (N3 w w1 T S sb ci bx ai tx (rws (fun a => a) A) V vs #[.int .i64 S, .slice aa A.length ca, .slice af Fs.length cf] nb y sb2 (rws tn A) V2 vs2 N' mo vm) := HN3.out.next hme; have HMS4 : Hid (Ms (q0 S tx (rws tn A)) (q1 S tx (rws tn A)) (fn S tx Fs) L (fun v => N'.getD v (L + 1)) k [] mo ∧ (∀ v ∈ mo, v < y) ∧ mo.length + 121 * fr k N' ≤ 400000) := ⟨hms, hmo, hb4⟩; clear hme hms hmo hb4)
              go_roundw
              case rel => exact ⟨k + 1, vm, N', mo, rfl, by go_num, Nat.succ_le_succ hkL, HN4.out, HMS4.out.2.1, next_or hkL HMS4.out.1 HMS4.out.2.2⟩
              case measure => simp [intOf]; omega
            · obtain ⟨hke, mo, hms⟩ : k = L + 1 ∧ ∃ mo, Ms (q0 S tx (rws tn A)) (q1 S tx (rws tn A)) (fn S tx Fs) L (fun v => N.getD v (L + 1)) L [] mo := by
                rcases hor with h | h
                · exact absurd h.1 hkL
                · exact h
              have HMS : Hid (Ms (q0 S tx (rws tn A)) (q1 S tx (rws tn A)) (fn S tx Fs) L (fun v => N.getD v (L + 1)) L [] mo) := hms
              have hkL' : ¬ (k : Int) ≤ (L : Int) := by omega
              clear hms hor hn3 hst hke hkL hk
              go_wp2
              go_ret
              have e1 := HM.out.1
              subst e1
              exact ⟨T, sb, nb, _, V, _, rfl, HN3.out.tr HIN.out rfl HA20.out.1, nd_of HR.out (fun v k hk => HMS.out.done v k hk), fun v => (HMS.out.dom v).elim (fun h => Nat.le_succ_of_le h) (fun h => Nat.le_of_eq h), HN3.out.nk.below⟩
end Go.Proofs.YtfjocafepigijaaDoor.Ot
