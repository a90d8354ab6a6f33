/- spread (103) walked: the set with all that is come to without writing, and what is gathered on the way. Conditions: a track of at most 40 states and 60 symbols, at most 120 arcs. -/
import Derived.Test.YtfjocafepigijaaDoorUjM
namespace Go.Proofs.YtfjocafepigijaaDoor.Ot
open Go.RowKit Mv Sy Po Ps Cm Pa Am Wd St Ra Set

def SpQ (b2 b0 : Nat) (w : World) (T S sb ci nb cN M : Nat) (ai : Option Addr) (tx : List Int) (A : List Arc) (V : Nat → Value) (N : Nat → Nat) (p3 p5 left B : Nat) (vS : Value) (ws0 : List Nat) (e : Ending) (w' : World) : Prop :=
  e = .returned (.tuple #[]) ∧ ∃ ws vt G, Sw b2 b0 w w' T S sb ci nb cN M ai tx (rws (fun a => a) A) V N p3 p5 left B vS ws vt [] G ∧ Sd S tx A N left M (mem ws0) (mem ws) [] (mg G) none [] ∧ Ne G
/-- what is right of the arcs -/
structure Fine (S : Nat) (tx : List Int) (A : List Arc) (M : Nat) : Prop where
  rgt : Rgt S A
  out : ∀ a ∈ A, a.2.2.2.1 ≤ 60
  few : A.length ≤ 120
  st : S ≤ 40
  txl : tx.length ≤ 60
  eM : M = S * (tx.length + 1)
  step : ∀ c u v, u < M → Eg S tx A c u v → v < M
theorem mem_rws {A : List Arc} {a : Arc} {p : Nat} : a ∈ rws (fun a => a) A p ↔ a ∈ A ∧ a.1 = (p : Int) := by
  unfold rws
  rw [List.mem_filter, List.map_id']
  simp
theorem arc_rw {b2 n : Nat} {w : World} {v : Value} {R : List Arc} (h : Rw b2 w v n (acs R)) (hn : R.length = n) {k : Nat} (hk : k < R.length) : ∃ b off cap, v = .slice (some ⟨b, off, none⟩) n cap ∧ w.cell? ⟨b, off + k * 5, none⟩ = some (.int .i64 (R[k]).1) ∧ w.cell? ⟨b, off + k * 5 + 1, none⟩ = some (.int .i64 (R[k]).2.1) ∧ w.cell? ⟨b, off + k * 5 + 2, none⟩ = some (.int .i64 (R[k]).2.2.1) ∧ w.cell? ⟨b, off + k * 5 + 3, none⟩ = some (.int .i64 (R[k]).2.2.2.1) ∧ w.cell? ⟨b, off + k * 5 + 4, none⟩ = some (.int .i64 (R[k]).2.2.2.2) := by
  obtain ⟨a, c, rfl, _, hx⟩ := h
  obtain ⟨b, off, rfl, _, hc⟩ := hx.resolve_left (by omega)
  have u := acs_at R k hk
  exact ⟨b, off, c, rfl, hc _ _ u.1, by have := hc _ _ u.2.1; rw [← Nat.add_assoc] at this; exact this, by have := hc _ _ u.2.2.1; rw [← Nat.add_assoc] at this; exact this, by have := hc _ _ u.2.2.2.1; rw [← Nat.add_assoc] at this; exact this, by have := hc _ _ u.2.2.2.2; rw [← Nat.add_assoc] at this; exact this⟩
set_option maxHeartbeats 8000000 in
set_option maxRecDepth 100000 in
theorem spread_any (b2 b0 T S sb ci nb cN M p3 p5 left B : Nat) (ai : Option Addr) (tx : List Int) (A : List Arc) (V : Nat → Value) (N : Nat → Nat) (vS : Value) (ws0 : List Nat) (w : World)
    (hT : Tr b2 w T S sb ci nb cN M ai tx (rws (fun a => a) A) V N) (hF : Fine S tx A M) (hTab : TabAt 0 Lib.deBruijn64tab w) (h3 : w.heap[p3]? = some (.cells #[.pointer (some ⟨T, 0, none⟩)] 60 (0, 0))) (h5 : w.heap[p5]? = some (.cells #[.int .i64 (left : Int)] 3 (0, 0)))
    (hA : Arr w B (fun _ => .slice none 0 0)) (hB : b2 ≤ B) (hset : IsSet w b0 vS M ws0) (hlen : ws0.length = (M + 63) / 64) (hvg : ∀ b, vS.ownBlock = some b → b2 ≤ b) (hmb : ∀ v, mem ws0 v = true → v < M) :
    Calls Tryd.prog 103 #[.pointer (some ⟨T, 0, none⟩), vS, .int .i64 (left : Int), .func (.func 104) #[] #[.pointer (some ⟨p3, 0, none⟩), .pointer (some ⟨p5, 0, none⟩), .pointer (some ⟨B, 0, none⟩)]] w (SpQ b2 b0 w T S sb ci nb cN M ai tx A V N p3 p5 left B vS ws0) := by
  obtain ⟨i0, hi, hz0, hz1, hz2⟩ := info_parts inf3
  have HF : Hid (Fine S tx A M) := hF
  have hS := hF.st
  have h0 := hF.rgt.pos
  have hl : tx.length ≤ 61 := Nat.le_trans hF.txl (by decide)
  have hM : M ≤ 2480 := by rw [hF.eM]; exact Nat.le_trans (Nat.mul_le_mul hS (Nat.succ_le_succ hF.txl)) (by decide)
  have hM1 : 0 < M := by rw [hF.eM]; exact Nat.mul_pos h0 (Nat.succ_pos _)
  have h00 : 0 < w.heap.size := Nat.lt_of_le_of_lt (Nat.zero_le _) (lt_at hT.trk)
  obtain ⟨sg, scap, hvS, _, hsg⟩ := own_some hset.1 (by rw [hlen]; omega)
  have hml := Za.ms_all ws0 M hset.2.2.1 hmb
  have hmm : (Za.ms ws0).length ≤ M := by rw [hml]; exact Nat.le_trans (List.length_filter_le _ _) (by simp)
  have HST : Hid (∀ v, v ∈ Za.ms ws0 ↔ mem ws0 v = true) := by
    intro v
    rw [hml, List.mem_filter, List.mem_range]
    exact ⟨fun h => h.2, fun h => ⟨hmb v h, h⟩⟩
  have HMM : Hid ((Za.ms ws0).length ≤ M) := hmm
  have HSE : Hid (IsSet w b0 vS M ws0) := hset
  have HT0 : Hid (Tr b2 w T S sb ci nb cN M ai tx (rws (fun a => a) A) V N) := hT
  have HLE : Hid (ws0.length = (M + 63) / 64) := hlen
  have HVG : Hid (∀ b, vS.ownBlock = some b → b2 ≤ b) := hvg
  have HMB : Hid (∀ v, mem ws0 v = true → v < M) := hmb
  have HAR : Hid (Arr w B (fun _ => .slice none 0 0)) := hA
  have HX : Hid (w.heap[p3]? = some (.cells #[.pointer (some ⟨T, 0, none⟩)] 60 (0, 0)) ∧ w.heap[p5]? = some (.cells #[.int .i64 (left : Int)] 3 (0, 0)) ∧ b2 ≤ B) := ⟨h3, h5, hB⟩
  have K43 := Za.members_any (some ⟨sg, 0, none⟩) ws0.length scap w
  have K42 := Za.collect_any ws0 M b0 vS w (w.alloc (.cells #[vS] 77)) w.heap.size hset hTab h00 ((Below.refl _ w).alloc (Nat.le_refl _) _) (heap_alloc_new _ _) (by rw [hlen]; omega) (Nat.le_trans hmm (Nat.le_trans hM (by decide)))
  rw [hvS] at K42
  obtain ⟨lw, hlw⟩ : ∃ lw, ws0.length = lw := ⟨_, rfl⟩
  rw [hlw] at K43 K42 hvS
  have HVS : Hid (vS = .slice (some ⟨sg, 0, none⟩) lw scap) := hvS
  have hA0 : Below w.heap.size w (w.alloc (.cells #[vS] 77)) := (Below.refl _ w).alloc (Nat.le_refl _) _
  have HA0 : Hid (Below w.heap.size w (w.alloc (.cells #[vS] 77))) := hA0
  have HSZ : Hid (w.heap.size ≤ (w.alloc (.cells #[vS] 77)).heap.size) := hA0.size
  rw [hvS] at HA0 HSZ
  rw [hvS]
  clear hF hT hTab h3 h5 hA hB hset hlen hvg hmb hml hmm hlw hvS hA0
  go_enter Tryd.func103, Tryd.ntmps103
  go_upto_region 1 with (first | (go_at_call 43; (with_reducible refine K43.mono ?_); clear K43; rintro e w1 ⟨rfl, rfl⟩) | (go_at_call 42; (with_reducible refine K42.mono ?_); clear K42; rintro e w2 ⟨u, rfl, hrow, hb2⟩; have HRW : Hid (w2.ownsRow w.heap.size 3 1 u (Za.ms ws0).length (ns (Za.ms ws0)) ∧ Below w.heap.size w w2) := ⟨own_low hrow HSZ.out, HA0.out.trans (hb2.mono HSZ.out)⟩; clear hrow hb2))
  have HSW0 : Hid (Sw b2 b0 w w2 T S sb ci nb cN M ai tx (rws (fun a => a) A) V N p3 p5 left B vS ws0 u (Za.ms ws0) (fun _ => none)) := by
    have hb := HRW.out.2
    refine ⟨HT0.out.below (hb.mono HT0.out.le), (hb.block _ (lt_at HX.out.1)).trans HX.out.1, (hb.block _ (lt_at HX.out.2.1)).trans HX.out.2.1, lt_at HX.out.2.1, ⟨(hb.block _ HAR.out.lt).trans HAR.out, fun c p h => (by cases h), fun c c' p p' _ h => (by cases h)⟩, HX.out.2.2, ⟨own_kp2 HSE.out.1 (kp_below hb (fun _ => False)) (fun _ _ => id), HSE.out.2⟩, HLE.out, fun b hb2 => ⟨HVG.out b hb2, (HSE.out.1.lt _ hb2).2⟩, HRW.out.1, HT0.out.le, kp_below hb _⟩
  have HSD0 : Hid (Sd S tx A N left M (mem ws0) (mem ws0) (Za.ms ws0) (mg (fun _ => none)) none []) := Sd.begin S tx A N left M (mem ws0) (Za.ms ws0) HMB.out HST.out
  clear HRW HSE HT0 HLE HVG HMB HAR HX HA0 HSZ HST
  go_loopg [8] ((Za.ms ws0).length + (M - Cu.crd M ws0)) (fun gk a wr => ∃ (ws : List Nat) (vt : Value) (st : List Nat) (G : Gt), a = vt ∧ Sw b2 b0 w wr T S sb ci nb cN M ai tx (rws (fun a => a) A) V N p3 p5 left B vS ws vt st G ∧ Sd S tx A N left M (mem ws0) (mem ws) st (mg G) none [] ∧ Ne G ∧ gk = st.length + (M - Cu.crd M ws) ∧ gk ≤ 5000)
  case atStart => exact ⟨ws0, _, _, _, rfl, HSW0.out, HSD0.out, fun d hd => (by cases hd), rfl, by have := HMM.out; omega⟩
  case round =>
    clear HSW0 HSD0 HMM
    obtain ⟨ws, vt, st, G, rfl, hsw, hsd, hne, hgk, hgl⟩ := hrel
    rcases List.eq_nil_or_concat st with rfl | ⟨st', P, hTe⟩
    · obtain ⟨av, cv, rfl⟩ := oslice hsw.stk
      have HSW : Hid (Sw b2 b0 w wr T S sb ci nb cN M ai tx (rws (fun a => a) A) V N p3 p5 left B vS ws (.slice av ([] : List Nat).length cv) [] G) := hsw
      have HSD : Hid (Sd S tx A N left M (mem ws0) (mem ws) [] (mg G) none [] ∧ Ne G) := ⟨hsd, hne⟩
      clear hsw hsd hne hgk hgl
      go_wp2
      go_end0
      rw [← HVS.out]
      exact ⟨rfl, ws, _, G, HSW.out, HSD.out.1, HSD.out.2⟩
    · rw [List.concat_eq_append] at hTe
      subst hTe
      obtain ⟨tb, cap, hv, _, _⟩ := own_some hsw.stk (by simp)
      subst hv
      have hpc := hsw.stk.cellAt st'.length (by simp)
      rw [show (ns (st' ++ [P]))[st'.length]? = some (.int .i64 (P : Int)) by simp [ns]] at hpc
      have hl1 : (st' ++ [P]).length = st'.length + 1 := by simp
      have hPM : P < M := hsd.bd P (hsd.stk P (by simp))
      have hkc0 := ocap hsw.stk (by simp)
      rw [hl1] at hkc0 hgk
      obtain ⟨k, hk⟩ : ∃ k, st'.length = k := ⟨_, rfl⟩
      have hsw2 : Sw b2 b0 w wr T S sb ci nb cN M ai tx (rws (fun a => a) A) V N p3 p5 left B vS ws (.slice (some ⟨tb, 0, none⟩) k cap) st' G := by
        have := hsw
        rw [hl1, hk] at this
        have := this.pop (by rw [hl1, hk])
        rw [show (st' ++ [P]).take k = st' by rw [← hk]; simp] at this
        exact this
      have HSW : Hid (Sw b2 b0 w wr T S sb ci nb cN M ai tx (rws (fun a => a) A) V N p3 p5 left B vS ws (.slice (some ⟨tb, 0, none⟩) k cap) st' G) := hsw2
      have HSD : Hid (Sd S tx A N left M (mem ws0) (mem ws) st' (mg G) (some P) [] ∧ Ne G) := ⟨hsd.pop, hne⟩
      have HGK : Hid (gk = k + 1 + (M - Cu.crd M ws) ∧ gk ≤ 5000 ∧ st'.length = k) := ⟨by rw [hgk, hk], hgl, hk⟩
      rw [hk] at hpc hkc0 hl1
      rw [hl1]
      have hk5 : k ≤ 5000 := by have := HGK.out; omega
      have hkc : k + 1 ≤ cap := hkc0.1
      have hkc' : (k : Int) ≤ (cap : Int) := by omega
      have t1 := cell_of_row _ _ 1 _ _ _ hsw.tr.trk
      have t2 := cell_of_row _ _ 2 _ _ _ hsw.tr.trk
      obtain ⟨p, hp⟩ : ∃ p, P % S = p := ⟨_, rfl⟩
      have HP : Hid (P % S = p) := hp
      have hpS : p < S := by rw [← hp]; exact Nat.mod_lt P h0
      have hrr : (P : Int).tmod (S : Int) = (p : Int) := by rw [← hp]; simp [Int.tmod]
      have hr2 : (P : Int) % (S : Int) = (p : Int) := by rw [← hp]; simp
      have hn1 : ¬ (S : Int) = 0 := by omega
      have hn0 : ¬ S = 0 := by omega
      have hhd := hsw.tr.head p hpS
      obtain ⟨ra, rc, hvp, _⟩ := hsw.tr.rows p hpS
      obtain ⟨nr, hnr⟩ : ∃ nr, (rws (fun a => a) A p).length = nr := ⟨_, rfl⟩
      have HVP : Hid (V p = .slice ra nr rc) := by rw [← hnr]; exact hvp
      have HNR : Hid ((rws (fun a => a) A p).length = nr) := hnr
      rw [HVP.out] at hhd
      have hnr120 : nr ≤ 120 := by rw [← hnr]; exact Nat.le_trans (rws_len _ _ _) HF.out.few
      clear hsw hsw2 hsd hne hgk hgl hk hl1 hkc0 hvp hnr hp
      go_wp2
      repeat (go_quiet (fail); go_wp2)
      have HSW1 : Hid (Sw b2 b0 w (wr.drewN nq) T S sb ci nb cN M ai tx (rws (fun a => a) A) V N p3 p5 left B vS ws (.slice (some ⟨tb, 0, none⟩) k cap) st' G) := HSW.out.below (below_drewN (Below.refl _ _) _)
      clear HSW hpc t1 t2 hhd
      generalize wr.drewN nq = V1 at *
      go_loopw [8, 44] (fun a i wr => ∃ (y : Nat) (ws1 : List Nat) (vt : Value) (st : List Nat) (G : Gt), a = vt ∧ i = .int .i64 y ∧ y ≤ nr ∧ Sw b2 b0 w wr T S sb ci nb cN M ai tx (rws (fun a => a) A) V N p3 p5 left B vS ws1 vt st G ∧ Sd S tx A N left M (mem ws0) (mem ws1) st (mg G) (some P) ((rws (fun a => a) A p).take y) ∧ Ne G ∧ st.length + (M - Cu.crd M ws1) ≤ k + (M - Cu.crd M ws)) (fun _ a _ => nr - (intOf a).toNat)
      case atStart => exact ⟨0, ws, _, st', G, rfl, rfl, Nat.zero_le _, HSW1.out, HSD.out.1, HSD.out.2, by have := HGK.out.2.2; omega⟩
      case round =>
        clear HSW1 HSD
        obtain ⟨y, ws1, vt, st, G, rfl, rfl, hy, hsw, hsd, hne, hsum⟩ := hrel
        obtain ⟨av1, cv1, rfl⟩ := oslice hsw.stk
        have HSD : Hid (Sd S tx A N left M (mem ws0) (mem ws1) st (mg G) (some P) ((rws (fun a => a) A p).take y) ∧ Ne G) := ⟨hsd, hne⟩
        have HSM : Hid (st.length + (M - Cu.crd M ws1) ≤ k + (M - Cu.crd M ws)) := hsum
        by_cases hlt : y < nr
        · have hyl : y < (rws (fun a => a) A p).length := by rw [HNR.out]; exact hlt
          obtain ⟨rb, ro, rcap, hve, p0, p1, p2, p3', p4⟩ := arc_rw (hsw.tr.rows p hpS) rfl hyl
          rw [HVP.out, HNR.out, Value.slice.injEq] at hve
          obtain ⟨hra, _, hrc⟩ := hve
          subst hra hrc
          obtain ⟨hyA, hy1⟩ := mem_rws.1 (List.getElem_mem hyl)
          obtain ⟨zz1, ⟨yt, hyt, hyS⟩, zz2, hyO, zz3⟩ := HF.out.rgt.arc _ hyA
          clear zz1 zz2 zz3
          have hyO6 := HF.out.out _ hyA
          obtain ⟨yF, yT, yI, yO, yW, ey⟩ : ∃ f t i1 o1 x, (rws (fun a => a) A p)[y] = (f, t, i1, o1, x) := ⟨_, _, _, _, _, rfl⟩
          rw [ey] at p0 p1 p2 p3' p4 hyt hyA hy1 hyO hyO6
          dsimp only at hyt hy1 hyO hyO6
          subst hyt
          dsimp only at p0 p1 p2 p3' p4
          have HTK : Hid ((rws (fun a => a) A p).take (y + 1) = (rws (fun a => a) A p).take y ++ [(yF, (yt : Int), yI, yO, yW)]) := by show _ = _; rw [List.take_succ_eq_append_getElem hyl, ey]
          have HYA : Hid ((yF, (yt : Int), yI, yO, yW) ∈ A ∧ yF = ((P % S : Nat) : Int)) := ⟨hyA, by rw [HP.out]; exact hy1⟩
          have hqt : P / S ≤ tx.length := node_place HF.out.eM hPM
          obtain ⟨l1, hl1⟩ : ∃ l1, st.length = l1 := ⟨_, rfl⟩
          have hl15 : l1 ≤ 10000 := by rw [← hl1]; have := HGK.out; omega
          have HL1 : Hid (st.length = l1) := hl1
          rw [hl1] at hsw ⊢
          have HB1 : Hid (Sw b2 b0 w (wr.alloc (.cells #[.int .i64 yF, .int .i64 (yt : Int), .int .i64 yI, .int .i64 yO, .int .i64 yW] 64)) T S sb ci nb cN M ai tx (rws (fun a => a) A) V N p3 p5 left B vS ws1 (.slice av1 l1 cv1) st G) := hsw.below ((Below.refl _ _).alloc (Nat.le_refl _) _)
          have KB := on_any S P yt T ci b2 tx yF yI yO yW ai (.slice (some ⟨sb, 0, none⟩) S S) (.slice (some ⟨nb, 0, none⟩) M cN) (wr.alloc (.cells #[.int .i64 yF, .int .i64 (yt : Int), .int .i64 yI, .int .i64 yO, .int .i64 yW] 64)) HB1.out.tr.trk h0 hS hqt hl hyS HB1.out.tr.txt HB1.out.tr.le
          have hbx := heap_alloc_new wr (.cells #[.int .i64 yF, .int .i64 (yt : Int), .int .i64 yI, .int .i64 yO, .int .i64 yW] 64)
          obtain ⟨bkv, hbk⟩ : ∃ bkv, on S tx P (yF, (yt : Int), yI, yO, yW) = bkv := ⟨_, rfl⟩
          rw [hbk] at KB
          have HBK : Hid (on S tx P (yF, (yt : Int), yI, yO, yW) = bkv) := hbk
          clear hsw hsd hne hsum ey hbk hl1 hyA hy1 hyl
          go_upto_region 7 with fail
          clear p0 p1 p2 p3' p4
          generalize hV2 : wr.alloc (.cells #[.int .i64 yF, .int .i64 (yt : Int), .int .i64 yI, .int .i64 yO, .int .i64 yW] 64) = V2 at *
          clear hV2
          generalize wr.heap.size = bx at *
          have c0 := cell_of_row _ _ 0 _ _ _ hbx
          have c1 := cell_of_row _ _ 1 _ _ _ hbx
          have c2 := cell_of_row _ _ 2 _ _ _ hbx
          have c3 := cell_of_row _ _ 3 _ _ _ hbx
          have c4 := cell_of_row _ _ 4 _ _ _ hbx
          cases bkv with
          | none =>
            simp only [Option.getD_none, Option.isSome_none] at KB
            go_upto_region 8 with (go_at_call 105; (with_reducible refine KB.mono ?_); clear KB; rintro e w1 ⟨rfl, hb1⟩; have HB2 : Hid (Sw b2 b0 w w1 T S sb ci nb cN M ai tx (rws (fun a => a) A) V N p3 p5 left B vS ws1 (.slice av1 l1 cv1) st G) := HB1.out.below hb1; clear hb1 hbx c0 c1 c2 c3 c4 HB1)
            go_wp2
            go_roundw
            case rel => exact ⟨y + 1, ws1, _, st, G, rfl, by go_num, hlt, HB2.out, by rw [HTK.out]; exact HSD.out.1.none_ HBK.out, HSD.out.2, HSM.out⟩
            case measure => simp [intOf]; omega
          | some u =>
            simp only [Option.getD_some, Option.isSome_some] at KB
            have huM : u < M := HF.out.step yO P u hPM ⟨_, HYA.out.1, rfl, HYA.out.2, HBK.out⟩
            go_upto_region 8 with (go_at_call 105; (with_reducible refine KB.mono ?_); clear KB; rintro e w1 ⟨rfl, hb1⟩; have HB2 : Hid (Sw b2 b0 w w1 T S sb ci nb cN M ai tx (rws (fun a => a) A) V N p3 p5 left B vS ws1 (.slice av1 l1 cv1) st G) := HB1.out.below hb1; have hbx1 := (hb1.block _ (Am.lt_at hbx)).trans hbx; clear hb1 hbx c0 c1 c2 c3 c4 HB1)
            have d0 := cell_of_row _ _ 0 _ _ _ hbx1
            have d1 := cell_of_row _ _ 1 _ _ _ hbx1
            have d2 := cell_of_row _ _ 2 _ _ _ hbx1
            have d3 := cell_of_row _ _ 3 _ _ _ hbx1
            have d4 := cell_of_row _ _ 4 _ _ _ hbx1
            clear hbx1
            by_cases hO : yO = 0
            · subst hO
              have t3 := cell_of_row _ _ 3 _ _ _ HB2.out.tr.trk
              obtain ⟨nu, hnu⟩ : ∃ nu, N u = nu := ⟨_, rfl⟩
              have HNU : Hid (N u = nu) := hnu
              have nc := HB2.out.tr.need u huM
              rw [hnu] at nc
              have hcN := HB2.out.tr.cap
              have HUL : Hid (u / 64 < ws1.length) := by show _ < _; rw [HB2.out.len]; omega
              clear hnu
              by_cases hle : nu ≤ left
              · have hle' : (nu : Int) ≤ (left : Int) := by omega
                have HLE : Hid (nu ≤ left) := hle
                have K60 := add_any b0 vS M u ws1 w1 HB2.out.set huM (by omega)
                rw [HVS.out] at K60
                have HCP : Hid (Cu.crd M (put ws1 u) = Pa.cN ws1 u (Cu.crd M ws1) ∧ Cu.crd M (put ws1 u) ≤ M) := ⟨Cu.crd_put huM HUL.out, Cu.crd_le _ _⟩
                cases hm : mem ws1 u with
                | true =>
                  rw [hm] at K60
                  have HMT : Hid (mem ws1 u = true) := hm
                  clear hm
                  go_wp2_with (go_at_call 60; (with_reducible refine K60.mono ?_); clear K60; rintro e w2 ⟨rfl, hs2, hg2⟩; rw [← HVS.out] at hs2 hg2; have HB3 : Hid (Sw b2 b0 w w2 T S sb ci nb cN M ai tx (rws (fun a => a) A) V N p3 p5 left B vS (put ws1 u) (.slice av1 l1 cv1) st G) := HB2.out.add hs2 hg2; clear hs2 hg2)
                  go_roundw
                  case rel => exact ⟨y + 1, put ws1 u, _, st, G, rfl, by go_num, hlt, HB3.out, by rw [HTK.out]; exact HSD.out.1.old HBK.out rfl HMT.out HUL.out, HSD.out.2, by have h1 := HCP.out.1; unfold Pa.cN at h1; rw [if_pos HMT.out] at h1; rw [h1]; exact HSM.out⟩
                  case measure => simp [intOf]; omega
                | false =>
                  rw [hm] at K60
                  have HMT : Hid (mem ws1 u = false) := hm
                  clear hm
                  go_upto_region 12 with (go_at_call 60; (with_reducible refine K60.mono ?_); clear K60; rintro e w2 ⟨rfl, hs2, hg2⟩; rw [← HVS.out] at hs2 hg2; have HB3 : Hid (Sw b2 b0 w w2 T S sb ci nb cN M ai tx (rws (fun a => a) A) V N p3 p5 left B vS (put ws1 u) (.slice av1 l1 cv1) st G) := HB2.out.add hs2 hg2; clear hs2 hg2)
                  clear d0 d1 d2 d3 d4 t3 nc HB2
                  have hrow : w2.ownsRow w.heap.size 3 1 (.slice av1 l1 cv1) l1 (ns st) := by have := HB3.out.stk; rw [HL1.out] at this; exact this
                  have hsz : w.heap.size ≤ w2.heap.size := HB3.out.kp.size
                  go_wp2_with (refine wpList_append_own_at _ rfl _ _ 26 rfl w.heap.size 3 i0 (.int .i64 0) 1 8 Tryd.underlying26 hi hz0 hz1 hz2 rfl (by decide) _ _ _ rfl (hrow.alloc _) ⟨_, 0, none⟩ 1 1 (ns [u]) rfl rfl (cell_one_at _ _ _ rfl) (ns_one _) (by unfold maxLen; omega) (by omega) (by simp; omega) ?_; intro v1 w4 ho1 hg1 _ hl1; have HN : Hid _ := (HB3.out.below ((Below.refl _ _).alloc (Nat.le_refl _) (.cells #[.int .i64 (u : Int)] 3))).push (by rw [HL1.out]; exact ho1) hg1; obtain ⟨gg, cc, rfl, _, _⟩ := own_some ho1 (Nat.succ_pos _); clear ho1 hg1 hl1 hrow)
                  go_roundw
                  case rel => exact ⟨y + 1, put ws1 u, _, st ++ [u], G, rfl, by go_num, hlt, HN.out, by rw [HTK.out]; exact HSD.out.1.new HYA.out.1 HYA.out.2 HBK.out rfl (by rw [HNU.out]; exact HLE.out) huM HUL.out, HSD.out.2, by have h1 := HCP.out; unfold Pa.cN at h1; rw [if_neg (by rw [HMT.out]; decide)] at h1; have h2 := HSM.out; rw [List.length_append, List.length_singleton]; omega⟩
                  case measure => simp [intOf]; omega
              · have hle' : ¬ (nu : Int) ≤ (left : Int) := by omega
                have HLE : Hid (¬ nu ≤ left) := hle
                go_wp2
                go_roundw
                case rel => exact ⟨y + 1, ws1, _, st, G, rfl, by go_num, hlt, by first | exact HB2.out | exact HB2.out.below (below_drewN (Below.refl _ _) _), by rw [HTK.out]; exact HSD.out.1.far HBK.out rfl (by rw [HNU.out]; exact HLE.out), HSD.out.2, HSM.out⟩
                case measure => simp [intOf]; omega
            · obtain ⟨c, hc⟩ : ∃ c : Nat, yO = (c : Int) := ⟨yO.toNat, by omega⟩
              subst hc
              have hc0 : 0 < c := by omega
              have hc6 : c ≤ 60 := by omega
              have hO' : ((c : Int) == 0) = false := by simpa using hO
              have hO2 : ¬ c = 0 := by omega
              have KT := tell_any w.heap.size b2 B M c u left T S sb ci nb cN p3 p5 ai tx (rws (fun a => a) A) V N yF (yt : Int) yI yW G w1 HB2.out.tr HB2.out.x3 HB2.out.x5 HB2.out.ar huM hM hc6 HB2.out.kp.size
              go_wp2_with (go_at_call 104; (with_reducible refine KT.mono ?_); clear KT; rintro e w2 ⟨rfl, G', hA', hk', hy', hn'⟩; have HB3 : Hid (Sw b2 b0 w w2 T S sb ci nb cN M ai tx (rws (fun a => a) A) V N p3 p5 left B vS ws1 (.slice av1 l1 cv1) st G') := HB2.out.tell hA' hk'; have HGT : Hid ((N u < left → Gat G G' c u) ∧ (¬ N u < left → G' = G)) := ⟨hy', hn'⟩; clear hA' hk' hy' hn')
              go_roundw
              case rel => exact ⟨y + 1, ws1, _, st, G', rfl, by go_num, hlt, HB3.out, by rw [HTK.out]; exact HSD.out.1.told hc0 HYA.out.1 HYA.out.2 HBK.out rfl HGT.out.1 HGT.out.2, HSD.out.2.told HGT.out.1 HGT.out.2, HSM.out⟩
              case measure => simp [intOf]; omega
        · obtain rfl : y = nr := by omega
          have HSD2 : Hid (Sd S tx A N left M (mem ws0) (mem ws1) st (mg G) none [] ∧ Ne G) := ⟨HSD.out.1.done (fun a ha h1 => by rw [← HNR.out, List.take_length]; exact mem_rws.2 ⟨ha, by rw [← HP.out]; exact h1⟩), HSD.out.2⟩
          have HSW : Hid (Sw b2 b0 w wr T S sb ci nb cN M ai tx (rws (fun a => a) A) V N p3 p5 left B vS ws1 (.slice av1 st.length cv1) st G) := hsw
          clear hsw hsd hne hsum HSD
          go_wp2
          go_roundg (st.length + (M - Cu.crd M ws1))
          case measure => have := HSM.out; have := HGK.out; omega
          case rel => exact ⟨ws1, _, st, G, rfl, HSW.out, HSD2.out.1, HSD2.out.2, rfl, by have := HSM.out; have := HGK.out; omega⟩
end Go.Proofs.YtfjocafepigijaaDoor.Ot
/- write (101) walked: the sets of nodes that are come to by writing a symbol. Conditions: as in spread. -/
namespace Go.Proofs.YtfjocafepigijaaDoor.Ot
open Go.RowKit Mv Sy Po Ps Cm Pa Am Wd St Ra Set

/-- sets by symbols, without their array -/
structure Gs (base : Nat) (w : World) (M : Nat) (G : Gt) : Prop where
  set : ∀ c p, G c = some p → IsSet w base p.1 M p.2 ∧ p.2.length = (M + 63) / 64
  apart : ∀ c c' p p', c ≠ c' → G c = some p → G c' = some p' → ∀ b, p.1.ownBlock = some b → p'.1.ownBlock ≠ some b
def WrQ (w : World) (S M left : Nat) (tx : List Int) (A : List Arc) (N : Nat → Nat) (vS : Value) (ws0 : List Nat) (e : Ending) (w' : World) : Prop :=
  ∃ ws G, e = .returned (.agg (ca (gv G))) ∧ Sd S tx A N left M (mem ws0) (mem ws) [] (mg G) none [] ∧ Ne G ∧ Gs w.heap.size w' M G ∧ Kp (fun b => vS.ownBlock = some b) w w'
theorem gv_one {base M : Nat} {w : World} {G : Gt} (h : ∀ c p, G c = some p → IsSet w base p.1 M p.2 ∧ p.2.length = (M + 63) / 64) (j : Nat) : (gv G j).oneCell' = true := by
  unfold gv
  cases hg : G j with
  | none => rfl
  | some p =>
    obtain ⟨a, c, hv⟩ := oslice (h j p hg).1.1
    dsimp only
    rw [hv]; rfl
theorem kp_row (w : World) (b : Nat) (c : Array Value) : Kp (fun k => k = b) w (w.setRow b c) := ⟨rfl, rfl, rfl, by simp [World.setRow], fun k _ hn => setRow_other w b k c hn⟩
set_option maxHeartbeats 8000000 in
set_option maxRecDepth 100000 in
theorem write_any (b2 b0 T S sb ci nb cN M left : Nat) (ai : Option Addr) (tx : List Int) (A : List Arc) (V : Nat → Value) (N : Nat → Nat) (vS : Value) (ws0 : List Nat) (w : World)
    (hT : Tr b2 w T S sb ci nb cN M ai tx (rws (fun a => a) A) V N) (hF : Fine S tx A M) (hTab : TabAt 0 Lib.deBruijn64tab w) (hset : IsSet w b0 vS M ws0) (hlen : ws0.length = (M + 63) / 64) (hvg : ∀ b, vS.ownBlock = some b → b2 ≤ b) (hmb : ∀ v, mem ws0 v = true → v < M) :
    Calls Tryd.prog 101 #[.pointer (some ⟨T, 0, none⟩), vS, .int .i64 (left : Int)] w (WrQ w S M left tx A N vS ws0) := by
  have hz := z147
  obtain ⟨sa, scap, hvS⟩ := oslice hset.1
  obtain ⟨W4, hW4⟩ : ∃ W4, (((w.alloc (.cells #[.pointer (some ⟨T, 0, none⟩)] 60)).alloc (.cells #[.int .i64 (left : Int)] 3)).alloc (.cells (ca fun _ => .slice none 0 0) 147)).alloc (.cells (ca fun _ => .slice none 0 0) 147) = W4 := ⟨_, rfl⟩
  have b1 := (Below.refl w.heap.size w).alloc (Nat.le_refl _) (.cells #[.pointer (some ⟨T, 0, none⟩)] 60)
  have b2' := b1.alloc b1.size (.cells #[.int .i64 (left : Int)] 3)
  have b3 := b2'.alloc b2'.size (.cells (ca fun _ => .slice none 0 0) 147)
  have b4 := b3.alloc b3.size (.cells (ca fun _ => .slice none 0 0) 147)
  rw [hW4] at b4
  have s1 : (w.alloc (.cells #[.pointer (some ⟨T, 0, none⟩)] 60)).heap.size = w.heap.size + 1 := by simp
  have s2 : ((w.alloc (.cells #[.pointer (some ⟨T, 0, none⟩)] 60)).alloc (.cells #[.int .i64 (left : Int)] 3)).heap.size = w.heap.size + 2 := by simp
  have s3 : (((w.alloc (.cells #[.pointer (some ⟨T, 0, none⟩)] 60)).alloc (.cells #[.int .i64 (left : Int)] 3)).alloc (.cells (ca fun _ => .slice none 0 0) 147)).heap.size = w.heap.size + 3 := by simp
  have x3 : W4.heap[w.heap.size]? = some (.cells #[.pointer (some ⟨T, 0, none⟩)] 60 (0, 0)) := by
    rw [← hW4]
    exact (heap_alloc_old _ _ (by rw [s3]; omega)).trans ((heap_alloc_old _ _ (by rw [s2]; omega)).trans ((heap_alloc_old _ _ (by rw [s1]; omega)).trans (heap_alloc_new _ _)))
  have x5 : W4.heap[w.heap.size + 1]? = some (.cells #[.int .i64 (left : Int)] 3 (0, 0)) := by
    rw [← hW4]
    refine (heap_alloc_old _ _ (by rw [s3]; omega)).trans ((heap_alloc_old _ _ (by rw [s2]; omega)).trans ?_)
    rw [← s1]; exact heap_alloc_new _ _
  have x6 : Arr W4 (w.heap.size + 2) (fun _ => .slice none 0 0) := by
    rw [← hW4]
    refine (heap_alloc_old _ _ (by rw [s3]; omega)).trans ?_
    rw [← s2]; exact heap_alloc_new _ _
  have x7 : Arr W4 (w.heap.size + 3) (fun _ => .slice none 0 0) := by
    rw [← hW4, ← s3]; exact heap_alloc_new _ _
  have h00 : 0 < w.heap.size := Nat.lt_of_le_of_lt (Nat.zero_le _) (lt_at hT.trk)
  have K := spread_any b2 b0 T S sb ci nb cN M w.heap.size (w.heap.size + 1) left (w.heap.size + 3) ai tx A V N vS ws0 W4 (hT.below (b4.mono hT.le)) hF (Tz.tab_below hTab h00 b4) x3 x5 x7 (Nat.le_trans hT.le (Nat.le_add_right _ _)) ⟨own_kp2 hset.1 (kp_below b4 (fun _ => False)) (fun _ _ => id), hset.2⟩ hlen hvg hmb
  have HB4 : Hid (Below w.heap.size w W4) := b4
  have HX6 : Hid (Arr W4 (w.heap.size + 2) (fun _ => .slice none 0 0)) := x6
  have HVL : Hid (∀ b, vS.ownBlock = some b → b < w.heap.size) := fun b hb => (hset.1.lt _ hb).2
  have c3 := cell_of_row _ _ 0 _ _ _ x3
  have c5 := cell_of_row _ _ 0 _ _ _ x5
  have HVS : Hid (vS = .slice sa ws0.length scap) := hvS
  rw [hvS] at K
  rw [hvS]
  clear hT hF hTab hset hlen hvg hmb b1 b2' b3 b4 s1 s2 s3 x3 x5 x6 x7 hvS
  go_enter Tryd.func101, Tryd.ntmps101
  go_upto_region 2 with fail
  rw [show w.heap.size + 1 + 1 + 1 = w.heap.size + 3 from rfl, show w.heap.size + 1 + 1 = w.heap.size + 2 from rfl]
  obtain ⟨B, hB⟩ : ∃ B, w.heap.size + 3 = B := ⟨_, rfl⟩
  obtain ⟨t6, ht6⟩ : ∃ t6, w.heap.size + 2 = t6 := ⟨_, rfl⟩
  obtain ⟨p5, hp5⟩ : ∃ p5, w.heap.size + 1 = p5 := ⟨_, rfl⟩
  obtain ⟨p3, hp3⟩ : ∃ p3, w.heap.size = p3 := ⟨_, rfl⟩
  have HEQ : Hid (w.heap.size ≤ t6 ∧ t6 ≠ B ∧ w.heap.size ≤ B) := ⟨by omega, by omega, by omega⟩
  rw [hB, hp5, hp3] at K
  rw [ht6] at HX6
  rw [hp5] at c5
  rw [hp3] at c3
  rw [hB, ht6, hp5, hp3]
  clear hB ht6 hp5 hp3 hW4 hz
  go_upto_region 3 with (go_at_call 103; (with_reducible refine K.mono ?_); clear K; rintro e w5 ⟨rfl, ws, vt, G, hsw, hsd, hne⟩; rw [← HVS.out] at hsw; have HSW : Hid (Sw b2 b0 W4 w5 T S sb ci nb cN M ai tx (rws (fun a => a) A) V N p3 p5 left B vS ws vt [] G) := hsw; have HSD : Hid (Sd S tx A N left M (mem ws0) (mem ws) [] (mg G) none [] ∧ Ne G) := ⟨hsd, hne⟩; clear hsw hsd hne)
  have hA7 := HSW.out.ar.row
  have hA6 : Arr w5 t6 (fun _ => .slice none 0 0) := (HSW.out.kp.block t6 HX6.out.lt (fun e => by
    rcases e with e | e
    · have := HVL.out t6 e; have := HEQ.out.1; omega
    · exact HEQ.out.2.1 e)).trans HX6.out
  have hone := gv_one (fun c p h => HSW.out.ar.set c p h)
  have HA6 : Hid (Arr (w5.setRow t6 (ca (gv G))) t6 (gv G)) := hA6.row _
  clear c3 c5
  go_wp2_with (first
    | (with_reducible show wpList _ _ _ ({ dst := _, op := Op.load 147 _, type := _, pos := _, after := _, guard := _ } :: _) _ _; refine wpList_ld rfl (.tmp 7) rfl _ _ rfl hA7 ?_)
    | (with_reducible show wpList _ _ _ ({ dst := _, op := Op.store 147 _ _, type := _, pos := _, after := _, guard := _ } :: _) _ _; refine wpList_st rfl (.tmp 6) (.tmp 13) rfl _ _ _ hone rfl rfl hA6 ?_))
  try simp only [Exit.inBlock, Exit.then]
  refine bodyPost_ret (results_arr rfl rfl HA6.out) rfl ?_
  rw [← HVS.out]
  have hk1 : Kp (fun k => k = t6) w5 (w5.setRow t6 (ca (gv G))) := kp_row _ _ _
  have hz : w.heap.size ≤ W4.heap.size := HB4.out.size
  refine ⟨ws, G, rfl, HSD.out.1, HSD.out.2, ⟨fun c p hp => ?_, HSW.out.ar.apart⟩, kp_then (kp_then (kp_below HB4.out (fun b => vS.ownBlock = some b)) HSW.out.kp (fun i hi e => ?_)) hk1 (fun i hi e => ?_)⟩
  · have h1 := HSW.out.ar.set c p hp
    refine ⟨⟨own_kp2 (own_low h1.1.1 hz) hk1 (fun b hb e => ?_), h1.1.2⟩, h1.2⟩
    have h2 := (h1.1.1.lt _ hb).1
    have h3 := HX6.out.lt
    omega
  · rcases e with e | e
    · exact e
    · have := HEQ.out.2.2; omega
  · have := HEQ.out.1; omega
end Go.Proofs.YtfjocafepigijaaDoor.Ot
