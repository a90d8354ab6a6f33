/- branch (91) walked. Conditions: as in spread; at most 50,000 sets. -/
import Derived.Test.YtfjocafepigijaaDoorUq
namespace Go.Proofs.YtfjocafepigijaaDoor.Ot
open Go.RowKit Mv Sy Po Ps Cm Pa Am Wd St Ra Set

def BrQ (base : Nat) (w : World) (S M left f mb : Nat) (tx : List Int) (A : List Arc) (N : Nat → Nat) (vS : Value) (ws0 : List Nat) (vs vk0 ve0 : Value) (sts : List (Value × Nat)) (ks0 : List (Value × List Nat)) (e : Ending) (w' : World) : Prop :=
  ∃ vb ws G nm vk ve ks es Gm bl, e = .returned vb ∧ Sd S tx A N left M (mem ws0) (mem ws) [] (mg G) none [] ∧ Ne G ∧ Bw base w w' f mb nm M 61 vS vs vk ve vk0 ve0 sts ks es Gm G N bl vb ∧ Bq G ks0 ks bl 61 ∧ nm = ks.length
theorem sz77 : (Tryd.prog.info? 77).map (·.size) = some 1 := by kernel_rfl
theorem run_idx (G : Gt) (c : Nat) (hc : c < 61) (W : World) : Sem.run Tryd.prog (Instr.index 147 (.agg (ca (gv G))) (.int .i64 (c : Int))) W = .ok (gv G c) W := by
  have h1 := ca_at (gv G) c hc
  have h2 : (c : Int) < 61 := by omega
  have h3 := Tryd.underlying147
  have h4 := sz77
  unfold Instr.index
  go_simp
theorem Bq.len {G : Gt} {ks0 ks : List (Value × List Nat)} {bl : List (Nat × Nat)} {c : Nat} (h : Bq G ks0 ks bl c) : bl.length ≤ c := by
  have := congrArg List.length h.cs
  rw [List.length_map] at this
  rw [this]
  exact Nat.le_trans (List.length_filter_le _ _) (by simp)
theorem Bw.nm_ {base : Nat} {w wr : World} {f mb nm M c : Nat} {vS vs vk ve vk0 ve0 : Value} {sts : List (Value × Nat)} {ks : List (Value × List Nat)} {es : List Bool} {Gm : ByteArray → Option Nat} {G : Gt} {N : Nat → Nat} {bl : List (Nat × Nat)} {vb : Value} (h : Bw base w wr f mb nm M c vS vs vk ve vk0 ve0 sts ks es Gm G N bl vb) : ¬ (mb = f ∨ vk.ownBlock = some mb ∨ ve.ownBlock = some mb) := fun e => by
  obtain ⟨me, mc, hmb⟩ := h.mp.ty
  have nm1 : ∀ {b : Nat} {d : Array Value} {ty : TypeId}, wr.heap[b]? = some (.cells d ty (0, 0)) → b ≠ mb := fun hb e => by subst e; rw [hmb] at hb; cases hb
  rcases e with e | e | e
  · exact nm1 h.fr.row e.symm
  · obtain ⟨d, hd⟩ := own_ty h.fr.sets e; exact nm1 hd rfl
  · obtain ⟨d, hd⟩ := own_ty h.fr.ends e; exact nm1 hd rfl
theorem tab_kp {w w' : World} {X : Nat → Prop} (h : TabAt 0 Lib.deBruijn64tab w) (h0 : 0 < w.heap.size) (hk : Kp X w w') (hX : ¬ X 0) : TabAt 0 Lib.deBruijn64tab w' := fun j hj => (hk.cell h0 hX).trans (h j hj)
theorem br_begin {base : Nat} {w W1 : World} {f mb M : Nat} {vS vs vk0 ve0 : Value} {sts : List (Value × Nat)} {ks0 : List (Value × List Nat)} {es0 : List Bool} {Gm0 : ByteArray → Option Nat} {G : Gt} {N : Nat → Nat}
    (hfr : Fr base w f vs vk0 ve0 sts ks0 es0 M) (hes : es0 = ks0.map fun p => en N p.2) (hsm : IsSm w mb ks0.length Gm0) (hmet : Met ks0 Gm0) (hmge : base ≤ mb) (hvg : ∀ b, vS.ownBlock = some b → b < base) (hgs : Gs (w.alloc (.cells #[] 178)).heap.size W1 M G) (hk : Kp (fun b => vS.ownBlock = some b) (w.alloc (.cells #[] 178)) W1) (hbs : base ≤ w.heap.size) :
    Bw base w W1 f mb ks0.length M 0 vS vs vk0 ve0 vk0 ve0 sts ks0 es0 Gm0 G N [] (.slice (some ⟨w.heap.size, 0, none⟩) 0 0) := by
  have hb := below_al w (.cells #[] 178)
  have hsz : (w.alloc (.cells #[] 178)).heap.size = w.heap.size + 1 := by simp
  have hrow : (w.alloc (.cells #[] 178)).ownsRow w.heap.size 178 2 (.slice (some ⟨w.heap.size, 0, none⟩) 0 0) 0 [] := ⟨rfl, .inr ⟨w.heap.size, 0, #[], rfl, Nat.le_refl _, heap_alloc_new _ _, Nat.le_refl _, Nat.zero_le _, rfl, rfl⟩⟩
  refine ⟨(hfr.below hb).kept hk (fun b e1 e2 => ?_), hes, hsm.kept ((hk.block mb (Nat.lt_of_lt_of_le hsm.lt hb.size) (fun e => by have := hvg _ e; omega)).trans (hb.block mb hsm.lt)), hmet, ⟨fun d p hp => ⟨⟨own_low (hgs.set d p hp).1.1 (by omega), (hgs.set d p hp).1.2⟩, (hgs.set d p hp).2⟩, hgs.apart⟩, fun p hp => .inl (fun b hb2 => ((hfr.each p hp).1.1.lt _ hb2).2), own_kp2 hrow hk (fun b hb2 e => ?_), ⟨_, _, _, rfl⟩, kp_then (kp_below hb _) hk (fun i _ e => .inl e), fun b h _ => h, fun b h _ => h, lt_at hfr.row, hsm.lt⟩
  · have h1 := (hfr.X e2).1
    have := hvg b e1
    omega
  · have h1 := (hrow.lt _ hb2).1
    have := hvg b e
    omega
set_option maxHeartbeats 8000000 in
set_option maxRecDepth 100000 in
theorem branch_any (base b2 b0 T S sb ci nb cN M left f mb : Nat) (ai : Option Addr) (tx : List Int) (A : List Arc) (V : Nat → Value) (N : Nat → Nat) (vS : Value) (ws0 : List Nat) (vs vk0 ve0 : Value) (sts : List (Value × Nat)) (ks0 : List (Value × List Nat)) (es0 : List Bool) (Gm0 : ByteArray → Option Nat) (w : World)
    (hT : Tr b2 w T S sb ci nb cN M ai tx (rws (fun a => a) A) V N) (hF : Fine S tx A M) (hTab : TabAt 0 Lib.deBruijn64tab w) (hset : IsSet w b0 vS M ws0) (hlen : ws0.length = (M + 63) / 64) (hvg : ∀ b, vS.ownBlock = some b → b2 ≤ b ∧ b < base) (hmb : ∀ v, mem ws0 v = true → v < M)
    (hfr : Fr base w f vs vk0 ve0 sts ks0 es0 M) (hes : es0 = ks0.map fun p => en N p.2) (hsm : IsSm w mb ks0.length Gm0) (hmet : Met ks0 Gm0) (hb2 : b2 ≤ base) (hbs : base ≤ w.heap.size) (hmge : base ≤ mb) (hks : ks0.length ≤ 50000) :
    Calls Tryd.prog 91 #[.pointer (some ⟨T, 0, none⟩), vS, .int .i64 (left : Int), .pointer (some ⟨f, 0, none⟩), .map (some mb)] w (BrQ base w S M left f mb tx A N vS ws0 vs vk0 ve0 sts ks0) := by
  obtain ⟨i0, hi, hz0, hz1, hz2⟩ := info_parts inf178
  have h00 : 0 < w.heap.size := Nat.lt_of_le_of_lt (Nat.zero_le _) (lt_at hT.trk)
  obtain ⟨sa, scap, hvS⟩ := oslice hset.1
  have hM : M ≤ 2480 := by rw [hF.eM]; exact Nat.le_trans (Nat.mul_le_mul hF.st (Nat.succ_le_succ hF.txl)) (by decide)
  have hM1 : 0 < M := by rw [hF.eM]; exact Nat.mul_pos hF.rgt.pos (Nat.succ_pos _)
  have HF : Hid (Fine S tx A M) := hF
  have HH : Hid (Tr b2 w T S sb ci nb cN M ai tx (rws (fun a => a) A) V N ∧ TabAt 0 Lib.deBruijn64tab w ∧ 0 < w.heap.size ∧ b2 ≤ base ∧ base ≤ w.heap.size ∧ (∀ b, vS.ownBlock = some b → b2 ≤ b ∧ b < base)) := ⟨hT, hTab, h00, hb2, hbs, hvg⟩
  have HX0 : Hid (∀ b, (vS.ownBlock = some b ∨ b = f ∨ b = mb ∨ vk0.ownBlock = some b ∨ ve0.ownBlock = some b) → b2 ≤ b) := by
    rintro b (e | rfl | rfl | e | e)
    · exact (hvg b e).1
    · exact Nat.le_trans hb2 hfr.fge
    · exact Nat.le_trans hb2 hmge
    · exact Nat.le_trans hb2 (hfr.sets.lt _ e).1
    · exact Nat.le_trans hb2 (hfr.ends.lt _ e).1
  have HW : Hid (∀ W, Below w.heap.size w W → Calls Tryd.prog 101 #[.pointer (some ⟨T, 0, none⟩), vS, .int .i64 (left : Int)] W (WrQ W S M left tx A N vS ws0)) := fun W hb => write_any b2 b0 T S sb ci nb cN M left ai tx A V N vS ws0 W (hT.below (hb.mono hT.le)) hF (Tz.tab_below hTab h00 hb) ⟨own_kp2 hset.1 (kp_below hb (fun _ => False)) (fun _ _ => id), hset.2⟩ hlen (fun b e => (hvg b e).1) hmb
  have HFR : Hid (Fr base w f vs vk0 ve0 sts ks0 es0 M ∧ es0 = (ks0.map fun p => en N p.2) ∧ IsSm w mb ks0.length Gm0 ∧ Met ks0 Gm0 ∧ base ≤ mb) := ⟨hfr, hes, hsm, hmet, hmge⟩
  have HVS : Hid (vS = .slice sa ws0.length scap) := hvS
  have HSO : Hid (IsSet w b0 vS M ws0) := hset
  rw [hvS]
  clear hT hF hTab hset hlen hvg hmb hfr hes hsm hmet hb2 hbs hmge hvS h00
  go_enter Tryd.func91, Tryd.ntmps91
  go_upto_region 2 with fail
  have K101 := HW.out (w.alloc (.cells #[] 178)) (below_al _ _)
  rw [HVS.out] at K101
  go_upto_region 3 with (go_at_call 101; (with_reducible refine K101.mono ?_); clear K101; rintro e W1 ⟨ws, G, rfl, hsd, hne, hgs, hkw⟩; rw [← HVS.out] at hkw; have HB0 : Hid (Bw base w W1 f mb ks0.length M 0 vS vs vk0 ve0 vk0 ve0 sts ks0 es0 Gm0 G N [] (.slice (some ⟨w.heap.size, 0, none⟩) 0 0)) := br_begin HFR.out.1 HFR.out.2.1 HFR.out.2.2.1 HFR.out.2.2.2.1 HFR.out.2.2.2.2 (fun b hb => (HH.out.2.2.2.2.2 b hb).2) hgs hkw HH.out.2.2.2.2.1; have HSD : Hid (Sd S tx A N left M (mem ws0) (mem ws) [] (mg G) none [] ∧ Ne G) := ⟨hsd, hne⟩; clear hsd hne hgs hkw)
  have HMG : Hid (∀ c p, G c = some p → ∀ x, mem p.2 x = true → x < M) := fun c p hp x hx => by
    obtain ⟨hc, u, hu, he, _⟩ := HSD.out.1.snd c x (by unfold mg; rw [hp]; exact hx)
    exact HF.out.step _ _ _ (HSD.out.1.bd u hu) he
  clear HW HSO
  go_loopw [11, 22] (fun a i wr => ∃ (c nm : Nat) (vk ve : Value) (ks : List (Value × List Nat)) (es : List Bool) (Gm : ByteArray → Option Nat) (bl : List (Nat × Nat)) (vb : Value), a = vb ∧ i = .int .i64 c ∧ c ≤ 61 ∧ Bw base w wr f mb nm M c vS vs vk ve vk0 ve0 sts ks es Gm G N bl vb ∧ Bq G ks0 ks bl c ∧ nm = ks.length) (fun _ i _ => 61 - (intOf i).toNat)
  case atStart => exact ⟨0, ks0.length, vk0, ve0, ks0, es0, Gm0, [], _, rfl, rfl, Nat.zero_le _, HB0.out, Bq.begin G ks0, rfl⟩
  case round =>
    clear HB0 HFR
    obtain ⟨c, nm, vk, ve, ks, es, Gm, bl, vb, rfl, rfl, hc, hbw, hbq, hnm⟩ := hrel
    subst hnm
    obtain ⟨ab, nb1, kb1, hvb⟩ := hbw.nn
    obtain ⟨ab', kb', hvb'⟩ := oslice hbw.row
    have hvb2 := hvb.symm.trans hvb'
    rw [Value.slice.injEq] at hvb2
    obtain ⟨e1, hn1, e3⟩ := hvb2
    clear e1 e3
    subst hvb
    subst hn1
    clear hvb'
    have HBW : Hid (Bw base w wr f mb ks.length M c vS vs vk ve vk0 ve0 sts ks es Gm G N bl (.slice (some ab) bl.length kb1)) := hbw
    have HBQ : Hid (Bq G ks0 ks bl c) := hbq
    have hbl := hbq.len
    have hkl : ks.length ≤ 50061 := by have := hbq.few; omega
    by_cases hlt : c < 61
    · have hidx := run_idx G c hlt
      cases hgc : G c with
      | none =>
        rw [show gv G c = .slice none 0 0 by unfold gv; rw [hgc]] at hidx
        have q1 := eql77n
        have HGC : Hid (G c = none) := hgc
        clear hgc hbw hbq
        go_wp2
        go_roundw
        case rel => exact ⟨c + 1, ks.length, vk, ve, ks, es, Gm, bl, _, rfl, by go_num, hlt, HBW.out.next, HBQ.out.skip HGC.out, rfl⟩
        case measure => simp [intOf]; omega
      | some p =>
        have hset := (hbw.gs.set c p hgc)
        obtain ⟨pg, pcap, hpe, _, _⟩ := own_some hset.1.1 (by rw [hset.2]; omega)
        have K75 := key_any w.heap.size M p.1 p.2 wr hset.1 (by rw [hset.2]; omega) (by rw [hset.2]; omega)
        rw [show gv G c = p.1 by unfold gv; rw [hgc], hpe] at hidx
        rw [hpe] at K75
        have q1 := eql77 ⟨pg, 0, none⟩ p.2.length pcap
        have HPE : Hid (p.1 = .slice (some ⟨pg, 0, none⟩) p.2.length pcap) := hpe
        have HGC : Hid (G c = some p) := hgc
        have HKS : Hid ((kst p.2).size ≤ maxLen) := by show _ ≤ _; rw [kst_size, hset.2]; unfold maxLen; omega
        have HWD : Hid (∀ a ∈ p.2, a < 18446744073709551616) := hset.1.2.1
        obtain ⟨sk, hsk⟩ : ∃ sk, kst p.2 = sk := ⟨_, rfl⟩
        have HSK : Hid (kst p.2 = sk) := hsk
        rw [show strOfNums ((kb p.2).map fun (x : Nat) => (x : Int)) = sk from hsk] at K75
        obtain ⟨lp, hlp⟩ : ∃ lp, p.2.length = lp := ⟨_, rfl⟩
        rw [hlp] at K75 hidx q1 HPE
        clear hgc hbw hbq hset hpe hsk hlp
        go_upto_region 7 with (go_at_call 75; (with_reducible refine K75.mono ?_); clear K75; rintro e w2 ⟨rfl, hb2⟩; have HB2 : Hid (Bw base w w2 f mb ks.length M c vS vs vk ve vk0 ve0 sts ks es Gm G N bl (.slice (some ab) bl.length kb1)) := HBW.out.below hb2; clear hb2)
        clear HBW hidx q1
        have hlook := HB2.out.mp.look (s := sk) (by rw [← HSK.out]; exact HKS.out)
        cases hgm : Gm sk with
        | some i =>
          rw [hgm] at hlook
          dsimp only at hlook
          obtain ⟨q, hq, hqe⟩ := HB2.out.met.only sk i hgm
          have hqs : q.2 = p.2 := kst_inj (HB2.out.fr.each q (List.mem_of_getElem? hq)).1.2.1 HWD.out (by rw [← hqe, HSK.out])
          have HQ : Hid (ks[i]? = some q ∧ q.2 = p.2) := ⟨hq, hqs⟩
          clear hgm hq hqe hqs
          go_upto_region 11 with fail
          clear hlook
          have hsz : w.heap.size ≤ w2.heap.size := HB2.out.kp.size
          go_wp2_with (refine wpList_append_own_at _ rfl _ _ 175 rfl w.heap.size 178 i0 (.agg #[.int .i64 0, .int .i64 0]) 2 16 Tryd.underlying175 hi hz0 hz1 hz2 rfl (by decide) _ _ _ rfl (HB2.out.row.alloc _) ⟨_, 0, none⟩ 1 1 [.int .i64 (c : Int), .int .i64 ((i : Nat) : Int)] rfl rfl (cell_two_at _ _ _ _ _ rfl) (two_one _ _) (by unfold maxLen; omega) (by omega) (by simp; omega) ?_; intro v1 w5 ho1 hg1 _ hl1; have HN : Hid _ := (HB2.out.below (below_al w2 (.cells #[.int .i64 (c : Int), .int .i64 ((i : Nat) : Int)] 178))).push ho1 hg1; obtain ⟨gg, cc, rfl, _, _⟩ := own_some ho1 (Nat.succ_pos _); clear ho1 hg1 hl1)
          go_roundw
          case rel => exact ⟨c + 1, ks.length, vk, ve, ks, es, Gm, bl ++ [(c, i)], _, rfl, by go_num, hlt, HN.out.next, HBQ.out.old HGC.out HQ.out.1 HQ.out.2, rfl⟩
          case measure => simp [intOf]; omega
        | none =>
          rw [hgm] at hlook
          dsimp only at hlook
          have HGM : Hid (Gm (kst p.2) = none) := by show _ = _; rw [HSK.out]; exact hgm
          have hT2 := tr_kp HH.out.1 HB2.out.kp HX0.out
          have hset2 := HB2.out.gs.set c p HGC.out
          have K63 := put_any base b2 f T S sb ci nb cN M ai tx (rws (fun a => a) A) V N vs vk ve p.1 sts ks es p.2 w2 hT2 (tab_kp HH.out.2.1 HH.out.2.2.1 HB2.out.kp (fun e => by have := HX0.out 0 e; have := HH.out.1.tlt; omega)) HB2.out.fr ⟨own_low hset2.1.1 HH.out.2.2.2.2.1, hset2.1.2⟩ hset2.2 (HMG.out c p HGC.out) (HB2.out.ap HGC.out) (by omega) (by rw [HB2.out.es, List.length_map]) (Nat.le_trans HH.out.2.2.2.2.1 HB2.out.kp.size)
          rw [HPE.out] at K63
          have HKM : Hid (ks.length < maxLen) := by show _ < _; unfold maxLen; omega
          clear hgm hT2 hset2
          go_upto_region 11 with (go_at_call 63; (with_reducible refine K63.mono ?_); clear K63; rintro e w3 ⟨rfl, vk', ve', hf3, hk3, h31, h32⟩; rw [← HPE.out] at hf3; obtain ⟨w4, hr4, hsm4, hg4⟩ := (HB2.out.mp.kept (hk3.block mb HB2.out.mp.lt HB2.out.nm_)).store (c := ks.length) HKM.out (s := kst p.2) HKS.out; have HB4 : Hid (Bw base w w4 f mb (ks.length + 1) M (c + 1) vS vs vk' ve' vk0 ve0 sts (ks ++ [p]) (es ++ [en N p.2]) (fun s' => if s' = kst p.2 then some ks.length else Gm s') G N bl (.slice (some ab) bl.length kb1)) := HB2.out.put HGC.out HGM.out hf3 hk3 h31 h32 hsm4 hg4; rw [HSK.out] at hr4; clear hf3 hk3 h31 h32 hsm4 hg4)
          clear hlook hr4
          have hsz : w.heap.size ≤ w4.heap.size := HB4.out.kp.size
          go_wp2_with (refine wpList_append_own_at _ rfl _ _ 175 rfl w.heap.size 178 i0 (.agg #[.int .i64 0, .int .i64 0]) 2 16 Tryd.underlying175 hi hz0 hz1 hz2 rfl (by decide) _ _ _ rfl (HB4.out.row.alloc _) ⟨_, 0, none⟩ 1 1 [.int .i64 (c : Int), .int .i64 ((ks.length : Nat) : Int)] rfl rfl (cell_two_at _ _ _ _ _ rfl) (two_one _ _) (by unfold maxLen; omega) (by omega) (by simp; omega) ?_; intro v1 w5 ho1 hg1 _ hl1; have HN : Hid _ := (HB4.out.below (below_al w4 (.cells #[.int .i64 (c : Int), .int .i64 ((ks.length : Nat) : Int)] 178))).push ho1 hg1; obtain ⟨gg, cc, rfl, _, _⟩ := own_some ho1 (Nat.succ_pos _); clear ho1 hg1 hl1)
          go_roundw
          case rel => exact ⟨c + 1, ks.length + 1, vk', ve', ks ++ [p], _, _, bl ++ [(c, ks.length)], _, rfl, by go_num, hlt, HN.out, HBQ.out.new HGC.out, by simp⟩
          case measure => simp [intOf]; omega
    · obtain rfl : c = 61 := by omega
      clear hbw hbq
      go_wp2
      go_ret
      rw [← HVS.out]
      exact ⟨_, ws, G, ks.length, vk, ve, ks, es, Gm, bl, rfl, HSD.out.1, HSD.out.2, HBW.out, HBQ.out, rfl⟩
end Go.Proofs.YtfjocafepigijaaDoor.Ot
