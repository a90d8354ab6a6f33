/- measure (62): goes back from the nodes that wait, along arcs that write nothing; the table of needs, the nodes of the next round. Conditions: a track of at most 40 states and 61 symbols, at most 120 arcs a state. -/
import Derived.Test.YtfjocafepigijaaDoorVeM
import Derived.Deep.MidRow
namespace Go.Proofs.YtfjocafepigijaaDoor.Ot
open Go.RowKit Mv Sy Po Ps Cm Pa Am Wd St

theorem oslice {w : World} {base e size n : Nat} {v : Value} {xs : List Value} (h : w.ownsRow base e size v n xs) : ∃ a cap, v = .slice a n cap := by
  rcases h.2 with ⟨rfl, rfl⟩ | ⟨g, cap, cur, hv, _⟩
  · exact ⟨none, 0, rfl⟩
  · exact ⟨_, _, hv⟩
theorem ocap {w : World} {b e size n n' cap : Nat} {a : Option Addr} {xs : List Value} (h : w.ownsRow b e size (.slice a n' cap) n xs) (hn : 0 < n) : n ≤ cap ∧ cap ≤ maxLen := by
  rcases h.2 with ⟨_, h0⟩ | ⟨g, cap', cur, hv, _, _, hnc, hcm, _⟩
  · omega
  · simp only [Value.slice.injEq] at hv
    obtain ⟨_, _, rfl⟩ := hv
    exact ⟨hnc, hcm⟩
/-- an arc of a row -/
theorem arc_at {w : World} {base k : Nat} {v : Value} {R : List Arc} (h : w.ownsRow base 64 5 v R.length (acs R)) (hk : k < R.length) : ∃ b cap, v = .slice (some ⟨b, 0, none⟩) R.length cap ∧ w.cell? ⟨b, k * 5, none⟩ = some (.int .i64 (R[k]).1) ∧ w.cell? ⟨b, k * 5 + 1, none⟩ = some (.int .i64 (R[k]).2.1) ∧ w.cell? ⟨b, k * 5 + 2, none⟩ = some (.int .i64 (R[k]).2.2.1) ∧ w.cell? ⟨b, k * 5 + 3, none⟩ = some (.int .i64 (R[k]).2.2.2.1) ∧ w.cell? ⟨b, k * 5 + 4, none⟩ = some (.int .i64 (R[k]).2.2.2.2) := by
  obtain ⟨g, cap, rfl, _, _⟩ := own_some h (by omega)
  have u := acs_at R k hk
  exact ⟨g, cap, rfl, (h.cellAt _ (by omega)).trans u.1, (h.cellAt _ (by omega)).trans u.2.1, (h.cellAt _ (by omega)).trans u.2.2.1, (h.cellAt _ (by omega)).trans u.2.2.2.1, (h.cellAt _ (by omega)).trans u.2.2.2.2⟩
/-- what measure reads, and that it is right -/
structure MA (base : Nat) (w : World) (T S sb ci M : Nat) (ai : Option Addr) (vl vn : Value) (tx : List Int) (R : Nat → List Arc) (V : Nat → Value) (vs : List Value) : Prop where
  env : Env base w T S sb ci ai vl vn tx R V vs
  eM : M = S * (tx.length + 1)
  arcs : ∀ p, p < S → (R p).length ≤ 120 ∧ ∀ a ∈ R p, ∃ t : Nat, a.2.1 = (t : Int) ∧ t < S
theorem getD_set (N : List Nat) (P k x d : Nat) (h : P < N.length) : (N.set P k).getD x d = if x = P then k else N.getD x d := by
  rw [List.getD_eq_getElem?_getD, List.getD_eq_getElem?_getD, List.getElem?_set]
  by_cases e : P = x
  · subst e; simp [h]
  · rw [if_neg e, if_neg (fun h => e h.symm)]
theorem node_place {S M P : Nat} {tx : List Int} (hM : M = S * (tx.length + 1)) (hP : P < M) : P / S ≤ tx.length := by
  have := Nat.div_lt_of_lt_mul (show P < S * (tx.length + 1) by rw [← hM]; exact hP)
  omega
theorem q0_lt {S M P : Nat} {tx : List Int} {R : Nat → List Arc} (hM : M = S * (tx.length + 1)) (ha : ∀ p, p < S → (R p).length ≤ 120 ∧ ∀ a ∈ R p, ∃ t : Nat, a.2.1 = (t : Int) ∧ t < S) (h0 : 0 < S) (hP : P < M) : ∀ v ∈ q0 S tx R P, v < M := by
  intro v hv
  obtain ⟨a, ham, hb⟩ := List.mem_filterMap.1 hv
  obtain ⟨t, ht, htS⟩ := (ha _ (Nat.mod_lt P h0)).2 a ham
  split at hb
  · rw [hM]; exact bk_lt (node_place hM hP) (by rw [ht]; exact htS) hb
  · cases hb
theorem q1_lt {S M P : Nat} {tx : List Int} {R : Nat → List Arc} (hM : M = S * (tx.length + 1)) (ha : ∀ p, p < S → (R p).length ≤ 120 ∧ ∀ a ∈ R p, ∃ t : Nat, a.2.1 = (t : Int) ∧ t < S) (h0 : 0 < S) (hP : P < M) : ∀ v ∈ q1 S tx R P, v < M := by
  intro v hv
  obtain ⟨a, ham, hb⟩ := List.mem_filterMap.1 hv
  obtain ⟨t, ht, htS⟩ := (ha _ (Nat.mod_lt P h0)).2 a ham
  split at hb
  · cases hb
  · rw [hM]; exact bk_lt (node_place hM hP) (by rw [ht]; exact htS) hb
def MeQ (base : Nat) (w : World) (nb cN M S L wn K : Nat) (v0 : Value) (tx : List Int) (R : Nat → List Arc) (F : List Nat) (e : Ending) (w' : World) : Prop :=
  ∃ N mo vm vz, e = .returned vm ∧ Me base w w' nb cN M v0 vz vm N [] mo ∧ Ms (q0 S tx R) (q1 S tx R) F L (fun v => N.getD v (L + 1)) wn [] mo ∧ (∀ v ∈ mo, v < M) ∧ mo.length + 121 * fr wn N ≤ K
set_option maxHeartbeats 8000000 in
set_option maxRecDepth 100000 in
theorem measure_any (base T S sb ci nb cN M L wn K : Nat) (ai : Option Addr) (vl v0 : Value) (tx : List Int) (R : Nat → List Arc) (V : Nat → Value) (vs : List Value) (F N0 st0 : List Nat) (w : World)
    (hA : MA base w T S sb ci M ai vl (.slice (some ⟨nb, 0, none⟩) M cN) tx R V vs) (hme0 : Me base w w nb cN M v0 v0 (.slice none 0 0) N0 st0 []) (hms0 : Ms (q0 S tx R) (q1 S tx R) F L (fun v => N0.getD v (L + 1)) wn st0 []) (h10 : ∀ v ∈ st0, v < M) (h30 : st0.length + 121 * fr wn N0 ≤ K) (hK : K ≤ 400000) (hM : M ≤ 2480) (h0 : 0 < S) (hS : S ≤ 40) (hl : tx.length ≤ 61) :
    Calls Tryd.prog 62 #[.pointer (some ⟨T, 0, none⟩), .slice (some ⟨sb, 0, none⟩) S S, v0, .int .i64 (wn : Int)] w (MeQ base w nb cN M S L wn K v0 tx R F) := by
  obtain ⟨i0, hi, hz0, hz1, hz2⟩ := info_parts inf3
  have HA : Hid (MA base w T S sb ci M ai vl (.slice (some ⟨nb, 0, none⟩) M cN) tx R V vs) := hA
  have HX : Hid (∀ b, b = nb ∨ v0.ownBlock = some b → base ≤ b ∧ ∃ c, w.heap[b]? = some (.cells c 3 (0, 0))) := by
    rintro b (rfl | hb)
    · exact ⟨(hme0.need.lt _ rfl).1, own_ty hme0.need rfl⟩
    · exact ⟨(hme0.stk.lt _ hb).1, own_ty hme0.stk hb⟩
  have HM40 : Hid (M ≤ 2480) := hM
  have HME0 : Hid (Me base w w nb cN M v0 v0 (.slice none 0 0) N0 st0 []) := hme0
  have HMS0 : Hid (Ms (q0 S tx R) (q1 S tx R) F L (fun v => N0.getD v (L + 1)) wn st0 []) := hms0
  have H10 : Hid ((∀ v ∈ st0, v < M) ∧ st0.length + 121 * fr wn N0 ≤ K ∧ K ≤ 400000) := ⟨h10, h30, hK⟩
  obtain ⟨av0, cv0, hv0e⟩ := oslice hme0.stk
  subst hv0e
  obtain ⟨v0, hv0⟩ : ∃ v0 : Value, Value.slice av0 st0.length cv0 = v0 := ⟨_, rfl⟩
  rw [hv0] at HME0 HX ⊢
  have HV0 : Hid (v0 = Value.slice av0 st0.length cv0) := hv0.symm
  clear hA hM hme0 hms0 h10 h30 hK hv0
  go_enter Tryd.func62, Tryd.ntmps62
  go_upto_region 2 with fail
  go_loopg [2, 9] (st0.length + 121 * fr wn N0) (fun gk a b wr => ∃ (N st mo : List Nat) (vs vm : Value), a = vs ∧ b = vm ∧ Me base w wr nb cN M v0 vs vm N st mo ∧ Ms (q0 S tx R) (q1 S tx R) F L (fun v => N.getD v (L + 1)) wn st mo ∧ (∀ v ∈ st, v < M) ∧ (∀ v ∈ mo, v < M) ∧ st.length + mo.length + 121 * fr wn N ≤ K ∧ gk = st.length + mo.length + 121 * fr wn N)
  case atStart => exact ⟨N0, st0, [], _, _, rfl, rfl, HME0.out, HMS0.out, H10.out.1, fun _ h => (by cases h), by have := H10.out.2.1; simpa using this, by simp⟩
  case round =>
    clear HME0 HMS0
    obtain ⟨N, st, mo, vs1, vm, rfl, rfl, hme, hms, h1, h2, h3, hgk⟩ := hrel
    rcases List.eq_nil_or_concat st with rfl | ⟨st', P, hTe⟩
    · obtain ⟨av, cv, rfl⟩ := oslice hme.stk
      obtain ⟨bv, dv, rfl⟩ := oslice hme.mor
      have HME : Hid (Me base w wr nb cN M v0 (.slice av ([] : List Nat).length cv) (.slice bv mo.length dv) N [] mo) := hme
      have HMS : Hid (Ms (q0 S tx R) (q1 S tx R) F L (fun v => N.getD v (L + 1)) wn [] mo) := hms
      have H23 : Hid ((∀ v ∈ mo, v < M) ∧ mo.length + 121 * fr wn N ≤ K) := ⟨h2, by simpa using h3⟩
      clear hme hms h1 h2 h3 hgk
      go_wp2
      go_ret
      exact ⟨N, mo, _, _, rfl, HME.out, HMS.out, H23.out.1, H23.out.2⟩
    · rw [List.concat_eq_append] at hTe
      subst hTe
      obtain ⟨tb, cap, hv, _, _⟩ := own_some hme.stk (by simp)
      subst hv
      obtain ⟨bv, dv, rfl⟩ := oslice hme.mor
      have hpc := hme.stk.cellAt st'.length (by simp)
      rw [show (ns (st' ++ [P]))[st'.length]? = some (.int .i64 (P : Int)) by simp [ns]] at hpc
      have hl1 : (st' ++ [P]).length = st'.length + 1 := by simp
      have hPM : P < M := h1 P (by simp)
      have hkc0 := ocap hme.stk (by simp)
      rw [hl1] at hkc0
      have hPl : P < N.length := by rw [hme.len]; exact hPM
      have hnp := hme.need.cellAt P (by omega)
      rw [show (ns N)[P]? = some (.int .i64 ((N[P] : Nat) : Int)) by simp [ns, hPl]] at hnp
      have hnf := hme.need.frozenAt P
      obtain ⟨np, hnpe⟩ : ∃ np, N[P] = np := ⟨_, rfl⟩
      rw [hnpe] at hnp
      have HNP : Hid (N.getD P (L + 1) = np) := by show _ = _; rw [List.getD_eq_getElem?_getD, List.getElem?_eq_getElem hPl, Option.getD_some]; exact hnpe
      have hst : (st' ++ [P]).length + mo.length + 121 * fr wn N = st'.length + 1 + mo.length + 121 * fr wn N := by rw [hl1]
      obtain ⟨k, hk⟩ : ∃ k, st'.length = k := ⟨_, rfl⟩
      obtain ⟨lm, hlm⟩ : ∃ lm, mo.length = lm := ⟨_, rfl⟩
      have hk4 : k + 1 ≤ 400000 := by rw [hst] at h3; have := H10.out.2.2; omega
      have hme2 : Me base w wr nb cN M v0 (.slice (some ⟨tb, 0, none⟩) k cap) (.slice bv lm dv) N st' mo := by
        have := hme
        rw [hl1, hk, hlm] at this
        have := this.pop (by rw [hl1, hk])
        rw [show (st' ++ [P]).take k = st' by rw [← hk]; simp] at this
        exact this
      have HME : Hid (Me base w wr nb cN M v0 (.slice (some ⟨tb, 0, none⟩) k cap) (.slice bv lm dv) N st' mo) := hme2
      have HLN : Hid (st'.length = k ∧ mo.length = lm) := ⟨hk, hlm⟩
      have HMS : Hid (Ms (q0 S tx R) (q1 S tx R) F L (fun v => N.getD v (L + 1)) wn (st' ++ [P]) mo) := hms
      have H1 : Hid (∀ v ∈ st', v < M) := fun v hv => h1 v (by simp [hv])
      have H2 : Hid (∀ v ∈ mo, v < M) := h2
      have H3 : Hid (k + 1 + lm + 121 * fr wn N ≤ K ∧ gk = k + 1 + lm + 121 * fr wn N) := by rw [hst, hk, hlm] at h3 hgk; exact ⟨h3, hgk⟩
      have HEN : Hid (Env base wr T S sb ci ai vl (.slice (some ⟨nb, 0, none⟩) M cN) tx R V vs) := HA.out.env.kept hme2.kp (fun b hb => HX.out b hb)
      rw [hk] at hpc hkc0 hl1
      rw [hl1, hlm]
      have hkc : k + 1 ≤ cap := hkc0.1
      have hkc' : (k : Int) ≤ (cap : Int) := by omega
      have hM2 : M ≤ 2480 := HM40.out
      have t1 := cell_of_row _ _ 1 _ _ _ HEN.out.tr
      have t3 := cell_of_row _ _ 3 _ _ _ HEN.out.tr
      clear hme hme2 hms h1 h2 h3 hgk hst hk hlm hl1 hkc0 hnpe hPl
      by_cases hle : np ≤ wn
      · have HLE : Hid (np ≤ wn) := hle
        have hle' : ((np : Int) ≤ (wn : Int)) := by omega
        clear hle
        go_wp2
        go_roundg (k + lm + 121 * fr wn N)
        case measure => have := H3.out.2; omega
        case rel => exact ⟨N, st', mo, _, _, rfl, rfl, HME.out, HMS.out.skip (by show N.getD P (L + 1) ≤ wn; rw [HNP.out]; exact HLE.out), H1.out, H2.out, by have := HLN.out; have := H3.out.1; omega, by have := HLN.out; omega⟩
      · have HLE : Hid (¬ np ≤ wn) := hle
        have hle' : ¬ ((np : Int) ≤ (wn : Int)) := by omega
        clear hle
        go_upto_region 7 with fail
        have HME2 : Hid (Me base w (wr.setCell ⟨nb, P, none⟩ (.int .i64 (wn : Int))) nb cN M v0 (.slice (some ⟨tb, 0, none⟩) k cap) (.slice bv lm dv) (N.set P wn) st' mo) := HME.out.set
        clear HME HEN t1 t3 hpc hnp hnf
        generalize hV1 : wr.setCell ⟨nb, P, none⟩ (.int .i64 (wn : Int)) = V1 at *
        clear hV1
        have HEN : Hid (Env base V1 T S sb ci ai vl (.slice (some ⟨nb, 0, none⟩) M cN) tx R V vs) := HA.out.env.kept HME2.out.kp (fun b hb => HX.out b hb)
        have t1 := cell_of_row _ _ 1 _ _ _ HEN.out.tr
        obtain ⟨p, hp⟩ : ∃ p, P % S = p := ⟨_, rfl⟩
        have HP : Hid (P % S = p) := hp
        have hpS : p < S := by rw [← hp]; exact Nat.mod_lt P h0
        have hrr : (P : Int).tmod (S : Int) = (p : Int) := by rw [← hp]; simp [Int.tmod]
        have hr2 : (P : Int) % (S : Int) = (p : Int) := by rw [← hp]; simp
        have hn1 : ¬ (S : Int) = 0 := by omega
        have hn0 : ¬ S = 0 := by omega
        have hhd := (HEN.out.heads.cellAt p (by omega)).trans (HEN.out.head p hpS)
        obtain ⟨ra, rc, hvp⟩ := oslice (HEN.out.rows p)
        obtain ⟨nr, hnr⟩ : ∃ nr, (R p).length = nr := ⟨_, rfl⟩
        have HVP : Hid (V p = .slice ra nr rc) := by rw [← hnr]; exact hvp
        have HNR : Hid ((R p).length = nr) := hnr
        rw [HVP.out] at hhd
        have hnr120 : nr ≤ 120 := by rw [← hnr]; exact (HA.out.arcs p hpS).1
        clear hvp hnr hp
        go_wp2
        go_loopw [2, 9, 55] (fun a b i wr => ∃ (y : Nat) (s1 m1 : List Nat) (vs1 vm1 : Value), a = vs1 ∧ b = vm1 ∧ i = .int .i64 y ∧ y ≤ nr ∧ Me base w wr nb cN M v0 vs1 vm1 (N.set P wn) (st' ++ s1) (mo ++ m1) ∧ s1 = ((R p).take y).filterMap (fun a => if a.2.2.2.1 = 0 then bk S tx P a else none) ∧ m1 = ((R p).take y).filterMap (fun a => if a.2.2.2.1 = 0 then none else bk S tx P a)) (fun _ _ a _ => nr - (intOf a).toNat)
        case atStart => exact ⟨0, [], [], _, _, rfl, rfl, rfl, Nat.zero_le _, by rw [List.append_nil, List.append_nil]; exact HME2.out, rfl, rfl⟩
        case round =>
          clear HME2 HEN t1 hhd
          obtain ⟨y, s1, m1, vs1, vm1, rfl, rfl, rfl, hy, hme, hs1, hm1⟩ := hrel
          have HSM : Hid (s1 = ((R p).take y).filterMap (fun a => if a.2.2.2.1 = 0 then bk S tx P a else none) ∧ m1 = ((R p).take y).filterMap (fun a => if a.2.2.2.1 = 0 then none else bk S tx P a)) := ⟨hs1, hm1⟩
          by_cases hlt : y < nr
          · have hyl : y < (R p).length := by rw [HNR.out]; exact hlt
            have HEN : Hid (Env base wr T S sb ci ai vl (.slice (some ⟨nb, 0, none⟩) M cN) tx R V vs) := HA.out.env.kept hme.kp (fun b hb => HX.out b hb)
            obtain ⟨rb, rcap, hve, p0, p1, p2, p3, p4⟩ := arc_at (HEN.out.rows p) hyl
            rw [HVP.out, HNR.out, Value.slice.injEq] at hve
            obtain ⟨hra, _, hrc⟩ := hve
            subst hra hrc
            obtain ⟨yt, hyt, hyS⟩ := (HA.out.arcs p hpS).2 _ (List.getElem_mem hyl)
            obtain ⟨yF, yT, yI, yO, yW, ey⟩ : ∃ f t i1 o1 x, (R p)[y] = (f, t, i1, o1, x) := ⟨_, _, _, _, _, rfl⟩
            rw [ey] at p0 p1 p2 p3 p4 hyt
            dsimp only at hyt
            subst hyt
            dsimp only at p0 p1 p2 p3 p4
            have HEY : Hid ((R p)[y] = (yF, (yt : Int), yI, yO, yW)) := ey
            have HTK : Hid ((R p).take (y + 1) = (R p).take y ++ [(yF, (yt : Int), yI, yO, yW)]) := by show _ = _; rw [List.take_succ_eq_append_getElem hyl, ey]
            have hqt : P / S ≤ tx.length := by
              have := Nat.div_lt_of_lt_mul (show P < S * (tx.length + 1) by rw [← HA.out.eM]; exact hPM)
              omega
            have e3 : s1.length ≤ 120 := by rw [hs1]; exact Nat.le_trans (List.length_filterMap_le _ _) (by rw [List.length_take]; omega)
            have e4 : m1.length ≤ 120 := by rw [hm1]; exact Nat.le_trans (List.length_filterMap_le _ _) (by rw [List.length_take]; omega)
            obtain ⟨av1, cv1, rfl⟩ := oslice hme.stk
            obtain ⟨bv1, dv1, rfl⟩ := oslice hme.mor
            obtain ⟨l1, hl1⟩ : ∃ l1, (st' ++ s1).length = l1 := ⟨_, rfl⟩
            obtain ⟨l2, hl2⟩ : ∃ l2, (mo ++ m1).length = l2 := ⟨_, rfl⟩
            have HLL : Hid ((st' ++ s1).length = l1 ∧ (mo ++ m1).length = l2 ∧ l1 ≤ 500000 ∧ l2 ≤ 500000) := by
              have e1 := HLN.out
              have e2 := H3.out.1
              have e5 := H10.out.2.2
              refine ⟨hl1, hl2, ?_, ?_⟩
              · rw [← hl1, List.length_append]; omega
              · rw [← hl2, List.length_append]; omega
            rw [hl1, hl2] at hme ⊢
            have HB1 : Hid (Me base w (wr.alloc (.cells #[.int .i64 yF, .int .i64 (yt : Int), .int .i64 yI, .int .i64 yO, .int .i64 yW] 64)) nb cN M v0 (.slice av1 l1 cv1) (.slice bv1 l2 dv1) (N.set P wn) (st' ++ s1) (mo ++ m1)) := hme.alloc _
            have HEN1 : Hid (Env base (wr.alloc (.cells #[.int .i64 yF, .int .i64 (yt : Int), .int .i64 yI, .int .i64 yO, .int .i64 yW] 64)) T S sb ci ai vl (.slice (some ⟨nb, 0, none⟩) M cN) tx R V vs) := HA.out.env.kept HB1.out.kp (fun b hb => HX.out b hb)
            have KB := back_any S P yt T ci base tx yF yI yO yW ai vl (.slice (some ⟨nb, 0, none⟩) M cN) (wr.alloc (.cells #[.int .i64 yF, .int .i64 (yt : Int), .int .i64 yI, .int .i64 yO, .int .i64 yW] 64)) HEN1.out.tr h0 hS hqt hl hyS HEN1.out.txt HEN1.out.bs
            have hbx := heap_alloc_new wr (.cells #[.int .i64 yF, .int .i64 (yt : Int), .int .i64 yI, .int .i64 yO, .int .i64 yW] 64)
            obtain ⟨bkv, hbk⟩ : ∃ bkv, bk S tx P (yF, (yt : Int), yI, yO, yW) = bkv := ⟨_, rfl⟩
            rw [hbk] at KB
            have HBK : Hid (bk S tx P (yF, (yt : Int), yI, yO, yW) = bkv) := hbk
            have hl1' : l1 ≤ 500000 := HLL.out.2.2.1
            have hl2' : l2 ≤ 500000 := HLL.out.2.2.2
            clear hme hs1 hm1 ey hbk HEN HEN1 hl1 hl2 e3 e4
            go_upto_region 10 with fail
            clear p0 p1 p2 p3 p4
            generalize hV2 : wr.alloc (.cells #[.int .i64 yF, .int .i64 (yt : Int), .int .i64 yI, .int .i64 yO, .int .i64 yW] 64) = V2 at *
            clear hV2
            generalize wr.heap.size = bx at *
            have c0 := cell_of_row _ _ 0 _ _ _ hbx
            have c1 := cell_of_row _ _ 1 _ _ _ hbx
            have c2 := cell_of_row _ _ 2 _ _ _ hbx
            have c3 := cell_of_row _ _ 3 _ _ _ hbx
            have c4 := cell_of_row _ _ 4 _ _ _ hbx
            cases bkv with
            | none =>
              simp only [Option.getD_none, Option.isSome_none] at KB
              go_upto_region 11 with (go_at_call 90; (with_reducible refine KB.mono ?_); clear KB; rintro e w1 ⟨rfl, hb1⟩; have HB2 : Hid (Me base w w1 nb cN M v0 (.slice av1 l1 cv1) (.slice bv1 l2 dv1) (N.set P wn) (st' ++ s1) (mo ++ m1)) := HB1.out.below hb1; have hbx1 := (hb1.block _ (Am.lt_at hbx)).trans hbx; clear hb1 hbx c0 c1 c2 c3 c4 HB1)
              have d3 := cell_of_row _ _ 3 _ _ _ hbx1
              go_wp2
              go_roundw
              case rel => exact ⟨y + 1, s1, m1, _, _, rfl, rfl, by go_num, hlt, by first | exact HB2.out.drewN _ | exact HB2.out | exact (HB2.out.drewN _).drewN _, by rw [HTK.out, List.filterMap_append, HSM.out.1]; simp [HBK.out], by rw [HTK.out, List.filterMap_append, HSM.out.2]; simp [HBK.out]⟩
              case measure => simp [intOf]; omega
            | some u =>
              simp only [Option.getD_some, Option.isSome_some] at KB
              by_cases hO : yO = 0
              · subst hO
                have HO0 : Hid (True) := trivial
                go_upto_region 11 with (go_at_call 90; (with_reducible refine KB.mono ?_); clear KB; rintro e w1 ⟨rfl, hb1⟩; have HB2 : Hid (Me base w w1 nb cN M v0 (.slice av1 l1 cv1) (.slice bv1 l2 dv1) (N.set P wn) (st' ++ s1) (mo ++ m1)) := HB1.out.below hb1; have hbx1 := (hb1.block _ (Am.lt_at hbx)).trans hbx; clear hb1 hbx c0 c1 c2 c3 c4 HB1)
                have d3 := cell_of_row _ _ 3 _ _ _ hbx1
                go_upto_region 12 with fail
                have HB3 : Hid (Me base w w1 nb cN M v0 (.slice av1 l1 cv1) (.slice bv1 l2 dv1) (N.set P wn) (st' ++ s1) (mo ++ m1)) := HB2.out
                clear HB2 hbx1 d3
                have hsz : base ≤ w1.heap.size := Nat.le_trans HA.out.env.bs HB3.out.kp.size
                have hrow : w1.ownsRow base 3 1 (.slice av1 l1 cv1) l1 (ns (st' ++ s1)) := by have := HB3.out.stk; rw [HLL.out.1] at this; exact this
                go_wp2_with (refine wpList_append_own_at _ rfl _ _ 26 rfl base 3 i0 (.int .i64 0) 1 8 Tryd.underlying26 hi hz0 hz1 hz2 rfl (by decide) _ _ _ rfl (hrow.alloc _) ⟨_, 0, none⟩ 1 1 (ns [u]) rfl rfl (cell_one_at _ _ _ rfl) (ns_one _) (by unfold maxLen; omega) (by omega) (by simp; omega) ?_; intro v1 w2 ho1 hg1 _ hl1; have HN : Hid _ := (HB3.out.alloc (.cells #[.int .i64 (u : Int)] 3)).push (by rw [HLL.out.1]; exact ho1) hg1 (hl1.imp id (fun h => ⟨_, h, Nat.le_refl _⟩)); obtain ⟨gg, cc, rfl, _, _⟩ := own_some ho1 (Nat.succ_pos _); clear ho1 hg1 hl1 hrow)
                go_roundw
                case rel => exact ⟨y + 1, s1 ++ [u], m1, _, _, rfl, rfl, by go_num, hlt, by rw [← List.append_assoc]; exact HN.out, by rw [HTK.out, List.filterMap_append, HSM.out.1]; simp [HBK.out], by rw [HTK.out, List.filterMap_append, HSM.out.2]; simp⟩
                case measure => simp [intOf]; omega
              · have HO0 : Hid (¬ yO = 0) := hO
                have hO' : (yO == 0) = false := by simpa using hO
                clear hO
                go_upto_region 11 with (go_at_call 90; (with_reducible refine KB.mono ?_); clear KB; rintro e w1 ⟨rfl, hb1⟩; have HB2 : Hid (Me base w w1 nb cN M v0 (.slice av1 l1 cv1) (.slice bv1 l2 dv1) (N.set P wn) (st' ++ s1) (mo ++ m1)) := HB1.out.below hb1; have hbx1 := (hb1.block _ (Am.lt_at hbx)).trans hbx; clear hb1 hbx c0 c1 c2 c3 c4 HB1)
                have d3 := cell_of_row _ _ 3 _ _ _ hbx1
                go_upto_region 14 with fail
                have HB3 : Hid (Me base w w1 nb cN M v0 (.slice av1 l1 cv1) (.slice bv1 l2 dv1) (N.set P wn) (st' ++ s1) (mo ++ m1)) := HB2.out
                clear HB2 hbx1 d3
                have hsz : base ≤ w1.heap.size := Nat.le_trans HA.out.env.bs HB3.out.kp.size
                have hrow : w1.ownsRow base 3 1 (.slice bv1 l2 dv1) l2 (ns (mo ++ m1)) := by have := HB3.out.mor; rw [HLL.out.2.1] at this; exact this
                go_wp2_with (refine wpList_append_own_at _ rfl _ _ 26 rfl base 3 i0 (.int .i64 0) 1 8 Tryd.underlying26 hi hz0 hz1 hz2 rfl (by decide) _ _ _ rfl (hrow.alloc _) ⟨_, 0, none⟩ 1 1 (ns [u]) rfl rfl (cell_one_at _ _ _ rfl) (ns_one _) (by unfold maxLen; omega) (by omega) (by simp; omega) ?_; intro v1 w2 ho1 hg1 _ hl1; have HN : Hid _ := (HB3.out.alloc (.cells #[.int .i64 (u : Int)] 3)).more (by rw [HLL.out.2.1]; exact ho1) hg1 (hl1.imp id (fun h => ⟨_, h, Nat.le_refl _⟩)); obtain ⟨gg, cc, rfl, _, _⟩ := own_some ho1 (Nat.succ_pos _); clear ho1 hg1 hl1 hrow)
                go_roundw
                case rel => exact ⟨y + 1, s1, m1 ++ [u], _, _, rfl, rfl, by go_num, hlt, by rw [← List.append_assoc]; exact HN.out, by rw [HTK.out, List.filterMap_append, HSM.out.1]; simp [HO0.out], by rw [HTK.out, List.filterMap_append, HSM.out.2]; simp [HBK.out, HO0.out]⟩
                case measure => simp [intOf]; omega
          · obtain rfl : y = nr := by omega
            have hs2 : s1 = q0 S tx R P := by rw [hs1]; unfold q0; rw [HP.out, ← HNR.out, List.take_length]
            have hm2 : m1 = q1 S tx R P := by rw [hm1]; unfold q1; rw [HP.out, ← HNR.out, List.take_length]
            have hNl : P < N.length := by have := hme.len; rw [List.length_set] at this; omega
            have hNP : N[P] = np := by have := HNP.out; rw [List.getD_eq_getElem?_getD, List.getElem?_eq_getElem hNl, Option.getD_some] at this; exact this
            have HFR : Hid (fr wn (N.set P wn) + 1 = fr wn N) := fr_set hNl (by rw [hNP]; have := HLE.out; omega)
            have HTL : Hid (s1.length + m1.length ≤ 120) := by
              show _ ≤ _
              have := two_len (fun a => bk S tx P a) (fun a => bk S tx P a) (fun a => decide (a.2.2.2.1 = 0)) (R p)
              simp only [decide_eq_true_eq] at this
              rw [hs2, hm2]
              unfold q0 q1
              rw [HP.out]
              have h9 := HNR.out
              omega
            have HMS2 : Hid (Ms (q0 S tx R) (q1 S tx R) F L (fun v => (N.set P wn).getD v (L + 1)) wn (st' ++ s1) (mo ++ m1)) := by
              have h7 := HMS.out.take (v := P) (by show ¬ N.getD P (L + 1) ≤ wn; rw [HNP.out]; exact HLE.out)
              rw [hs2, hm2]
              rw [show (fun v => (N.set P wn).getD v (L + 1)) = fun x => if x = P then wn else N.getD x (L + 1) from funext fun x => getD_set N P wn x (L + 1) hNl]
              exact h7
            have HQ0 : Hid (∀ v ∈ st' ++ s1, v < M) := by
              intro v hv
              rcases List.mem_append.1 hv with hv | hv
              · exact H1.out v hv
              · rw [hs2] at hv
                exact q0_lt (HA.out.eM) (HA.out.arcs) h0 hPM v hv
            have HQ1 : Hid (∀ v ∈ mo ++ m1, v < M) := by
              intro v hv
              rcases List.mem_append.1 hv with hv | hv
              · exact H2.out v hv
              · rw [hm2] at hv
                exact q1_lt (HA.out.eM) (HA.out.arcs) h0 hPM v hv
            obtain ⟨av1, cv1, rfl⟩ := oslice hme.stk
            obtain ⟨bv1, dv1, rfl⟩ := oslice hme.mor
            have HN : Hid (Me base w wr nb cN M v0 (.slice av1 (st' ++ s1).length cv1) (.slice bv1 (mo ++ m1).length dv1) (N.set P wn) (st' ++ s1) (mo ++ m1)) := hme
            have hnum : (st' ++ s1).length + (mo ++ m1).length + 121 * fr wn (N.set P wn) < k + 1 + lm + 121 * fr wn N := by
              have a1 := HFR.out
              have a2 := HTL.out
              have a3 := HLN.out
              simp only [List.length_append]
              omega
            have HNUM : Hid ((st' ++ s1).length + (mo ++ m1).length + 121 * fr wn (N.set P wn) < k + 1 + lm + 121 * fr wn N) := hnum
            clear hme hs1 hm1 hs2 hm2 hNl hNP hnum
            go_wp2
            go_roundg ((st' ++ s1).length + (mo ++ m1).length + 121 * fr wn (N.set P wn))
            case measure => have := H3.out.2; have := HNUM.out; omega
            case rel => exact ⟨N.set P wn, st' ++ s1, mo ++ m1, _, _, rfl, rfl, HN.out, HMS2.out, HQ0.out, HQ1.out, by have := HNUM.out; have := H3.out.1; omega, rfl⟩
end Go.Proofs.YtfjocafepigijaaDoor.Ot
