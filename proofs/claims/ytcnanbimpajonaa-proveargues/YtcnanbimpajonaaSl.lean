/- The document's SoundLine: whether a line is right. Conditions: the claims are of literals; few numbers. -/
import Derived.Test.YtcnanbimpajonaaRj
namespace Go.Proofs.Ytcnanbimpajonaa.Sl
open Go.RowKit Cl Co Cp Nu Ag Cs Cf Ri Rj

theorem res1 (p0 c0 : Bool) (p1 p2 c1 c2 : Int) : ([(p0, p1, p2)] == [(c0, c1, c2)]) = (c0 == p0 && c1 == p1 && c2 == p2) := by
  rw [Bool.eq_iff_iff]
  simp only [beq_iff_eq, Bool.and_eq_true, List.cons.injEq, Prod.mk.injEq, and_true]
  exact ⟨fun ⟨a, b, c⟩ => ⟨⟨a.symm, b.symm⟩, c.symm⟩, fun ⟨⟨a, b⟩, c⟩ => ⟨a.symm, b.symm, c.symm⟩⟩
theorem res2 (c0 : Bool) (c1 c2 : Int) : comesP 2 (c0, c1, c2) [] = (!c0 && (c1 == c2)) := by
  cases c0 <;> simp [comesP]
theorem res3 (c0 : Bool) (c1 c2 : Int) (p0 : Bool) (p1 p2 : Int) (q0 : Bool) (q1 q2 : Int) : comesP 3 (c0, c1, c2) [(p0, p1, p2), (q0, q1, q2)] = (!p0 && (!q0 && (!c0 && ((p2 == q1) && ((c1 == p1) && (c2 == q2)))))) := by
  cases c0 <;> cases p0 <;> cases q0 <;> simp [comesP, comes2, Bool.and_assoc]
theorem res4 (c0 : Bool) (c1 c2 : Int) (p0 : Bool) (p1 p2 : Int) : comesP 4 (c0, c1, c2) [(p0, p1, p2)] = (!p0 && (!c0 && ((c1 == -p2) && (c2 == -p1)))) := by
  cases c0 <;> cases p0 <;> simp [comesP, comes1]
theorem res5 (c0 : Bool) (c1 c2 : Int) (p0 : Bool) (p1 p2 : Int) : comesP 5 (c0, c1, c2) [(p0, p1, p2)] = (!p0 && ((p2 == -p1) && (!c0 && (c1 == p1)))) := by
  cases c0 <;> cases p0 <;> simp [comesP, comes1]
theorem res6 (c0 : Bool) (c1 c2 : Int) (p0 : Bool) (p1 p2 : Int) : comesP 6 (c0, c1, c2) [(p0, p1, p2)] = (!p0 && ((p1 == -p2) && (!c0 && (c2 == p2)))) := by
  cases c0 <;> cases p0 <;> simp [comesP, comes1]
theorem res7 (c0 : Bool) (c1 c2 : Int) (p0 : Bool) (p1 p2 : Int) : comesP 7 (c0, c1, c2) [(p0, p1, p2)] = (p0 && (c0 && ((c1 == p2) && (c2 == p1)))) := by
  cases c0 <;> cases p0 <;> simp [comesP, comes1]
theorem res8 (c0 : Bool) (c1 c2 : Int) (p0 : Bool) (p1 p2 : Int) : comesP 8 (c0, c1, c2) [(p0, p1, p2)] = (p0 && (c0 && ((c1 == p1) && (c2 == p1)))) := by
  cases c0 <;> cases p0 <;> simp [comesP, comes1]
theorem res9 (c0 : Bool) (c1 c2 : Int) (p0 : Bool) (p1 p2 : Int) (q0 : Bool) (q1 q2 : Int) : comesP 9 (c0, c1, c2) [(p0, p1, p2), (q0, q1, q2)] = (p0 && (!q0 && (c0 && ((p2 == q1) && ((c1 == p1) && (c2 == q2)))))) := by
  cases c0 <;> cases p0 <;> cases q0 <;> simp [comesP, comes2, Bool.and_assoc]
theorem res10 (c0 : Bool) (c1 c2 : Int) (p0 : Bool) (p1 p2 : Int) (q0 : Bool) (q1 q2 : Int) : comesP 10 (c0, c1, c2) [(p0, p1, p2), (q0, q1, q2)] = (!p0 && (q0 && ((q1 == p1) && (q2 == -p2)))) := by
  cases p0 <;> cases q0 <;> simp [comesP, comes2]
theorem res_low {r : Int} {c : C} {of : List C} (h : r < 1 ∨ 10 < r) : comesP r c of = false := by
  match of with
  | [] =>
    have : (r == 2) = false := by simp; omega
    simp [comesP, this]
  | [p] =>
    show comes1 r c p = false
    unfold comes1
    rw [if_neg (by omega), if_neg (by omega), if_neg (by omega), if_neg (by omega), if_neg (by omega)]
  | [p, q] =>
    show comes2 r c p q = false
    unfold comes2
    rw [if_neg (by omega), if_neg (by omega), if_neg (by omega)]
  | _ :: _ :: _ :: _ => rfl
theorem res_len1 {c : C} {of : List C} (h : of.length ≠ 1) : (of == [c]) = false := by
  cases he : (of == [c]) with
  | false => rfl
  | true =>
    rw [eq_of_beq he] at h
    exact absurd rfl h
theorem res_len {r : Int} {c : C} {of : List C} {m : Nat} (h : of.length ≠ m) (hm : (r = 2 ∧ m = 0) ∨ (((4 ≤ r ∧ r ≤ 8)) ∧ m = 1) ∨ ((r = 3 ∨ r = 9 ∨ r = 10) ∧ m = 2)) : comesP r c of = false := by
  match of with
  | [] =>
    have : (r == 2) = false := by
      simp only [List.length_nil] at h
      simp
      omega
    simp [comesP, this]
  | [p] =>
    simp only [List.length_singleton] at h
    show comes1 r c p = false
    unfold comes1
    rw [if_neg (by omega), if_neg (by omega), if_neg (by omega), if_neg (by omega), if_neg (by omega)]
  | [p, q] =>
    simp only [List.length_cons, List.length_nil] at h
    show comes2 r c p q = false
    unfold comes2
    rw [if_neg (by omega), if_neg (by omega), if_neg (by omega)]
  | _ :: _ :: _ :: _ => rfl
theorem len0 {of : List C} (h : of.length = 0) : of = [] := List.length_eq_zero_iff.1 h
theorem len1 {of : List C} (h : of.length = 1) : ∃ p0 p1 p2, of = [(p0, p1, p2)] := by
  match of, h with
  | [(p0, p1, p2)], _ => exact ⟨p0, p1, p2, rfl⟩
theorem len2 {of : List C} (h : of.length = 2) : ∃ p0 p1 p2 q0 q1 q2, of = [(p0, p1, p2), (q0, q1, q2)] := by
  match of, h with
  | [(p0, p1, p2), (q0, q1, q2)], _ => exact ⟨p0, p1, p2, q0, q1, q2, rfl⟩
theorem wr_lit {n : Int} (h1 : -6 ≤ n) (h2 : n ≤ 6) : IntKind.i64.wrap (-n) = -n := wrap_neg h1 h2

set_option maxHeartbeats 16000000 in
set_option maxRecDepth 100000 in
theorem line_any (ps : List C) (Z : List (Ln × Value)) (at' : Nat) (vp vl : Value) (w : World) (hp : IsC w vp ps) (hL : IsL w vl Z) (hat' : at' < Z.length) (hps : ∀ p ∈ ps, Sm p) (hs : ∀ z ∈ Z, Sm z.1.2.1) (hfl : ∀ z ∈ Z, z.1.2.2.length ≤ 1048576) :
    Calls Try.prog 13 #[vp, vl, .int .i64 (at' : Int)] w fun e w' => e = .returned (.bool (soundL ps ((Z.map Prod.fst).take at') (Z[at']).1)) ∧ Below w.heap.size w w' := by
  obtain ⟨hx1, ap, kp, rfl, hpn, hpc⟩ := hp
  obtain ⟨⟨hx2, al, kl, rfl, hln, hlc⟩, hfi⟩ := hL
  obtain ⟨lb, lo, rfl, hlb, hlcs⟩ := hlc.resolve_left (by omega)
  have hzat := zcs_at Z at' hat'
  have hfI := hfi _ (List.getElem_mem hat')
  have hfn := hfl _ (List.getElem_mem hat')
  obtain ⟨⟨⟨r, ⟨c0, c1, c2⟩, fr⟩, fv⟩, hz⟩ : ∃ z, Z[at'] = z := ⟨_, rfl⟩
  rw [hz] at hzat hfI hfn ⊢
  obtain ⟨hx3, fa, fk, hfv, _, hfc⟩ := hfI
  dsimp only at hzat hfv hfn hfc ⊢
  subst hfv
  have d0 : w.cell? ⟨lb, lo + at' * 5, none⟩ = some (.int .i64 r) := hlcs _ _ hzat.1
  have d1 : w.cell? ⟨lb, lo + at' * 5 + 1, none⟩ = some (.bool c0) := hlcs _ _ hzat.2.1
  have d2 : w.cell? ⟨lb, lo + at' * 5 + 2, none⟩ = some (.int .i64 c1) := hlcs _ _ hzat.2.2.1
  have d3 : w.cell? ⟨lb, lo + at' * 5 + 3, none⟩ = some (.int .i64 c2) := hlcs _ _ hzat.2.2.2.1
  have d4 : w.cell? ⟨lb, lo + at' * 5 + 4, none⟩ = some (.slice fa fr.length fk) := hlcs _ _ hzat.2.2.2.2
  obtain ⟨i0, hi, hz0, hz1, hz2⟩ := info_parts info24
  have HF : Hid (fr.length = 0 ∨ ∃ b off, fa = some ⟨b, off, none⟩ ∧ b < w.heap.size ∧ ∀ j u, (nv fr)[j]? = some u → w.cell? ⟨b, off + j, none⟩ = some u) := hfc
  have HPC : Hid (ps.length = 0 ∨ ∃ b off, ap = some ⟨b, off, none⟩ ∧ b < w.heap.size ∧ ∀ j u, (ccs ps)[j]? = some u → w.cell? ⟨b, off + j, none⟩ = some u) := hpc
  have HLC : Hid (∀ j u, (zcs Z)[j]? = some u → w.cell? ⟨lb, lo + j, none⟩ = some u) := hlcs
  have HPS : Hid (∀ p ∈ ps, Sm p) := hps
  have HS : Hid (∀ z ∈ Z, Sm z.1.2.1) := hs
  have HSL : Hid (∀ of, fr.mapM (pickA ps ((Z.map Prod.fst).take at') r) = some of → soundL ps ((Z.map Prod.fst).take at') (r, (c0, c1, c2), fr) = if r = 1 then of == [(c0, c1, c2)] else comesP r (c0, c1, c2) of) := fun of h => by unfold soundL; dsimp only; rw [h]
  clear hx1 hx2 hx3 hlcs hpc hfc hzat hfl hfi hps hs hlc hz
  go_enter Try.func13, Try.ntmps13
  go_upto_region 5 with fail
  have t2 := two w (.cells #[.int .i64 r, .bool c0, .int .i64 c1, .int .i64 c2, .slice fa fr.length fk] 38) (.cells #[.bool c0, .int .i64 c1, .int .i64 c2] 24)
  have s2 : ((w.alloc (.cells #[.int .i64 r, .bool c0, .int .i64 c1, .int .i64 c2, .slice fa fr.length fk] 38)).alloc (.cells #[.bool c0, .int .i64 c1, .int .i64 c2] 24)).heap.size = w.heap.size + 2 := by simp
  obtain ⟨W0, hW0⟩ : ∃ W, (w.alloc (.cells #[.int .i64 r, .bool c0, .int .i64 c1, .int .i64 c2, .slice fa fr.length fk] 38)).alloc (.cells #[.bool c0, .int .i64 c1, .int .i64 c2] 24) = W := ⟨_, rfl⟩
  rw [hW0] at t2 s2 ⊢
  have HT : Hid _ := t2
  have s2a : w.heap.size + 2 ≤ W0.heap.size := by omega
  have HS2 : Hid (W0.heap.size = w.heap.size + 2) := s2
  clear hW0 t2 s2 d0 d1 d2 d3 d4
  go_loopw [9, 10] (fun v iv wr => ∃ (k : Nat) (of : List C), iv = .int .i64 (k : Int) ∧ k ≤ fr.length ∧ (fr.take k).mapM (pickA ps ((Z.map Prod.fst).take at') r) = some of ∧ wr.ownsRow (w.heap.size + 2) 24 3 v k (ccs of) ∧ Below (w.heap.size + 2) W0 wr) (fun _ iv _ => fr.length - (intOf iv).toNat)
  case atStart => exact ⟨0, [], rfl, Nat.zero_le _, rfl, World.ownsRow_nil _ _ _ _, Below.refl _ _⟩
  case round =>
    obtain ⟨k, of, rfl, hk, hof, hown, hb⟩ := hrel
    have hbw : Below w.heap.size w wr := HT.out.2.2.trans (hb.mono (by omega))
    have hws : w.heap.size + 2 ≤ wr.heap.size := Nat.le_trans s2a hb.size
    have gx : wr.heap[w.heap.size]? = some (.cells #[.int .i64 r, .bool c0, .int .i64 c1, .int .i64 c2, .slice fa fr.length fk] 38 (0, 0)) := (hb.block _ (by omega)).trans HT.out.1
    have gc : wr.heap[w.heap.size + 1]? = some (.cells #[.bool c0, .int .i64 c1, .int .i64 c2] 24 (0, 0)) := (hb.block _ (by omega)).trans HT.out.2.1
    have x0 := cell_of_row _ _ 0 _ 38 (0, 0) gx
    have x4 := cell_of_row _ _ 4 _ 38 (0, 0) gx
    dsimp at x0 x4
    have HBW : Hid (Below w.heap.size w wr) := hbw
    have HBB : Hid (Below (w.heap.size + 2) W0 wr) := hb
    have HO : Hid (wr.ownsRow (w.heap.size + 2) 24 3 u9 k (ccs of)) := hown
    have HOF : Hid ((fr.take k).mapM (pickA ps ((Z.map Prod.fst).take at') r) = some of) := hof
    have HGC : Hid (wr.heap[w.heap.size + 1]? = some (.cells #[.bool c0, .int .i64 c1, .int .i64 c2] 24 (0, 0))) := gc
    clear gx gc hb hown hof
    by_cases hlt : k < fr.length
    · obtain ⟨fb, fo, rfl, hfb, hfcs⟩ := HF.out.resolve_left (by omega)
      obtain ⟨n, hn⟩ : ∃ n, fr[k] = n := ⟨_, rfl⟩
      have q0 : wr.cell? ⟨fb, fo + k, none⟩ = some (.int .i64 n) := (hbw.cell hfb).trans (hfcs k _ (by simp [nv, hlt, hn]))
      have HN : Hid (fr[k] = n) := hn
      have HNO : Hid (pickA ps ((Z.map Prod.fst).take at') r n = none → soundL ps ((Z.map Prod.fst).take at') (r, (c0, c1, c2), fr) = false) := fun h => by
        unfold soundL
        dsimp only
        rw [mapM_none hlt (by rw [HN.out]; exact h)]
      clear hn hfcs hbw
      by_cases hr : r = 1
      · subst hr
        by_cases hn0 : n < 0
        · have HE : Hid _ := HNO.out (by unfold pickA; rw [if_pos hn0])
          go_wp2
          go_ret
          rw [HE.out]
          exact ⟨rfl, HBW.out⟩
        · obtain ⟨m, rfl⟩ : ∃ m : Nat, n = (m : Int) := ⟨n.toNat, by omega⟩
          by_cases hm : m < ps.length
          · have hm' : ¬ (ps.length : Int) ≤ (m : Int) := by omega
            obtain ⟨pb, po, rfl, hpbl, hpcs⟩ := HPC.out.resolve_left (by omega)
            have hat := ccs_at ps m hm
            obtain ⟨⟨s0, s1, s2'⟩, hpm⟩ : ∃ p, ps[m] = p := ⟨_, rfl⟩
            rw [hpm] at hat
            have e0 : wr.cell? ⟨pb, po + m * 3, none⟩ = some (.bool s0) := (HBW.out.cell hpbl).trans (hpcs _ _ hat.1)
            have e1 : wr.cell? ⟨pb, po + m * 3 + 1, none⟩ = some (.int .i64 s1) := (HBW.out.cell hpbl).trans (hpcs _ _ hat.2.1)
            have e2 : wr.cell? ⟨pb, po + m * 3 + 2, none⟩ = some (.int .i64 s2') := (HBW.out.cell hpbl).trans (hpcs _ _ hat.2.2)
            have HP : Hid (pickA ps ((Z.map Prod.fst).take at') 1 (m : Int) = some (s0, s1, s2')) := by
              show pickA ps ((Z.map Prod.fst).take at') 1 (m : Int) = some (s0, s1, s2')
              unfold pickA
              rw [if_neg (by omega), if_pos rfl, Int.toNat_natCast, List.getElem?_eq_getElem hm, hpm]
            clear hat hpm hpcs HNO
            go_wp2_with (refine wpList_append_own_at _ rfl _ _ 22 rfl (w.heap.size + 2) 24 i0 (.agg #[.bool false, .int .i64 0, .int .i64 0]) 3 24 Try.underlying22 hi hz0 hz1 hz2 rfl (by decide) _ _ _ rfl (HO.out.alloc _) ⟨_, 0, none⟩ 1 1 (cc (s0, s1, s2')) rfl rfl (cell_three_at _ _ _ _ _ _ rfl) (cc_one _) (by unfold maxLen; omega) (by omega) (by simp; omega) ?_; intro v1 w1 ho1 hg1 _ _; have HO1 : Hid (w1.ownsRow (w.heap.size + 2) 24 3 v1 (k + 1) (ccs of ++ cc (s0, s1, s2'))) := ho1; have HB1 : Hid (Below (w.heap.size + 2) wr w1) := ((Below.refl _ wr).alloc hws _).trans (Rj.below_of_grown hg1 (HO.out.alloc _) (by simp; omega)); clear ho1 hg1)
            go_roundw
            case rel =>
              refine ⟨k + 1, of ++ [(s0, s1, s2')], by go_num, hlt, ?_, ?_, HBB.out.trans HB1.out⟩
              · rw [List.take_succ_eq_append_getElem hlt]
                exact mapM_snoc HOF.out (by rw [HN.out]; exact HP.out)
              · rw [← ccs_snoc]
                exact HO1.out
            case measure => simp [intOf]; omega
          · have hm' : (ps.length : Int) ≤ (m : Int) := by omega
            have HE : Hid _ := HNO.out (by unfold pickA; rw [if_neg (by omega), if_pos rfl, Int.toNat_natCast, List.getElem?_eq_none (by omega)])
            go_wp2
            go_ret
            rw [HE.out]
            exact ⟨rfl, HBW.out⟩
      · have dr : (r == 1) = false := by simpa using hr
        by_cases hn0 : n < 0
        · have HE : Hid _ := HNO.out (by unfold pickA; rw [if_pos hn0])
          go_wp2
          go_ret
          rw [HE.out]
          exact ⟨rfl, HBW.out⟩
        · obtain ⟨m, rfl⟩ : ∃ m : Nat, n = (m : Int) := ⟨n.toNat, by omega⟩
          by_cases hm : m < at'
          · have hm' : ¬ (at' : Int) ≤ (m : Int) := by omega
            have hmZ : m < Z.length := by omega
            have hat := zcs_at Z m hmZ
            obtain ⟨⟨⟨xr, ⟨s0, s1, s2'⟩, xf⟩, xv⟩, hz⟩ : ∃ z, Z[m] = z := ⟨_, rfl⟩
            rw [hz] at hat
            have e0 : wr.cell? ⟨lb, lo + m * 5 + 1, none⟩ = some (.bool s0) := (HBW.out.cell hlb).trans (HLC.out _ _ hat.2.1)
            have e1 : wr.cell? ⟨lb, lo + m * 5 + 1 + 1, none⟩ = some (.int .i64 s1) := (HBW.out.cell hlb).trans (HLC.out _ _ hat.2.2.1)
            have e2 : wr.cell? ⟨lb, lo + m * 5 + 1 + 2, none⟩ = some (.int .i64 s2') := (HBW.out.cell hlb).trans (HLC.out _ _ hat.2.2.2.1)
            have HP : Hid (pickA ps ((Z.map Prod.fst).take at') r (m : Int) = some (s0, s1, s2')) := by
              show pickA ps ((Z.map Prod.fst).take at') r (m : Int) = some (s0, s1, s2')
              unfold pickA
              rw [if_neg (by omega), if_neg hr, Int.toNat_natCast, List.getElem?_take_of_lt hm, List.getElem?_map, List.getElem?_eq_getElem hmZ, hz]
              rfl
            clear hat hz HNO
            go_wp2_with (refine wpList_append_own_at _ rfl _ _ 22 rfl (w.heap.size + 2) 24 i0 (.agg #[.bool false, .int .i64 0, .int .i64 0]) 3 24 Try.underlying22 hi hz0 hz1 hz2 rfl (by decide) _ _ _ rfl (HO.out.alloc _) ⟨_, 0, none⟩ 1 1 (cc (s0, s1, s2')) rfl rfl (cell_three_at _ _ _ _ _ _ rfl) (cc_one _) (by unfold maxLen; omega) (by omega) (by simp; omega) ?_; intro v1 w1 ho1 hg1 _ _; have HO1 : Hid (w1.ownsRow (w.heap.size + 2) 24 3 v1 (k + 1) (ccs of ++ cc (s0, s1, s2'))) := ho1; have HB1 : Hid (Below (w.heap.size + 2) wr w1) := ((Below.refl _ wr).alloc hws _).trans (Rj.below_of_grown hg1 (HO.out.alloc _) (by simp; omega)); clear ho1 hg1)
            go_roundw
            case rel =>
              refine ⟨k + 1, of ++ [(s0, s1, s2')], by go_num, hlt, ?_, ?_, HBB.out.trans HB1.out⟩
              · rw [List.take_succ_eq_append_getElem hlt]
                exact mapM_snoc HOF.out (by rw [HN.out]; exact HP.out)
              · rw [← ccs_snoc]
                exact HO1.out
            case measure => simp [intOf]; omega
          · have hm' : (at' : Int) ≤ (m : Int) := by omega
            have HE : Hid _ := HNO.out (by unfold pickA; rw [if_neg (by omega), if_neg hr, Int.toNat_natCast, List.getElem?_eq_none (by rw [List.length_take, List.length_map]; omega)]; rfl)
            go_wp2
            go_ret
            rw [HE.out]
            exact ⟨rfl, HBW.out⟩
    · have ek : k = fr.length := by omega
      subst ek
      have hof := HOF.out
      rw [List.take_length] at hof
      have hofl := mapM_len hof
      have hsm : ∀ p ∈ of, Sm p := fun p hp => by
        obtain ⟨n, hn⟩ := mapM_mem hof hp
        unfold pickA at hn
        split at hn
        · cases hn
        · split at hn
          · exact HPS.out p (List.mem_of_getElem? hn)
          · cases hg : ((Z.map Prod.fst).take at')[n.toNat]? with
            | none => rw [hg] at hn; cases hn
            | some l =>
              rw [hg] at hn
              cases hn
              have hl := List.mem_of_mem_take (List.mem_of_getElem? hg)
              obtain ⟨z, hz, rfl⟩ := List.mem_map.1 hl
              exact HS.out z hz
      have HE : Hid _ := HSL.out of hof
      have hO := HO.out
      rw [← hofl] at hO
      have HO2 : Hid (wr.ownsRow (w.heap.size + 2) 24 3 u9 of.length (ccs of)) := hO
      have hC : IsC wr u9 of := own_isC hO (by omega)
      obtain ⟨_, ao, ko, hv9, _, hoc⟩ := hC
      subst hv9
      have HOC : Hid (of.length = 0 ∨ ∃ b off, ao = some ⟨b, off, none⟩ ∧ b < wr.heap.size ∧ ∀ j u, (ccs of)[j]? = some u → wr.cell? ⟨b, off + j, none⟩ = some u) := hoc
      have y0 := cell_of_row _ _ 0 _ 24 (0, 0) HGC.out
      have y1 := cell_of_row _ _ 1 _ 24 (0, 0) HGC.out
      have y2 := cell_of_row _ _ 2 _ 24 (0, 0) HGC.out
      dsimp at y0 y1 y2
      have HSM : Hid (∀ p ∈ of, Sm p) := hsm
      have hof8 : of.length ≤ 1048576 := by omega
      have HFL : Hid (of.length = fr.length) := hofl
      have hlen2 : ¬ (fr.length : Int) < (of.length : Int) := by omega
      clear hof hO hoc hsm hofl HO HOF HBB HPS HS HSL
      by_cases hlo : r < 1
      · have HR : Hid _ := res_low (c := (c0, c1, c2)) (of := of) (.inl hlo)
        go_wp2
        go_ret
        rw [HE.out, if_neg (by omega), HR.out]
        exact ⟨rfl, HBW.out⟩
      by_cases hhi : 10 < r
      · have HR : Hid _ := res_low (c := (c0, c1, c2)) (of := of) (.inr hhi)
        go_wp2
        go_ret
        rw [HE.out, if_neg (by omega), HR.out]
        exact ⟨rfl, HBW.out⟩
      have HBT : Hid (∀ o1, Below w.heap.size w (wr.alloc o1)) := fun o1 => hbw.alloc (by omega) o1
      have x0a : ∀ o, (wr.alloc o).cell? ⟨w.heap.size, 0, none⟩ = some (.int .i64 r) := fun o => by rw [World.cell?_alloc_past _ _ _ (by omega)]; exact x0
      have hq := eql24
      clear hbw
      obtain rfl | rfl | rfl | rfl | rfl | rfl | rfl | rfl | rfl | rfl : r = 1 ∨ r = 2 ∨ r = 3 ∨ r = 4 ∨ r = 5 ∨ r = 6 ∨ r = 7 ∨ r = 8 ∨ r = 9 ∨ r = 10 := by omega
      · by_cases hl : of.length = 1
        · rw [hl]
          go_upto_region 17 with fail
          obtain ⟨W1, hW1⟩ : ∃ W, wr.alloc (.cells #[.int .i64 1, .int .i64 0, .int .i64 2, .int .i64 1, .int .i64 1, .int .i64 1, .int .i64 1, .int .i64 1, .int .i64 2, .int .i64 2] 3) = W := ⟨_, rfl⟩
          rw [hW1]
          have hB1 : Below wr.heap.size wr W1 := hW1 ▸ (Below.refl _ wr).alloc (Nat.le_refl _) _
          clear hW1 x0a
          have hPQ : w.heap.size + 2 ≤ W1.heap.size := Nat.le_trans hws hB1.size
          have X0 := (hB1.cell (p := ⟨w.heap.size, 0, none⟩) (by show w.heap.size < _; omega)).trans x0
          have Y0 := (hB1.cell (p := ⟨w.heap.size + 1, 0, none⟩) (by show w.heap.size + 1 < _; omega)).trans y0
          have Y1 := (hB1.cell (p := ⟨w.heap.size + 1, 1, none⟩) (by show w.heap.size + 1 < _; omega)).trans y1
          have Y2 := (hB1.cell (p := ⟨w.heap.size + 1, 2, none⟩) (by show w.heap.size + 1 < _; omega)).trans y2
          have n1 : w.heap.size < W1.heap.size := by omega
          have n2 : w.heap.size < W1.heap.size + 1 := by omega
          have n3 : w.heap.size + 1 < W1.heap.size := by omega
          have n4 : w.heap.size + 1 < W1.heap.size + 1 := by omega
          have HB2 : Hid (Below w.heap.size w W1) := HBW.out.trans (hB1.mono HBW.out.size)
          have HBP : Hid (∀ o1 o2, Below w.heap.size w ((W1.alloc o1).alloc o2)) := fun o1 o2 => (HB2.out.alloc (by omega) o1).alloc (by simp; omega) o2
          clear x0 y0 y1 y2 x4
          obtain ⟨p0, p1, p2, rfl⟩ := len1 hl
          obtain ⟨ob, oo, rfl, hob, hoc⟩ := HOC.out.resolve_left (by simp)
          have E0 : W1.cell? ⟨ob, oo, none⟩ = some (.bool p0) := (hB1.cell hob).trans (hoc 0 _ rfl)
          have E1 : W1.cell? ⟨ob, oo + 1, none⟩ = some (.int .i64 p1) := (hB1.cell hob).trans (hoc 1 _ rfl)
          have E2 : W1.cell? ⟨ob, oo + 2, none⟩ = some (.int .i64 p2) := (hB1.cell hob).trans (hoc 2 _ rfl)
          have hsm := HSM.out _ (List.mem_cons_self ..)
          have w1 : IntKind.i64.wrap (-p1) = -p1 := wr_lit hsm.1.1 hsm.1.2
          have w2 : IntKind.i64.wrap (-p2) = -p2 := wr_lit hsm.2.1 hsm.2.2
          clear hsm
          have n5 : ob < W1.heap.size := Nat.lt_of_lt_of_le hob hB1.size
          have n6 : ob < W1.heap.size + 1 := by omega
          clear hoc
          clear hB1 HBW HB2
          go_upto_region 22 with fail
          go_wp2
          go_ret
          rw [HE.out, if_pos trivial, res1]
          exact ⟨rfl, HBP.out _ _⟩
        · have hl2 : ¬ (of.length : Int) = 1 := by omega
          have HR : Hid _ := res_len1 (c := (c0, c1, c2)) hl
          go_wp2
          go_ret
          rw [HE.out, if_pos trivial, HR.out]
          exact ⟨rfl, HBT.out _⟩
      · by_cases hl : of.length = 0
        · rw [hl]
          go_upto_region 17 with fail
          obtain ⟨W1, hW1⟩ : ∃ W, wr.alloc (.cells #[.int .i64 1, .int .i64 0, .int .i64 2, .int .i64 1, .int .i64 1, .int .i64 1, .int .i64 1, .int .i64 1, .int .i64 2, .int .i64 2] 3) = W := ⟨_, rfl⟩
          rw [hW1]
          have hB1 : Below wr.heap.size wr W1 := hW1 ▸ (Below.refl _ wr).alloc (Nat.le_refl _) _
          clear hW1 x0a
          have hPQ : w.heap.size + 2 ≤ W1.heap.size := Nat.le_trans hws hB1.size
          have X0 := (hB1.cell (p := ⟨w.heap.size, 0, none⟩) (by show w.heap.size < _; omega)).trans x0
          have Y0 := (hB1.cell (p := ⟨w.heap.size + 1, 0, none⟩) (by show w.heap.size + 1 < _; omega)).trans y0
          have Y1 := (hB1.cell (p := ⟨w.heap.size + 1, 1, none⟩) (by show w.heap.size + 1 < _; omega)).trans y1
          have Y2 := (hB1.cell (p := ⟨w.heap.size + 1, 2, none⟩) (by show w.heap.size + 1 < _; omega)).trans y2
          have n1 : w.heap.size < W1.heap.size := by omega
          have n2 : w.heap.size < W1.heap.size + 1 := by omega
          have n3 : w.heap.size + 1 < W1.heap.size := by omega
          have n4 : w.heap.size + 1 < W1.heap.size + 1 := by omega
          have HB2 : Hid (Below w.heap.size w W1) := HBW.out.trans (hB1.mono HBW.out.size)
          have HBP : Hid (∀ o1 o2, Below w.heap.size w ((W1.alloc o1).alloc o2)) := fun o1 o2 => (HB2.out.alloc (by omega) o1).alloc (by simp; omega) o2
          clear x0 y0 y1 y2 x4
          obtain rfl := len0 hl
          clear hB1 HBW HB2
          go_upto_region 22 with fail
          cases c0 with
          | true =>
            go_wp2
            go_ret
            rw [HE.out, if_neg (by omega), res2]
            exact ⟨rfl, HBP.out _ _⟩
          | false =>
            go_wp2
            go_ret
            rw [HE.out, if_neg (by omega), res2]
            exact ⟨rfl, HBP.out _ _⟩
        · have hl2 : ¬ (of.length : Int) = 0 := by omega
          have HR : Hid _ := res_len (r := 2) (c := (c0, c1, c2)) hl (by omega)
          go_wp2
          go_ret
          rw [HE.out, if_neg (by omega), HR.out]
          exact ⟨rfl, HBT.out _⟩
      · by_cases hl : of.length = 2
        · rw [hl]
          go_upto_region 17 with fail
          obtain ⟨W1, hW1⟩ : ∃ W, wr.alloc (.cells #[.int .i64 1, .int .i64 0, .int .i64 2, .int .i64 1, .int .i64 1, .int .i64 1, .int .i64 1, .int .i64 1, .int .i64 2, .int .i64 2] 3) = W := ⟨_, rfl⟩
          rw [hW1]
          have hB1 : Below wr.heap.size wr W1 := hW1 ▸ (Below.refl _ wr).alloc (Nat.le_refl _) _
          clear hW1 x0a
          have hPQ : w.heap.size + 2 ≤ W1.heap.size := Nat.le_trans hws hB1.size
          have X0 := (hB1.cell (p := ⟨w.heap.size, 0, none⟩) (by show w.heap.size < _; omega)).trans x0
          have Y0 := (hB1.cell (p := ⟨w.heap.size + 1, 0, none⟩) (by show w.heap.size + 1 < _; omega)).trans y0
          have Y1 := (hB1.cell (p := ⟨w.heap.size + 1, 1, none⟩) (by show w.heap.size + 1 < _; omega)).trans y1
          have Y2 := (hB1.cell (p := ⟨w.heap.size + 1, 2, none⟩) (by show w.heap.size + 1 < _; omega)).trans y2
          have n1 : w.heap.size < W1.heap.size := by omega
          have n2 : w.heap.size < W1.heap.size + 1 := by omega
          have n3 : w.heap.size + 1 < W1.heap.size := by omega
          have n4 : w.heap.size + 1 < W1.heap.size + 1 := by omega
          have HB2 : Hid (Below w.heap.size w W1) := HBW.out.trans (hB1.mono HBW.out.size)
          have HBP : Hid (∀ o1 o2, Below w.heap.size w ((W1.alloc o1).alloc o2)) := fun o1 o2 => (HB2.out.alloc (by omega) o1).alloc (by simp; omega) o2
          clear x0 y0 y1 y2 x4
          obtain ⟨p0, p1, p2, q0, q1, q2, rfl⟩ := len2 hl
          obtain ⟨ob, oo, rfl, hob, hoc⟩ := HOC.out.resolve_left (by simp)
          have E0 : W1.cell? ⟨ob, oo, none⟩ = some (.bool p0) := (hB1.cell hob).trans (hoc 0 _ rfl)
          have E1 : W1.cell? ⟨ob, oo + 1, none⟩ = some (.int .i64 p1) := (hB1.cell hob).trans (hoc 1 _ rfl)
          have E2 : W1.cell? ⟨ob, oo + 2, none⟩ = some (.int .i64 p2) := (hB1.cell hob).trans (hoc 2 _ rfl)
          have E3 : W1.cell? ⟨ob, oo + 3, none⟩ = some (.bool q0) := (hB1.cell hob).trans (hoc 3 _ rfl)
          have E4 : W1.cell? ⟨ob, oo + 3 + 1, none⟩ = some (.int .i64 q1) := (hB1.cell hob).trans (hoc 4 _ rfl)
          have E5 : W1.cell? ⟨ob, oo + 3 + 2, none⟩ = some (.int .i64 q2) := (hB1.cell hob).trans (hoc 5 _ rfl)
          have hsm := HSM.out _ (List.mem_cons_self ..)
          have w1 : IntKind.i64.wrap (-p1) = -p1 := wr_lit hsm.1.1 hsm.1.2
          have w2 : IntKind.i64.wrap (-p2) = -p2 := wr_lit hsm.2.1 hsm.2.2
          clear hsm
          have n5 : ob < W1.heap.size := Nat.lt_of_lt_of_le hob hB1.size
          have n6 : ob < W1.heap.size + 1 := by omega
          clear hoc
          clear hB1 HBW HB2
          go_upto_region 22 with fail
          cases p0 with
          | true =>
            go_wp2
            go_ret
            rw [HE.out, if_neg (by omega), res3]
            exact ⟨rfl, HBP.out _ _⟩
          | false =>
            cases q0 with
            | true =>
              go_wp2
              go_ret
              rw [HE.out, if_neg (by omega), res3]
              exact ⟨rfl, HBP.out _ _⟩
            | false =>
              cases c0 with
              | true =>
                go_wp2
                go_ret
                rw [HE.out, if_neg (by omega), res3]
                exact ⟨rfl, HBP.out _ _⟩
              | false =>
                cases h3 : (p2 == q1) with
                | false =>
                  go_wp2
                  go_ret
                  rw [HE.out, if_neg (by omega), res3, h3]
                  exact ⟨rfl, HBP.out _ _⟩
                | true =>
                  cases h4 : (c1 == p1) with
                  | false =>
                    go_wp2
                    go_ret
                    rw [HE.out, if_neg (by omega), res3, h3, h4]
                    exact ⟨rfl, HBP.out _ _⟩
                  | true =>
                    go_wp2
                    go_ret
                    rw [HE.out, if_neg (by omega), res3, h3, h4]
                    exact ⟨rfl, HBP.out _ _⟩
        · have hl2 : ¬ (of.length : Int) = 2 := by omega
          have HR : Hid _ := res_len (r := 3) (c := (c0, c1, c2)) hl (by omega)
          go_wp2
          go_ret
          rw [HE.out, if_neg (by omega), HR.out]
          exact ⟨rfl, HBT.out _⟩
      · by_cases hl : of.length = 1
        · rw [hl]
          go_upto_region 17 with fail
          obtain ⟨W1, hW1⟩ : ∃ W, wr.alloc (.cells #[.int .i64 1, .int .i64 0, .int .i64 2, .int .i64 1, .int .i64 1, .int .i64 1, .int .i64 1, .int .i64 1, .int .i64 2, .int .i64 2] 3) = W := ⟨_, rfl⟩
          rw [hW1]
          have hB1 : Below wr.heap.size wr W1 := hW1 ▸ (Below.refl _ wr).alloc (Nat.le_refl _) _
          clear hW1 x0a
          have hPQ : w.heap.size + 2 ≤ W1.heap.size := Nat.le_trans hws hB1.size
          have X0 := (hB1.cell (p := ⟨w.heap.size, 0, none⟩) (by show w.heap.size < _; omega)).trans x0
          have Y0 := (hB1.cell (p := ⟨w.heap.size + 1, 0, none⟩) (by show w.heap.size + 1 < _; omega)).trans y0
          have Y1 := (hB1.cell (p := ⟨w.heap.size + 1, 1, none⟩) (by show w.heap.size + 1 < _; omega)).trans y1
          have Y2 := (hB1.cell (p := ⟨w.heap.size + 1, 2, none⟩) (by show w.heap.size + 1 < _; omega)).trans y2
          have n1 : w.heap.size < W1.heap.size := by omega
          have n2 : w.heap.size < W1.heap.size + 1 := by omega
          have n3 : w.heap.size + 1 < W1.heap.size := by omega
          have n4 : w.heap.size + 1 < W1.heap.size + 1 := by omega
          have HB2 : Hid (Below w.heap.size w W1) := HBW.out.trans (hB1.mono HBW.out.size)
          have HBP : Hid (∀ o1 o2, Below w.heap.size w ((W1.alloc o1).alloc o2)) := fun o1 o2 => (HB2.out.alloc (by omega) o1).alloc (by simp; omega) o2
          clear x0 y0 y1 y2 x4
          obtain ⟨p0, p1, p2, rfl⟩ := len1 hl
          obtain ⟨ob, oo, rfl, hob, hoc⟩ := HOC.out.resolve_left (by simp)
          have E0 : W1.cell? ⟨ob, oo, none⟩ = some (.bool p0) := (hB1.cell hob).trans (hoc 0 _ rfl)
          have E1 : W1.cell? ⟨ob, oo + 1, none⟩ = some (.int .i64 p1) := (hB1.cell hob).trans (hoc 1 _ rfl)
          have E2 : W1.cell? ⟨ob, oo + 2, none⟩ = some (.int .i64 p2) := (hB1.cell hob).trans (hoc 2 _ rfl)
          have hsm := HSM.out _ (List.mem_cons_self ..)
          have w1 : IntKind.i64.wrap (-p1) = -p1 := wr_lit hsm.1.1 hsm.1.2
          have w2 : IntKind.i64.wrap (-p2) = -p2 := wr_lit hsm.2.1 hsm.2.2
          clear hsm
          have n5 : ob < W1.heap.size := Nat.lt_of_lt_of_le hob hB1.size
          have n6 : ob < W1.heap.size + 1 := by omega
          clear hoc
          clear hB1 HBW HB2
          go_upto_region 22 with fail
          cases p0 with
          | true =>
            go_wp2
            go_ret
            rw [HE.out, if_neg (by omega), res4]
            exact ⟨rfl, HBP.out _ _⟩
          | false =>
            cases c0 with
            | true =>
              go_wp2
              go_ret
              rw [HE.out, if_neg (by omega), res4]
              exact ⟨rfl, HBP.out _ _⟩
            | false =>
              cases h2 : (c1 == -p2) with
              | false =>
                go_wp2
                go_ret
                rw [HE.out, if_neg (by omega), res4, h2]
                exact ⟨rfl, HBP.out _ _⟩
              | true =>
                go_wp2
                go_ret
                rw [HE.out, if_neg (by omega), res4, h2]
                exact ⟨rfl, HBP.out _ _⟩
        · have hl2 : ¬ (of.length : Int) = 1 := by omega
          have HR : Hid _ := res_len (r := 4) (c := (c0, c1, c2)) hl (by omega)
          go_wp2
          go_ret
          rw [HE.out, if_neg (by omega), HR.out]
          exact ⟨rfl, HBT.out _⟩
      · by_cases hl : of.length = 1
        · rw [hl]
          go_upto_region 17 with fail
          obtain ⟨W1, hW1⟩ : ∃ W, wr.alloc (.cells #[.int .i64 1, .int .i64 0, .int .i64 2, .int .i64 1, .int .i64 1, .int .i64 1, .int .i64 1, .int .i64 1, .int .i64 2, .int .i64 2] 3) = W := ⟨_, rfl⟩
          rw [hW1]
          have hB1 : Below wr.heap.size wr W1 := hW1 ▸ (Below.refl _ wr).alloc (Nat.le_refl _) _
          clear hW1 x0a
          have hPQ : w.heap.size + 2 ≤ W1.heap.size := Nat.le_trans hws hB1.size
          have X0 := (hB1.cell (p := ⟨w.heap.size, 0, none⟩) (by show w.heap.size < _; omega)).trans x0
          have Y0 := (hB1.cell (p := ⟨w.heap.size + 1, 0, none⟩) (by show w.heap.size + 1 < _; omega)).trans y0
          have Y1 := (hB1.cell (p := ⟨w.heap.size + 1, 1, none⟩) (by show w.heap.size + 1 < _; omega)).trans y1
          have Y2 := (hB1.cell (p := ⟨w.heap.size + 1, 2, none⟩) (by show w.heap.size + 1 < _; omega)).trans y2
          have n1 : w.heap.size < W1.heap.size := by omega
          have n2 : w.heap.size < W1.heap.size + 1 := by omega
          have n3 : w.heap.size + 1 < W1.heap.size := by omega
          have n4 : w.heap.size + 1 < W1.heap.size + 1 := by omega
          have HB2 : Hid (Below w.heap.size w W1) := HBW.out.trans (hB1.mono HBW.out.size)
          have HBP : Hid (∀ o1 o2, Below w.heap.size w ((W1.alloc o1).alloc o2)) := fun o1 o2 => (HB2.out.alloc (by omega) o1).alloc (by simp; omega) o2
          clear x0 y0 y1 y2 x4
          obtain ⟨p0, p1, p2, rfl⟩ := len1 hl
          obtain ⟨ob, oo, rfl, hob, hoc⟩ := HOC.out.resolve_left (by simp)
          have E0 : W1.cell? ⟨ob, oo, none⟩ = some (.bool p0) := (hB1.cell hob).trans (hoc 0 _ rfl)
          have E1 : W1.cell? ⟨ob, oo + 1, none⟩ = some (.int .i64 p1) := (hB1.cell hob).trans (hoc 1 _ rfl)
          have E2 : W1.cell? ⟨ob, oo + 2, none⟩ = some (.int .i64 p2) := (hB1.cell hob).trans (hoc 2 _ rfl)
          have hsm := HSM.out _ (List.mem_cons_self ..)
          have w1 : IntKind.i64.wrap (-p1) = -p1 := wr_lit hsm.1.1 hsm.1.2
          have w2 : IntKind.i64.wrap (-p2) = -p2 := wr_lit hsm.2.1 hsm.2.2
          clear hsm
          have n5 : ob < W1.heap.size := Nat.lt_of_lt_of_le hob hB1.size
          have n6 : ob < W1.heap.size + 1 := by omega
          clear hoc
          clear hB1 HBW HB2
          go_upto_region 22 with fail
          cases p0 with
          | true =>
            go_wp2
            go_ret
            rw [HE.out, if_neg (by omega), res5]
            exact ⟨rfl, HBP.out _ _⟩
          | false =>
            cases h1 : (p2 == -p1) with
            | false =>
              go_wp2
              go_ret
              rw [HE.out, if_neg (by omega), res5, h1]
              exact ⟨rfl, HBP.out _ _⟩
            | true =>
              cases c0 with
              | true =>
                go_wp2
                go_ret
                rw [HE.out, if_neg (by omega), res5, h1]
                exact ⟨rfl, HBP.out _ _⟩
              | false =>
                go_wp2
                go_ret
                rw [HE.out, if_neg (by omega), res5, h1]
                exact ⟨rfl, HBP.out _ _⟩
        · have hl2 : ¬ (of.length : Int) = 1 := by omega
          have HR : Hid _ := res_len (r := 5) (c := (c0, c1, c2)) hl (by omega)
          go_wp2
          go_ret
          rw [HE.out, if_neg (by omega), HR.out]
          exact ⟨rfl, HBT.out _⟩
      · by_cases hl : of.length = 1
        · rw [hl]
          go_upto_region 17 with fail
          obtain ⟨W1, hW1⟩ : ∃ W, wr.alloc (.cells #[.int .i64 1, .int .i64 0, .int .i64 2, .int .i64 1, .int .i64 1, .int .i64 1, .int .i64 1, .int .i64 1, .int .i64 2, .int .i64 2] 3) = W := ⟨_, rfl⟩
          rw [hW1]
          have hB1 : Below wr.heap.size wr W1 := hW1 ▸ (Below.refl _ wr).alloc (Nat.le_refl _) _
          clear hW1 x0a
          have hPQ : w.heap.size + 2 ≤ W1.heap.size := Nat.le_trans hws hB1.size
          have X0 := (hB1.cell (p := ⟨w.heap.size, 0, none⟩) (by show w.heap.size < _; omega)).trans x0
          have Y0 := (hB1.cell (p := ⟨w.heap.size + 1, 0, none⟩) (by show w.heap.size + 1 < _; omega)).trans y0
          have Y1 := (hB1.cell (p := ⟨w.heap.size + 1, 1, none⟩) (by show w.heap.size + 1 < _; omega)).trans y1
          have Y2 := (hB1.cell (p := ⟨w.heap.size + 1, 2, none⟩) (by show w.heap.size + 1 < _; omega)).trans y2
          have n1 : w.heap.size < W1.heap.size := by omega
          have n2 : w.heap.size < W1.heap.size + 1 := by omega
          have n3 : w.heap.size + 1 < W1.heap.size := by omega
          have n4 : w.heap.size + 1 < W1.heap.size + 1 := by omega
          have HB2 : Hid (Below w.heap.size w W1) := HBW.out.trans (hB1.mono HBW.out.size)
          have HBP : Hid (∀ o1 o2, Below w.heap.size w ((W1.alloc o1).alloc o2)) := fun o1 o2 => (HB2.out.alloc (by omega) o1).alloc (by simp; omega) o2
          clear x0 y0 y1 y2 x4
          obtain ⟨p0, p1, p2, rfl⟩ := len1 hl
          obtain ⟨ob, oo, rfl, hob, hoc⟩ := HOC.out.resolve_left (by simp)
          have E0 : W1.cell? ⟨ob, oo, none⟩ = some (.bool p0) := (hB1.cell hob).trans (hoc 0 _ rfl)
          have E1 : W1.cell? ⟨ob, oo + 1, none⟩ = some (.int .i64 p1) := (hB1.cell hob).trans (hoc 1 _ rfl)
          have E2 : W1.cell? ⟨ob, oo + 2, none⟩ = some (.int .i64 p2) := (hB1.cell hob).trans (hoc 2 _ rfl)
          have hsm := HSM.out _ (List.mem_cons_self ..)
          have w1 : IntKind.i64.wrap (-p1) = -p1 := wr_lit hsm.1.1 hsm.1.2
          have w2 : IntKind.i64.wrap (-p2) = -p2 := wr_lit hsm.2.1 hsm.2.2
          clear hsm
          have n5 : ob < W1.heap.size := Nat.lt_of_lt_of_le hob hB1.size
          have n6 : ob < W1.heap.size + 1 := by omega
          clear hoc
          clear hB1 HBW HB2
          go_upto_region 22 with fail
          cases p0 with
          | true =>
            go_wp2
            go_ret
            rw [HE.out, if_neg (by omega), res6]
            exact ⟨rfl, HBP.out _ _⟩
          | false =>
            cases h1 : (p1 == -p2) with
            | false =>
              go_wp2
              go_ret
              rw [HE.out, if_neg (by omega), res6, h1]
              exact ⟨rfl, HBP.out _ _⟩
            | true =>
              cases c0 with
              | true =>
                go_wp2
                go_ret
                rw [HE.out, if_neg (by omega), res6, h1]
                exact ⟨rfl, HBP.out _ _⟩
              | false =>
                go_wp2
                go_ret
                rw [HE.out, if_neg (by omega), res6, h1]
                exact ⟨rfl, HBP.out _ _⟩
        · have hl2 : ¬ (of.length : Int) = 1 := by omega
          have HR : Hid _ := res_len (r := 6) (c := (c0, c1, c2)) hl (by omega)
          go_wp2
          go_ret
          rw [HE.out, if_neg (by omega), HR.out]
          exact ⟨rfl, HBT.out _⟩
      · by_cases hl : of.length = 1
        · rw [hl]
          go_upto_region 17 with fail
          obtain ⟨W1, hW1⟩ : ∃ W, wr.alloc (.cells #[.int .i64 1, .int .i64 0, .int .i64 2, .int .i64 1, .int .i64 1, .int .i64 1, .int .i64 1, .int .i64 1, .int .i64 2, .int .i64 2] 3) = W := ⟨_, rfl⟩
          rw [hW1]
          have hB1 : Below wr.heap.size wr W1 := hW1 ▸ (Below.refl _ wr).alloc (Nat.le_refl _) _
          clear hW1 x0a
          have hPQ : w.heap.size + 2 ≤ W1.heap.size := Nat.le_trans hws hB1.size
          have X0 := (hB1.cell (p := ⟨w.heap.size, 0, none⟩) (by show w.heap.size < _; omega)).trans x0
          have Y0 := (hB1.cell (p := ⟨w.heap.size + 1, 0, none⟩) (by show w.heap.size + 1 < _; omega)).trans y0
          have Y1 := (hB1.cell (p := ⟨w.heap.size + 1, 1, none⟩) (by show w.heap.size + 1 < _; omega)).trans y1
          have Y2 := (hB1.cell (p := ⟨w.heap.size + 1, 2, none⟩) (by show w.heap.size + 1 < _; omega)).trans y2
          have n1 : w.heap.size < W1.heap.size := by omega
          have n2 : w.heap.size < W1.heap.size + 1 := by omega
          have n3 : w.heap.size + 1 < W1.heap.size := by omega
          have n4 : w.heap.size + 1 < W1.heap.size + 1 := by omega
          have HB2 : Hid (Below w.heap.size w W1) := HBW.out.trans (hB1.mono HBW.out.size)
          have HBP : Hid (∀ o1 o2, Below w.heap.size w ((W1.alloc o1).alloc o2)) := fun o1 o2 => (HB2.out.alloc (by omega) o1).alloc (by simp; omega) o2
          clear x0 y0 y1 y2 x4
          obtain ⟨p0, p1, p2, rfl⟩ := len1 hl
          obtain ⟨ob, oo, rfl, hob, hoc⟩ := HOC.out.resolve_left (by simp)
          have E0 : W1.cell? ⟨ob, oo, none⟩ = some (.bool p0) := (hB1.cell hob).trans (hoc 0 _ rfl)
          have E1 : W1.cell? ⟨ob, oo + 1, none⟩ = some (.int .i64 p1) := (hB1.cell hob).trans (hoc 1 _ rfl)
          have E2 : W1.cell? ⟨ob, oo + 2, none⟩ = some (.int .i64 p2) := (hB1.cell hob).trans (hoc 2 _ rfl)
          have hsm := HSM.out _ (List.mem_cons_self ..)
          have w1 : IntKind.i64.wrap (-p1) = -p1 := wr_lit hsm.1.1 hsm.1.2
          have w2 : IntKind.i64.wrap (-p2) = -p2 := wr_lit hsm.2.1 hsm.2.2
          clear hsm
          have n5 : ob < W1.heap.size := Nat.lt_of_lt_of_le hob hB1.size
          have n6 : ob < W1.heap.size + 1 := by omega
          clear hoc
          clear hB1 HBW HB2
          go_upto_region 22 with fail
          cases p0 with
          | false =>
            go_wp2
            go_ret
            rw [HE.out, if_neg (by omega), res7]
            exact ⟨rfl, HBP.out _ _⟩
          | true =>
            cases c0 with
            | false =>
              go_wp2
              go_ret
              rw [HE.out, if_neg (by omega), res7]
              exact ⟨rfl, HBP.out _ _⟩
            | true =>
              cases h2 : (c1 == p2) with
              | false =>
                go_wp2
                go_ret
                rw [HE.out, if_neg (by omega), res7, h2]
                exact ⟨rfl, HBP.out _ _⟩
              | true =>
                go_wp2
                go_ret
                rw [HE.out, if_neg (by omega), res7, h2]
                exact ⟨rfl, HBP.out _ _⟩
        · have hl2 : ¬ (of.length : Int) = 1 := by omega
          have HR : Hid _ := res_len (r := 7) (c := (c0, c1, c2)) hl (by omega)
          go_wp2
          go_ret
          rw [HE.out, if_neg (by omega), HR.out]
          exact ⟨rfl, HBT.out _⟩
      · by_cases hl : of.length = 1
        · rw [hl]
          go_upto_region 17 with fail
          obtain ⟨W1, hW1⟩ : ∃ W, wr.alloc (.cells #[.int .i64 1, .int .i64 0, .int .i64 2, .int .i64 1, .int .i64 1, .int .i64 1, .int .i64 1, .int .i64 1, .int .i64 2, .int .i64 2] 3) = W := ⟨_, rfl⟩
          rw [hW1]
          have hB1 : Below wr.heap.size wr W1 := hW1 ▸ (Below.refl _ wr).alloc (Nat.le_refl _) _
          clear hW1 x0a
          have hPQ : w.heap.size + 2 ≤ W1.heap.size := Nat.le_trans hws hB1.size
          have X0 := (hB1.cell (p := ⟨w.heap.size, 0, none⟩) (by show w.heap.size < _; omega)).trans x0
          have Y0 := (hB1.cell (p := ⟨w.heap.size + 1, 0, none⟩) (by show w.heap.size + 1 < _; omega)).trans y0
          have Y1 := (hB1.cell (p := ⟨w.heap.size + 1, 1, none⟩) (by show w.heap.size + 1 < _; omega)).trans y1
          have Y2 := (hB1.cell (p := ⟨w.heap.size + 1, 2, none⟩) (by show w.heap.size + 1 < _; omega)).trans y2
          have n1 : w.heap.size < W1.heap.size := by omega
          have n2 : w.heap.size < W1.heap.size + 1 := by omega
          have n3 : w.heap.size + 1 < W1.heap.size := by omega
          have n4 : w.heap.size + 1 < W1.heap.size + 1 := by omega
          have HB2 : Hid (Below w.heap.size w W1) := HBW.out.trans (hB1.mono HBW.out.size)
          have HBP : Hid (∀ o1 o2, Below w.heap.size w ((W1.alloc o1).alloc o2)) := fun o1 o2 => (HB2.out.alloc (by omega) o1).alloc (by simp; omega) o2
          clear x0 y0 y1 y2 x4
          obtain ⟨p0, p1, p2, rfl⟩ := len1 hl
          obtain ⟨ob, oo, rfl, hob, hoc⟩ := HOC.out.resolve_left (by simp)
          have E0 : W1.cell? ⟨ob, oo, none⟩ = some (.bool p0) := (hB1.cell hob).trans (hoc 0 _ rfl)
          have E1 : W1.cell? ⟨ob, oo + 1, none⟩ = some (.int .i64 p1) := (hB1.cell hob).trans (hoc 1 _ rfl)
          have E2 : W1.cell? ⟨ob, oo + 2, none⟩ = some (.int .i64 p2) := (hB1.cell hob).trans (hoc 2 _ rfl)
          have hsm := HSM.out _ (List.mem_cons_self ..)
          have w1 : IntKind.i64.wrap (-p1) = -p1 := wr_lit hsm.1.1 hsm.1.2
          have w2 : IntKind.i64.wrap (-p2) = -p2 := wr_lit hsm.2.1 hsm.2.2
          clear hsm
          have n5 : ob < W1.heap.size := Nat.lt_of_lt_of_le hob hB1.size
          have n6 : ob < W1.heap.size + 1 := by omega
          clear hoc
          clear hB1 HBW HB2
          go_upto_region 22 with fail
          cases p0 with
          | false =>
            go_wp2
            go_ret
            rw [HE.out, if_neg (by omega), res8]
            exact ⟨rfl, HBP.out _ _⟩
          | true =>
            cases c0 with
            | false =>
              go_wp2
              go_ret
              rw [HE.out, if_neg (by omega), res8]
              exact ⟨rfl, HBP.out _ _⟩
            | true =>
              cases h2 : (c1 == p1) with
              | false =>
                go_wp2
                go_ret
                rw [HE.out, if_neg (by omega), res8, h2]
                exact ⟨rfl, HBP.out _ _⟩
              | true =>
                go_wp2
                go_ret
                rw [HE.out, if_neg (by omega), res8, h2]
                exact ⟨rfl, HBP.out _ _⟩
        · have hl2 : ¬ (of.length : Int) = 1 := by omega
          have HR : Hid _ := res_len (r := 8) (c := (c0, c1, c2)) hl (by omega)
          go_wp2
          go_ret
          rw [HE.out, if_neg (by omega), HR.out]
          exact ⟨rfl, HBT.out _⟩
      · by_cases hl : of.length = 2
        · rw [hl]
          go_upto_region 17 with fail
          obtain ⟨W1, hW1⟩ : ∃ W, wr.alloc (.cells #[.int .i64 1, .int .i64 0, .int .i64 2, .int .i64 1, .int .i64 1, .int .i64 1, .int .i64 1, .int .i64 1, .int .i64 2, .int .i64 2] 3) = W := ⟨_, rfl⟩
          rw [hW1]
          have hB1 : Below wr.heap.size wr W1 := hW1 ▸ (Below.refl _ wr).alloc (Nat.le_refl _) _
          clear hW1 x0a
          have hPQ : w.heap.size + 2 ≤ W1.heap.size := Nat.le_trans hws hB1.size
          have X0 := (hB1.cell (p := ⟨w.heap.size, 0, none⟩) (by show w.heap.size < _; omega)).trans x0
          have Y0 := (hB1.cell (p := ⟨w.heap.size + 1, 0, none⟩) (by show w.heap.size + 1 < _; omega)).trans y0
          have Y1 := (hB1.cell (p := ⟨w.heap.size + 1, 1, none⟩) (by show w.heap.size + 1 < _; omega)).trans y1
          have Y2 := (hB1.cell (p := ⟨w.heap.size + 1, 2, none⟩) (by show w.heap.size + 1 < _; omega)).trans y2
          have n1 : w.heap.size < W1.heap.size := by omega
          have n2 : w.heap.size < W1.heap.size + 1 := by omega
          have n3 : w.heap.size + 1 < W1.heap.size := by omega
          have n4 : w.heap.size + 1 < W1.heap.size + 1 := by omega
          have HB2 : Hid (Below w.heap.size w W1) := HBW.out.trans (hB1.mono HBW.out.size)
          have HBP : Hid (∀ o1 o2, Below w.heap.size w ((W1.alloc o1).alloc o2)) := fun o1 o2 => (HB2.out.alloc (by omega) o1).alloc (by simp; omega) o2
          clear x0 y0 y1 y2 x4
          obtain ⟨p0, p1, p2, q0, q1, q2, rfl⟩ := len2 hl
          obtain ⟨ob, oo, rfl, hob, hoc⟩ := HOC.out.resolve_left (by simp)
          have E0 : W1.cell? ⟨ob, oo, none⟩ = some (.bool p0) := (hB1.cell hob).trans (hoc 0 _ rfl)
          have E1 : W1.cell? ⟨ob, oo + 1, none⟩ = some (.int .i64 p1) := (hB1.cell hob).trans (hoc 1 _ rfl)
          have E2 : W1.cell? ⟨ob, oo + 2, none⟩ = some (.int .i64 p2) := (hB1.cell hob).trans (hoc 2 _ rfl)
          have E3 : W1.cell? ⟨ob, oo + 3, none⟩ = some (.bool q0) := (hB1.cell hob).trans (hoc 3 _ rfl)
          have E4 : W1.cell? ⟨ob, oo + 3 + 1, none⟩ = some (.int .i64 q1) := (hB1.cell hob).trans (hoc 4 _ rfl)
          have E5 : W1.cell? ⟨ob, oo + 3 + 2, none⟩ = some (.int .i64 q2) := (hB1.cell hob).trans (hoc 5 _ rfl)
          have hsm := HSM.out _ (List.mem_cons_self ..)
          have w1 : IntKind.i64.wrap (-p1) = -p1 := wr_lit hsm.1.1 hsm.1.2
          have w2 : IntKind.i64.wrap (-p2) = -p2 := wr_lit hsm.2.1 hsm.2.2
          clear hsm
          have n5 : ob < W1.heap.size := Nat.lt_of_lt_of_le hob hB1.size
          have n6 : ob < W1.heap.size + 1 := by omega
          clear hoc
          clear hB1 HBW HB2
          go_upto_region 22 with fail
          cases p0 with
          | false =>
            go_wp2
            go_ret
            rw [HE.out, if_neg (by omega), res9]
            exact ⟨rfl, HBP.out _ _⟩
          | true =>
            cases q0 with
            | true =>
              go_wp2
              go_ret
              rw [HE.out, if_neg (by omega), res9]
              exact ⟨rfl, HBP.out _ _⟩
            | false =>
              cases c0 with
              | false =>
                go_wp2
                go_ret
                rw [HE.out, if_neg (by omega), res9]
                exact ⟨rfl, HBP.out _ _⟩
              | true =>
                cases h3 : (p2 == q1) with
                | false =>
                  go_wp2
                  go_ret
                  rw [HE.out, if_neg (by omega), res9, h3]
                  exact ⟨rfl, HBP.out _ _⟩
                | true =>
                  cases h4 : (c1 == p1) with
                  | false =>
                    go_wp2
                    go_ret
                    rw [HE.out, if_neg (by omega), res9, h3, h4]
                    exact ⟨rfl, HBP.out _ _⟩
                  | true =>
                    go_wp2
                    go_ret
                    rw [HE.out, if_neg (by omega), res9, h3, h4]
                    exact ⟨rfl, HBP.out _ _⟩
        · have hl2 : ¬ (of.length : Int) = 2 := by omega
          have HR : Hid _ := res_len (r := 9) (c := (c0, c1, c2)) hl (by omega)
          go_wp2
          go_ret
          rw [HE.out, if_neg (by omega), HR.out]
          exact ⟨rfl, HBT.out _⟩
      · by_cases hl : of.length = 2
        · rw [hl]
          go_upto_region 17 with fail
          obtain ⟨W1, hW1⟩ : ∃ W, wr.alloc (.cells #[.int .i64 1, .int .i64 0, .int .i64 2, .int .i64 1, .int .i64 1, .int .i64 1, .int .i64 1, .int .i64 1, .int .i64 2, .int .i64 2] 3) = W := ⟨_, rfl⟩
          rw [hW1]
          have hB1 : Below wr.heap.size wr W1 := hW1 ▸ (Below.refl _ wr).alloc (Nat.le_refl _) _
          clear hW1 x0a
          have hPQ : w.heap.size + 2 ≤ W1.heap.size := Nat.le_trans hws hB1.size
          have X0 := (hB1.cell (p := ⟨w.heap.size, 0, none⟩) (by show w.heap.size < _; omega)).trans x0
          have Y0 := (hB1.cell (p := ⟨w.heap.size + 1, 0, none⟩) (by show w.heap.size + 1 < _; omega)).trans y0
          have Y1 := (hB1.cell (p := ⟨w.heap.size + 1, 1, none⟩) (by show w.heap.size + 1 < _; omega)).trans y1
          have Y2 := (hB1.cell (p := ⟨w.heap.size + 1, 2, none⟩) (by show w.heap.size + 1 < _; omega)).trans y2
          have n1 : w.heap.size < W1.heap.size := by omega
          have n2 : w.heap.size < W1.heap.size + 1 := by omega
          have n3 : w.heap.size + 1 < W1.heap.size := by omega
          have n4 : w.heap.size + 1 < W1.heap.size + 1 := by omega
          have HB2 : Hid (Below w.heap.size w W1) := HBW.out.trans (hB1.mono HBW.out.size)
          have HBP : Hid (∀ o1 o2, Below w.heap.size w ((W1.alloc o1).alloc o2)) := fun o1 o2 => (HB2.out.alloc (by omega) o1).alloc (by simp; omega) o2
          clear x0 y0 y1 y2 x4
          obtain ⟨p0, p1, p2, q0, q1, q2, rfl⟩ := len2 hl
          obtain ⟨ob, oo, rfl, hob, hoc⟩ := HOC.out.resolve_left (by simp)
          have E0 : W1.cell? ⟨ob, oo, none⟩ = some (.bool p0) := (hB1.cell hob).trans (hoc 0 _ rfl)
          have E1 : W1.cell? ⟨ob, oo + 1, none⟩ = some (.int .i64 p1) := (hB1.cell hob).trans (hoc 1 _ rfl)
          have E2 : W1.cell? ⟨ob, oo + 2, none⟩ = some (.int .i64 p2) := (hB1.cell hob).trans (hoc 2 _ rfl)
          have E3 : W1.cell? ⟨ob, oo + 3, none⟩ = some (.bool q0) := (hB1.cell hob).trans (hoc 3 _ rfl)
          have E4 : W1.cell? ⟨ob, oo + 3 + 1, none⟩ = some (.int .i64 q1) := (hB1.cell hob).trans (hoc 4 _ rfl)
          have E5 : W1.cell? ⟨ob, oo + 3 + 2, none⟩ = some (.int .i64 q2) := (hB1.cell hob).trans (hoc 5 _ rfl)
          have hsm := HSM.out _ (List.mem_cons_self ..)
          have w1 : IntKind.i64.wrap (-p1) = -p1 := wr_lit hsm.1.1 hsm.1.2
          have w2 : IntKind.i64.wrap (-p2) = -p2 := wr_lit hsm.2.1 hsm.2.2
          clear hsm
          have n5 : ob < W1.heap.size := Nat.lt_of_lt_of_le hob hB1.size
          have n6 : ob < W1.heap.size + 1 := by omega
          clear hoc
          clear hB1 HBW HB2
          go_upto_region 22 with fail
          cases p0 with
          | true =>
            go_wp2
            go_ret
            rw [HE.out, if_neg (by omega), res10]
            exact ⟨rfl, HBP.out _ _⟩
          | false =>
            cases q0 with
            | false =>
              go_wp2
              go_ret
              rw [HE.out, if_neg (by omega), res10]
              exact ⟨rfl, HBP.out _ _⟩
            | true =>
              cases h2 : (q1 == p1) with
              | false =>
                go_wp2
                go_ret
                rw [HE.out, if_neg (by omega), res10, h2]
                exact ⟨rfl, HBP.out _ _⟩
              | true =>
                go_wp2
                go_ret
                rw [HE.out, if_neg (by omega), res10, h2]
                exact ⟨rfl, HBP.out _ _⟩
        · have hl2 : ¬ (of.length : Int) = 2 := by omega
          have HR : Hid _ := res_len (r := 10) (c := (c0, c1, c2)) hl (by omega)
          go_wp2
          go_ret
          rw [HE.out, if_neg (by omega), HR.out]
          exact ⟨rfl, HBT.out _⟩
end Go.Proofs.Ytcnanbimpajonaa.Sl
