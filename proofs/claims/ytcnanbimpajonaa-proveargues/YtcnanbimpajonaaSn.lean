/- Sound, and the document's CheckClaims. Conditions: a slice is no longer than its capacity; few claims more. -/
import Derived.Test.YtcnanbimpajonaaRj
import Derived.Test.YtcnanbimpajonaaAu
namespace Go.Proofs.Ytcnanbimpajonaa.Sn
open Go.RowKit Cl Co Cp Nu Ag Cs Cf Ri Rj Au

def okL (l : Ln) : Bool := okC l.2.1
def soundE (ps : List C) (L : List Ln) : Int := if 20 < ps.length ∨ 400 < L.length then 7 else if ps.all okC then (if L.all okL then 0 else 3) else 3
def eachB (ps : List C) (L : List Ln) : Bool := (List.range L.length).all fun i => match L[i]? with
  | none => true
  | some l => soundL ps (L.take i) l
def soundR (ps : List C) (L : List Ln) : Bool := decide (soundE ps L = 0) && eachB ps L
theorem eachB_iff {ps : List C} {L : List Ln} : eachB ps L = true ↔ ∀ i (h : i < L.length), soundL ps (L.take i) L[i] = true := by
  unfold eachB
  rw [List.all_eq_true]
  constructor
  · intro h i hi
    have := h i (List.mem_range.2 hi)
    rw [List.getElem?_eq_getElem hi] at this
    exact this
  · intro h i hi
    have hi' := List.mem_range.1 hi
    rw [List.getElem?_eq_getElem hi']
    exact h i hi'

set_option maxHeartbeats 4000000 in
set_option maxRecDepth 100000 in
theorem Sound_any (ps : List C) (Z : List (Ln × Value)) (vp : Value) (al : Option Addr) (kl : Nat) (w : World) (hp : IsC w vp ps) (hL : IsL w (.slice al Z.length kl) Z) (hcap : Z.length ≤ kl) :
    Calls Try.prog 14 #[vp, .slice al Z.length kl] w fun e w' => e = .returned (.tuple #[.bool (soundR ps (Z.map Prod.fst)), .int .i64 (soundE ps (Z.map Prod.fst))]) ∧ Below w.heap.size w w' := by
  have k20 := each_any vp ps w hp
  have HP : Hid (IsC w vp ps) := hp
  have HL : Hid (IsL w (.slice al Z.length kl) Z) := hL
  obtain ⟨_, ap, kp, rfl, _, _⟩ := hp
  obtain ⟨⟨_, a', k', hv', hzb, hlc⟩, _⟩ := hL
  simp only [Value.slice.injEq, true_and] at hv'
  obtain ⟨rfl, rfl⟩ := hv'
  have HC : Hid _ := hlc
  clear hlc
  have hll : (Z.map Prod.fst).length = Z.length := List.length_map _
  by_cases h1 : 20 < ps.length
  · have e1 : soundE ps (Z.map Prod.fst) = 7 := by unfold soundE; rw [if_pos (.inl h1)]
    have e2 : soundR ps (Z.map Prod.fst) = false := by unfold soundR; rw [e1]; rfl
    rw [e1, e2]
    have h1' : (20 : Int) < (ps.length : Int) := by omega
    clear k20 e1 e2
    go_enter Try.func14, Try.ntmps14
    go_wp2
    go_ret2
    exact ⟨rfl, Below.refl _ _⟩
  have h1' : ¬ (20 : Int) < (ps.length : Int) := by omega
  by_cases h2 : 400 < Z.length
  · have e1 : soundE ps (Z.map Prod.fst) = 7 := by unfold soundE; rw [if_pos (.inr (by rw [hll]; exact h2))]
    have e2 : soundR ps (Z.map Prod.fst) = false := by unfold soundR; rw [e1]; rfl
    rw [e1, e2]
    have h2' : (400 : Int) < (Z.length : Int) := by omega
    clear k20 e1 e2
    go_enter Try.func14, Try.ntmps14
    go_wp2
    go_ret2
    exact ⟨rfl, Below.refl _ _⟩
  have h2' : ¬ (400 : Int) < (Z.length : Int) := by omega
  have e0 : soundE ps (Z.map Prod.fst) = if ps.all okC then (if (Z.map Prod.fst).all okL then 0 else 3) else 3 := by unfold soundE; rw [if_neg (by rw [hll]; omega)]
  cases hpo : ps.all okC with
  | false =>
    have e1 : soundE ps (Z.map Prod.fst) = 3 := by rw [e0, hpo]; rfl
    have e2 : soundR ps (Z.map Prod.fst) = false := by unfold soundR; rw [e1]; rfl
    have e3 : ckAll ps = 3 := by unfold ckAll; rw [hpo]; rfl
    rw [e1, e2]
    rw [e3] at k20
    clear e0 e1 e2 e3 hpo
    go_enter Try.func14, Try.ntmps14
    go_wp2_with (go_at_call 22; refine k20.mono ?_; rintro e w2 ⟨rfl, hb2⟩)
    go_ret2
    exact ⟨rfl, hb2⟩
  | true =>
    have e3 : ckAll ps = 0 := by unfold ckAll; rw [hpo]; rfl
    rw [hpo, if_pos rfl] at e0
    rw [e3] at k20
    have HE0 : Hid (soundE ps (Z.map Prod.fst) = if (Z.map Prod.fst).all okL then 0 else 3) := e0
    have HPO : Hid _ := hpo
    clear e0 e3 hpo
    have HLL : Hid _ := hll
    clear hll
    go_enter Try.func14, Try.ntmps14
    go_wp2_with (go_at_call 22; refine k20.mono ?_; rintro e w2 ⟨rfl, hb2⟩; have HB2 : Hid (Below w.heap.size w w2) := hb2; clear hb2 k20)
    go_loopw [27] (fun iv wr => ∃ (k : Nat), iv = .int .i64 (k : Int) ∧ k ≤ Z.length ∧ (∀ z ∈ Z.take k, okL z.1 = true) ∧ Below w.heap.size w wr) (fun iv _ => Z.length - (intOf iv).toNat)
    case atStart => exact ⟨0, rfl, Nat.zero_le _, fun z hz => by simp at hz, HB2.out⟩
    case round =>
      obtain ⟨k, rfl, hk, hall, hb⟩ := hrel
      have HALL : Hid _ := hall
      have HB : Hid (Below w.heap.size w wr) := hb
      clear hall
      by_cases hlt : k < Z.length
      · obtain ⟨b, off, rfl, hbl, hcs⟩ := HC.out.resolve_left (by omega)
        have hat := zcs_at Z k hlt
        have hfI := HL.out.2 _ (List.getElem_mem hlt)
        obtain ⟨⟨⟨r, ⟨s0, s1, s2⟩, fr⟩, fv⟩, hz⟩ : ∃ z, Z[k] = z := ⟨_, rfl⟩
        rw [hz] at hat hfI
        obtain ⟨_, fa, fk, hfv, _, _⟩ := hfI
        dsimp only at hat hfv
        subst hfv
        have c0 : wr.cell? ⟨b, off + k * 5, none⟩ = some (.int .i64 r) := (hb.cell hbl).trans (hcs _ _ hat.1)
        have c1 : wr.cell? ⟨b, off + k * 5 + 1, none⟩ = some (.bool s0) := (hb.cell hbl).trans (hcs _ _ hat.2.1)
        have c2 : wr.cell? ⟨b, off + k * 5 + 2, none⟩ = some (.int .i64 s1) := (hb.cell hbl).trans (hcs _ _ hat.2.2.1)
        have c3 : wr.cell? ⟨b, off + k * 5 + 3, none⟩ = some (.int .i64 s2) := (hb.cell hbl).trans (hcs _ _ hat.2.2.2.1)
        have c4 : wr.cell? ⟨b, off + k * 5 + 4, none⟩ = some (.slice fa fr.length fk) := (hb.cell hbl).trans (hcs _ _ hat.2.2.2.2)
        have k9 := fun W => check_any (s0, s1, s2) W
        unfold vc at k9
        dsimp only at k9
        have HZ : Hid (Z[k] = ((r, (s0, s1, s2), fr), .slice fa fr.length fk)) := hz
        clear hat hz hcs hb
        cases hok : okC (s0, s1, s2) with
        | true =>
          have e4 : ckC (s0, s1, s2) = 0 := by unfold ckC; rw [hok]; rfl
          rw [e4] at k9
          have HOK : Hid _ := hok
          clear hok e4
          go_wp2_with (go_at_call 23; refine (k9 _).mono ?_; rintro e w3 ⟨rfl, hb3⟩; have HB3 : Hid (Below w.heap.size w w3) := HB.out.trans ((((Below.refl _ wr).alloc (Nat.le_refl _) _).trans (hb3.mono (by simp))).mono HB.out.size); clear hb3)
          go_roundw
          case rel =>
            refine ⟨k + 1, by go_num, hlt, fun z hzm => ?_, HB3.out⟩
            rw [List.take_succ_eq_append_getElem hlt, List.mem_append, List.mem_singleton, HZ.out] at hzm
            rcases hzm with hzm | hzm
            · exact HALL.out z hzm
            · rw [hzm]; exact HOK.out
          case measure => simp [intOf]; omega
        | false =>
          have e4 : ckC (s0, s1, s2) = 3 := by unfold ckC; rw [hok]; rfl
          rw [e4] at k9
          have e5 : (Z.map Prod.fst).all okL = false := by
            rw [List.all_eq_false]
            refine ⟨(r, (s0, s1, s2), fr), List.mem_map.2 ⟨_, List.getElem_mem hlt, by rw [HZ.out]⟩, ?_⟩
            show ¬ okC (s0, s1, s2) = true
            rw [hok]
            decide
          have e6 : soundE ps (Z.map Prod.fst) = 3 := by rw [HE0.out, e5]; rfl
          have HE6 : Hid _ := e6
          clear hok e4 e5 e6
          go_wp2_with (go_at_call 23; refine (k9 _).mono ?_; rintro e w3 ⟨rfl, hb3⟩; have HB3 : Hid (Below w.heap.size w w3) := HB.out.trans ((((Below.refl _ wr).alloc (Nat.le_refl _) _).trans (hb3.mono (by simp))).mono HB.out.size); clear hb3)
          go_ret2
          unfold soundR
          rw [HE6.out]
          exact ⟨rfl, HB3.out⟩
      · have ek : k = Z.length := by omega
        subst ek
        have hall := HALL.out
        rw [List.take_length] at hall
        have e5 : (Z.map Prod.fst).all okL = true := by
          rw [List.all_eq_true]
          intro l hl
          obtain ⟨z, hz, rfl⟩ := List.mem_map.1 hl
          exact hall z hz
        have e6 : soundE ps (Z.map Prod.fst) = 0 := by rw [HE0.out, e5]; rfl
        have HE6 : Hid _ := e6
        have HSM : Hid (∀ z ∈ Z, Sm z.1.2.1) := fun z hz => sm_ok (hall z hz)
        clear hall e5 e6 HALL HE0 hb
        go_wp2
        go_loopw [40] (fun iv wr => ∃ (k : Nat), iv = .int .i64 (k : Int) ∧ k ≤ Z.length ∧ (∀ i (h : i < Z.length), i < k → soundL ps ((Z.map Prod.fst).take i) (Z[i]).1 = true) ∧ Below w.heap.size w wr) (fun iv _ => Z.length - (intOf iv).toNat)
        case atStart => exact ⟨0, rfl, Nat.zero_le _, fun i _ hi => absurd hi (Nat.not_lt_zero _), HB.out⟩
        case round =>
          obtain ⟨j, rfl, hj, hall, hb⟩ := hrel
          have HALL : Hid _ := hall
          clear hall HB
          have HB : Hid (Below w.heap.size w wr) := hb
          by_cases hlt : j < Z.length
          · obtain ⟨b, off, rfl, hbl, hcs⟩ := HC.out.resolve_left (by omega)
            have hat := zcs_at Z j hlt
            have hfI := HL.out.2 _ (List.getElem_mem hlt)
            obtain ⟨⟨⟨r, ⟨s0, s1, s2⟩, fr⟩, fv⟩, hz⟩ : ∃ z, Z[j] = z := ⟨_, rfl⟩
            rw [hz] at hat hfI
            have HFI : Hid (IsI w fv fr) := hfI
            obtain ⟨_, fa, fk, hfv, _, _⟩ := hfI
            dsimp only at hat hfv
            subst hfv
            have c0 : wr.cell? ⟨b, off + j * 5, none⟩ = some (.int .i64 r) := (hb.cell hbl).trans (hcs _ _ hat.1)
            have c1 : wr.cell? ⟨b, off + j * 5 + 1, none⟩ = some (.bool s0) := (hb.cell hbl).trans (hcs _ _ hat.2.1)
            have c2 : wr.cell? ⟨b, off + j * 5 + 2, none⟩ = some (.int .i64 s1) := (hb.cell hbl).trans (hcs _ _ hat.2.2.1)
            have c3 : wr.cell? ⟨b, off + j * 5 + 3, none⟩ = some (.int .i64 s2) := (hb.cell hbl).trans (hcs _ _ hat.2.2.2.1)
            have c4 : wr.cell? ⟨b, off + j * 5 + 4, none⟩ = some (.slice fa fr.length fk) := (hb.cell hbl).trans (hcs _ _ hat.2.2.2.2)
            have hbx : Below w.heap.size w (wr.alloc (.cells #[.int .i64 r, .bool s0, .int .i64 s1, .int .i64 s2, .slice fa fr.length fk] 38)) := hb.alloc hb.size _
            have hjc : j ≤ kl := by omega
            have emap : (Z.take j).map Prod.fst = (Z.map Prod.fst).take j := by rw [List.map_take]
            have k21 := fun p : After (wr.alloc (.cells #[.int .i64 r, .bool s0, .int .i64 s1, .int .i64 s2, .slice fa fr.length fk] 38)) => right_any r s0 s1 s2 fr (.slice fa fr.length fk) ps (Z.take j) (.slice ap ps.length kp) (.slice (some ⟨b, off, none⟩) j kl) p.W (Row.below HFI.out (hbx.trans (p.h.mono hbx.size))) (Ce.IsC.below HP.out (hbx.trans (p.h.mono hbx.size))) ((Rj.IsL.take HL.out j (by omega)).below (hbx.trans (p.h.mono hbx.size))) (fun z hz => HSM.out z (List.mem_of_mem_take hz))
            rw [emap] at k21
            obtain ⟨q, hq⟩ : ∃ q, soundL ps ((Z.map Prod.fst).take j) (r, (s0, s1, s2), fr) = q := ⟨_, rfl⟩
            rw [hq] at k21
            have HQ : Hid _ := hq
            have r1 := read5 (heap_alloc_new wr (.cells #[.int .i64 r, .bool s0, .int .i64 s1, .int .i64 s2, .slice fa fr.length fk] 38))
            haveI : Inhabited (After (wr.alloc (.cells #[.int .i64 r, .bool s0, .int .i64 s1, .int .i64 s2, .slice fa fr.length fk] 38))) := ⟨⟨_, Below.refl _ _⟩⟩
            have HZ : Hid (Z[j] = ((r, (s0, s1, s2), fr), .slice fa fr.length fk)) := hz
            have HBX : Hid _ := hbx
            clear hat hz hcs hb hq emap hbx
            cases q with
            | true =>
              go_wp2_with fail
              refine wp_region_after (by kernel_rfl) (by kernel_rfl) ?_
              repeat (go_big_quiet_step (first | (go_at_call 24; refine after_of (k21 _)) | fail))
              refine wpQuiet_nil ?_
              intro W hw'
              obtain ⟨⟨W, hW⟩, rfl⟩ := hw'
              have HW : Hid (Below w.heap.size w W) := HBX.out.trans (hW.mono HBX.out.size)
              clear r1 k21 hW
              go_wp2
              go_roundw
              case rel =>
                refine ⟨j + 1, by go_num, hlt, fun i hi hij => ?_, HW.out⟩
                by_cases e : i = j
                · subst e
                  rw [HZ.out]
                  exact HQ.out
                · exact HALL.out i hi (by omega)
              case measure => simp [intOf]; omega
            | false =>
              have HF : Hid (eachB ps (Z.map Prod.fst) = false) := by
                show eachB ps (Z.map Prod.fst) = false
                cases he : eachB ps (Z.map Prod.fst) with
                | false => rfl
                | true =>
                  have := eachB_iff.1 he j (by rw [HLL.out]; exact hlt)
                  rw [List.getElem_map, HZ.out, HQ.out] at this
                  cases this
              go_wp2_with fail
              refine wp_region_after (by kernel_rfl) (by kernel_rfl) ?_
              repeat (go_big_quiet_step (first | (go_at_call 24; refine after_of (k21 _)) | fail))
              refine wpQuiet_nil ?_
              intro W hw'
              obtain ⟨⟨W, hW⟩, rfl⟩ := hw'
              have HW : Hid (Below w.heap.size w W) := HBX.out.trans (hW.mono HBX.out.size)
              clear r1 k21 hW
              go_wp2
              go_ret2
              unfold soundR
              rw [HE6.out, HF.out]
              exact ⟨rfl, HW.out⟩
          · have HF : Hid (eachB ps (Z.map Prod.fst) = true) := by
              show eachB ps (Z.map Prod.fst) = true
              refine eachB_iff.2 fun i hi => ?_
              rw [List.getElem_map]
              exact HALL.out i (by rw [HLL.out] at hi; exact hi) (by rw [HLL.out] at hi; omega)
            clear hb
            go_wp2
            go_ret2
            unfold soundR
            rw [HE6.out, HF.out]
            exact ⟨rfl, HB.out⟩
end Go.Proofs.Ytcnanbimpajonaa.Sn
