/- ProveSound: at all premises and lines as they lie in memory the law returns true. Conditions: the lines, and the numbers of each, are few enough. -/
import Derived.Test.YtkemchblnciiaaaSn
import Derived.Test.YtkemchblnciiaaaSl
import Derived.Test.YtkemchblnciiaaaCc
import Derived.Test.YtkemchblnciiaaaPb
namespace Go.Proofs.Ytkemchblnciiaaa.Ls
open Go.RowKit Cl Co Cp Nu Ag Cs Ce Cf Ri Rj Au Sn Sl Cc

theorem w_eq (ps : List C) (L : List Ln) : soundE ps L = if 400 < L.length then 7 else claimsP ps (L.map fun l => l.2.1) := by
  unfold soundE claimsP ckAll
  by_cases h1 : 400 < L.length
  · rw [if_pos (.inr h1), if_pos h1]
  · rw [if_neg h1]
    by_cases h2 : 20 < ps.length
    · rw [if_pos (.inl h2), if_pos h2]
    · rw [if_neg (by omega), if_neg h2, List.all_append, List.all_map]
      have e : (okC ∘ fun l : Ln => l.2.1) = okL := rfl
      rw [e]
      cases ps.all okC <;> cases L.all okL <;> rfl
theorem r_iff (ps : List C) (Z : List (Ln × Value)) : soundR ps (Z.map Prod.fst) = true ↔ soundE ps (Z.map Prod.fst) = 0 ∧ ∀ i (h : i < Z.length), soundL ps ((Z.map Prod.fst).take i) (Z[i]).1 = true := by
  unfold soundR
  rw [Bool.and_eq_true, decide_eq_true_eq, eachB_iff]
  constructor
  · rintro ⟨h1, h2⟩
    refine ⟨h1, fun i h => ?_⟩
    have := h2 i (by rw [List.length_map]; exact h)
    rwa [List.getElem_map] at this
  · rintro ⟨h1, h2⟩
    refine ⟨h1, fun i h => ?_⟩
    rw [List.getElem_map]
    exact h2 i (by rwa [List.length_map] at h)
theorem x_sm {ps : List C} {Z : List (Ln × Value)} (h : soundE ps (Z.map Prod.fst) = 0) : (∀ p ∈ ps, Sm p) ∧ ∀ z ∈ Z, Sm z.1.2.1 := by
  unfold soundE at h
  split at h
  · cases h
  · cases h1 : ps.all okC with
    | false => rw [h1] at h; cases h
    | true =>
      rw [h1, if_pos rfl] at h
      cases h2 : (Z.map Prod.fst).all okL with
      | false => rw [h2] at h; cases h
      | true => exact ⟨fun p hp => sm_ok (List.all_eq_true.1 h1 p hp), fun z hz => sm_ok (List.all_eq_true.1 h2 z.1 (List.mem_map_of_mem hz))⟩

set_option maxHeartbeats 4000000 in
set_option maxRecDepth 100000 in
theorem walk (ps : List C) (Z : List (Ln × Value)) (vp : Value) (al : Option Addr) (kl : Nat) (w : World) (hp : IsC w vp ps) (hL : IsL w (.slice al Z.length kl) Z) (hcap : Z.length ≤ kl) (hfl : ∀ z ∈ Z, z.1.2.2.length ≤ 1048576) (hn : Z.length ≤ 1048576) :
    Calls Try.prog 4 #[vp, .slice al Z.length kl] w fun e w' => e = .returned (.bool true) ∧ Below w.heap.size w w' := by
  have k11 := Sound_any ps Z vp al kl w hp hL hcap
  have k12 := fun W (hW : Below w.heap.size w W) vm (hm : IsC W vm ((Z.map Prod.fst).map fun l => l.2.1)) (h4 : Z.length ≤ 400) => claims_any vp vm ps _ W (IsC.below hp hW) hm (by rw [List.length_map, List.length_map]; exact h4)
  have k13 := fun (hx : soundE ps (Z.map Prod.fst) = 0) i (hi : i < Z.length) W (hW : Below w.heap.size w W) => line_any ps Z i vp (.slice al Z.length kl) W (IsC.below hp hW) (IsL.below hL hW) hi (x_sm hx).1 (x_sm hx).2 hfl
  have hw := w_eq ps (Z.map Prod.fst)
  rw [List.length_map] at hw
  have hr := r_iff ps Z
  have HSB : Hid (∀ i (h : i < Z.length), ∃ b, soundL ps ((Z.map Prod.fst).take i) (Z[i]).1 = b) := fun i h => ⟨_, rfl⟩
  obtain ⟨x, hx⟩ : ∃ x, soundE ps (Z.map Prod.fst) = x := ⟨_, rfl⟩
  obtain ⟨r, hr'⟩ : ∃ r, soundR ps (Z.map Prod.fst) = r := ⟨_, rfl⟩
  rw [hx] at hw hr k11 k13
  rw [hr'] at hr k11
  clear hx hr'
  have HL : Hid (Row w (.slice al Z.length kl) 5 Z.length (zcs Z)) := hL.1
  obtain ⟨_, ap, kp, rfl, _, _⟩ := hp
  obtain ⟨i0, hi, hz0, hz1, hz2⟩ := info_parts info24
  have K12 : Hid _ := k12
  have K13 : Hid _ := k13
  have HX : Hid _ := hw
  have HR : Hid _ := hr
  clear k12 k13 hw hr hL hfl hcap
  have dx : (x == x) = true := by simp
  have dr : (r == r) = true := by simp
  go_enter Try.func4, Try.ntmps4
  go_wp2_with (go_at_call 11; refine k11.mono ?_; rintro e w1 ⟨rfl, hb1⟩; have HB1 : Hid (Below w.heap.size w w1) := hb1; clear hb1 k11)
  go_loopw [8, 9] (fun v iv wr => ∃ (k : Nat), iv = .int .i64 (k : Int) ∧ k ≤ Z.length ∧ wr.ownsRow w.heap.size 24 3 v k (ccs (((Z.take k).map Prod.fst).map fun l => l.2.1)) ∧ Below w.heap.size w wr) (fun _ iv _ => Z.length - (intOf iv).toNat)
  case atStart => exact ⟨0, rfl, Nat.zero_le _, World.ownsRow_nil _ _ _ _, HB1.out⟩
  case round =>
    obtain ⟨k, rfl, hk, hown, hb⟩ := hrel
    have HO : Hid (wr.ownsRow w.heap.size 24 3 u8 k (ccs (((Z.take k).map Prod.fst).map fun l => l.2.1))) := hown
    have HB : Hid (Below w.heap.size w wr) := hb
    have hws : w.heap.size ≤ wr.heap.size := hb.size
    clear hown hb
    by_cases hlt : k < Z.length
    · obtain ⟨_, al', kl', hv, hln, hlc⟩ := HL.out
      simp only [Value.slice.injEq, true_and] at hv
      obtain ⟨rfl, rfl⟩ := hv
      obtain ⟨lb, lo, rfl, hlb, hlcs⟩ := hlc.resolve_left (by omega)
      have hat := zcs_at Z k hlt
      obtain ⟨⟨⟨xr, ⟨s0, s1, s2'⟩, xf⟩, xv⟩, hz⟩ : ∃ z, Z[k] = z := ⟨_, rfl⟩
      rw [hz] at hat
      have e0 : wr.cell? ⟨lb, lo + k * 5 + 1, none⟩ = some (.bool s0) := (HB.out.cell hlb).trans (hlcs _ _ hat.2.1)
      have e1 : wr.cell? ⟨lb, lo + k * 5 + 1 + 1, none⟩ = some (.int .i64 s1) := (HB.out.cell hlb).trans (hlcs _ _ hat.2.2.1)
      have e2 : wr.cell? ⟨lb, lo + k * 5 + 1 + 2, none⟩ = some (.int .i64 s2') := (HB.out.cell hlb).trans (hlcs _ _ hat.2.2.2.1)
      have HZ : Hid (Z[k] = ((xr, (s0, s1, s2'), xf), xv)) := hz
      clear hat hz hlcs hlc
      go_wp2_with (refine wpList_append_own_at _ rfl _ _ 32 rfl w.heap.size 24 i0 (.agg #[.bool false, .int .i64 0, .int .i64 0]) 3 24 Try.underlying32 hi hz0 hz1 hz2 rfl (by decide) _ _ _ rfl (HO.out.alloc _) ⟨_, 0, none⟩ 1 1 (cc (s0, s1, s2')) rfl rfl (cell_three_at _ _ _ _ _ _ rfl) (cc_one _) (by unfold maxLen; omega) (by omega) (by simp; omega) ?_; intro v1 w1' ho1 hg1 _ _; have HO1 : Hid (w1'.ownsRow w.heap.size 24 3 v1 (k + 1) (ccs (((Z.take k).map Prod.fst).map fun l => l.2.1) ++ cc (s0, s1, s2'))) := ho1; have HB2 : Hid (Below w.heap.size wr w1') := ((Below.refl _ wr).alloc hws _).trans (Rj.below_of_grown hg1 (HO.out.alloc _) (by simp; omega)); clear ho1 hg1)
      go_roundw
      case rel =>
        refine ⟨k + 1, by go_num, hlt, ?_, HB.out.trans HB2.out⟩
        rw [List.take_succ_eq_append_getElem hlt, HZ.out, List.map_append, List.map_append]
        have := HO1.out
        rw [ccs_snoc] at this
        exact this
      case measure => simp [intOf]; omega
    · have ek : k = Z.length := by omega
      subst ek
      have hown := HO.out
      rw [List.take_length] at hown
      have HC : Hid (IsC wr u8 ((Z.map Prod.fst).map fun l => l.2.1)) := own_isC hown (by omega)
      clear hown HO
      obtain ⟨av, nv', kv, hu8⟩ : ∃ a n k, u8 = .slice a n k := by
        obtain ⟨_, a, k, hv, _⟩ := HC.out
        exact ⟨_, _, _, hv⟩
      subst hu8
      by_cases h4 : 400 < Z.length
      · have h4' : (400 : Int) < (Z.length : Int) := by omega
        have hx7 : x = 7 := by rw [HX.out, if_pos h4]
        subst hx7
        clear K12 dx
        have hrf : r = false := by
          cases r with
          | false => rfl
          | true => exact absurd (HR.out.1 rfl).1 (by decide)
        subst hrf
        have HW3 : Hid (Below w.heap.size w wr) := HB.out
        go_wp2
        go_loopw [10, 11] (fun bv iv wr => bv = .bool false ∧ iv = .int .i64 0 ∧ Below w.heap.size w wr) (fun _ _ _ => 0)
        case atStart => exact ⟨rfl, rfl, HW3.out⟩
        case round =>
          obtain ⟨rfl, rfl, hb4⟩ := hrel
          have HB4 : Hid (Below w.heap.size w wr) := hb4
          clear hb4
          have hpos : (0 : Int) < (Z.length : Int) := by omega
          go_wp2_with (go_at_call 8; refine (Pb.begun_true _).mono ?_; rintro e w6 ⟨rfl, hb6⟩; have HB6 : Hid (Below w.heap.size w w6) := HB4.out.trans (hb6.mono HB4.out.size); clear hb6)
          go_ret
          exact ⟨rfl, HB6.out⟩
      · have h4' : ¬ (400 : Int) < (Z.length : Int) := by omega
        have hxc : x = claimsP ps ((Z.map Prod.fst).map fun l => l.2.1) := by rw [HX.out, if_neg h4]
        have k12 := K12.out wr HB.out _ HC.out (by omega)
        rw [← hxc] at k12
        clear hxc K12
        by_cases hx0 : x = 0
        · have HX0 : Hid (x = 0) := hx0
          subst hx0
          go_wp2_with (go_at_call 12; refine k12.mono ?_; rintro e w3 ⟨rfl, hb3⟩; have HW3 : Hid (Below w.heap.size w w3) := HB.out.trans (hb3.mono HB.out.size); clear hb3 k12)
          go_loopw [10, 11] (fun bv iv wr => ∃ (k : Nat) (b : Bool), bv = .bool b ∧ iv = .int .i64 (k : Int) ∧ k ≤ Z.length ∧ (b = true → ∀ i (h : i < Z.length), i < k → soundL ps ((Z.map Prod.fst).take i) (Z[i]).1 = true) ∧ (b = false → r = false) ∧ Below w.heap.size w wr) (fun _ iv _ => Z.length - (intOf iv).toNat)
          case atStart => exact ⟨0, true, rfl, rfl, Nat.zero_le _, fun _ i _ h => absurd h (Nat.not_lt_zero _), fun h => (by cases h), HW3.out⟩
          case round =>
            obtain ⟨k, b, rfl, rfl, hk, h1, h2, hb4⟩ := hrel
            have HB4 : Hid (Below w.heap.size w wr) := hb4
            have H1 : Hid _ := h1
            have H2 : Hid _ := h2
            clear h1 h2 hb4
            cases b with
            | true =>
              by_cases hlt : k < Z.length
              · have k13 := K13.out (by trivial) k hlt wr HB4.out
                obtain ⟨s, hs⟩ : ∃ s, soundL ps ((Z.map Prod.fst).take k) (Z[k]).1 = s := ⟨_, rfl⟩
                rw [hs] at k13
                have HS : Hid _ := hs
                clear hs
                go_wp2_with (go_at_call 13; refine k13.mono ?_; rintro e w5 ⟨rfl, hb5⟩; have HB5 : Hid (Below w.heap.size w w5) := HB4.out.trans (hb5.mono HB4.out.size); clear hb5)
                go_roundw
                case rel =>
                  refine ⟨k + 1, s, rfl, by go_num, hlt, ?_, ?_, HB5.out⟩
                  · intro h i hi hik
                    by_cases e : i = k
                    · subst e
                      rw [HS.out]
                      exact h
                    · exact H1.out (by trivial) i hi (by omega)
                  · intro h
                    cases hr : r with
                    | false => rfl
                    | true =>
                      have := (HR.out.1 hr).2 k hlt
                      rw [HS.out, h] at this
                      cases this
                case measure => simp [intOf]; omega
              · have hrt : r = true := HR.out.2 ⟨by trivial, fun i h => H1.out (by trivial) i h (by omega)⟩
                subst hrt
                go_wp2_with (go_at_call 8; refine (Pb.begun_true _).mono ?_; rintro e w6 ⟨rfl, hb6⟩; have HB6 : Hid (Below w.heap.size w w6) := HB4.out.trans (hb6.mono HB4.out.size); clear hb6)
                go_ret
                exact ⟨rfl, HB6.out⟩
            | false =>
              have hrf := H2.out (by trivial)
              subst hrf
              by_cases hlt : k < Z.length
              · go_wp2_with (go_at_call 8; refine (Pb.begun_true _).mono ?_; rintro e w6 ⟨rfl, hb6⟩; have HB6 : Hid (Below w.heap.size w w6) := HB4.out.trans (hb6.mono HB4.out.size); clear hb6)
                go_ret
                exact ⟨rfl, HB6.out⟩
              · go_wp2_with (go_at_call 8; refine (Pb.begun_true _).mono ?_; rintro e w6 ⟨rfl, hb6⟩; have HB6 : Hid (Below w.heap.size w w6) := HB4.out.trans (hb6.mono HB4.out.size); clear hb6)
                go_ret
                exact ⟨rfl, HB6.out⟩
        · have d0 : (x == 0) = false := by simpa using hx0
          have hrf : r = false := by
            cases r with
            | false => rfl
            | true => exact absurd (HR.out.1 rfl).1 hx0
          subst hrf
          go_wp2_with (go_at_call 12; refine k12.mono ?_; rintro e w3 ⟨rfl, hb3⟩; have HW3 : Hid (Below w.heap.size w w3) := HB.out.trans (hb3.mono HB.out.size); clear hb3 k12)
          go_loopw [10, 11] (fun bv iv wr => bv = .bool false ∧ iv = .int .i64 0 ∧ Below w.heap.size w wr) (fun _ _ _ => 0)
          case atStart => exact ⟨rfl, rfl, HW3.out⟩
          case round =>
            obtain ⟨rfl, rfl, hb4⟩ := hrel
            have HB4 : Hid (Below w.heap.size w wr) := hb4
            clear hb4
            by_cases hpos : (0 : Int) < (Z.length : Int)
            · go_wp2_with (go_at_call 8; refine (Pb.begun_true _).mono ?_; rintro e w6 ⟨rfl, hb6⟩; have HB6 : Hid (Below w.heap.size w w6) := HB4.out.trans (hb6.mono HB4.out.size); clear hb6)
              go_ret
              exact ⟨rfl, HB6.out⟩
            · go_wp2_with (go_at_call 8; refine (Pb.begun_true _).mono ?_; rintro e w6 ⟨rfl, hb6⟩; have HB6 : Hid (Below w.heap.size w w6) := HB4.out.trans (hb6.mono HB4.out.size); clear hb6)
              go_ret
              exact ⟨rfl, HB6.out⟩
end Go.Proofs.Ytkemchblnciiaaa.Ls
