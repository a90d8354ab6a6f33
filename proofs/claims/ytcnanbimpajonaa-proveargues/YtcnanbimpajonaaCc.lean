/- append of claims as they lie onto a list of the call's own; the document's CheckClaims. Condition: few claims are asked beside the premises. -/
import Derived.Test.YtcnanbimpajonaaRj
import Derived.Test.YtcnanbimpajonaaAu
import Derived.Laws.OwnMore
namespace Go.Proofs.Ytcnanbimpajonaa.Cc
open Go.RowKit Cl Co Cp Nu Ag Cs Ce Cf Ri Rj Au

theorem run_none {P : Program} {w : World} (base : Nat) (t ty e : TypeId) (i : TypeInfo) (size : Nat) (ht : P.underlying t = some (.slice e)) (hi : P.info? e = some i)
    (v : Value) (n : Nat) (xs : List Value) (hown : w.ownsRow base e size v n xs) (k : Nat) :
    (Builtin.append_ #[t, t] ty #[v, .slice none 0 k]).run P w = .ok v w := by
  rcases hown.2 with ⟨rfl, rfl⟩ | ⟨g, cap, cur, rfl, _, _, hnc, _⟩
  · simp [Builtin.append_, run_underlying ht, sizeOf, typeInfo, hi, Builtin.lenOf, Builtin.firstCells]
  · simp [Builtin.append_, run_underlying ht, sizeOf, typeInfo, hi, Builtin.lenOf, Builtin.firstCells, hnc, storeCells]
theorem ccs_append (L M : List C) : ccs (L ++ M) = ccs L ++ ccs M := by unfold ccs; rw [List.flatMap_append]
theorem ccs_one (M : List C) : ∀ u ∈ ccs M, u.oneCell' = true := by
  intro u hu
  unfold ccs at hu
  obtain ⟨p, _, hp⟩ := List.mem_flatMap.1 hu
  exact cc_one p u hp

theorem run_claims (w : World) (base : Nat) (ty : TypeId) (v : Value) (L : List C) (hown : w.ownsRow base 24 3 v L.length (ccs L)) (x : Value) (M : List C) (hx : IsC w x M) (hb : (L.length + M.length) * 24 ≤ 140737488355328) (hbase : base ≤ w.heap.size) :
    ∃ v' w', (Builtin.append_ #[22, 22] ty #[v, x]).run Try.prog w = .ok v' w' ∧ w'.ownsRow base 24 3 v' (L ++ M).length (ccs (L ++ M)) ∧ Below base w w' := by
  obtain ⟨i0, hi, hz0, hz1, hz2⟩ := info_parts info24
  obtain ⟨hl, a, cap, rfl, hn, hc⟩ := hx
  cases a with
  | none =>
    have e0 : M.length = 0 := by
      rcases hc with hc | ⟨b, off, hb, _⟩
      · exact hc
      · cases hb
    obtain rfl := List.length_eq_zero_iff.1 e0
    refine ⟨v, w, run_none (P := Try.prog) base 22 ty 24 i0 3 Try.underlying22 hi v _ _ hown cap, by simpa using hown, Below.refl _ _⟩
  | some ad =>
    obtain ⟨v', w', hr, h2, h3, _⟩ := run_append_own_at (P := Try.prog) w base 22 ty 24 i0 (.agg #[.bool false, .int .i64 0, .int .i64 0]) 3 24 Try.underlying22 hi hz0 hz1 hz2 rfl (by decide) v _ _ hown ad M.length cap (ccs M) hl (by
      intro j u hu
      rcases hc with hc | ⟨b, off, hb, _, hc⟩
      · obtain rfl := List.length_eq_zero_iff.1 hc
        simp [ccs] at hu
      · simp only [Option.some.injEq] at hb
        subst hb
        have hadd : (⟨b, off, none⟩ : Addr).add j = ⟨b, off + j, none⟩ := by unfold Addr.add; split <;> simp_all
        rw [hadd]
        exact hc j u hu) (ccs_one M) (by unfold maxLen; omega) hb hbase
    refine ⟨v', w', hr, ?_, Rj.below_of_grown h3 hown hbase⟩
    rw [ccs_append, List.length_append]
    exact h2
theorem wpList_claims (w : World) {ops : Array Oper} {rest : List Oper} {o : Oper} {a : Act} {Q : Exit → Act → World → Prop} (hgd : o.guard = none) (s x : Operand)
    (ho : o.op = .call { callee := .builtin .append, args := #[s, x], argTypes := #[22, 22] })
    (base : Nat) (v : Value) (L : List C) (hs : a.eval s = v) (hown : w.ownsRow base 24 3 v L.length (ccs L)) (y : Value) (M : List C) (hx : a.eval x = y) (hrow : IsC w y M) (hb : (L.length + M.length) * 24 ≤ 140737488355328) (hbase : base ≤ w.heap.size)
    (h : ∀ v' w', w'.ownsRow base 24 3 v' (L ++ M).length (ccs (L ++ M)) → Below base w w' → wpList Try.prog ops Q rest (a.put o.dst v') w') : wpList Try.prog ops Q (o :: rest) a w := by
  refine wpList_plain hgd fun K hK => ?_
  obtain ⟨v', w', hr, h2, h3⟩ := run_claims w base o.type v L hown y M hrow hb hbase
  unfold Oper.wp execOp
  simp only [ho, resolve, invoke, builtin, Sem.run_bind, Sem.run_pure, Result.andThen_ok, List.map_toArray, List.map_cons, List.map_nil, hs, hx, hr]
  exact hK _ _ (h v' w' h2 h3)

def claimsP (ps more : List C) : Int := if 20 < ps.length then 7 else ckAll (ps ++ more)
set_option maxHeartbeats 2000000 in
set_option maxRecDepth 100000 in
theorem claims_any (vp vm : Value) (ps more : List C) (w : World) (hp : IsC w vp ps) (hm : IsC w vm more) (hn : more.length ≤ 400) : Calls Try.prog 7 #[vp, vm] w fun e w' => e = .returned (.int .i64 (claimsP ps more)) ∧ Below w.heap.size w w' := by
  have HP : Hid (IsC w vp ps) := hp
  have HM : Hid (IsC w vm more) := hm
  obtain ⟨_, ap, kp, rfl, hpn, _⟩ := hp
  obtain ⟨_, am, km, rfl, hmn, _⟩ := hm
  unfold claimsP
  by_cases h : 20 < ps.length
  · rw [if_pos h]
    have h' : (20 : Int) < (ps.length : Int) := by omega
    go_enter Try.func7, Try.ntmps7
    go_wp2
    go_ret
    exact ⟨rfl, Below.refl _ _⟩
  · rw [if_neg h]
    have hl : (ps ++ more).length ≤ 420 := by rw [List.length_append]; omega
    obtain ⟨A, hA⟩ : ∃ A, ps ++ more = A := ⟨_, rfl⟩
    rw [hA] at hl ⊢
    have HA : Hid (ps ++ more = A) := hA
    clear hA
    have h' : ¬ (20 : Int) < (ps.length : Int) := by omega
    have HO0 : Hid ((w.alloc (.cells #[] 24)).ownsRow w.heap.size 24 3 (.slice (some ⟨w.heap.size, 0, none⟩) 0 0) ([] : List C).length (ccs [])) := World.ownsRow_lit w #[] 0 (Nat.le_refl _) (by unfold maxLen; omega) rfl
    have HB0 : Hid (Below w.heap.size w (w.alloc (.cells #[] 24))) := (Below.refl _ w).alloc (Nat.le_refl _) _
    go_enter Try.func7, Try.ntmps7
    go_wp2_with (first | (refine wpList_claims _ rfl _ _ rfl w.heap.size _ [] rfl HO0.out _ ps rfl (IsC.below HP.out HB0.out) (by rw [List.length_nil]; omega) HB0.out.size ?_; intro v1 w1 ho1 hb1; have HO1 : Hid (w1.ownsRow w.heap.size 24 3 v1 ps.length (ccs ps)) := ho1; have HB1 : Hid (Below w.heap.size w w1) := HB0.out.trans hb1; clear ho1 hb1 HO0) | (refine wpList_claims _ rfl _ _ rfl w.heap.size _ ps rfl HO1.out _ more rfl (IsC.below HM.out HB1.out) (by omega) HB1.out.size ?_; intro v2 w2 ho2 hb2; have HO2 : Hid (w2.ownsRow w.heap.size 24 3 v2 A.length (ccs A)) := HA.out ▸ ho2; have HB2 : Hid (Below w.heap.size w w2) := HB1.out.trans hb2; clear ho2 hb2 HO1))
    have hC := own_isC HO2.out (by omega)
    obtain ⟨_, ap2, cp2, rfl, hnp, hC⟩ := hC
    have HC : Hid (A.length = 0 ∨ ∃ b off, ap2 = some ⟨b, off, none⟩ ∧ b < w2.heap.size ∧ ∀ j u, (ccs A)[j]? = some u → w2.cell? ⟨b, off + j, none⟩ = some u) := hC
    clear hC
    go_loopw [6] (fun iv wr => ∃ (k : Nat), iv = .int .i64 (k : Int) ∧ k ≤ A.length ∧ (∀ c ∈ A.take k, okC c = true) ∧ Below w2.heap.size w2 wr) (fun iv _ => A.length - (intOf iv).toNat)
    case atStart => exact ⟨0, rfl, Nat.zero_le _, fun c hc => by simp at hc, Below.refl _ _⟩
    case round =>
      obtain ⟨k, rfl, hk, hall, hb⟩ := hrel
      by_cases hlt : k < A.length
      · obtain ⟨b, off, rfl, hbl, hcs⟩ := HC.out.resolve_left (by omega)
        obtain ⟨⟨p0, p1, p2⟩, hp⟩ : ∃ p, A[k] = p := ⟨_, rfl⟩
        have hat := ccs_at A k hlt
        rw [hp] at hat
        have d0 : wr.cell? ⟨b, off + k * 3, none⟩ = some (.bool p0) := (hb.cell hbl).trans (hcs _ _ hat.1)
        have d1 : wr.cell? ⟨b, off + k * 3 + 1, none⟩ = some (.int .i64 p1) := (hb.cell hbl).trans (hcs _ _ hat.2.1)
        have d2 : wr.cell? ⟨b, off + k * 3 + 2, none⟩ = some (.int .i64 p2) := (hb.cell hbl).trans (hcs _ _ hat.2.2)
        have HPK : Hid (A[k] = (p0, p1, p2)) := hp
        have HALL : Hid _ := hall
        have HB : Hid (Below w2.heap.size w2 wr) := hb
        have con := fun W => ref_any (p0, p1, p2) W
        unfold vc at con
        dsimp only at con
        clear hat hp hall hb hcs
        cases hok : okC (p0, p1, p2) with
        | true =>
          have e0 : ckC (p0, p1, p2) = 0 := by unfold ckC; rw [hok]; rfl
          rw [e0] at con
          have HOK : Hid _ := hok
          clear hok e0
          go_wp2_with (go_at_call 12; refine (con _).mono ?_; rintro e w3 ⟨rfl, hb2⟩; have HB3 : Hid (Below w2.heap.size w2 w3) := HB.out.trans (hb2.mono HB.out.size); clear hb2)
          go_roundw
          case rel =>
            refine ⟨k + 1, by go_num, hlt, fun c hc => ?_, HB3.out⟩
            rw [List.take_succ_eq_append_getElem hlt, List.mem_append, List.mem_singleton, HPK.out] at hc
            rcases hc with hc | hc
            · exact HALL.out c hc
            · rw [hc]; exact HOK.out
          case measure => simp [intOf]; omega
        | false =>
          have e0 : ckC (p0, p1, p2) = 3 := by unfold ckC; rw [hok]; rfl
          have HE : Hid (ckAll A = 3) := by
            show ckAll A = 3
            unfold ckAll
            rw [if_neg]
            intro h
            have := List.all_eq_true.1 h _ (HPK.out ▸ List.getElem_mem hlt)
            rw [hok] at this
            cases this
          rw [e0] at con
          clear hok e0
          go_wp2_with (go_at_call 12; refine (con _).mono ?_; rintro e w3 ⟨rfl, hb2⟩; have HB3 : Hid (Below w2.heap.size w2 w3) := HB.out.trans (hb2.mono HB.out.size); clear hb2)
          go_ret
          rw [HE.out]
          exact ⟨rfl, HB2.out.trans (HB3.out.mono HB2.out.size)⟩
      · have ek : k = A.length := by omega
        subst ek
        have HE : Hid (ckAll A = 0) := by
          show ckAll A = 0
          unfold ckAll
          rw [if_pos]
          rw [List.take_length] at hall
          exact List.all_eq_true.2 hall
        have HB : Hid (Below w2.heap.size w2 wr) := hb
        clear hall hb
        go_wp2
        go_ret
        rw [HE.out]
        exact ⟨rfl, HB2.out.trans (HB.out.mono HB2.out.size)⟩
end Go.Proofs.Ytcnanbimpajonaa.Cc
