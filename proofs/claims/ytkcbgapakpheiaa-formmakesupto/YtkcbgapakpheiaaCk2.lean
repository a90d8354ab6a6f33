/- The program's Check of a change: what the document says. Condition: its spots together are at most 2097152. -/
import Derived.Test.YtkcbgapakpheiaaCk
namespace Go.Proofs.Ytkcbgapakpheiaa.Ck2
open Go.RowKit Go.Shelf Sd Md Sc Sp Tl Ie Cc Ck

theorem en21 : ∀ args w, (callFunc 42 args).run Try.prog w = .ok (.enter 42 args) w := enters_of Try.func42 (by kernel_rfl) rfl
theorem en23 : ∀ args w, (callFunc 43 args).run Try.prog w = .ok (.enter 43 args) w := enters_of Try.func43 (by kernel_rfl) rfl

theorem check_any (x : VC) (w : World) (h : IsC w x) (hs : x.ls.length + x.rs.length ≤ 2097152) :
    Calls Try.prog 23 #[x.val] w fun e w' => e = .returned (.int .i64 (check x.c)) ∧ Below w.heap.size w w' := by
  obtain ⟨⟨k, frm, to, left, right⟩, vf, vt, vl, vr, ls, rs⟩ := x
  have hC := h
  obtain ⟨hl, hr, hf, ht, hls, hrs, _⟩ := h
  dsimp only at hl hr hf ht hls hrs hs
  obtain ⟨al, cl, hv, _, _⟩ := hls.len
  subst hv
  obtain ⟨ar, cr, hv, _, _⟩ := hrs.len
  subst hv
  have con17 : ∀ (W : World) (B : Nat), Below w.heap.size w W → B < W.heap.size → W.cell? ⟨B, 0, none⟩ = some (.slice al ls.length cl) → W.cell? ⟨B, 1, none⟩ = some (.slice ar rs.length cr) → Calls Try.prog 38 #[.slice (some ⟨B, 0, none⟩) 2 2] W fun e w' => ∃ v, e = .returned v ∧ IsS w' v (ls ++ rs) ∧ Below W.heap.size W w' :=
    fun W B hb hB c0 c1 => concat_any B _ _ ls rs W hB c0 c1 (hls.below (Nat.le_refl _) hb) (hrs.below (Nat.le_refl _) hb) hs
  have con19 : ∀ W : World, Below w.heap.size w W → Calls Try.prog 40 #[.agg #[.int .i64 k, vf, vt, .slice al ls.length cl, .slice ar rs.length cr]] W fun e w' => e = .returned (.bool (Ch.sizeB ⟨k, frm, to, left, right⟩)) ∧ Below W.heap.size W w' :=
    fun W hb => tooLong_any _ W (hC.below (Nat.le_refl _) hb)
  have es : sps (ls ++ rs) = left ++ right := by rw [← hl, ← hr]; simp [sps]
  have con20a : ∀ (W : World) (v : Value), IsS W v (ls ++ rs) → Calls Try.prog 41 #[v, .func (.func 42) #[] #[]] W fun e w' => e = .returned (.bool ((left ++ right).any wide)) ∧ Below W.heap.size W w' :=
    fun W v hv => by rw [← es]; exact anyS v (ls ++ rs) wide 42 #[] W hv en21 (fun W' x' _ hx => wide_any x' W' hx)
  have con22 : ∀ (v : Value) (l : List Int), IsI w v l → ∀ (W : World) (K : Nat), Below w.heap.size w W → K < W.heap.size → W.cell? ⟨K, 0, none⟩ = some (.int .i64 k) → Calls Try.prog 26 #[v, .func (.func 57) #[] #[.pointer (some ⟨K, 0, none⟩)]] W fun e w' => e = .returned (.bool (l.any (bad k))) ∧ Below W.heap.size W w' :=
    fun v l hv W K hb hK hc => (anyBad v l k K W (hv.below (Nat.le_refl _) hb) hK hc).mono fun e w' ⟨he, q, hq⟩ => ⟨he, by rw [hq]; exact below_drewN' (Below.refl _ _) q⟩
  have con22f := con22 vf frm hf
  have con22t := con22 vt to ht
  have con20b : ∀ (W : World) (v : Value) (K : Nat), IsS W v (ls ++ rs) → K < W.heap.size → W.cell? ⟨K, 0, none⟩ = some (.int .i64 k) → K + 1 < W.heap.size → W.cell? ⟨K + 1, 0, none⟩ = some (.func (.func 57) #[] #[.pointer (some ⟨K, 0, none⟩)]) → Calls Try.prog 41 #[v, .func (.func 43) #[] #[.pointer (some ⟨K + 1, 0, none⟩)]] W fun e w' => e = .returned (.bool ((left ++ right).any fun s => s.any.any (bad k))) ∧ Below W.heap.size W w' :=
    fun W v K hv hK ck hK1 cc => by
      rw [← es]
      exact anyS v (ls ++ rs) (fun s => s.any.any (bad k)) 43 #[.pointer (some ⟨K + 1, 0, none⟩)] W hv en23 (fun W' x' hb hx => bad_any x' k K (K + 1) W' hx (Nat.lt_of_lt_of_le hK hb.size) ((hb.cell (p := ⟨K, 0, none⟩) hK).trans ck) (Nat.lt_of_lt_of_le hK1 hb.size) ((hb.cell (p := ⟨K + 1, 0, none⟩) hK1).trans cc))
  simp only [VC.val]
  by_cases hk1 : k < 1
  · rw [show check ⟨k, frm, to, left, right⟩ = 7 from by simp [check, Ch.manyB, hk1]]
    exact few k vf vt al ar ls.length cl rs.length cr ls rs w hk1 con17
  by_cases hk2 : 4 < k
  · rw [show check ⟨k, frm, to, left, right⟩ = 7 from by simp [check, Ch.manyB, hk2]]
    exact many k vf vt al ar ls.length cl rs.length cr ls rs w hk1 hk2 con17
  cases hS : Ch.sizeB ⟨k, frm, to, left, right⟩ with
  | true =>
    rw [hS] at con19
    rw [show check ⟨k, frm, to, left, right⟩ = 2 from by simp [check, Ch.manyB, Ch.longB, hk1, hk2, hS]]
    exact long k vf vt al ar ls.length cl rs.length cr ls rs w hk1 hk2 con17 con19
  | false =>
    have con24 : ∀ W : World, Below w.heap.size w W → Calls Try.prog 44 #[.agg #[.int .i64 k, vf, vt, .slice al ls.length cl, .slice ar rs.length cr]] W fun e w' => e = .returned (.bool (Ch.formB ⟨k, frm, to, left, right⟩)) ∧ Below W.heap.size W w' :=
      fun W hb => innerEdge_any _ W (hC.below (Nat.le_refl _) hb) hS
    rw [hS] at con19
    cases h1 : ((left ++ right).any wide) with
    | true =>
      rw [h1] at con20a
      rw [show check ⟨k, frm, to, left, right⟩ = 2 from by simp [check, Ch.manyB, Ch.longB, hk1, hk2, hS, h1]]
      exact wideS k vf vt al ar ls.length cl rs.length cr ls rs w hk1 hk2 con17 con19 con20a
    | false =>
      rw [h1] at con20a
      cases h2 : (frm.any (bad k)) with
      | true =>
        rw [h2] at con22f
        rw [show check ⟨k, frm, to, left, right⟩ = 3 from by simp [check, Ch.manyB, Ch.longB, Ch.farB, hk1, hk2, hS, h1, h2]]
        exact farF k vf vt al ar ls.length cl rs.length cr ls rs w hk1 hk2 con17 con19 con20a con22f
      | false =>
        rw [h2] at con22f
        cases h3 : (to.any (bad k)) with
        | true =>
          rw [h3] at con22t
          rw [show check ⟨k, frm, to, left, right⟩ = 3 from by simp [check, Ch.manyB, Ch.longB, Ch.farB, hk1, hk2, hS, h1, h2, h3]]
          exact farT k vf vt al ar ls.length cl rs.length cr ls rs w hk1 hk2 con17 con19 con20a con22f con22t
        | false =>
          rw [h3] at con22t
          cases h4 : ((left ++ right).any fun s => s.any.any (bad k)) with
          | true =>
            rw [h4] at con20b
            rw [show check ⟨k, frm, to, left, right⟩ = 3 from by simp [check, Ch.manyB, Ch.longB, Ch.farB, hk1, hk2, hS, h1, h2, h3, h4]]
            exact farS k vf vt al ar ls.length cl rs.length cr ls rs w hk1 hk2 con17 con19 con20a con22f con22t con20b
          | false =>
            rw [h4] at con20b
            cases h5 : (Ch.formB ⟨k, frm, to, left, right⟩) with
            | true =>
              rw [h5] at con24
              rw [show check ⟨k, frm, to, left, right⟩ = 1 from by simp [check, Ch.manyB, Ch.longB, Ch.farB, hk1, hk2, hS, h1, h2, h3, h4, h5]]
              exact edge k vf vt al ar ls.length cl rs.length cr ls rs w hk1 hk2 con17 con19 con20a con22f con22t con20b con24
            | false =>
              rw [h5] at con24
              rw [show check ⟨k, frm, to, left, right⟩ = 0 from by simp [check, Ch.manyB, Ch.longB, Ch.farB, hk1, hk2, hS, h1, h2, h3, h4, h5]]
              exact fine k vf vt al ar ls.length cl rs.length cr ls rs w hk1 hk2 con17 con19 con20a con22f con22t con20b con24
end Go.Proofs.Ytkcbgapakpheiaa.Ck2
