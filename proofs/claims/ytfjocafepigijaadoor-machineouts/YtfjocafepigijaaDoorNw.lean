/- The program's nowhere and cheapestEnd. Conditions: few states; the machine is right. -/
import Derived.Test.YtfjocafepigijaaDoorWg
namespace Go.Proofs.YtfjocafepigijaaDoor.Nw
open Go.RowKit Mv Wk Po Wd Se St Wg
open CR (nc)

theorem all_far {B : List Nat} {S : Nat} (hl : B.length = S) (h : ∀ r, r < S → cv B r = far) : B = List.replicate S far := by
  apply List.ext_getElem
  · rw [List.length_replicate, hl]
  · intro r h1 h2
    have := h r (by omega)
    unfold cv at this
    rw [List.getD_eq_getElem?_getD, List.getElem?_eq_getElem h1, Option.getD_some] at this
    rw [this, List.getElem_replicate]
set_option maxHeartbeats 1000000 in
set_option maxRecDepth 100000 in
theorem nowhere_any (S : Nat) (w : World) (h0 : 0 < S) (hS : S ≤ 40) :
    Calls Tryd.prog 87 #[.int .i64 S] w fun e w' => e = .returned (.slice (some ⟨w.heap.size, 0, none⟩) S S) ∧ w'.ownsRow w.heap.size 3 1 (.slice (some ⟨w.heap.size, 0, none⟩) S S) S (nc (List.replicate S far)) ∧ Below w.heap.size w w' := by
  obtain ⟨i3, hi3, hz30, hz31, hz32⟩ := info_parts CR.info3
  go_enter Tryd.func87, Tryd.ntmps87
  go_wp2_with (at_make; refine wpList_make_full _ rfl _ _ 26 rfl w.heap.size 3 i3 (.int .i64 0) 1 Tryd.underlying26 hi3 hz30 hz31 .i64 .i64 _ _ S rfl rfl rfl rfl (by rw [hz32]; omega) (by unfold maxLen; omega) (Nat.le_refl _) ?_; intro w1 hown0 hgrow0)
  have e : (madeCells (Value.cells (.int .i64 0)) (S * 1)).toList = nc (List.replicate S 0) := by
    rw [Nat.mul_one]
    show (madeCells #[.int .i64 0] S).toList = _
    rw [toList_madeCells_one]
    simp [nc]
  rw [e] at hown0
  have hb0 : Below w.heap.size w w1 := (Below.refl _ _).grown hgrow0 (Nat.le_refl _) (by simp)
  go_loopw [9] (fun i wr => ∃ (q : Nat) (B : List Nat), i = .int .i64 q ∧ q ≤ S ∧ wr.ownsRow w.heap.size 3 1 (.slice (some ⟨w.heap.size, 0, none⟩) S S) S (nc B) ∧ B.length = S ∧ (∀ r, r < q → cv B r = far) ∧ Below w.heap.size w wr) (fun i _ => S - (intOf i).toNat)
  case atStart => exact ⟨0, _, rfl, by omega, hown0, by simp, fun r h => by omega, hb0⟩
  case round =>
    clear hown0 hgrow0 hb0
    obtain ⟨q, B, rfl, hq, hown, hl, hfar, hb⟩ := hrel
    by_cases hlt : q < S
    · have c1 : wr.cell? ⟨w.heap.size, q, none⟩ = some (.int .i64 (cv B q : Nat)) := by rw [hown.cellAt q (by omega)]; exact Se.nc_at (by omega)
      have f1 := hown.frozenAt q
      have HF : Hid (∀ r, r < q → cv B r = far) := hfar
      have HO : Hid (wr.ownsRow w.heap.size 3 1 (.slice (some ⟨w.heap.size, 0, none⟩) S S) S (nc B)) := hown
      have HB : Hid (Below w.heap.size w wr) := hb
      clear hfar hown hb
      go_wp2
      go_roundw
      case rel =>
        have hst := put1 HO.out q far
        rw [far_int] at hst
        refine ⟨q + 1, B.set q far, by go_num, by omega, hst, by rw [List.length_set]; exact hl, fun r hr => ?_, HB.out.setCell (Nat.le_refl _) _⟩
        rw [cv_set B q far r (by omega)]
        split
        · rfl
        · exact HF.out r (by omega)
      case measure => simp [intOf]; omega
    · have hB : B = List.replicate S far := all_far hl (fun r hr => hfar r (by omega))
      subst hB
      go_wp2
      go_ret
      exact ⟨rfl, hown, hb⟩

/-- the least of the first y ends, out of a row -/
structure Lf (fins : List (Int × Int)) (R : List Nat) (y v : Nat) : Prop where
  top : v ≤ far
  low : ∀ y' (h : y' < fins.length), y' < y → ∀ f : Nat, (fins[y']).1 = (f : Int) → cv R f < far → (v : Int) ≤ cv R f + (fins[y']).2
  real : v < far → ∃ y', ∃ h : y' < fins.length, ∃ f : Nat, (fins[y']).1 = (f : Int) ∧ cv R f < far ∧ (v : Int) = cv R f + (fins[y']).2
theorem Lf.start (fins : List (Int × Int)) (R : List Nat) : Lf fins R 0 far := ⟨Nat.le_refl _, fun _ _ h => absurd h (Nat.not_lt_zero _), fun h => absurd h (Nat.lt_irrefl _)⟩
theorem Lf.keep {fins : List (Int × Int)} {R : List Nat} {y v f : Nat} (h : Lf fins R y v) (hy : y < fins.length) (hf : (fins[y]).1 = (f : Int)) (hk : cv R f < far → (v : Int) ≤ cv R f + (fins[y]).2) : Lf fins R (y + 1) v := by
  refine ⟨h.top, fun y' h' hlt f' e hd => ?_, h.real⟩
  by_cases e' : y' = y
  · subst e'
    obtain rfl : f' = f := by omega
    exact hk hd
  · exact h.low y' h' (by omega) f' e hd
theorem Lf.took {fins : List (Int × Int)} {R : List Nat} {y v f p W : Nat} (h : Lf fins R y v) (hy : y < fins.length) (hf : (fins[y]).1 = (f : Int)) (hW : (fins[y]).2 = (W : Int)) (hp : cv R f = p) (hpd : p < far) (hlt : p + W < v) : Lf fins R (y + 1) (p + W) := by
  refine ⟨by have := h.top; omega, fun y' h' hlt' f' e hd => ?_, fun _ => ⟨y, hy, f, hf, by rw [hp]; exact hpd, by rw [hp, hW]; omega⟩⟩
  by_cases e' : y' = y
  · subst e'
    obtain rfl : f' = f := by omega
    rw [hp, hW]
    omega
  · have := h.low y' h' (by omega) f' e hd
    omega

set_option maxHeartbeats 1000000 in
set_option maxRecDepth 100000 in
theorem end_any (S C capC : Nat) (va vf : Value) (fins : List (Int × Int)) (R : List Nat) (w : World) (hrow : Mv.Row w vf 2 fins.length (fcs fins)) (hfin : ∀ x (h : x < fins.length), finB (S : Int) fins[x] = true) (hlF : fins.length ≤ 40) (base : Nat) (hC : w.ownsRow base 3 1 (.slice (some ⟨C, 0, none⟩) S capC) S (nc R)) (hRl : R.length = S) (hRt : ∀ s, cv R s < far → cv R s ≤ 100000000000) (hRT : ∀ s, cv R s ≤ far) :
    Calls Tryd.prog 54 #[.agg #[.int .i64 S, va, vf], .slice (some ⟨C, 0, none⟩) S capC] w fun e w' => ∃ v : Nat, e = .returned (.int .i64 (v : Int)) ∧ Lf fins R fins.length v ∧ Below w.heap.size w w' := by
  obtain ⟨hxl, af, cf, rfl, _, hF⟩ := hrow
  have HFt : Hid (∀ x (h : x < fins.length), finB (S : Int) fins[x] = true) := hfin
  have HFx : Hid (fins.length = 0 ∨ ∃ b off, af = some ⟨b, off, none⟩ ∧ b < w.heap.size ∧ ∀ j u, (fcs fins)[j]? = some u → w.cell? ⟨b, off + j, none⟩ = some u) := hF
  have HC : Hid (w.ownsRow base 3 1 (.slice (some ⟨C, 0, none⟩) S capC) S (nc R)) := hC
  have HRt : Hid (∀ s, cv R s < far → cv R s ≤ 100000000000) := hRt
  have HRT : Hid (∀ s, cv R s ≤ far) := hRT
  have hCw := (hC.lt C rfl).2
  clear hfin hF hC hRt hRT hxl
  go_enter Tryd.func54, Tryd.ntmps54
  go_wp2
  go_loopw [5, 11] (fun a x wr => ∃ l X : Nat, a = .int .i64 (l : Int) ∧ x = .int .i64 X ∧ X ≤ fins.length ∧ Below w.heap.size w wr ∧ Lf fins R X l) (fun _ x _ => fins.length - (intOf x).toNat)
  case atStart => exact ⟨far, 0, by rw [← far_int], rfl, Nat.zero_le _, (Below.refl _ _).alloc (Nat.le_refl _) _, Lf.start _ _⟩
  case round =>
    obtain ⟨l, X, rfl, rfl, hX, hb, hl⟩ := hrel
    by_cases hlt : X < fins.length
    · have hbx : ∃ b off, af = some ⟨b, off, none⟩ ∧ b < w.heap.size ∧ ∀ j u, (fcs fins)[j]? = some u → wr.cell? ⟨b, off + j, none⟩ = some u := by
        rcases HFx.out with h | ⟨b, off, e, hb1, hc⟩
        · omega
        · exact ⟨b, off, e, hb1, fun j u hu => (hb.cell hb1).trans (hc j u hu)⟩
      obtain ⟨b, off, rfl, hbl, hcs⟩ := hbx
      have u := fcs_at fins X hlt
      obtain ⟨f, x, ea⟩ : ∃ f x, fins[X] = (f, x) := ⟨_, _, rfl⟩
      have hab := HFt.out X hlt
      rw [ea] at u hab
      unfold finB at hab
      simp only [decide_eq_true_eq] at hab
      obtain ⟨g0, g1, g2, g3⟩ := hab
      obtain ⟨f, rfl⟩ : ∃ n : Nat, f = (n : Int) := ⟨f.toNat, by omega⟩
      obtain ⟨x, rfl⟩ : ∃ n : Nat, x = (n : Int) := ⟨x.toNat, by omega⟩
      have hfS : f < S := Int.ofNat_lt.1 g1
      have hxb : x ≤ 1000000 := CR.nat_le g3
      have p0 := hcs _ _ u.1
      have p1 := hcs _ _ u.2
      rw [← Nat.add_assoc] at p1
      have cC : ∀ o1, (wr.alloc o1).cell? ⟨C, f, none⟩ = some (.int .i64 (cv R f : Nat)) := fun o1 => by
        rw [World.cell?_alloc_past _ _ _ (Nat.lt_of_lt_of_le hCw hb.size), hb.cell hCw, HC.out.cellAt f (by omega)]; exact Se.nc_at (by omega)
      obtain ⟨r, hr⟩ : ∃ z, cv R f = z := ⟨_, rfl⟩
      rw [hr] at cC
      have HR : Hid (cv R f = r) := hr
      have HE : Hid ((fins[X]).1 = (f : Int) ∧ (fins[X]).2 = (x : Int)) := by rw [ea]; exact ⟨rfl, rfl⟩
      have HL : Hid (Lf fins R X l) := hl
      have HB : Hid (Below w.heap.size w wr) := hb
      have HHS : Hid (w.heap.size ≤ wr.heap.size) := hb.size
      clear hr ea u hcs g0 g1 g2 g3 hl hb
      by_cases hrf : r < far
      · have d1 := not_far hrf
        have d3 := not_far3 hrf
        obtain ⟨rw1, erw, m7, m8⟩ : ∃ m : Nat, m = r + x ∧ wrap64 ((r : Int) + (x : Int)) = (m : Int) ∧ IntKind.i64.wrap ((r : Int) + (x : Int)) = (m : Int) := by
          have h1 := HRt.out f (by rw [HR.out]; exact hrf)
          rw [HR.out] at h1
          refine ⟨r + x, rfl, ?_, ?_⟩
          · unfold wrap64; omega
          · rw [IntKind.wrap_i64]; omega
        have HRW : Hid (rw1 = r + x) := erw
        have HRF : Hid (r < far) := hrf
        clear erw hrf
        by_cases hbet : rw1 < l
        · have nb : (rw1 : Int) < (l : Int) := Int.ofNat_lt.2 hbet
          have HV : Hid (Lf fins R (X + 1) rw1) := by rw [HRW.out]; exact HL.out.took hlt HE.out.1 HE.out.2 HR.out HRF.out (by rw [← HRW.out]; exact hbet)
          go_wp2
          go_region
          go_wp2
          exact ⟨⟨rw1, X + 1, by first | rfl | go_num, by go_num, by omega, by first | exact HB.out.alloc HHS.out _ | exact (HB.out.alloc HHS.out _).drew, HV.out⟩, by simp [intOf]; omega⟩
        · have nb : ¬ (rw1 : Int) < (l : Int) := fun h => hbet (Int.ofNat_lt.1 h)
          have nb2 : (l : Int) ≤ (rw1 : Int) := Int.not_lt.1 nb
          have HV : Hid (Lf fins R (X + 1) l) := HL.out.keep hlt HE.out.1 (fun _ => by rw [HR.out, HE.out.2]; rw [HRW.out] at nb2; exact nb2)
          go_wp2
          go_region
          go_wp2
          exact ⟨⟨l, X + 1, by first | rfl | go_num, by go_num, by omega, by first | exact HB.out.alloc HHS.out _ | exact (HB.out.alloc HHS.out _).drew, HV.out⟩, by simp [intOf]; omega⟩
      · have e1 : r = far := by have := HRT.out f; rw [HR.out] at this; omega
        have cC2 : ∀ o1, (wr.alloc o1).cell? ⟨C, f, none⟩ = some (.int .i64 9223372036854775807) := fun o1 => by rw [cC, e1, far_int]
        have HV : Hid (Lf fins R (X + 1) l) := HL.out.keep hlt HE.out.1 (fun h => absurd h (by rw [HR.out]; exact hrf))
        clear cC e1 hrf
        go_wp2
        exact ⟨⟨l, X + 1, by first | rfl | go_num, by go_num, by omega, HB.out.alloc HHS.out _, HV.out⟩, by simp [intOf]; omega⟩
    · have eX : X = fins.length := by omega
      have HL : Hid (Lf fins R fins.length l) := eX ▸ hl
      clear eX hl
      go_wp2
      go_ret
      exact ⟨l, rfl, HL.out, hb⟩
end Go.Proofs.YtfjocafepigijaaDoor.Nw
