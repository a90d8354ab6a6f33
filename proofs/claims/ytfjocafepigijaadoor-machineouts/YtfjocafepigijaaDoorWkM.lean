/- The program's Check: what it answers of any machine. No conditions. -/
import Derived.Test.YtfjocafepigijaaDoorCkRM
namespace Go.Proofs.YtfjocafepigijaaDoor.CkP
open Go.RowKit Mv CkR Set

def wb (n l m : Int) : Bool := decide (l ≤ n ∧ n ≤ m)
theorem within_any (n l m : Int) (w : World) : Calls Tryd.prog 31 #[.int .i64 n, .int .i64 l, .int .i64 m] w fun e w' => e = .returned (.bool (wb n l m)) ∧ w' = w := by
  by_cases h1 : l ≤ n
  · by_cases h2 : n ≤ m
    · have e : wb n l m = true := by unfold wb; simp; omega
      rw [e]
      go_enter Tryd.func31, Tryd.ntmps31
      go_wp2
      go_ret
      exact ⟨rfl, rfl⟩
    · have e : wb n l m = false := by unfold wb; simp; omega
      rw [e]
      go_enter Tryd.func31, Tryd.ntmps31
      go_wp2
      go_ret
      exact ⟨rfl, rfl⟩
  · have e : wb n l m = false := by unfold wb; simp; omega
    rw [e]
    go_enter Tryd.func31, Tryd.ntmps31
    go_wp2
    go_ret
    exact ⟨rfl, rfl⟩

set_option maxHeartbeats 1000000 in
set_option maxRecDepth 100000 in
theorem fits_any (f t i o x st : Int) (w : World) (h1 : 1 ≤ st) (h2 : st ≤ 3000) : Calls Tryd.prog 58 #[.agg #[.int .i64 f, .int .i64 t, .int .i64 i, .int .i64 o, .int .i64 x], .int .i64 st] w fun e w' => e = .returned (.bool (arcB st (f, t, i, o, x))) ∧ Below w.heap.size w w' := by
  have ha : arcB st (f, t, i, o, x) = (wb f 0 (st - 1) && wb t 0 (st - 1) && wb i 0 60 && wb o 0 60 && wb x 0 1000000) := by
    unfold arcB wb
    rw [Bool.eq_iff_iff]
    simp only [Bool.and_eq_true, decide_eq_true_eq]
    omega
  rw [ha]
  cases q1 : wb f 0 (st - 1) <;> cases q2 : wb t 0 (st - 1) <;> cases q3 : wb i 0 60 <;> cases q4 : wb o 0 60 <;> cases q5 : wb x 0 1000000
  all_goals
    clear ha
    go_enter Tryd.func58, Tryd.ntmps58
    go_wp2_with (go_at_call 31; refine (within_any _ _ _ _).mono ?_; rintro e w' ⟨rfl, rfl⟩)
    go_ret
    exact ⟨rfl, (Below.refl _ _).alloc (Nat.le_refl _) _⟩
end Go.Proofs.YtfjocafepigijaaDoor.CkP
/- The program's Check: what it answers of any machine. No conditions. -/
namespace Go.Proofs.YtfjocafepigijaaDoor.CkP
open Go.RowKit Mv CkR Set

/-- which states are among the first k finals, as a set has them -/
def Has (fins : List (Int × Int)) (k : Nat) (ws : List Nat) : Prop := ∀ s : Nat, mem ws s = true ↔ ∃ j, ∃ hj : j < fins.length, j < k ∧ (fins[j]).1 = (s : Int)
theorem Has.step {fins : List (Int × Int)} {k : Nat} {ws : List Nat} (h : Has fins k ws) (hk : k < fins.length) (f : Nat) (hf : (fins[k]).1 = (f : Int)) (hw : f / 64 < ws.length) : Has fins (k + 1) (put ws f) := by
  intro s
  rw [mem_put ws f s hw, Bool.or_eq_true, h s, decide_eq_true_eq]
  constructor
  · rintro (⟨j, hj, hjk, e⟩ | rfl)
    · exact ⟨j, hj, by omega, e⟩
    · exact ⟨k, hk, by omega, hf⟩
  · rintro ⟨j, hj, hjk, e⟩
    rcases Nat.lt_or_ge j k with h' | h'
    · exact .inl ⟨j, hj, h', e⟩
    · obtain rfl : j = k := by omega
      exact .inr (by rw [hf] at e; omega)
theorem once_step {st : Int} {arcs : List (Int × Int × Int × Int × Int)} {fins : List (Int × Int)} {k : Nat} {ws : List Nat} (h : onceK ⟨st, arcs, fins⟩ k) (hh : Has fins k ws) (hk : k < fins.length) (f : Nat) (hf : (fins[k]).1 = (f : Int)) (hn : mem ws f = false) : onceK ⟨st, arcs, fins⟩ (k + 1) := by
  intro i j hi hj hij hjk
  rcases Nat.lt_or_ge j k with h' | h'
  · exact h i j hi hj hij h'
  · obtain rfl : j = k := by omega
    intro e
    have := (hh f).2 ⟨i, hi, hij, by show (fins[i]).1 = _; rw [show (fins[i]).1 = (fins[j]).1 from e, hf]⟩
    rw [hn] at this
    cases this
theorem once_not {st : Int} {arcs : List (Int × Int × Int × Int × Int)} {fins : List (Int × Int)} {k : Nat} {ws : List Nat} (hh : Has fins k ws) (hk : k < fins.length) (f : Nat) (hf : (fins[k]).1 = (f : Int)) (hn : mem ws f = true) : ¬ onceK ⟨st, arcs, fins⟩ fins.length := by
  intro h
  obtain ⟨j, hj, hjk, hjs⟩ := (hh f).1 hn
  exact h j k hj hk hjk hk (by show (fins[j]).1 = (fins[k]).1; rw [hjs, hf])

set_option maxHeartbeats 4000000 in
set_option maxRecDepth 100000 in
theorem small (st : Int) (arcs : List (Int × Int × Int × Int × Int)) (fins : List (Int × Int)) (aa af : Option Addr) (ca cf : Nat) (w : World) (h : sizeB ⟨st, arcs, fins⟩ = false) :
    Calls Tryd.prog 30 #[.agg #[.int .i64 st, .slice aa arcs.length ca, .slice af fins.length cf]] w fun e w' => e = .returned (.int .i64 7) ∧ Below w.heap.size w w' := by
  unfold sizeB at h
  simp only [decide_eq_false_iff_not] at h
  by_cases h1 : st < 1
  · go_enter Tryd.func30, Tryd.ntmps30
    go_wp2
    go_ret
    exact ⟨rfl, (Below.refl _ _).alloc (Nat.le_refl _) _⟩
  by_cases h2 : 3000 < st
  · clear h
    go_enter Tryd.func30, Tryd.ntmps30
    go_wp2
    go_ret
    exact ⟨rfl, (Below.refl _ _).alloc (Nat.le_refl _) _⟩
  by_cases h3 : (20000 : Int) < (arcs.length : Int)
  · clear h
    go_enter Tryd.func30, Tryd.ntmps30
    go_wp2
    go_ret
    exact ⟨rfl, (Below.refl _ _).alloc (Nat.le_refl _) _⟩
  have h4 : st < (fins.length : Int) := by omega
  clear h
  go_enter Tryd.func30, Tryd.ntmps30
  go_wp2
  go_ret
  exact ⟨rfl, (Below.refl _ _).alloc (Nat.le_refl _) _⟩

set_option maxHeartbeats 4000000 in
set_option maxRecDepth 100000 in
theorem big (st : Int) (arcs : List (Int × Int × Int × Int × Int)) (fins : List (Int × Int)) (aa af : Option Addr) (ca cf : Nat) (w : World) (h : sizeB ⟨st, arcs, fins⟩ = true)
    (hA : arcs.length = 0 ∨ ∃ b off, aa = some ⟨b, off, none⟩ ∧ b < w.heap.size ∧ ∀ j u, (acs arcs)[j]? = some u → w.cell? ⟨b, off + j, none⟩ = some u)
    (hF : fins.length = 0 ∨ ∃ b off, af = some ⟨b, off, none⟩ ∧ b < w.heap.size ∧ ∀ j u, (fcs fins)[j]? = some u → w.cell? ⟨b, off + j, none⟩ = some u) :
    Calls Tryd.prog 30 #[.agg #[.int .i64 st, .slice aa arcs.length ca, .slice af fins.length cf]] w fun e w' => (∃ x, e = .returned (.int .i64 x) ∧ checkP ⟨st, arcs, fins⟩ x) ∧ Below w.heap.size w w' := by
  have hsz := h
  unfold sizeB at hsz
  simp only [decide_eq_true_eq] at hsz
  obtain ⟨h1, h2, h3, h4⟩ := hsz
  have HS : Hid (sizeB ⟨st, arcs, fins⟩ = true) := h
  clear h
  have d1 : decide (st < 1) = false := decide_eq_false (by omega)
  have d2 : decide (3000 < st) = false := decide_eq_false (by omega)
  have d3 : decide ((20000 : Int) < (arcs.length : Int)) = false := decide_eq_false (by omega)
  have d4 : decide (st < (fins.length : Int)) = false := decide_eq_false (by omega)
  have hb0 : Below w.heap.size w (w.alloc (.cells #[.int .i64 st, .slice aa arcs.length ca, .slice af fins.length cf] 25)) := (Below.refl _ _).alloc (Nat.le_refl _) _
  go_enter Tryd.func30, Tryd.ntmps30
  go_wp2
  go_loopw [35] (fun i wr => ∃ k : Nat, i = .int .i64 k ∧ k ≤ arcs.length ∧ Below (w.heap.size + 1) (w.alloc (.cells #[.int .i64 st, .slice aa arcs.length ca, .slice af fins.length cf] 25)) wr ∧ ∀ j (hj : j < arcs.length), j < k → arcB st arcs[j] = true) (fun i _ => arcs.length - (intOf i).toNat)
  case atStart => exact ⟨0, rfl, by omega, Below.refl _ _, fun j _ h => by omega⟩
  case round =>
    obtain ⟨k, rfl, hk, hbw, hall⟩ := hrel
    have hws := hbw.size
    simp only [World.size_alloc] at hws
    have c0 : wr.cell? ⟨w.heap.size, 0, none⟩ = some (.int .i64 st) := by rw [hbw.cell (by show w.heap.size < w.heap.size + 1; omega)]; simp
    have c1 : wr.cell? ⟨w.heap.size, 1, none⟩ = some (.slice aa arcs.length ca) := by rw [hbw.cell (by show w.heap.size < w.heap.size + 1; omega)]; simp
    have c2 : wr.cell? ⟨w.heap.size, 2, none⟩ = some (.slice af fins.length cf) := by rw [hbw.cell (by show w.heap.size < w.heap.size + 1; omega)]; simp
    by_cases hlt : k < arcs.length
    · have hbx : ∃ b off, aa = some ⟨b, off, none⟩ ∧ b < w.heap.size ∧ ∀ j u, (acs arcs)[j]? = some u → wr.cell? ⟨b, off + j, none⟩ = some u := by
        rcases hA with h | ⟨b, off, e, hb, hc⟩
        · omega
        · refine ⟨b, off, e, hb, fun j u hu => ?_⟩
          rw [hbw.cell (p := ⟨b, off + j, none⟩) (by show b < _; omega), World.cell?_alloc_past _ _ _ hb]
          exact hc j u hu
      obtain ⟨b, off, rfl, hbl, hcs⟩ := hbx
      have u := acs_at arcs k hlt
      obtain ⟨f, t, i, o, x, ea⟩ : ∃ f t i o x, arcs[k] = (f, t, i, o, x) := ⟨_, _, _, _, _, rfl⟩
      rw [ea] at u
      have p0 := hcs _ _ u.1
      have p1 := hcs _ _ u.2.1
      have p2 := hcs _ _ u.2.2.1
      have p3 := hcs _ _ u.2.2.2.1
      have p4 := hcs _ _ u.2.2.2.2
      rw [← Nat.add_assoc] at p1 p2 p3 p4
      have e0 : ∀ o, (wr.alloc o).cell? ⟨w.heap.size, 0, none⟩ = some (.int .i64 st) := fun o => (World.cell?_alloc_past _ _ _ (by show w.heap.size < _; omega)).trans c0
      have hbT := hb0.trans (hbw.mono (by omega))
      clear u hcs
      cases hok : arcB st (f, t, i, o, x) with
      | true =>
        have HE : Hid (arcs[k] = (f, t, i, o, x)) := ea
        have HK : Hid (arcB st (f, t, i, o, x) = true) := hok
        clear ea hbT
        go_wp2_with (go_at_call 58; refine (fits_any _ _ _ _ _ _ _ h1 h2).mono ?_; rintro e w2 ⟨rfl, hb2⟩)
        go_roundw
        case rel =>
          refine ⟨k + 1, by go_num, by omega, (hbw.alloc (by omega) _).trans (hb2.mono (by simp; omega)), fun j hj hjk => ?_⟩
          by_cases hjk2 : j < k
          · exact hall j hj hjk2
          · obtain rfl : j = k := by omega
            rw [HE.out]
            exact HK.out
        case measure => simp [intOf]; omega
      | false =>
        have HP : Hid (checkP ⟨st, arcs, fins⟩ 3) := .inr (.inl ⟨HS.out, ⟨k, hlt, by rw [ea]; exact hok⟩, rfl⟩)
        clear ea hall hF
        go_wp2_with (go_at_call 58; refine (fits_any _ _ _ _ _ _ _ h1 h2).mono ?_; rintro e w2 ⟨rfl, hb2⟩)
        go_ret
        exact ⟨⟨3, rfl, HP.out⟩, (hbT.alloc (by omega) _).trans (hb2.mono (by simp; omega))⟩
    · have hallA : ∀ j (hj : j < arcs.length), arcB st arcs[j] = true := fun j hj => hall j hj (by omega)
      have HA : Hid (∀ j (hj : j < arcs.length), arcB st arcs[j] = true) := hallA
      clear hallA hall hA
      obtain ⟨wa, rfl⟩ : ∃ wa : World, wa = wr := ⟨_, rfl⟩
      go_wp2
      go_loopw [48] (fun i wr => ∃ k : Nat, i = .int .i64 k ∧ k ≤ fins.length ∧ Below wa.heap.size wa wr ∧ ∀ j (hj : j < fins.length), j < k → finB st fins[j] = true) (fun i _ => fins.length - (intOf i).toNat)
      case atStart => exact ⟨0, rfl, by omega, Below.refl _ _, fun j _ h => by omega⟩
      case round =>
        obtain ⟨m, rfl, hm, hbx, hallF⟩ := hrel
        have hwx := hbx.size
        have x0 : wr.cell? ⟨w.heap.size, 0, none⟩ = some (.int .i64 st) := by rw [hbx.cell (by show w.heap.size < _; omega)]; exact c0
        have x2 : wr.cell? ⟨w.heap.size, 2, none⟩ = some (.slice af fins.length cf) := by rw [hbx.cell (by show w.heap.size < _; omega)]; exact c2
        by_cases hml : m < fins.length
        · have hbq : ∃ b off, af = some ⟨b, off, none⟩ ∧ b < w.heap.size ∧ ∀ j u, (fcs fins)[j]? = some u → wr.cell? ⟨b, off + j, none⟩ = some u := by
            rcases hF with h | ⟨b, off, e, hb, hc⟩
            · omega
            · refine ⟨b, off, e, hb, fun j u hu => ?_⟩
              rw [hbx.cell (p := ⟨b, off + j, none⟩) (by show b < _; omega), hbw.cell (p := ⟨b, off + j, none⟩) (by show b < _; omega), World.cell?_alloc_past _ _ _ hb]
              exact hc j u hu
          obtain ⟨b, off, rfl, hbl, hcs⟩ := hbq
          have u := fcs_at fins m hml
          obtain ⟨f, x, ea⟩ : ∃ f x, fins[m] = (f, x) := ⟨_, _, rfl⟩
          rw [ea] at u
          have p0 := hcs _ _ u.1
          have p1 := hcs _ _ u.2
          rw [← Nat.add_assoc] at p1
          have e0 : ∀ o, (wr.alloc o).cell? ⟨w.heap.size, 0, none⟩ = some (.int .i64 st) := fun o => (World.cell?_alloc_past _ _ _ (by show w.heap.size < _; omega)).trans x0
          have hbT := (hb0.trans (hbw.mono (by omega))).trans (hbx.mono (by omega))
          clear u hcs
          have hfb : finB st (f, x) = (wb f 0 (st - 1) && wb x 0 1000000) := by
            unfold finB wb
            rw [Bool.eq_iff_iff]
            simp only [Bool.and_eq_true, decide_eq_true_eq]
            omega
          cases q1 : wb f 0 (st - 1) with
          | true =>
            cases q2 : wb x 0 1000000 with
            | true =>
              have HE : Hid (fins[m] = (f, x)) := ea
              have HK : Hid (finB st (f, x) = true) := by rw [hfb, q1, q2]; rfl
              clear ea hbT hfb
              go_wp2_with (go_at_call 31; refine (within_any _ _ _ _).mono ?_; rintro e w' ⟨rfl, rfl⟩)
              go_roundw
              case rel =>
                refine ⟨m + 1, by go_num, by omega, hbx.alloc (by omega) _, fun j hj hjk => ?_⟩
                by_cases hjk2 : j < m
                · exact hallF j hj hjk2
                · obtain rfl : j = m := by omega
                  rw [HE.out]
                  exact HK.out
              case measure => simp [intOf]; omega
            | false =>
              have hok : finB st (f, x) = false := by rw [hfb, q1, q2]; rfl
              have HP : Hid (checkP ⟨st, arcs, fins⟩ 3) := .inr (.inr (.inl ⟨HS.out, HA.out, ⟨m, hml, by rw [ea]; exact hok⟩, rfl⟩))
              clear ea hok hallF hfb
              go_wp2_with (go_at_call 31; refine (within_any _ _ _ _).mono ?_; rintro e w' ⟨rfl, rfl⟩)
              go_ret
              exact ⟨⟨3, rfl, HP.out⟩, hbT.alloc (by omega) _⟩
          | false =>
            have hok : finB st (f, x) = false := by rw [hfb, q1]; rfl
            have HP : Hid (checkP ⟨st, arcs, fins⟩ 3) := .inr (.inr (.inl ⟨HS.out, HA.out, ⟨m, hml, by rw [ea]; exact hok⟩, rfl⟩))
            clear ea hok hallF hfb
            go_wp2_with (go_at_call 31; refine (within_any _ _ _ _).mono ?_; rintro e w' ⟨rfl, rfl⟩)
            go_ret
            exact ⟨⟨3, rfl, HP.out⟩, hbT.alloc (by omega) _⟩
        · have hallG : ∀ j (hj : j < fins.length), finB st fins[j] = true := fun j hj => hallF j hj (by omega)
          have HG : Hid (∀ j (hj : j < fins.length), finB st fins[j] = true) := hallG
          clear hallF hallG
          obtain ⟨wb, rfl⟩ : ∃ wb : World, wb = wr := ⟨_, rfl⟩
          obtain ⟨n, rfl⟩ : ∃ n : Nat, st = (n : Int) := ⟨st.toNat, by omega⟩
          go_wp2_with (go_at_call 59; refine (new_any n _ (by omega)).mono ?_; rintro e wc ⟨v, ws0, rfl, hset0, hmem0, hbc⟩; have z2 : wc.cell? ⟨w.heap.size, 2, none⟩ = some (.slice af fins.length cf) := (hbc.cell (p := ⟨w.heap.size, 2, none⟩) (by show w.heap.size < _; omega)).trans x2)
          go_loopw [72] (fun i wr => ∃ (k : Nat) (ws : List Nat), i = .int .i64 k ∧ k ≤ fins.length ∧ Below wb.heap.size wb wr ∧ IsSet wr wb.heap.size v n ws ∧ Has fins k ws ∧ onceK ⟨(n : Int), arcs, fins⟩ k) (fun i _ => fins.length - (intOf i).toNat)
          case atStart => exact ⟨0, ws0, rfl, by omega, hbc, hset0, fun s => by rw [hmem0 s]; simp, fun i j hi hj h1 h2 => by omega⟩
          case round =>
            clear hbc hset0 hmem0
            obtain ⟨q, ws, rfl, hq, hby, hset, hhad, honce⟩ := hrel
            have hwy := hby.size
            have y0 : wr.cell? ⟨w.heap.size, 0, none⟩ = some (.int .i64 (n : Int)) := by rw [hby.cell (by show w.heap.size < _; omega)]; exact x0
            have hbT := ((hb0.trans (hbw.mono (by omega))).trans (hbx.mono (by omega))).trans (hby.mono (by omega))
            by_cases hql : q < fins.length
            · have hbq : ∃ b off, af = some ⟨b, off, none⟩ ∧ b < w.heap.size ∧ ∀ j u, (fcs fins)[j]? = some u → wr.cell? ⟨b, off + j, none⟩ = some u := by
                rcases hF with h | ⟨b, off, e, hb, hc⟩
                · omega
                · refine ⟨b, off, e, hb, fun j u hu => ?_⟩
                  rw [hby.cell (p := ⟨b, off + j, none⟩) (by show b < _; omega), hbx.cell (p := ⟨b, off + j, none⟩) (by show b < _; omega), hbw.cell (p := ⟨b, off + j, none⟩) (by show b < _; omega), World.cell?_alloc_past _ _ _ hb]
                  exact hc j u hu
              obtain ⟨b, off, rfl, hbl, hcs⟩ := hbq
              have u := fcs_at fins q hql
              have hfb := HG.out q hql
              unfold finB at hfb
              simp only [decide_eq_true_eq] at hfb
              obtain ⟨f, ef⟩ : ∃ f : Nat, fins[q].1 = (f : Int) := ⟨(fins[q].1).toNat, by omega⟩
              obtain ⟨x, ex⟩ : ∃ x, fins[q].2 = x := ⟨_, rfl⟩
              rw [ef] at u hfb
              rw [ex] at u
              have p0 := hcs _ _ u.1
              have p1 := hcs _ _ u.2
              rw [← Nat.add_assoc] at p1
              have hfn : f < n := by omega
              have hfw : f / 64 < ws.length := by have := hset.2.2.1; omega
              have hset2 : ∀ o, IsSet (wr.alloc o) wb.heap.size v n ws := fun o => ⟨hset.1.alloc o, hset.2⟩
              have HF1 : Hid (fins[q].1 = (f : Int)) := ef
              have HH : Hid (Has fins q ws) := hhad
              have HO : Hid (onceK ⟨(n : Int), arcs, fins⟩ q) := honce
              clear u hcs ef ex hfb hhad honce hF
              cases hsf : mem ws f with
              | true =>
                have HP : Hid (checkP ⟨(n : Int), arcs, fins⟩ 6) := .inr (.inr (.inr (.inl ⟨HS.out, HA.out, HG.out, once_not HH.out hql f HF1.out hsf, rfl⟩)))
                go_wp2_with (go_at_call 60; refine (add_any wb.heap.size v n f ws _ (hset2 _) hfn (by omega)).mono ?_; rintro e w2 ⟨rfl, hs2, hg2⟩)
                go_ret
                exact ⟨⟨6, rfl, HP.out⟩, (hbT.alloc (by omega) _).grown hg2 (by simp; omega) (fun j hj => by have := (hset.1.lt j hj).1; omega)⟩
              | false =>
                go_wp2_with (go_at_call 60; refine (add_any wb.heap.size v n f ws _ (hset2 _) hfn (by omega)).mono ?_; rintro e w2 ⟨rfl, hs2, hg2⟩)
                go_roundw
                case rel => exact ⟨q + 1, put ws f, by go_num, by omega, (hby.alloc hwy _).grown hg2 (by simp; omega) (fun j hj => (hset.1.lt j hj).1), hs2, Has.step HH.out hql f HF1.out hfw, once_step HO.out HH.out hql f HF1.out hsf⟩
                case measure => simp [intOf]; omega
            · have hon : onceK ⟨(n : Int), arcs, fins⟩ fins.length := by
                obtain rfl : q = fins.length := by omega
                exact honce
              have HP : Hid (checkP ⟨(n : Int), arcs, fins⟩ 0) := .inr (.inr (.inr (.inr ⟨HS.out, HA.out, HG.out, hon, rfl⟩)))
              clear hon hhad honce hF
              go_wp2
              go_ret
              exact ⟨⟨0, rfl, HP.out⟩, hbT⟩

/-- THE PROGRAM's Check -/
theorem check_any (m : M) (v : Value) (w : World) (h : IsM w v m) : Calls Tryd.prog 30 #[v] w fun e w' => (∃ x, e = .returned (.int .i64 x) ∧ checkP m x) ∧ Below w.heap.size w w' := by
  obtain ⟨st, arcs, fins⟩ := m
  obtain ⟨va, vf, rfl, ⟨_, aa, ca, rfl, _, hA⟩, ⟨_, af, cf, rfl, _, hF⟩⟩ := h
  cases hs : sizeB ⟨st, arcs, fins⟩ with
  | true => exact big st arcs fins aa af ca cf w hs hA hF
  | false =>
    refine (small st arcs fins aa af ca cf w hs).mono ?_
    rintro e w' ⟨rfl, hb⟩
    exact ⟨⟨7, rfl, size_no hs⟩, hb⟩
end Go.Proofs.YtfjocafepigijaaDoor.CkP
/- Plain facts on walks of a machine and their least cost: a table of costs that no arc betters is the table of the least. No conditions beyond that the machine is right. -/
namespace Go.Proofs.YtfjocafepigijaaDoor.Wk
open Mv

def dear : Nat := 1152921504606846976

/-- what an arc reads and writes at a place of both texts, and the place behind -/
def Move (inn out : List Int) (told : Bool) (a : Int × Int × Int × Int × Int) (i j i' j' : Nat) : Prop :=
  ((a.2.2.1 = 0 ∧ i' = i) ∨ (0 < a.2.2.1 ∧ inn[i]? = some a.2.2.1 ∧ i' = i + 1)) ∧
  (((a.2.2.2.1 = 0 ∨ told = false) ∧ j' = j) ∨ (0 < a.2.2.2.1 ∧ told = true ∧ out[j]? = some a.2.2.2.1 ∧ j' = j + 1))

/-- a walk of so many arcs comes to a state at a place of both texts, for so much -/
def ReachN (m : M) (inn out : List Int) (told : Bool) : Nat → Nat → Nat → Nat → Nat → Prop
  | 0, s, i, j, c => s = 0 ∧ i = 0 ∧ j = 0 ∧ c = 0
  | t + 1, s', i', j', c' => ∃ s i j c x, ∃ h : x < m.arcs.length, ReachN m inn out told t s i j c ∧ (m.arcs[x]).1 = (s : Int) ∧ (m.arcs[x]).2.1 = (s' : Int) ∧ Move inn out told m.arcs[x] i j i' j' ∧ (c' : Int) = c + (m.arcs[x]).2.2.2.2
def Reach (m : M) (inn out : List Int) (told : Bool) (s i j c : Nat) : Prop := ∃ t, ReachN m inn out told t s i j c

def cols (out : List Int) (told : Bool) : Nat := if told then out.length + 1 else 1
def idx (n k s i j : Nat) : Nat := (s * n + i) * k + j
theorem idx_lt {S n k s i j : Nat} (hs : s < S) (hi : i < n) (hj : j < k) : idx n k s i j < S * n * k := by
  unfold idx
  have h1 : s * n + i + 1 ≤ S * n := by
    have : (s + 1) * n ≤ S * n := Nat.mul_le_mul_right n hs
    rw [Nat.add_mul] at this
    omega
  have h2 : (s * n + i + 1) * k ≤ S * n * k := Nat.mul_le_mul_right k h1
  rw [Nat.add_mul (s * n + i) 1 k] at h2
  omega
theorem pair_inj {n a b i j : Nat} (hi : i < n) (hj : j < n) (h : a * n + i = b * n + j) : a = b ∧ i = j := by
  have h1 : (a * n + i) / n = a := by rw [Nat.mul_comm, Nat.mul_add_div (by omega), Nat.div_eq_of_lt hi]; omega
  have h2 : (b * n + j) / n = b := by rw [Nat.mul_comm, Nat.mul_add_div (by omega), Nat.div_eq_of_lt hj]; omega
  rw [h] at h1
  have e : a = b := by omega
  subst e
  exact ⟨rfl, by omega⟩
theorem idx_inj {n k s i j s' i' j' : Nat} (hi : i < n) (hj : j < k) (hi' : i' < n) (hj' : j' < k) (h : idx n k s i j = idx n k s' i' j') : s = s' ∧ i = i' ∧ j = j' := by
  unfold idx at h
  obtain ⟨h1, h2⟩ := pair_inj hj hj' h
  obtain ⟨h3, h4⟩ := pair_inj hi hi' h1
  exact ⟨h3, h4, h2⟩

theorem Move.bd {inn out : List Int} {told : Bool} {a : Int × Int × Int × Int × Int} {i j i' j' : Nat} (h : Move inn out told a i j i' j') (hi : i < inn.length + 1) (hj : j < cols out told) : i' < inn.length + 1 ∧ j' < cols out told := by
  obtain ⟨h1, h2⟩ := h
  constructor
  · rcases h1 with ⟨_, rfl⟩ | ⟨_, h, rfl⟩
    · exact hi
    · have := (List.getElem?_eq_some_iff.1 h).1
      omega
  · rcases h2 with ⟨_, rfl⟩ | ⟨_, ht, h, rfl⟩
    · exact hj
    · have := (List.getElem?_eq_some_iff.1 h).1
      unfold cols
      rw [if_pos ht]
      omega

/-- what the table has at a place -/
def val (B : List Nat) (q : Nat) : Nat := B.getD q dear
theorem val_set (B : List Nat) (q v r : Nat) (hq : q < B.length) : val (B.set q v) r = if q = r then v else val B r := by
  unfold val
  rw [List.getD_eq_getElem?_getD, List.getD_eq_getElem?_getD, List.getElem?_set]
  split
  · simp
  · rfl
def cnt (B : List Nat) : Nat := B.countP fun x => decide (x < dear)
theorem cnt_set (B : List Nat) (q v : Nat) (hq : q < B.length) (hv : v < dear) : (val B q < dear → cnt (B.set q v) = cnt B) ∧ (¬ val B q < dear → cnt (B.set q v) = cnt B + 1) := by
  have e : val B q = B[q] := by unfold val; simp [hq]
  unfold cnt
  rw [List.countP_set hq, e]
  constructor
  · intro h
    have hp : 0 < B.countP (fun x => decide (x < dear)) := List.countP_pos_iff.2 ⟨B[q], List.getElem_mem hq, by simpa using h⟩
    simp [h, hv]
    omega
  · intro h
    simp [h, hv]
theorem cnt_le (B : List Nat) : cnt B ≤ B.length := List.countP_le_length
theorem sum_set (B : List Nat) (q v : Nat) (hq : q < B.length) : (B.set q v).sum + val B q = B.sum + v := by
  induction B generalizing q with
  | nil => simp at hq
  | cons a B ih =>
    cases q with
    | zero => simp [val]; omega
    | succ q =>
      have := ih q (by simpa using hq)
      simp [val] at this ⊢
      omega

/-- a table that is on its way: what it has is the cost of a walk -/
structure Inv (m : M) (inn out : List Int) (told : Bool) (S : Nat) (B : List Nat) : Prop where
  len : B.length = S * (inn.length + 1) * cols out told
  top : ∀ q, val B q ≤ dear
  zero : val B 0 = 0
  real : ∀ s i j, s < S → i < inn.length + 1 → j < cols out told → val B (idx (inn.length + 1) (cols out told) s i j) < dear → Reach m inn out told s i j (val B (idx (inn.length + 1) (cols out told) s i j))
  small : ∀ q, val B q < dear → val B q ≤ 1000000 * cnt B

/-- no arc betters anything at a place -/
def Rel (inn out : List Int) (told : Bool) (B : List Nat) (a : Int × Int × Int × Int × Int) (i j : Nat) : Prop :=
  ∀ s s' i' j' : Nat, a.1 = (s : Int) → a.2.1 = (s' : Int) → Move inn out told a i j i' j' → val B (idx (inn.length + 1) (cols out told) s i j) < dear →
    (val B (idx (inn.length + 1) (cols out told) s' i' j') : Int) ≤ val B (idx (inn.length + 1) (cols out told) s i j) + a.2.2.2.2

theorem Inv.step {m : M} {inn out : List Int} {told : Bool} {S : Nat} {B : List Nat} (h : Inv m inn out told S B) (x : Nat) (hx : x < m.arcs.length) (s s' i j i' j' W : Nat) (hs : s < S) (hs' : s' < S) (hi : i < inn.length + 1) (hj : j < cols out told)
    (e1 : (m.arcs[x]).1 = (s : Int)) (e2 : (m.arcs[x]).2.1 = (s' : Int)) (eW : (m.arcs[x]).2.2.2.2 = (W : Int)) (hW : W ≤ 1000000) (hm : Move inn out told m.arcs[x] i j i' j')
    (hp : val B (idx (inn.length + 1) (cols out told) s i j) < dear) (hN : B.length ≤ 100000000)
    (hlt : val B (idx (inn.length + 1) (cols out told) s i j) + W < val B (idx (inn.length + 1) (cols out told) s' i' j')) :
    Inv m inn out told S (B.set (idx (inn.length + 1) (cols out told) s' i' j') (val B (idx (inn.length + 1) (cols out told) s i j) + W)) ∧
    (B.set (idx (inn.length + 1) (cols out told) s' i' j') (val B (idx (inn.length + 1) (cols out told) s i j) + W)).sum < B.sum := by
  obtain ⟨hi', hj'⟩ := hm.bd hi hj
  have hq : idx (inn.length + 1) (cols out told) s' i' j' < B.length := by rw [h.len]; exact idx_lt hs' hi' hj'
  have hsm := h.small _ hp
  have hcl := cnt_le B
  generalize hpv : val B (idx (inn.length + 1) (cols out told) s i j) = p at *
  have hvd : p + W < dear := by unfold dear; omega
  generalize hqe : idx (inn.length + 1) (cols out told) s' i' j' = q at *
  have hcs := cnt_set B q (p + W) hq hvd
  have hcge : cnt B ≤ cnt (B.set q (p + W)) := by
    by_cases hd : val B q < dear
    · rw [hcs.1 hd]; omega
    · rw [hcs.2 hd]; omega
  refine ⟨⟨by rw [List.length_set]; exact h.len, ?_, ?_, ?_, ?_⟩, ?_⟩
  · intro r
    rw [val_set B q _ r hq]
    split
    · omega
    · exact h.top r
  · rw [val_set B q _ 0 hq]
    split
    · rename_i hz
      rw [hz, h.zero] at hlt
      omega
    · exact h.zero
  · intro s2 i2 j2 hs2 hi2 hj2
    rw [val_set B q _ _ hq]
    split
    · rename_i hz
      intro _
      rw [← hqe] at hz
      obtain ⟨rfl, rfl, rfl⟩ := idx_inj hi' hj' hi2 hj2 hz
      have hr := h.real s i j hs hi hj
      rw [hpv] at hr
      obtain ⟨t, ht⟩ := hr hp
      exact ⟨t + 1, s, i, j, p, x, hx, ht, e1, e2, hm, by rw [eW]; omega⟩
    · exact h.real s2 i2 j2 hs2 hi2 hj2
  · intro r
    rw [val_set B q _ r hq]
    split
    · intro _
      by_cases hd : val B q < dear
      · have := h.small q hd
        rw [hcs.1 hd]
        omega
      · rw [hcs.2 hd]
        omega
    · intro hr
      have := h.small r hr
      omega
  · have := sum_set B q (p + W) hq
    omega

/-- a right machine of S states -/
def Right (m : M) (S : Nat) : Prop := m.st = (S : Int) ∧ 0 < S ∧ ∀ x (h : x < m.arcs.length), arcB m.st m.arcs[x] = true

theorem reach_bd {m : M} {inn out : List Int} {told : Bool} {S : Nat} (hr : Right m S) : ∀ t s i j c, ReachN m inn out told t s i j c → s < S ∧ i < inn.length + 1 ∧ j < cols out told
  | 0, s, i, j, c, h => by
    obtain ⟨rfl, rfl, rfl, _⟩ := h
    exact ⟨hr.2.1, by omega, by unfold cols; split <;> omega⟩
  | t + 1, s', i', j', c', h => by
    obtain ⟨s, i, j, c, x, hx, h, _, e2, hm, _⟩ := h
    have ih := reach_bd hr t s i j c h
    have ha := hr.2.2 x hx
    unfold arcB at ha
    simp only [decide_eq_true_eq] at ha
    have hst := hr.1
    exact ⟨by omega, hm.bd ih.2.1 ih.2.2⟩

/-- a table that no arc betters has the least -/
theorem least {m : M} {inn out : List Int} {told : Bool} {S : Nat} {B : List Nat} (hr : Right m S) (h : Inv m inn out told S B) (hf : ∀ x (hx : x < m.arcs.length), ∀ i j, i < inn.length + 1 → j < cols out told → Rel inn out told B m.arcs[x] i j) :
    ∀ t s i j c, ReachN m inn out told t s i j c → val B (idx (inn.length + 1) (cols out told) s i j) ≤ c
  | 0, s, i, j, c, h0 => by
    obtain ⟨rfl, rfl, rfl, _⟩ := h0
    have e : idx (inn.length + 1) (cols out told) 0 0 0 = 0 := by unfold idx; simp
    rw [e, h.zero]
    omega
  | t + 1, s', i', j', c', h1 => by
    obtain ⟨s, i, j, c, x, hx, h1, e1, e2, hm, ec⟩ := h1
    have ih := least hr h hf t s i j c h1
    have bd := reach_bd hr t s i j c h1
    have ha := hr.2.2 x hx
    unfold arcB at ha
    simp only [decide_eq_true_eq] at ha
    by_cases hd : val B (idx (inn.length + 1) (cols out told) s i j) < dear
    · have := hf x hx i j bd.2.1 bd.2.2 s s' i' j' e1 e2 hm hd
      omega
    · have := h.top (idx (inn.length + 1) (cols out told) s' i' j')
      omega

/-- the least cost of a walk that ends: dear, if there is none -/
def IsCost (m : M) (inn out : List Int) (told : Bool) (v : Nat) : Prop :=
  (v = dear ∧ ∀ y (hy : y < m.fins.length), ∀ f c : Nat, (m.fins[y]).1 = (f : Int) → ¬ Reach m inn out told f inn.length (cols out told - 1) c) ∨
  (v < dear ∧ (∃ y, ∃ hy : y < m.fins.length, ∃ f c : Nat, (m.fins[y]).1 = (f : Int) ∧ Reach m inn out told f inn.length (cols out told - 1) c ∧ (v : Int) = c + (m.fins[y]).2) ∧
   ∀ y (hy : y < m.fins.length), ∀ f c : Nat, (m.fins[y]).1 = (f : Int) → Reach m inn out told f inn.length (cols out told - 1) c → (v : Int) ≤ c + (m.fins[y]).2)
theorem IsCost.one {m : M} {inn out : List Int} {told : Bool} {v v' : Nat} (h : IsCost m inn out told v) (h' : IsCost m inn out told v') : v = v' := by
  rcases h with ⟨rfl, h⟩ | ⟨_, ⟨y, hy, f, c, e, r, ev⟩, hl⟩ <;> rcases h' with ⟨rfl, h'⟩ | ⟨_, ⟨y', hy', f', c', e', r', ev'⟩, hl'⟩
  · rfl
  · exact absurd r' (h y' hy' f' c' e')
  · exact absurd r (h' y hy f c e)
  · have q1 := hl y' hy' f' c' e' r'
    have q2 := hl' y hy f c e r
    omega
end Go.Proofs.YtfjocafepigijaaDoor.Wk
