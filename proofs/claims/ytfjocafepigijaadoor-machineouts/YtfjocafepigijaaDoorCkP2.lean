/- The program's Check: what it answers of any machine. No conditions. -/
import Derived.Test.YtfjocafepigijaaDoorCkP
namespace Go.Proofs.YtfjocafepigijaaDoor.CkP
open Go.RowKit Mv CkR Set

/-- which states are among the first k finals, as a set has them -/
def Has (fins : List (Int × Int)) (k : Nat) (ws : List Nat) : Prop := ∀ s : Nat, mem ws s = true ↔ ∃ j, ∃ hj : j < fins.length, j < k ∧ (fins[j]).1 = (s : Int)
theorem Has.step {fins : List (Int × Int)} {k : Nat} {ws : List Nat} (h : Has fins k ws) (hk : k < fins.length) (f : Nat) (hf : (fins[k]).1 = (f : Int)) (hw : f / 64 < ws.length) : Has fins (k + 1) (put ws f) := by
  intro s
  rw [mem_put ws f s hw, Bool.or_eq_true, h s, decide_eq_true_eq]
  constructor
  · rintro (⟨j, hj, hjk, e⟩ | rfl)
    · exact ⟨j, hj, by omega, e⟩
    · exact ⟨k, hk, by omega, hf⟩
  · rintro ⟨j, hj, hjk, e⟩
    rcases Nat.lt_or_ge j k with h' | h'
    · exact .inl ⟨j, hj, h', e⟩
    · obtain rfl : j = k := by omega
      exact .inr (by rw [hf] at e; omega)
theorem once_step {st : Int} {arcs : List (Int × Int × Int × Int × Int)} {fins : List (Int × Int)} {k : Nat} {ws : List Nat} (h : onceK ⟨st, arcs, fins⟩ k) (hh : Has fins k ws) (hk : k < fins.length) (f : Nat) (hf : (fins[k]).1 = (f : Int)) (hn : mem ws f = false) : onceK ⟨st, arcs, fins⟩ (k + 1) := by
  intro i j hi hj hij hjk
  rcases Nat.lt_or_ge j k with h' | h'
  · exact h i j hi hj hij h'
  · obtain rfl : j = k := by omega
    intro e
    have := (hh f).2 ⟨i, hi, hij, by show (fins[i]).1 = _; rw [show (fins[i]).1 = (fins[j]).1 from e, hf]⟩
    rw [hn] at this
    cases this
theorem once_not {st : Int} {arcs : List (Int × Int × Int × Int × Int)} {fins : List (Int × Int)} {k : Nat} {ws : List Nat} (hh : Has fins k ws) (hk : k < fins.length) (f : Nat) (hf : (fins[k]).1 = (f : Int)) (hn : mem ws f = true) : ¬ onceK ⟨st, arcs, fins⟩ fins.length := by
  intro h
  obtain ⟨j, hj, hjk, hjs⟩ := (hh f).1 hn
  exact h j k hj hk hjk hk (by show (fins[j]).1 = (fins[k]).1; rw [hjs, hf])

set_option maxHeartbeats 4000000 in
set_option maxRecDepth 100000 in
theorem small (st : Int) (arcs : List (Int × Int × Int × Int × Int)) (fins : List (Int × Int)) (aa af : Option Addr) (ca cf : Nat) (w : World) (h : sizeB ⟨st, arcs, fins⟩ = false) :
    Calls Tryd.prog 30 #[.agg #[.int .i64 st, .slice aa arcs.length ca, .slice af fins.length cf]] w fun e w' => e = .returned (.int .i64 7) ∧ Below w.heap.size w w' := by
  unfold sizeB at h
  simp only [decide_eq_false_iff_not] at h
  by_cases h1 : st < 1
  · go_enter Tryd.func30, Tryd.ntmps30
    go_wp2
    go_ret
    exact ⟨rfl, (Below.refl _ _).alloc (Nat.le_refl _) _⟩
  by_cases h2 : 3000 < st
  · clear h
    go_enter Tryd.func30, Tryd.ntmps30
    go_wp2
    go_ret
    exact ⟨rfl, (Below.refl _ _).alloc (Nat.le_refl _) _⟩
  by_cases h3 : (20000 : Int) < (arcs.length : Int)
  · clear h
    go_enter Tryd.func30, Tryd.ntmps30
    go_wp2
    go_ret
    exact ⟨rfl, (Below.refl _ _).alloc (Nat.le_refl _) _⟩
  have h4 : st < (fins.length : Int) := by omega
  clear h
  go_enter Tryd.func30, Tryd.ntmps30
  go_wp2
  go_ret
  exact ⟨rfl, (Below.refl _ _).alloc (Nat.le_refl _) _⟩

set_option maxHeartbeats 4000000 in
set_option maxRecDepth 100000 in
theorem big (st : Int) (arcs : List (Int × Int × Int × Int × Int)) (fins : List (Int × Int)) (aa af : Option Addr) (ca cf : Nat) (w : World) (h : sizeB ⟨st, arcs, fins⟩ = true)
    (hA : arcs.length = 0 ∨ ∃ b off, aa = some ⟨b, off, none⟩ ∧ b < w.heap.size ∧ ∀ j u, (acs arcs)[j]? = some u → w.cell? ⟨b, off + j, none⟩ = some u)
    (hF : fins.length = 0 ∨ ∃ b off, af = some ⟨b, off, none⟩ ∧ b < w.heap.size ∧ ∀ j u, (fcs fins)[j]? = some u → w.cell? ⟨b, off + j, none⟩ = some u) :
    Calls Tryd.prog 30 #[.agg #[.int .i64 st, .slice aa arcs.length ca, .slice af fins.length cf]] w fun e w' => (∃ x, e = .returned (.int .i64 x) ∧ checkP ⟨st, arcs, fins⟩ x) ∧ Below w.heap.size w w' := by
  have hsz := h
  unfold sizeB at hsz
  simp only [decide_eq_true_eq] at hsz
  obtain ⟨h1, h2, h3, h4⟩ := hsz
  have HS : Hid (sizeB ⟨st, arcs, fins⟩ = true) := h
  clear h
  have d1 : decide (st < 1) = false := decide_eq_false (by omega)
  have d2 : decide (3000 < st) = false := decide_eq_false (by omega)
  have d3 : decide ((20000 : Int) < (arcs.length : Int)) = false := decide_eq_false (by omega)
  have d4 : decide (st < (fins.length : Int)) = false := decide_eq_false (by omega)
  have hb0 : Below w.heap.size w (w.alloc (.cells #[.int .i64 st, .slice aa arcs.length ca, .slice af fins.length cf] 25)) := (Below.refl _ _).alloc (Nat.le_refl _) _
  go_enter Tryd.func30, Tryd.ntmps30
  go_wp2
  go_loopw [35] (fun i wr => ∃ k : Nat, i = .int .i64 k ∧ k ≤ arcs.length ∧ Below (w.heap.size + 1) (w.alloc (.cells #[.int .i64 st, .slice aa arcs.length ca, .slice af fins.length cf] 25)) wr ∧ ∀ j (hj : j < arcs.length), j < k → arcB st arcs[j] = true) (fun i _ => arcs.length - (intOf i).toNat)
  case atStart => exact ⟨0, rfl, by omega, Below.refl _ _, fun j _ h => by omega⟩
  case round =>
    obtain ⟨k, rfl, hk, hbw, hall⟩ := hrel
    have hws := hbw.size
    simp only [World.size_alloc] at hws
    have c0 : wr.cell? ⟨w.heap.size, 0, none⟩ = some (.int .i64 st) := by rw [hbw.cell (by show w.heap.size < w.heap.size + 1; omega)]; simp
    have c1 : wr.cell? ⟨w.heap.size, 1, none⟩ = some (.slice aa arcs.length ca) := by rw [hbw.cell (by show w.heap.size < w.heap.size + 1; omega)]; simp
    have c2 : wr.cell? ⟨w.heap.size, 2, none⟩ = some (.slice af fins.length cf) := by rw [hbw.cell (by show w.heap.size < w.heap.size + 1; omega)]; simp
    by_cases hlt : k < arcs.length
    · have hbx : ∃ b off, aa = some ⟨b, off, none⟩ ∧ b < w.heap.size ∧ ∀ j u, (acs arcs)[j]? = some u → wr.cell? ⟨b, off + j, none⟩ = some u := by
        rcases hA with h | ⟨b, off, e, hb, hc⟩
        · omega
        · refine ⟨b, off, e, hb, fun j u hu => ?_⟩
          rw [hbw.cell (p := ⟨b, off + j, none⟩) (by show b < _; omega), World.cell?_alloc_past _ _ _ hb]
          exact hc j u hu
      obtain ⟨b, off, rfl, hbl, hcs⟩ := hbx
      have u := acs_at arcs k hlt
      obtain ⟨f, t, i, o, x, ea⟩ : ∃ f t i o x, arcs[k] = (f, t, i, o, x) := ⟨_, _, _, _, _, rfl⟩
      rw [ea] at u
      have p0 := hcs _ _ u.1
      have p1 := hcs _ _ u.2.1
      have p2 := hcs _ _ u.2.2.1
      have p3 := hcs _ _ u.2.2.2.1
      have p4 := hcs _ _ u.2.2.2.2
      rw [← Nat.add_assoc] at p1 p2 p3 p4
      have e0 : ∀ o, (wr.alloc o).cell? ⟨w.heap.size, 0, none⟩ = some (.int .i64 st) := fun o => (World.cell?_alloc_past _ _ _ (by show w.heap.size < _; omega)).trans c0
      have hbT := hb0.trans (hbw.mono (by omega))
      clear u hcs
      cases hok : arcB st (f, t, i, o, x) with
      | true =>
        have HE : Hid (arcs[k] = (f, t, i, o, x)) := ea
        have HK : Hid (arcB st (f, t, i, o, x) = true) := hok
        clear ea hbT
        go_wp2_with (go_at_call 58; refine (fits_any _ _ _ _ _ _ _ h1 h2).mono ?_; rintro e w2 ⟨rfl, hb2⟩)
        go_roundw
        case rel =>
          refine ⟨k + 1, by go_num, by omega, (hbw.alloc (by omega) _).trans (hb2.mono (by simp; omega)), fun j hj hjk => ?_⟩
          by_cases hjk2 : j < k
          · exact hall j hj hjk2
          · obtain rfl : j = k := by omega
            rw [HE.out]
            exact HK.out
        case measure => simp [intOf]; omega
      | false =>
        have HP : Hid (checkP ⟨st, arcs, fins⟩ 3) := .inr (.inl ⟨HS.out, ⟨k, hlt, by rw [ea]; exact hok⟩, rfl⟩)
        clear ea hall hF
        go_wp2_with (go_at_call 58; refine (fits_any _ _ _ _ _ _ _ h1 h2).mono ?_; rintro e w2 ⟨rfl, hb2⟩)
        go_ret
        exact ⟨⟨3, rfl, HP.out⟩, (hbT.alloc (by omega) _).trans (hb2.mono (by simp; omega))⟩
    · have hallA : ∀ j (hj : j < arcs.length), arcB st arcs[j] = true := fun j hj => hall j hj (by omega)
      have HA : Hid (∀ j (hj : j < arcs.length), arcB st arcs[j] = true) := hallA
      clear hallA hall hA
      obtain ⟨wa, rfl⟩ : ∃ wa : World, wa = wr := ⟨_, rfl⟩
      go_wp2
      go_loopw [48] (fun i wr => ∃ k : Nat, i = .int .i64 k ∧ k ≤ fins.length ∧ Below wa.heap.size wa wr ∧ ∀ j (hj : j < fins.length), j < k → finB st fins[j] = true) (fun i _ => fins.length - (intOf i).toNat)
      case atStart => exact ⟨0, rfl, by omega, Below.refl _ _, fun j _ h => by omega⟩
      case round =>
        obtain ⟨m, rfl, hm, hbx, hallF⟩ := hrel
        have hwx := hbx.size
        have x0 : wr.cell? ⟨w.heap.size, 0, none⟩ = some (.int .i64 st) := by rw [hbx.cell (by show w.heap.size < _; omega)]; exact c0
        have x2 : wr.cell? ⟨w.heap.size, 2, none⟩ = some (.slice af fins.length cf) := by rw [hbx.cell (by show w.heap.size < _; omega)]; exact c2
        by_cases hml : m < fins.length
        · have hbq : ∃ b off, af = some ⟨b, off, none⟩ ∧ b < w.heap.size ∧ ∀ j u, (fcs fins)[j]? = some u → wr.cell? ⟨b, off + j, none⟩ = some u := by
            rcases hF with h | ⟨b, off, e, hb, hc⟩
            · omega
            · refine ⟨b, off, e, hb, fun j u hu => ?_⟩
              rw [hbx.cell (p := ⟨b, off + j, none⟩) (by show b < _; omega), hbw.cell (p := ⟨b, off + j, none⟩) (by show b < _; omega), World.cell?_alloc_past _ _ _ hb]
              exact hc j u hu
          obtain ⟨b, off, rfl, hbl, hcs⟩ := hbq
          have u := fcs_at fins m hml
          obtain ⟨f, x, ea⟩ : ∃ f x, fins[m] = (f, x) := ⟨_, _, rfl⟩
          rw [ea] at u
          have p0 := hcs _ _ u.1
          have p1 := hcs _ _ u.2
          rw [← Nat.add_assoc] at p1
          have e0 : ∀ o, (wr.alloc o).cell? ⟨w.heap.size, 0, none⟩ = some (.int .i64 st) := fun o => (World.cell?_alloc_past _ _ _ (by show w.heap.size < _; omega)).trans x0
          have hbT := (hb0.trans (hbw.mono (by omega))).trans (hbx.mono (by omega))
          clear u hcs
          have hfb : finB st (f, x) = (wb f 0 (st - 1) && wb x 0 1000000) := by
            unfold finB wb
            rw [Bool.eq_iff_iff]
            simp only [Bool.and_eq_true, decide_eq_true_eq]
            omega
          cases q1 : wb f 0 (st - 1) with
          | true =>
            cases q2 : wb x 0 1000000 with
            | true =>
              have HE : Hid (fins[m] = (f, x)) := ea
              have HK : Hid (finB st (f, x) = true) := by rw [hfb, q1, q2]; rfl
              clear ea hbT hfb
              go_wp2_with (go_at_call 31; refine (within_any _ _ _ _).mono ?_; rintro e w' ⟨rfl, rfl⟩)
              go_roundw
              case rel =>
                refine ⟨m + 1, by go_num, by omega, hbx.alloc (by omega) _, fun j hj hjk => ?_⟩
                by_cases hjk2 : j < m
                · exact hallF j hj hjk2
                · obtain rfl : j = m := by omega
                  rw [HE.out]
                  exact HK.out
              case measure => simp [intOf]; omega
            | false =>
              have hok : finB st (f, x) = false := by rw [hfb, q1, q2]; rfl
              have HP : Hid (checkP ⟨st, arcs, fins⟩ 3) := .inr (.inr (.inl ⟨HS.out, HA.out, ⟨m, hml, by rw [ea]; exact hok⟩, rfl⟩))
              clear ea hok hallF hfb
              go_wp2_with (go_at_call 31; refine (within_any _ _ _ _).mono ?_; rintro e w' ⟨rfl, rfl⟩)
              go_ret
              exact ⟨⟨3, rfl, HP.out⟩, hbT.alloc (by omega) _⟩
          | false =>
            have hok : finB st (f, x) = false := by rw [hfb, q1]; rfl
            have HP : Hid (checkP ⟨st, arcs, fins⟩ 3) := .inr (.inr (.inl ⟨HS.out, HA.out, ⟨m, hml, by rw [ea]; exact hok⟩, rfl⟩))
            clear ea hok hallF hfb
            go_wp2_with (go_at_call 31; refine (within_any _ _ _ _).mono ?_; rintro e w' ⟨rfl, rfl⟩)
            go_ret
            exact ⟨⟨3, rfl, HP.out⟩, hbT.alloc (by omega) _⟩
        · have hallG : ∀ j (hj : j < fins.length), finB st fins[j] = true := fun j hj => hallF j hj (by omega)
          have HG : Hid (∀ j (hj : j < fins.length), finB st fins[j] = true) := hallG
          clear hallF hallG
          obtain ⟨wb, rfl⟩ : ∃ wb : World, wb = wr := ⟨_, rfl⟩
          obtain ⟨n, rfl⟩ : ∃ n : Nat, st = (n : Int) := ⟨st.toNat, by omega⟩
          go_wp2_with (go_at_call 59; refine (new_any n _ (by omega)).mono ?_; rintro e wc ⟨v, ws0, rfl, hset0, hmem0, hbc⟩; have z2 : wc.cell? ⟨w.heap.size, 2, none⟩ = some (.slice af fins.length cf) := (hbc.cell (p := ⟨w.heap.size, 2, none⟩) (by show w.heap.size < _; omega)).trans x2)
          go_loopw [72] (fun i wr => ∃ (k : Nat) (ws : List Nat), i = .int .i64 k ∧ k ≤ fins.length ∧ Below wb.heap.size wb wr ∧ IsSet wr wb.heap.size v n ws ∧ Has fins k ws ∧ onceK ⟨(n : Int), arcs, fins⟩ k) (fun i _ => fins.length - (intOf i).toNat)
          case atStart => exact ⟨0, ws0, rfl, by omega, hbc, hset0, fun s => by rw [hmem0 s]; simp, fun i j hi hj h1 h2 => by omega⟩
          case round =>
            clear hbc hset0 hmem0
            obtain ⟨q, ws, rfl, hq, hby, hset, hhad, honce⟩ := hrel
            have hwy := hby.size
            have y0 : wr.cell? ⟨w.heap.size, 0, none⟩ = some (.int .i64 (n : Int)) := by rw [hby.cell (by show w.heap.size < _; omega)]; exact x0
            have hbT := ((hb0.trans (hbw.mono (by omega))).trans (hbx.mono (by omega))).trans (hby.mono (by omega))
            by_cases hql : q < fins.length
            · have hbq : ∃ b off, af = some ⟨b, off, none⟩ ∧ b < w.heap.size ∧ ∀ j u, (fcs fins)[j]? = some u → wr.cell? ⟨b, off + j, none⟩ = some u := by
                rcases hF with h | ⟨b, off, e, hb, hc⟩
                · omega
                · refine ⟨b, off, e, hb, fun j u hu => ?_⟩
                  rw [hby.cell (p := ⟨b, off + j, none⟩) (by show b < _; omega), hbx.cell (p := ⟨b, off + j, none⟩) (by show b < _; omega), hbw.cell (p := ⟨b, off + j, none⟩) (by show b < _; omega), World.cell?_alloc_past _ _ _ hb]
                  exact hc j u hu
              obtain ⟨b, off, rfl, hbl, hcs⟩ := hbq
              have u := fcs_at fins q hql
              have hfb := HG.out q hql
              unfold finB at hfb
              simp only [decide_eq_true_eq] at hfb
              obtain ⟨f, ef⟩ : ∃ f : Nat, fins[q].1 = (f : Int) := ⟨(fins[q].1).toNat, by omega⟩
              obtain ⟨x, ex⟩ : ∃ x, fins[q].2 = x := ⟨_, rfl⟩
              rw [ef] at u hfb
              rw [ex] at u
              have p0 := hcs _ _ u.1
              have p1 := hcs _ _ u.2
              rw [← Nat.add_assoc] at p1
              have hfn : f < n := by omega
              have hfw : f / 64 < ws.length := by have := hset.2.2.1; omega
              have hset2 : ∀ o, IsSet (wr.alloc o) wb.heap.size v n ws := fun o => ⟨hset.1.alloc o, hset.2⟩
              have HF1 : Hid (fins[q].1 = (f : Int)) := ef
              have HH : Hid (Has fins q ws) := hhad
              have HO : Hid (onceK ⟨(n : Int), arcs, fins⟩ q) := honce
              clear u hcs ef ex hfb hhad honce hF
              cases hsf : mem ws f with
              | true =>
                have HP : Hid (checkP ⟨(n : Int), arcs, fins⟩ 6) := .inr (.inr (.inr (.inl ⟨HS.out, HA.out, HG.out, once_not HH.out hql f HF1.out hsf, rfl⟩)))
                go_wp2_with (go_at_call 60; refine (add_any wb.heap.size v n f ws _ (hset2 _) hfn (by omega)).mono ?_; rintro e w2 ⟨rfl, hs2, hg2⟩)
                go_ret
                exact ⟨⟨6, rfl, HP.out⟩, (hbT.alloc (by omega) _).grown hg2 (by simp; omega) (fun j hj => by have := (hset.1.lt j hj).1; omega)⟩
              | false =>
                go_wp2_with (go_at_call 60; refine (add_any wb.heap.size v n f ws _ (hset2 _) hfn (by omega)).mono ?_; rintro e w2 ⟨rfl, hs2, hg2⟩)
                go_roundw
                case rel => exact ⟨q + 1, put ws f, by go_num, by omega, (hby.alloc hwy _).grown hg2 (by simp; omega) (fun j hj => (hset.1.lt j hj).1), hs2, Has.step HH.out hql f HF1.out hfw, once_step HO.out HH.out hql f HF1.out hsf⟩
                case measure => simp [intOf]; omega
            · have hon : onceK ⟨(n : Int), arcs, fins⟩ fins.length := by
                obtain rfl : q = fins.length := by omega
                exact honce
              have HP : Hid (checkP ⟨(n : Int), arcs, fins⟩ 0) := .inr (.inr (.inr (.inr ⟨HS.out, HA.out, HG.out, hon, rfl⟩)))
              clear hon hhad honce hF
              go_wp2
              go_ret
              exact ⟨⟨0, rfl, HP.out⟩, hbT⟩

/-- THE PROGRAM's Check -/
theorem check_any (m : M) (v : Value) (w : World) (h : IsM w v m) : Calls Tryd.prog 30 #[v] w fun e w' => (∃ x, e = .returned (.int .i64 x) ∧ checkP m x) ∧ Below w.heap.size w w' := by
  obtain ⟨st, arcs, fins⟩ := m
  obtain ⟨va, vf, rfl, ⟨_, aa, ca, rfl, _, hA⟩, ⟨_, af, cf, rfl, _, hF⟩⟩ := h
  cases hs : sizeB ⟨st, arcs, fins⟩ with
  | true => exact big st arcs fins aa af ca cf w hs hA hF
  | false =>
    refine (small st arcs fins aa af ca cf w hs).mono ?_
    rintro e w' ⟨rfl, hb⟩
    exact ⟨⟨7, rfl, size_no hs⟩, hb⟩
end Go.Proofs.YtfjocafepigijaaDoor.CkP
