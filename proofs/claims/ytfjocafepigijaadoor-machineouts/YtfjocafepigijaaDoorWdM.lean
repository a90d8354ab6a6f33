/- The document's CheckMachine: what it answers of any machine. No conditions. -/
import Derived.Test.YtfjocafepigijaaDoorWkM
import Derived.Test.YtfjocafepigijaaDoorTbM
namespace Go.Proofs.YtfjocafepigijaaDoor.CkR
open Go.RowKit Mv

theorem size_no {m : M} (h : sizeB m = false) : checkP m 7 := .inl ⟨h, rfl⟩

theorem info4 : (Tryd.prog.info? 4).map (fun i => (i.zero, i.size, i.bytes)) = some (some (.bool false), 1, 1) := by kernel_rfl

/-- which states are among the first k finals -/
def Had (st : Nat) (fins : List (Int × Int)) (k : Nat) (hs : List Bool) : Prop := hs.length = st ∧ ∀ s (h : s < hs.length), hs[s] = true ↔ ∃ j, ∃ hj : j < fins.length, j < k ∧ (fins[j]).1 = (s : Int)
theorem Had.zero (st : Nat) (fins : List (Int × Int)) : Had st fins 0 (List.replicate st false) := by
  refine ⟨by simp, fun s h => ?_⟩
  simp
theorem Had.step {st : Nat} {fins : List (Int × Int)} {k : Nat} {hs : List Bool} (h : Had st fins k hs) (hk : k < fins.length) (f : Nat) (hf : (fins[k]).1 = (f : Int)) : Had st fins (k + 1) (hs.set f true) := by
  refine ⟨by simpa using h.1, fun s hl => ?_⟩
  have hl' : s < hs.length := by simpa using hl
  rw [List.getElem_set]
  by_cases e : f = s
  · subst e
    rw [if_pos rfl]
    exact ⟨fun _ => ⟨k, hk, by omega, hf⟩, fun _ => rfl⟩
  · rw [if_neg e, h.2 s hl']
    constructor
    · rintro ⟨j, hj, hjk, hjs⟩
      exact ⟨j, hj, by omega, hjs⟩
    · rintro ⟨j, hj, hjk, hjs⟩
      refine ⟨j, hj, ?_, hjs⟩
      rcases Nat.lt_or_ge j k with h | h
      · exact h
      · obtain rfl : j = k := by omega
        rw [hf] at hjs
        omega
theorem once_step {st : Int} {arcs : List (Int × Int × Int × Int × Int)} {fins : List (Int × Int)} {k n : Nat} {hs : List Bool} (h : onceK ⟨st, arcs, fins⟩ k) (hh : Had n fins k hs) (hk : k < fins.length) (f : Nat) (hf : (fins[k]).1 = (f : Int)) (hl : f < hs.length) (hn : hs[f] = false) : onceK ⟨st, arcs, fins⟩ (k + 1) := by
  intro i j hi hj hij hjk
  rcases Nat.lt_or_ge j k with h' | h'
  · exact h i j hi hj hij h'
  · obtain rfl : j = k := by omega
    intro e
    have := (hh.2 f hl).2 ⟨i, hi, hij, by show (fins[i]).1 = _; rw [show (fins[i]).1 = (fins[j]).1 from e, hf]⟩
    rw [hn] at this
    cases this
theorem once_not {st : Int} {arcs : List (Int × Int × Int × Int × Int)} {fins : List (Int × Int)} {k n : Nat} {hs : List Bool} (hh : Had n fins k hs) (hk : k < fins.length) (f : Nat) (hf : (fins[k]).1 = (f : Int)) (hl : f < hs.length) (hn : hs[f] = true) : ¬ onceK ⟨st, arcs, fins⟩ fins.length := by
  intro h
  obtain ⟨j, hj, hjk, hjs⟩ := (hh.2 f hl).1 hn
  exact h j k hj hk hjk hk (by show (fins[j]).1 = (fins[k]).1; rw [hjs, hf])

set_option maxHeartbeats 4000000 in
set_option maxRecDepth 100000 in
theorem small (st : Int) (arcs : List (Int × Int × Int × Int × Int)) (fins : List (Int × Int)) (aa af : Option Addr) (ca cf : Nat) (w : World) (h : sizeB ⟨st, arcs, fins⟩ = false) :
    Calls Tryd.prog 10 #[.agg #[.int .i64 st, .slice aa arcs.length ca, .slice af fins.length cf]] w fun e w' => e = .returned (.int .i64 7) ∧ Below w.heap.size w w' := by
  unfold sizeB at h
  simp only [decide_eq_false_iff_not] at h
  by_cases h1 : st < 1
  · go_enter Tryd.func10, Tryd.ntmps10
    go_wp2
    go_ret
    exact ⟨rfl, (Below.refl _ _).alloc (Nat.le_refl _) _⟩
  by_cases h2 : 3000 < st
  · clear h
    go_enter Tryd.func10, Tryd.ntmps10
    go_wp2
    go_ret
    exact ⟨rfl, (Below.refl _ _).alloc (Nat.le_refl _) _⟩
  by_cases h3 : (20000 : Int) < (arcs.length : Int)
  · clear h
    go_enter Tryd.func10, Tryd.ntmps10
    go_wp2
    go_ret
    exact ⟨rfl, (Below.refl _ _).alloc (Nat.le_refl _) _⟩
  have h4 : st < (fins.length : Int) := by omega
  clear h
  go_enter Tryd.func10, Tryd.ntmps10
  go_wp2
  go_ret
  exact ⟨rfl, (Below.refl _ _).alloc (Nat.le_refl _) _⟩

set_option maxHeartbeats 4000000 in
set_option maxRecDepth 100000 in
theorem big (st : Int) (arcs : List (Int × Int × Int × Int × Int)) (fins : List (Int × Int)) (aa af : Option Addr) (ca cf : Nat) (w : World) (h : sizeB ⟨st, arcs, fins⟩ = true)
    (hA : arcs.length = 0 ∨ ∃ b off, aa = some ⟨b, off, none⟩ ∧ b < w.heap.size ∧ ∀ j u, (acs arcs)[j]? = some u → w.cell? ⟨b, off + j, none⟩ = some u)
    (hF : fins.length = 0 ∨ ∃ b off, af = some ⟨b, off, none⟩ ∧ b < w.heap.size ∧ ∀ j u, (fcs fins)[j]? = some u → w.cell? ⟨b, off + j, none⟩ = some u) :
    Calls Tryd.prog 10 #[.agg #[.int .i64 st, .slice aa arcs.length ca, .slice af fins.length cf]] w fun e w' => (∃ x, e = .returned (.int .i64 x) ∧ checkP ⟨st, arcs, fins⟩ x) ∧ Below w.heap.size w w' := by
  have hsz := h
  unfold sizeB at hsz
  simp only [decide_eq_true_eq] at hsz
  obtain ⟨h1, h2, h3, h4⟩ := hsz
  have HS : Hid (sizeB ⟨st, arcs, fins⟩ = true) := h
  clear h
  have d1 : decide (st < 1) = false := decide_eq_false (by omega)
  have d2 : decide (3000 < st) = false := decide_eq_false (by omega)
  have d3 : decide ((20000 : Int) < (arcs.length : Int)) = false := decide_eq_false (by omega)
  have d4 : decide (st < (fins.length : Int)) = false := decide_eq_false (by omega)
  obtain ⟨i4, hi4, hz40, hz41, hz42⟩ := info_parts info4
  have hb0 : Below w.heap.size w (w.alloc (.cells #[.int .i64 st, .slice aa arcs.length ca, .slice af fins.length cf] 25)) := (Below.refl _ _).alloc (Nat.le_refl _) _
  go_enter Tryd.func10, Tryd.ntmps10
  go_wp2
  go_loopw [3] (fun i wr => ∃ k : Nat, i = .int .i64 k ∧ k ≤ arcs.length ∧ Below (w.heap.size + 1) (w.alloc (.cells #[.int .i64 st, .slice aa arcs.length ca, .slice af fins.length cf] 25)) wr ∧ ∀ j (hj : j < arcs.length), j < k → arcB st arcs[j] = true) (fun i _ => arcs.length - (intOf i).toNat)
  case atStart => exact ⟨0, rfl, by omega, Below.refl _ _, fun j _ h => by omega⟩
  case round =>
    obtain ⟨k, rfl, hk, hbw, hall⟩ := hrel
    have hws := hbw.size
    simp only [World.size_alloc] at hws
    have c0 : wr.cell? ⟨w.heap.size, 0, none⟩ = some (.int .i64 st) := by rw [hbw.cell (by show w.heap.size < w.heap.size + 1; omega)]; simp
    have c1 : wr.cell? ⟨w.heap.size, 1, none⟩ = some (.slice aa arcs.length ca) := by rw [hbw.cell (by show w.heap.size < w.heap.size + 1; omega)]; simp
    have c2 : wr.cell? ⟨w.heap.size, 2, none⟩ = some (.slice af fins.length cf) := by rw [hbw.cell (by show w.heap.size < w.heap.size + 1; omega)]; simp
    by_cases hlt : k < arcs.length
    · have hbx : ∃ b off, aa = some ⟨b, off, none⟩ ∧ b < w.heap.size ∧ ∀ j u, (acs arcs)[j]? = some u → wr.cell? ⟨b, off + j, none⟩ = some u := by
        rcases hA with h | ⟨b, off, e, hb, hc⟩
        · omega
        · refine ⟨b, off, e, hb, fun j u hu => ?_⟩
          rw [hbw.cell (p := ⟨b, off + j, none⟩) (by show b < _; omega), World.cell?_alloc_past _ _ _ hb]
          exact hc j u hu
      obtain ⟨b, off, rfl, hbl, hcs⟩ := hbx
      have u := acs_at arcs k hlt
      obtain ⟨f, t, i, o, x, ea⟩ : ∃ f t i o x, arcs[k] = (f, t, i, o, x) := ⟨_, _, _, _, _, rfl⟩
      rw [ea] at u
      have p0 := hcs _ _ u.1
      have p1 := hcs _ _ u.2.1
      have p2 := hcs _ _ u.2.2.1
      have p3 := hcs _ _ u.2.2.2.1
      have p4 := hcs _ _ u.2.2.2.2
      rw [← Nat.add_assoc] at p1 p2 p3 p4
      have e0 : ∀ o, (wr.alloc o).cell? ⟨w.heap.size, 0, none⟩ = some (.int .i64 st) := fun o => (World.cell?_alloc_past _ _ _ (by show w.heap.size < _; omega)).trans c0
      have hbT := hb0.trans (hbw.mono (by omega))
      clear u hcs
      cases hok : arcB st (f, t, i, o, x) with
      | true =>
        have hok2 := hok
        unfold arcB at hok2
        simp only [decide_eq_true_eq] at hok2
        obtain ⟨g0, g1, g2, g3, g4, g5, g6, g7, g8, g9⟩ := hok2
        have HE : Hid (arcs[k] = (f, t, i, o, x)) := ea
        have HK : Hid (arcB st (f, t, i, o, x) = true) := hok
        clear ea hok hbT
        go_wp2
        go_roundw
        case rel =>
          refine ⟨k + 1, by go_num, by omega, hbw.alloc (by omega) _, fun j hj hjk => ?_⟩
          by_cases hjk2 : j < k
          · exact hall j hj hjk2
          · obtain rfl : j = k := by omega
            rw [HE.out]
            exact HK.out
        case measure => simp [intOf]; omega
      | false =>
        have hno := hok
        unfold arcB at hno
        simp only [decide_eq_false_iff_not] at hno
        have HP : Hid (checkP ⟨st, arcs, fins⟩ 3) := .inr (.inl ⟨HS.out, ⟨k, hlt, by rw [ea]; exact hok⟩, rfl⟩)
        have HN : Hid _ := hno
        clear ea hok hall hF hno
        go_wp2
        all_goals first | (go_ret; exact ⟨⟨3, rfl, HP.out⟩, hbT.alloc (by omega) _⟩) | exact absurd (by simp at *; omega) HN.out | (exfalso; have q := HN.out; simp at *; omega)
    · have hallA : ∀ j (hj : j < arcs.length), arcB st arcs[j] = true := fun j hj => hall j hj (by omega)
      have HA : Hid (∀ j (hj : j < arcs.length), arcB st arcs[j] = true) := hallA
      clear hallA hall hA
      obtain ⟨wa, rfl⟩ : ∃ wa : World, wa = wr := ⟨_, rfl⟩
      go_wp2
      go_loopw [5] (fun i wr => ∃ k : Nat, i = .int .i64 k ∧ k ≤ fins.length ∧ Below wa.heap.size wa wr ∧ ∀ j (hj : j < fins.length), j < k → finB st fins[j] = true) (fun i _ => fins.length - (intOf i).toNat)
      case atStart => exact ⟨0, rfl, by omega, Below.refl _ _, fun j _ h => by omega⟩
      case round =>
        obtain ⟨m, rfl, hm, hbx, hallF⟩ := hrel
        have hwx := hbx.size
        have x0 : wr.cell? ⟨w.heap.size, 0, none⟩ = some (.int .i64 st) := by rw [hbx.cell (by show w.heap.size < _; omega)]; exact c0
        have x2 : wr.cell? ⟨w.heap.size, 2, none⟩ = some (.slice af fins.length cf) := by rw [hbx.cell (by show w.heap.size < _; omega)]; exact c2
        by_cases hml : m < fins.length
        · have hbq : ∃ b off, af = some ⟨b, off, none⟩ ∧ b < w.heap.size ∧ ∀ j u, (fcs fins)[j]? = some u → wr.cell? ⟨b, off + j, none⟩ = some u := by
            rcases hF with h | ⟨b, off, e, hb, hc⟩
            · omega
            · refine ⟨b, off, e, hb, fun j u hu => ?_⟩
              rw [hbx.cell (p := ⟨b, off + j, none⟩) (by show b < _; omega), hbw.cell (p := ⟨b, off + j, none⟩) (by show b < _; omega), World.cell?_alloc_past _ _ _ hb]
              exact hc j u hu
          obtain ⟨b, off, rfl, hbl, hcs⟩ := hbq
          have u := fcs_at fins m hml
          obtain ⟨f, x, ea⟩ : ∃ f x, fins[m] = (f, x) := ⟨_, _, rfl⟩
          rw [ea] at u
          have p0 := hcs _ _ u.1
          have p1 := hcs _ _ u.2
          rw [← Nat.add_assoc] at p1
          have e0 : ∀ o, (wr.alloc o).cell? ⟨w.heap.size, 0, none⟩ = some (.int .i64 st) := fun o => (World.cell?_alloc_past _ _ _ (by show w.heap.size < _; omega)).trans x0
          have hbT := (hb0.trans (hbw.mono (by omega))).trans (hbx.mono (by omega))
          clear u hcs
          cases hok : finB st (f, x) with
          | true =>
            have hok2 := hok
            unfold finB at hok2
            simp only [decide_eq_true_eq] at hok2
            obtain ⟨g0, g1, g2, g3⟩ := hok2
            have HE : Hid (fins[m] = (f, x)) := ea
            have HK : Hid (finB st (f, x) = true) := hok
            clear ea hok hbT
            go_wp2
            go_roundw
            case rel =>
              refine ⟨m + 1, by go_num, by omega, hbx.alloc (by omega) _, fun j hj hjk => ?_⟩
              by_cases hjk2 : j < m
              · exact hallF j hj hjk2
              · obtain rfl : j = m := by omega
                rw [HE.out]
                exact HK.out
            case measure => simp [intOf]; omega
          | false =>
            have hno := hok
            unfold finB at hno
            simp only [decide_eq_false_iff_not] at hno
            have HP : Hid (checkP ⟨st, arcs, fins⟩ 3) := .inr (.inr (.inl ⟨HS.out, HA.out, ⟨m, hml, by rw [ea]; exact hok⟩, rfl⟩))
            have HN : Hid _ := hno
            clear ea hok hallF hno
            go_wp2
            all_goals first | (go_ret; exact ⟨⟨3, rfl, HP.out⟩, hbT.alloc (by omega) _⟩) | exact absurd (by simp at *; omega) HN.out | (exfalso; have q := HN.out; simp at *; omega)
        · have hallG : ∀ j (hj : j < fins.length), finB st fins[j] = true := fun j hj => hallF j hj (by omega)
          have HG : Hid (∀ j (hj : j < fins.length), finB st fins[j] = true) := hallG
          clear hallF hallG
          obtain ⟨wb, rfl⟩ : ∃ wb : World, wb = wr := ⟨_, rfl⟩
          obtain ⟨n, rfl⟩ : ∃ n : Nat, st = (n : Int) := ⟨st.toNat, by omega⟩
          go_wp2_with (at_make; refine wpList_make_full _ rfl _ _ 67 rfl wb.heap.size 4 i4 (.bool false) 1 Tryd.underlying67 hi4 hz40 hz41 .i64 .i64 _ _ n rfl rfl rfl rfl (by rw [hz42]; omega) (by unfold maxLen; omega) (Nat.le_refl _) ?_; intro wc hown0 hgrow0)
          have hoc : wc.ownsRow wb.heap.size 4 1 (.slice (some ⟨wb.heap.size, 0, none⟩) n n) n ((List.replicate n false).map Value.bool) := by
            have e : (madeCells (Value.cells (.bool false)) (n * 1)).toList = (List.replicate n false).map Value.bool := by
              rw [Nat.mul_one]
              show (madeCells #[.bool false] n).toList = _
              rw [toList_madeCells_one]
              simp
            rw [e] at hown0
            exact hown0
          have hbc : Below wb.heap.size wb wc := (Below.refl _ wb).grown hgrow0 (Nat.le_refl _) (by simp)
          clear hown0 hgrow0
          go_loopw [8] (fun i wr => ∃ (k : Nat) (hs : List Bool), i = .int .i64 k ∧ k ≤ fins.length ∧ Below wb.heap.size wb wr ∧ wr.ownsRow wb.heap.size 4 1 (.slice (some ⟨wb.heap.size, 0, none⟩) n n) n (hs.map Value.bool) ∧ Had n fins k hs ∧ onceK ⟨(n : Int), arcs, fins⟩ k) (fun i _ => fins.length - (intOf i).toNat)
          case atStart => exact ⟨0, _, rfl, by omega, hbc, hoc, Had.zero n fins, fun i j hi hj h1 h2 => by omega⟩
          case round =>
            clear hbc hoc
            obtain ⟨q, hs, rfl, hq, hby, hown, hhad, honce⟩ := hrel
            have hwy := hby.size
            have y0 : wr.cell? ⟨w.heap.size, 0, none⟩ = some (.int .i64 (n : Int)) := by rw [hby.cell (by show w.heap.size < _; omega)]; exact x0
            have y2 : wr.cell? ⟨w.heap.size, 2, none⟩ = some (.slice af fins.length cf) := by rw [hby.cell (by show w.heap.size < _; omega)]; exact x2
            have hbT := ((hb0.trans (hbw.mono (by omega))).trans (hbx.mono (by omega))).trans (hby.mono (by omega))
            by_cases hql : q < fins.length
            · have hbq : ∃ b off, af = some ⟨b, off, none⟩ ∧ b < w.heap.size ∧ ∀ j u, (fcs fins)[j]? = some u → wr.cell? ⟨b, off + j, none⟩ = some u := by
                rcases hF with h | ⟨b, off, e, hb, hc⟩
                · omega
                · refine ⟨b, off, e, hb, fun j u hu => ?_⟩
                  rw [hby.cell (p := ⟨b, off + j, none⟩) (by show b < _; omega), hbx.cell (p := ⟨b, off + j, none⟩) (by show b < _; omega), hbw.cell (p := ⟨b, off + j, none⟩) (by show b < _; omega), World.cell?_alloc_past _ _ _ hb]
                  exact hc j u hu
              obtain ⟨b, off, rfl, hbl, hcs⟩ := hbq
              have u := fcs_at fins q hql
              have hfb := HG.out q hql
              unfold finB at hfb
              simp only [decide_eq_true_eq] at hfb
              obtain ⟨f, ef⟩ : ∃ f : Nat, fins[q].1 = (f : Int) := ⟨(fins[q].1).toNat, by omega⟩
              rw [ef] at u hfb
              have p0 := hcs _ _ u.1
              have hfl : f < hs.length := by rw [hhad.1]; omega
              have hfn : (f : Int) < (n : Int) := hfb.2.1
              have hcf : wr.cell? ⟨wb.heap.size, f, none⟩ = some (.bool hs[f]) := by
                rw [hown.cellAt f (by rw [hhad.1] at hfl; omega)]
                simp [hfl]
              have hff : wr.frozen? ⟨wb.heap.size, f, none⟩ = false := hown.frozenAt f
              have hne1 : ¬ wb.heap.size = w.heap.size := by omega
              have hne2 : ¬ b = wb.heap.size := by omega
              have HF1 : Hid (fins[q].1 = (f : Int)) := ef
              have HH : Hid _ := hhad
              have HO : Hid _ := honce
              clear u hcs ef hfb hhad honce hF
              cases hsf : hs[f] with
              | true =>
                rw [hsf] at hcf
                have HP : Hid (checkP ⟨(n : Int), arcs, fins⟩ 6) := .inr (.inr (.inr (.inl ⟨HS.out, HA.out, HG.out, once_not HH.out hql f HF1.out hfl hsf, rfl⟩)))
                go_wp2
                go_ret
                exact ⟨⟨6, rfl, HP.out⟩, hbT⟩
              | false =>
                rw [hsf] at hcf
                go_wp2
                go_roundw
                case rel =>
                  have hst := hown.stored f (.bool true)
                  refine ⟨q + 1, hs.set f true, by go_num, by omega, hby.grown hst.2 hwy (fun j hj => by cases hj; exact Nat.le_refl _), ?_, Had.step HH.out hql f HF1.out, once_step HO.out HH.out hql f HF1.out hfl hsf⟩
                  rw [List.map_set]
                  exact hst.1
                case measure => simp [intOf]; omega
            · have hon : onceK ⟨(n : Int), arcs, fins⟩ fins.length := by
                obtain rfl : q = fins.length := by omega
                exact honce
              have HP : Hid (checkP ⟨(n : Int), arcs, fins⟩ 0) := .inr (.inr (.inr (.inr ⟨HS.out, HA.out, HG.out, hon, rfl⟩)))
              clear hon
              clear hhad honce hF
              go_wp2
              go_ret
              exact ⟨⟨0, rfl, HP.out⟩, hbT⟩

/-- THE DOCUMENT's CheckMachine -/
theorem check_any (m : M) (v : Value) (w : World) (h : IsM w v m) : Calls Tryd.prog 10 #[v] w fun e w' => (∃ x, e = .returned (.int .i64 x) ∧ checkP m x) ∧ Below w.heap.size w w' := by
  obtain ⟨st, arcs, fins⟩ := m
  obtain ⟨va, vf, rfl, ⟨_, aa, ca, rfl, _, hA⟩, ⟨_, af, cf, rfl, _, hF⟩⟩ := h
  cases hs : sizeB ⟨st, arcs, fins⟩ with
  | true => exact big st arcs fins aa af ca cf w hs hA hF
  | false =>
    refine (small st arcs fins aa af ca cf w hs).mono ?_
    rintro e w' ⟨rfl, hb⟩
    exact ⟨⟨7, rfl, size_no hs⟩, hb⟩
end Go.Proofs.YtfjocafepigijaaDoor.CkR
/- Plain facts on going along silent arcs from a queue, in whatever order: what comes of it is the least. No conditions beyond that arcs are right. -/
namespace Go.Proofs.YtfjocafepigijaaDoor.Wd
open Mv Wk

def far : Nat := 9223372036854775807
/-- what a row has at a state -/
def cv (R : List Nat) (s : Nat) : Nat := R.getD s far
theorem cv_set (R : List Nat) (q v r : Nat) (hq : q < R.length) : cv (R.set q v) r = if q = r then v else cv R r := by
  unfold cv
  rw [List.getD_eq_getElem?_getD, List.getD_eq_getElem?_getD, List.getElem?_set]
  split
  · simp
  · rfl
def fin (R : List Nat) : Nat := R.countP fun x => decide (x < far)
theorem fin_le (R : List Nat) : fin R ≤ R.length := List.countP_le_length
theorem fin_set (R : List Nat) (q v : Nat) (hq : q < R.length) (hv : v < far) : (cv R q < far → fin (R.set q v) = fin R) ∧ (¬ cv R q < far → fin (R.set q v) = fin R + 1) := by
  have e : cv R q = R[q] := by unfold cv; simp [hq]
  unfold fin
  rw [List.countP_set hq, e]
  constructor
  · intro h
    have hp : 0 < R.countP (fun x => decide (x < far)) := List.countP_pos_iff.2 ⟨R[q], List.getElem_mem hq, by simpa using h⟩
    simp [h, hv]
    omega
  · intro h
    simp [h, hv]

abbrev Arc := Int × Int × Int × Int × Int
/-- the silent arcs that leave a state; the arcs of a label -/
def sil (A : List Arc) (f : Nat) : List Arc := A.filter fun a => a.2.2.1 == 0 && a.2.2.2.1 == 0 && a.1 == (f : Int)
def lab (A : List Arc) (i o : Int) : List Arc := A.filter fun a => a.2.2.1 == i && a.2.2.2.1 == o

/-- a row on its way: what it has is come to -/
structure Row (S : Nat) (P : Nat → Nat → Prop) (bd : Nat) (R : List Nat) : Prop where
  len : R.length = S
  top : ∀ s, cv R s ≤ far
  real : ∀ s, s < S → cv R s < far → P s (cv R s)
  small : ∀ s, cv R s < far → cv R s ≤ bd + 1000000 * fin R

/-- what a row weighs, with so much for what is not come to -/
def pot (cap : Nat) (R : List Nat) : Nat := (R.map fun v => if v < far then v else cap).sum
theorem pot_set (cap : Nat) (R : List Nat) (q v : Nat) (hq : q < R.length) : pot cap (R.set q v) + (if cv R q < far then cv R q else cap) = pot cap R + (if v < far then v else cap) := by
  induction R generalizing q with
  | nil => simp at hq
  | cons a R ih =>
    cases q with
    | zero => simp [pot, cv]; omega
    | succ q =>
      have := ih q (by simpa using hq)
      simp [pot, cv] at this ⊢
      omega

theorem relax {S : Nat} {P : Nat → Nat → Prop} {bd : Nat} {R : List Nat} (h : Row S P bd R) (f t W : Nat) (ht : t < S) (hW : W ≤ 1000000) (hf : cv R f < far) (hlt : cv R f + W < cv R t) (hP : P t (cv R f + W)) :
    Row S P bd (R.set t (cv R f + W)) ∧ pot (bd + 1000000 * S + 1) (R.set t (cv R f + W)) < pot (bd + 1000000 * S + 1) R ∧ (∀ s, cv (R.set t (cv R f + W)) s ≤ cv R s) ∧ cv (R.set t (cv R f + W)) t = cv R f + W ∧ (∀ s, s ≠ t → cv (R.set t (cv R f + W)) s = cv R s) ∧ cv R f + W < far := by
  have htl : t < R.length := by rw [h.len]; exact ht
  have hsm := h.small f hf
  have hfl := fin_le R
  rw [h.len] at hfl
  generalize hp : cv R f = p at *
  have hvd : p + W < far := Nat.lt_of_lt_of_le hlt (h.top t)
  have hfs := fin_set R t (p + W) htl hvd
  have hge : fin R ≤ fin (R.set t (p + W)) := by
    by_cases hd : cv R t < far
    · rw [hfs.1 hd]; omega
    · rw [hfs.2 hd]; omega
  have hle : ∀ s, cv (R.set t (p + W)) s ≤ cv R s := by
    intro s
    rw [cv_set R t _ s htl]
    split
    · rename_i e; subst e; omega
    · omega
  have hps := pot_set (bd + 1000000 * S + 1) R t (p + W) htl
  have hfl2 : fin (R.set t (p + W)) ≤ S := by have := fin_le (R.set t (p + W)); rw [List.length_set, h.len] at this; exact this
  have hsv : p + W ≤ bd + 1000000 * fin (R.set t (p + W)) := by
    by_cases hd : cv R t < far
    · have := h.small t hd
      rw [hfs.1 hd]
      omega
    · rw [hfs.2 hd]
      omega
  have hmul : 1000000 * fin (R.set t (p + W)) ≤ 1000000 * S := Nat.mul_le_mul_left _ hfl2
  refine ⟨⟨by rw [List.length_set]; exact h.len, ?_, ?_, ?_⟩, ?_, hle, by rw [cv_set R t _ t htl]; simp, fun s hs => by rw [cv_set R t _ s htl, if_neg (fun e => hs e.symm)], hvd⟩
  · intro s
    exact Nat.le_trans (hle s) (h.top s)
  · intro s hs
    rw [cv_set R t _ s htl]
    split
    · rename_i e; subst e; intro _; exact hP
    · exact h.real s hs
  · intro s
    rw [cv_set R t _ s htl]
    split
    · intro _; exact hsv
    · intro hd
      have := h.small s hd
      omega
  · rw [if_pos hvd] at hps
    split at hps <;> omega

/-- an entry of the queue -/
def Ent (S : Nat) (R : List Nat) (e : Int × Int) : Prop := ∃ c s : Nat, e = ((c : Int), (s : Int)) ∧ s < S ∧ c < far ∧ cv R s ≤ c
/-- no silent arc of a state betters anything -/
def Done (A : List Arc) (R : List Nat) (f : Nat) : Prop := ∀ a ∈ sil A f, ∀ t W : Nat, a.2.1 = (t : Int) → a.2.2.2.2 = (W : Int) → cv R t ≤ cv R f + W
structure Dij (A : List Arc) (S : Nat) (P : Nat → Nat → Prop) (bd : Nat) (H R : List Nat) (es : List (Int × Int)) : Prop where
  row : Row S P bd R
  le : ∀ s, cv R s ≤ cv H s
  q : ∀ e ∈ es, Ent S R e
  rel : ∀ f, f < S → cv R f < far → ((cv R f : Int), (f : Int)) ∈ es ∨ Done A R f
  qb : es.length + pot (bd + 1000000 * S + 1) R ≤ S + pot (bd + 1000000 * S + 1) H
/-- while the silent arcs of f are gone along: the first y are -/
structure Inn (A : List Arc) (S : Nat) (P : Nat → Nat → Prop) (bd : Nat) (H : List Nat) (f c M : Nat) (R : List Nat) (es : List (Int × Int)) (y : Nat) : Prop where
  row : Row S P bd R
  le : ∀ s, cv R s ≤ cv H s
  q : ∀ e ∈ es, Ent S R e
  here : cv R f = c
  done : ∀ k, k < y → ∀ h : k < (sil A f).length, ∀ t W : Nat, ((sil A f)[k]).2.1 = (t : Int) → ((sil A f)[k]).2.2.2.2 = (W : Int) → cv R t ≤ c + W
  rel : ∀ g, g < S → g ≠ f → cv R g < far → ((cv R g : Int), (g : Int)) ∈ es ∨ Done A R g
  qb : es.length + pot (bd + 1000000 * S + 1) R ≤ S + pot (bd + 1000000 * S + 1) H
  ms : 2 * pot (bd + 1000000 * S + 1) R + es.length ≤ M

theorem Ent.mono {S : Nat} {R R' : List Nat} {e : Int × Int} (h : Ent S R e) (hle : ∀ s, cv R' s ≤ cv R s) : Ent S R' e := by
  obtain ⟨c, s, e1, h1, h2, h3⟩ := h
  exact ⟨c, s, e1, h1, h2, Nat.le_trans (hle s) h3⟩
/-- an entry is taken that is no longer so cheap -/
theorem Dij.stale {A : List Arc} {S : Nat} {P : Nat → Nat → Prop} {bd : Nat} {H R : List Nat} {es es' : List (Int × Int)} {c f : Nat} (h : Dij A S P bd H R es) (hp : es.Perm (((c : Int), (f : Int)) :: es')) (hc : cv R f < c) : Dij A S P bd H R es' := by
  refine ⟨h.row, h.le, fun e he => h.q e (hp.mem_iff.2 (List.mem_cons_of_mem _ he)), fun g hg hd => ?_, ?_⟩
  · rcases h.rel g hg hd with h1 | h1
    · rcases List.mem_cons.1 (hp.mem_iff.1 h1) with h2 | h2
      · simp only [Prod.mk.injEq] at h2
        have : g = f := by omega
        subst this
        omega
      · exact .inl h2
    · exact .inr h1
  · have := hp.length_eq
    have := h.qb
    simp only [List.length_cons] at *
    omega
theorem Dij.take {A : List Arc} {S : Nat} {P : Nat → Nat → Prop} {bd : Nat} {H R : List Nat} {es es' : List (Int × Int)} {c f : Nat} (h : Dij A S P bd H R es) (hp : es.Perm (((c : Int), (f : Int)) :: es')) (hc : cv R f = c) : Inn A S P bd H f c (2 * pot (bd + 1000000 * S + 1) R + es'.length) R es' 0 := by
  refine ⟨h.row, h.le, fun e he => h.q e (hp.mem_iff.2 (List.mem_cons_of_mem _ he)), hc, fun k hk => absurd hk (Nat.not_lt_zero _), fun g hg hgf hd => ?_, ?_, Nat.le_refl _⟩
  · rcases h.rel g hg hd with h1 | h1
    · rcases List.mem_cons.1 (hp.mem_iff.1 h1) with h2 | h2
      · simp only [Prod.mk.injEq] at h2
        exact absurd (show g = f by omega) hgf
      · exact .inl h2
    · exact .inr h1
  · have := hp.length_eq
    have := h.qb
    simp only [List.length_cons] at *
    omega
theorem Inn.skip {A : List Arc} {S : Nat} {P : Nat → Nat → Prop} {bd : Nat} {H : List Nat} {f c M : Nat} {R : List Nat} {es : List (Int × Int)} {y t W : Nat} (h : Inn A S P bd H f c M R es y) (hy : y < (sil A f).length) (ht : ((sil A f)[y]).2.1 = (t : Int)) (hW : ((sil A f)[y]).2.2.2.2 = (W : Int)) (hge : ¬ c + W < cv R t) : Inn A S P bd H f c M R es (y + 1) := by
  refine ⟨h.row, h.le, h.q, h.here, fun k hk hkl t' W' e1 e2 => ?_, h.rel, h.qb, h.ms⟩
  by_cases e : k = y
  · subst e
    rw [ht] at e1
    rw [hW] at e2
    have : t = t' := by omega
    have : W = W' := by omega
    subst_vars
    omega
  · exact h.done k (by omega) hkl t' W' e1 e2
theorem Inn.took {A : List Arc} {S : Nat} {P : Nat → Nat → Prop} {bd : Nat} {H : List Nat} {f c M : Nat} {R : List Nat} {es es' : List (Int × Int)} {y t W : Nat} (h : Inn A S P bd H f c M R es y) (hy : y < (sil A f).length) (ht : ((sil A f)[y]).2.1 = (t : Int)) (hW : ((sil A f)[y]).2.2.2.2 = (W : Int)) (hts : t < S) (hWb : W ≤ 1000000) (hcf : c < far) (hP : P t (c + W)) (hlt : c + W < cv R t) (hp : es'.Perm ((((c + W : Nat) : Int), (t : Int)) :: es)) :
    Inn A S P bd H f c M (R.set t (c + W)) es' (y + 1) := by
  obtain ⟨r1, r2, r3, r4, r5, r6⟩ := relax h.row f t W hts hWb (by rw [h.here]; exact hcf) (by rw [h.here]; exact hlt) (by rw [h.here]; exact hP)
  rw [h.here] at r1 r2 r3 r4 r5 r6
  have hne : f ≠ t := fun e => by subst e; have := h.here; omega
  have hlen := hp.length_eq
  have hqb := h.qb
  have hms := h.ms
  simp only [List.length_cons] at hlen
  refine ⟨r1, fun s => Nat.le_trans (r3 s) (h.le s), fun e he => ?_, by rw [r5 f hne]; exact h.here, fun k hk hkl t' W' e1 e2 => ?_, fun g hg hgf hd => ?_, by omega, by omega⟩
  · rcases List.mem_cons.1 (hp.mem_iff.1 he) with rfl | h2
    · exact ⟨c + W, t, rfl, hts, r6, by rw [r4]; exact Nat.le_refl _⟩
    · exact (h.q e h2).mono r3
  · by_cases e : k = y
    · subst e
      rw [ht] at e1
      rw [hW] at e2
      have : t = t' := by omega
      have : W = W' := by omega
      subst_vars
      rw [r4]
      exact Nat.le_refl _
    · exact Nat.le_trans (r3 t') (h.done k (by omega) hkl t' W' e1 e2)
  · by_cases e : g = t
    · subst e
      exact .inl (hp.mem_iff.2 (by rw [r4]; exact List.mem_cons_self))
    · rw [r5 g e] at hd ⊢
      rcases h.rel g hg hgf hd with h1 | h1
      · exact .inl (hp.mem_iff.2 (List.mem_cons_of_mem _ h1))
      · refine .inr (fun a ha t' W' e1 e2 => ?_)
        rw [r5 g e]
        exact Nat.le_trans (r3 t') (h1 a ha t' W' e1 e2)
theorem Inn.fin {A : List Arc} {S : Nat} {P : Nat → Nat → Prop} {bd : Nat} {H : List Nat} {f c M : Nat} {R : List Nat} {es : List (Int × Int)} (h : Inn A S P bd H f c M R es (sil A f).length) : Dij A S P bd H R es := by
  refine ⟨h.row, h.le, h.q, fun g hg hd => ?_, h.qb⟩
  by_cases e : g = f
  · subst e
    refine .inr (fun a ha t W e1 e2 => ?_)
    obtain ⟨k, hk, rfl⟩ := List.getElem_of_mem ha
    rw [h.here]
    exact h.done k hk hk t W e1 e2
  · exact h.rel g hg e hd
/-- the first loop: what is come to waits -/
structure Ph (A : List Arc) (S : Nat) (H : List Nat) (k : Nat) (es : List (Int × Int)) : Prop where
  q : ∀ e ∈ es, Ent S H e
  rel : ∀ f, f < k → cv H f < far → ((cv H f : Int), (f : Int)) ∈ es ∨ sil A f = []
  len : es.length ≤ k
theorem Ph.start (A : List Arc) (S : Nat) (H : List Nat) : Ph A S H 0 [] := ⟨fun _ he => (List.not_mem_nil he).elim, fun _ hf => absurd hf (Nat.not_lt_zero _), Nat.le_refl _⟩
theorem Ph.skip {A : List Arc} {S : Nat} {H : List Nat} {k : Nat} {es : List (Int × Int)} (h : Ph A S H k es) (hs : ¬ cv H k < far ∨ sil A k = []) : Ph A S H (k + 1) es := by
  refine ⟨h.q, fun f hf hd => ?_, Nat.le_succ_of_le h.len⟩
  by_cases e : f = k
  · subst e
    rcases hs with hs | hs
    · exact absurd hd hs
    · exact .inr hs
  · exact h.rel f (by omega) hd
theorem Ph.push {A : List Arc} {S : Nat} {H : List Nat} {k : Nat} {es es' : List (Int × Int)} (h : Ph A S H k es) (hk : k < S) (hd : cv H k < far) (hp : es'.Perm (((cv H k : Int), (k : Int)) :: es)) : Ph A S H (k + 1) es' := by
  have hlen := hp.length_eq
  have hl := h.len
  simp only [List.length_cons] at hlen
  refine ⟨fun e he => ?_, fun f hf hd' => ?_, by omega⟩
  · rcases List.mem_cons.1 (hp.mem_iff.1 he) with rfl | h2
    · exact ⟨cv H k, k, rfl, hk, hd, Nat.le_refl _⟩
    · exact h.q e h2
  · by_cases e : f = k
    · subst e
      exact .inl (hp.mem_iff.2 List.mem_cons_self)
    · rcases h.rel f (by omega) hd' with h1 | h1
      · exact .inl (hp.mem_iff.2 (List.mem_cons_of_mem _ h1))
      · exact .inr h1
theorem Ph.fin {A : List Arc} {S : Nat} {P : Nat → Nat → Prop} {bd : Nat} {H : List Nat} {es : List (Int × Int)} (h : Ph A S H S es) (hr : Row S P bd H) : Dij A S P bd H H es := by
  refine ⟨hr, fun _ => Nat.le_refl _, h.q, fun f hf hd => ?_, Nat.add_le_add_right h.len _⟩
  rcases h.rel f hf hd with h1 | h1
  · exact .inl h1
  · exact .inr (fun a ha => by rw [h1] at ha; exact (List.not_mem_nil ha).elim)
/-- a row along which no silent arc betters anything -/
structure Settled (A : List Arc) (S : Nat) (P : Nat → Nat → Prop) (bd : Nat) (H R : List Nat) : Prop where
  row : Row S P bd R
  le : ∀ s, cv R s ≤ cv H s
  done : ∀ f, f < S → cv R f < far → Done A R f
theorem Dij.fin {A : List Arc} {S : Nat} {P : Nat → Nat → Prop} {bd : Nat} {H R : List Nat} (h : Dij A S P bd H R []) : Settled A S P bd H R :=
  ⟨h.row, h.le, fun f hf hd => (h.rel f hf hd).resolve_left (List.not_mem_nil)⟩
theorem pot_le {S : Nat} {P : Nat → Nat → Prop} {bd : Nat} {R : List Nat} (h : Row S P bd R) : pot (bd + 1000000 * S + 1) R ≤ S * (bd + 1000000 * S + 1) := by
  have hfl := fin_le R
  rw [h.len] at hfl
  have hm : 1000000 * fin R ≤ 1000000 * S := Nat.mul_le_mul_left _ hfl
  have key : ∀ L : List Nat, (∀ v ∈ L, (if v < far then v else bd + 1000000 * S + 1) ≤ bd + 1000000 * S + 1) → pot (bd + 1000000 * S + 1) L ≤ L.length * (bd + 1000000 * S + 1) := by
    intro L hL
    induction L with
    | nil => simp [pot]
    | cons a L ih =>
      have h1 := ih (fun v hv => hL v (List.mem_cons_of_mem _ hv))
      have h2 := hL a List.mem_cons_self
      have e : pot (bd + 1000000 * S + 1) (a :: L) = (if a < far then a else bd + 1000000 * S + 1) + pot (bd + 1000000 * S + 1) L := by simp [pot]
      rw [e, List.length_cons, Nat.add_mul, Nat.one_mul]
      omega
  have := key R (fun v hv => by
    split
    · rename_i hd
      obtain ⟨k, hk, rfl⟩ := List.getElem_of_mem hv
      have e : cv R k = R[k] := by unfold cv; simp [hk]
      have := h.small k (by rw [e]; exact hd)
      rw [e] at this
      omega
    · omega)
  rw [h.len] at this
  exact this
end Go.Proofs.YtfjocafepigijaaDoor.Wd
