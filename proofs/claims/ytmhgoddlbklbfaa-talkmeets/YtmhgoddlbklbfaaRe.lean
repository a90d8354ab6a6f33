/- The document's Hear. Conditions: the talker lies in memory and has at most twenty entries; what is told does not lie in its own memory. -/
import Derived.Test.YtmhgoddlbklbfaaRd
namespace Go.Proofs.Ytmhgoddlbklbfaa.Ra
open Go.RowKit Ta Tb

def shutO (t : To) : To := { t with op := false }
def hearQ (r : En) (t : To) : En :=
  if laterB (shutO t) (shutQ r) then ⟨t.sl, t.ver, t.who, t.val, true, t.op⟩
  else if sameB (shutQ r) (shutO t) then { r with kn := true, ow := r.ow || t.op } else r
def hear1Q (rs : List En) (t : To) : List En := match rs[t.sl.toNat]? with
  | some r => rs.set t.sl.toNat (hearQ r t)
  | none => rs
def hearAllQ (rs : List En) (l : List To) : List En := l.foldl hear1Q rs
theorem hear1Q_length (rs : List En) (t : To) : (hear1Q rs t).length = rs.length := by unfold hear1Q; split <;> simp
theorem hearAllQ_length (rs : List En) (l : List To) : (hearAllQ rs l).length = rs.length := by
  unfold hearAllQ
  induction l generalizing rs with
  | nil => rfl
  | cons t l ih => simp only [List.foldl_cons]; rw [ih, hear1Q_length]
theorem hearAllQ_succ (rs : List En) (l : List To) {i : Nat} (hi : i < l.length) : hearAllQ rs (l.take (i + 1)) = hear1Q (hearAllQ rs (l.take i)) l[i] := by
  unfold hearAllQ
  rw [List.take_succ_eq_append_getElem hi, List.foldl_append]
  rfl
theorem hear1Q_some {rs : List En} {t : To} {k : Nat} (hk : t.sl = (k : Int)) (h : k < rs.length) : hear1Q rs t = rs.set k (hearQ rs[k] t) := by
  unfold hear1Q
  rw [hk, show ((k : Int)).toNat = k from rfl, List.getElem?_eq_getElem h]

theorem firstE_zero {N : Nat} : ∀ {l : List To} (_ : firstE N l = 0) {j : Nat} (hj : j < l.length), wrongT N l[j] = 0
  | t :: l, h, j, hj => by
    have h0 : wrongT N t = 0 := by
      simp only [firstE, List.foldr_cons] at h
      split at h
      · exact h
      · rename_i hn; exact Classical.not_not.1 hn
    cases j with
    | zero => exact h0
    | succ j =>
      have h1 : firstE N l = 0 := by
        simp only [firstE, List.foldr_cons] at h
        rw [if_neg (by rw [h0]; simp)] at h
        exact h
      exact firstE_zero h1 (by simpa using hj)
theorem ko_off {w w2 W' : World} {s B : Nat} (h : Ko w w2 s) (hk : Ko w2 W' B) (hB : w.heap.size ≤ B) : Ko w W' s := ⟨Nat.le_trans h.1 hk.1, fun c hc hl => (hk.2 c (by omega) (Nat.lt_of_lt_of_le hl h.1)).trans (h.2 c hc hl), hk.os.trans h.os, hk.tape.trans h.tape, hk.output.trans h.output⟩
theorem box9 {w : World} {B : Nat} {a0 a1 a2 a3 a4 a5 a6 : Value} (h : w.heap[B]? = some (.cells #[a0, a1, a2, a3, a4, a5, a6] 64 (0, 0))) (b0 b1 b2 b3 b4 b5 b6 c5 c6 : Value) :
    (((((((((w.setCell ⟨B, 0, none⟩ b0).setCell ⟨B, 1, none⟩ b1).setCell ⟨B, 2, none⟩ b2).setCell ⟨B, 3, none⟩ b3).setCell ⟨B, 4, none⟩ b4).setCell ⟨B, 5, none⟩ b5).setCell ⟨B, 6, none⟩ b6).setCell ⟨B, 5, none⟩ c5).setCell ⟨B, 6, none⟩ c6).heap[B]? = some (.cells #[b0, b1, b2, b3, b4, c5, c6] 64 (0, 0)) ∧
    Ko w (((((((((w.setCell ⟨B, 0, none⟩ b0).setCell ⟨B, 1, none⟩ b1).setCell ⟨B, 2, none⟩ b2).setCell ⟨B, 3, none⟩ b3).setCell ⟨B, 4, none⟩ b4).setCell ⟨B, 5, none⟩ b5).setCell ⟨B, 6, none⟩ b6).setCell ⟨B, 5, none⟩ c5).setCell ⟨B, 6, none⟩ c6) B ∧
    ∀ c, c ≠ B → (((((((((w.setCell ⟨B, 0, none⟩ b0).setCell ⟨B, 1, none⟩ b1).setCell ⟨B, 2, none⟩ b2).setCell ⟨B, 3, none⟩ b3).setCell ⟨B, 4, none⟩ b4).setCell ⟨B, 5, none⟩ b5).setCell ⟨B, 6, none⟩ b6).setCell ⟨B, 5, none⟩ c5).setCell ⟨B, 6, none⟩ c6).heap[c]? = w.heap[c]? := by
  have e0 := heap_setCell_same w B 0 _ 64 b0 h
  rw [show (#[a0, a1, a2, a3, a4, a5, a6] : Array Value).setIfInBounds 0 b0 = #[b0, a1, a2, a3, a4, a5, a6] from by simp] at e0
  have e1 := heap_setCell_same _ B 1 _ 64 b1 e0
  rw [show (#[b0, a1, a2, a3, a4, a5, a6] : Array Value).setIfInBounds 1 b1 = #[b0, b1, a2, a3, a4, a5, a6] from by simp] at e1
  have e2 := heap_setCell_same _ B 2 _ 64 b2 e1
  rw [show (#[b0, b1, a2, a3, a4, a5, a6] : Array Value).setIfInBounds 2 b2 = #[b0, b1, b2, a3, a4, a5, a6] from by simp] at e2
  have e3 := heap_setCell_same _ B 3 _ 64 b3 e2
  rw [show (#[b0, b1, b2, a3, a4, a5, a6] : Array Value).setIfInBounds 3 b3 = #[b0, b1, b2, b3, a4, a5, a6] from by simp] at e3
  have e4 := heap_setCell_same _ B 4 _ 64 b4 e3
  rw [show (#[b0, b1, b2, b3, a4, a5, a6] : Array Value).setIfInBounds 4 b4 = #[b0, b1, b2, b3, b4, a5, a6] from by simp] at e4
  have e5 := heap_setCell_same _ B 5 _ 64 b5 e4
  rw [show (#[b0, b1, b2, b3, b4, a5, a6] : Array Value).setIfInBounds 5 b5 = #[b0, b1, b2, b3, b4, b5, a6] from by simp] at e5
  have e6 := heap_setCell_same _ B 6 _ 64 b6 e5
  rw [show (#[b0, b1, b2, b3, b4, b5, a6] : Array Value).setIfInBounds 6 b6 = #[b0, b1, b2, b3, b4, b5, b6] from by simp] at e6
  have e7 := heap_setCell_same _ B 5 _ 64 c5 e6
  rw [show (#[b0, b1, b2, b3, b4, b5, b6] : Array Value).setIfInBounds 5 c5 = #[b0, b1, b2, b3, b4, c5, b6] from by simp] at e7
  have e8 := heap_setCell_same _ B 6 _ 64 c6 e7
  rw [show (#[b0, b1, b2, b3, b4, c5, b6] : Array Value).setIfInBounds 6 c6 = #[b0, b1, b2, b3, b4, c5, c6] from by simp] at e8
  refine ⟨e8, (((((((((ko_set _ _ _ _).trans (ko_set _ _ _ _)).trans (ko_set _ _ _ _)).trans (ko_set _ _ _ _)).trans (ko_set _ _ _ _)).trans (ko_set _ _ _ _)).trans (ko_set _ _ _ _)).trans (ko_set _ _ _ _)).trans (ko_set _ _ _ _)), fun c hc => ?_⟩
  simp only [heap_setCell_other _ (⟨B, _, none⟩ : Addr) c _ hc]
theorem grown2 {wr w2 : World} {a b : Obj} (hb : Below ((wr.alloc a).alloc b).drew.heap.size ((wr.alloc a).alloc b).drew w2) : w2.heap[wr.heap.size]? = some a ∧ w2.heap[wr.heap.size + 1]? = some b ∧ Below wr.heap.size wr w2 ∧ wr.heap.size + 2 ≤ w2.heap.size := by
  have t := two wr a b
  have e : ((wr.alloc a).alloc b).drew.heap.size = wr.heap.size + 2 := t.2.2
  have hs := hb.size
  rw [e] at hb hs
  exact ⟨(hb.block _ (by omega)).trans t.1, (hb.block _ (by omega)).trans t.2.1, (((Below.refl _ wr).alloc (Nat.le_refl _) a).alloc (by simp) b).drew.trans (hb.mono (by omega)), hs⟩

theorem isT_ko {w w' : World} {a : Option Addr} {l : List To} {b : Nat} (h : IsT w a l) (hk : Ko w w' b) (ha : l.length = 0 ∨ Away a b) : IsT w' a l := by
  rcases ha with h0 | ha
  · exact ⟨h.1, .inl h0⟩
  · exact h.ko hk ha
set_option maxHeartbeats 8000000 in
theorem hear_doc {w : World} {base q s cap c : Nat} {W : Int} {rs : List En} {a : Option Addr} {l : List To} (h : Rk w base q s cap W rs) (hl : IsT w a l) (ha : l.length = 0 ∨ Away a s) :
    Calls Try.prog 15 #[.pointer (some ⟨q, 0, none⟩), .slice a l.length c] w fun e w' => e = .returned (.int .i64 (hearE rs.length l)) ∧ Rk w' base q s cap W (if hearE rs.length l = 0 then hearAllQ rs l else rs) ∧ Ko w w' s := by
  obtain ⟨N, hNN⟩ : ∃ N, rs.length = N := ⟨_, rfl⟩
  have K26 := wrong_told (c := c) (N := N) hl
  have hd := h.head.2
  rw [hNN] at hd ⊢
  obtain ⟨F, hF⟩ : ∃ F, hearE N l = F := ⟨_, rfl⟩
  rw [hF] at K26 ⊢
  have HF : Hid (hearE N l = F) := hF
  have HN : Hid (rs.length = N) := hNN
  have HT : Hid (Rk w base q s cap W rs) := h
  have HL : Hid (IsT w a l) := hl
  have hln := hl.1
  clear hF hNN
  by_cases hF0 : F = 0
  · have bF : (F != 0) = false := by simp [hF0]
    rw [if_pos hF0]
    have HW : Hid (∀ j (h : j < l.length), wrongT N l[j] = 0) := by
      show ∀ j (h : j < l.length), wrongT N l[j] = 0
      have h0 := HF.out.trans hF0
      unfold hearE at h0
      split at h0
      · cases h0
      · exact fun j hj => firstE_zero h0 hj
    have HF0 : Hid (F = 0) := hF0
    have hq := h.lt.1
    have hs := h.lt.2
    clear hF0 h hl
    go_enter Try.func15, Try.ntmps15
    go_wp2_with (go_at_call 26; (with_reducible refine K26.mono ?_); rintro e w1 ⟨rfl, hb1⟩)
    go_loopw [6, 7, 8, 9] (fun iv _ _ _ wr => ∃ (i : Nat), iv = .int .i64 (i : Int) ∧ i ≤ l.length ∧ Rk wr base q s cap W (hearAllQ rs (l.take i)) ∧ Ko w wr s) (fun iv _ _ _ _ => l.length - (intOf iv).toNat)
    case atStart => exact ⟨0, rfl, by omega, by simpa [hearAllQ] using HT.out.below hb1, ko_below hb1⟩
    case round =>
      obtain ⟨k, rfl, hk, hT, hK⟩ := hrel
      by_cases hkl : k < l.length
      · have hkl' : (k : Int) < (l.length : Int) := by omega
        obtain ⟨g, off, rfl, hg, c0, c1, c2, c3, c4⟩ := (HL.out.ko hK (ha.resolve_left (by omega))).at hkl
        obtain ⟨w1', w2', _, w4⟩ := wrong_ok (HW.out k hkl)
        obtain ⟨m, hm⟩ : ∃ m : Nat, l[k].sl = (m : Int) := ⟨l[k].sl.toNat, by omega⟩
        have hmN : m < N := by omega
        have hmi : (m : Int) < (N : Int) := by omega
        have hml : m < (hearAllQ rs (l.take k)).length := by rw [hearAllQ_length, HN.out]; exact hmN
        have HS : Hid (hearAllQ rs (l.take (k + 1)) = (hearAllQ rs (l.take k)).set m (hearQ (hearAllQ rs (l.take k))[m] l[k])) := (hearAllQ_succ rs l hkl).trans (hear1Q_some hm hml)
        have hd' := hT.head.2
        rw [hearAllQ_length, HN.out] at hd'
        have gs := hT.slot hml
        have fz := hT.frozen
        have hqr : q < wr.heap.size := hT.lt.1
        have hsr : s < wr.heap.size := hT.lt.2
        rw [hm] at c0
        obtain ⟨r, hr⟩ : ∃ r, (hearAllQ rs (l.take k))[m] = r := ⟨_, rfl⟩
        rw [hr] at gs HS
        have HR : Hid ((hearAllQ rs (l.take k))[m] = r) := hr
        obtain ⟨r0, r1, r2, r3, r4, r5⟩ := r
        dsimp only at gs
        obtain ⟨g0, g1, g2, g3, g4, g5, g6⟩ := gs
        obtain ⟨⟨t0, t1, t2, t3, t4⟩, ht⟩ : ∃ t, l[k] = t := ⟨_, rfl⟩
        rw [ht] at HS c1 c2 c3 c4 hm
        dsimp only at c1 c2 c3 c4 hm
        have HM : Hid (t0 = (m : Int)) := hm
        have KL := later_any ⟨(m : Int), t1, t2, t3, false⟩ ⟨r0, r1, r2, r3, false⟩
        unfold vt at KL
        dsimp only at KL
        clear hm ht w1' w2' hr hd
        have HTk : Hid (Rk wr base q s cap W (hearAllQ rs (l.take k))) := hT
        have HQ := eql44
        obtain ⟨Lb, hLb⟩ : ∃ Lb, laterB ⟨(m : Int), t1, t2, t3, false⟩ ⟨r0, r1, r2, r3, false⟩ = Lb := ⟨_, rfl⟩
        rw [hLb] at KL
        have HLb : Hid (laterB ⟨(m : Int), t1, t2, t3, false⟩ ⟨r0, r1, r2, r3, false⟩ = Lb) := hLb
        obtain ⟨Eb, hEb⟩ : ∃ Eb, sameB ⟨r0, r1, r2, r3, false⟩ ⟨(m : Int), t1, t2, t3, false⟩ = Eb := ⟨_, rfl⟩
        have HEb : Hid (sameB ⟨r0, r1, r2, r3, false⟩ ⟨(m : Int), t1, t2, t3, false⟩ = Eb) := hEb
        have hself := sameB_self ⟨(m : Int), t1, t2, t3, false⟩
        clear hLb hT
        cases Lb
        · cases Eb
          · have HX : Hid (hearQ ⟨r0, r1, r2, r3, r4, r5⟩ ⟨t0, t1, t2, t3, t4⟩ = (⟨r0, r1, r2, r3, r4, r5⟩ : En)) := by (show hearQ ⟨r0, r1, r2, r3, r4, r5⟩ ⟨t0, t1, t2, t3, t4⟩ = _; unfold hearQ shutO shutQ; dsimp only; rw [HM.out]; simp [HLb.out, HEb.out])
            rw [HX.out] at HS
            go_wp2_with fail
            go_region
            go_wp2_with (go_at_call 19; (with_reducible refine (KL _).mono ?_); rintro e w2 ⟨rfl, hb2⟩; have gg := grown2 hb2; obtain ⟨gB1, gB2, hbl, hsz⟩ := gg; have y0 := cell_of_row _ _ 0 _ _ _ gB1; have y1 := cell_of_row _ _ 1 _ _ _ gB1; have y2 := cell_of_row _ _ 2 _ _ _ gB1; have y3 := cell_of_row _ _ 3 _ _ _ gB1; have y4 := cell_of_row _ _ 4 _ _ _ gB1; have z0 := cell_of_row _ _ 0 _ _ _ gB2; have z1 := cell_of_row _ _ 1 _ _ _ gB2; have z2 := cell_of_row _ _ 2 _ _ _ gB2; have z3 := cell_of_row _ _ 3 _ _ _ gB2; have z4 := cell_of_row _ _ 4 _ _ _ gB2; have z5 := cell_of_row _ _ 5 _ _ _ gB2; have z6 := cell_of_row _ _ 6 _ _ _ gB2; have fB := fun j => frozen_of_row _ _ j _ _ gB2; have T2 := HTk.out.below hbl; have hd2 := T2.head.2; rw [hearAllQ_length, HN.out] at hd2; have gs2 := T2.slot hml; rw [HR.out] at gs2; dsimp only at gs2; obtain ⟨g0', g1', g2', g3', g4', g5', g6'⟩ := gs2; have fz2 := T2.frozen; have hB1s : wr.heap.size ≠ s := (Nat.ne_of_gt hsr); have hB2s : wr.heap.size + 1 ≠ s := (by omega); have hB2q : wr.heap.size + 1 ≠ q := (by omega); clear g0 g1 g2 g3 g4 g5 g6 gB1 gB2 c0 c1 c2 c3 c4 hd' fz)
            go_region
            go_wp2
            go_roundw
            case rel => exact ⟨k + 1, by go_num, by omega, by rw [HS.out]; exact (ent_world (T2.ko (X := wr.heap.size + 1) (by first | exact Ko.refl _ _ | exact ko_set _ _ _ _ | exact (ko_set _ _ _ _).trans (ko_set _ _ _ _) | exact (((((((ko_set _ _ _ _).trans (ko_set _ _ _ _)).trans (ko_set _ _ _ _)).trans (ko_set _ _ _ _)).trans (ko_set _ _ _ _)).trans (ko_set _ _ _ _)).trans (ko_set _ _ _ _)) | exact (((((((((ko_set _ _ _ _).trans (ko_set _ _ _ _)).trans (ko_set _ _ _ _)).trans (ko_set _ _ _ _)).trans (ko_set _ _ _ _)).trans (ko_set _ _ _ _)).trans (ko_set _ _ _ _)).trans (ko_set _ _ _ _)).trans (ko_set _ _ _ _))) hB2q.symm hB2s.symm) hml (⟨r0, r1, r2, r3, r4, r5⟩ : En)).1.drew, ko_drew ((ko_off (hK.then hbl) (B := wr.heap.size + 1) (by first | exact Ko.refl _ _ | exact ko_set _ _ _ _ | exact (ko_set _ _ _ _).trans (ko_set _ _ _ _) | exact (((((((ko_set _ _ _ _).trans (ko_set _ _ _ _)).trans (ko_set _ _ _ _)).trans (ko_set _ _ _ _)).trans (ko_set _ _ _ _)).trans (ko_set _ _ _ _)).trans (ko_set _ _ _ _)) | exact (((((((((ko_set _ _ _ _).trans (ko_set _ _ _ _)).trans (ko_set _ _ _ _)).trans (ko_set _ _ _ _)).trans (ko_set _ _ _ _)).trans (ko_set _ _ _ _)).trans (ko_set _ _ _ _)).trans (ko_set _ _ _ _)).trans (ko_set _ _ _ _))) (by have := hK.1; omega)).trans (ent_world (T2.ko (X := wr.heap.size + 1) (by first | exact Ko.refl _ _ | exact ko_set _ _ _ _ | exact (ko_set _ _ _ _).trans (ko_set _ _ _ _) | exact (((((((ko_set _ _ _ _).trans (ko_set _ _ _ _)).trans (ko_set _ _ _ _)).trans (ko_set _ _ _ _)).trans (ko_set _ _ _ _)).trans (ko_set _ _ _ _)).trans (ko_set _ _ _ _)) | exact (((((((((ko_set _ _ _ _).trans (ko_set _ _ _ _)).trans (ko_set _ _ _ _)).trans (ko_set _ _ _ _)).trans (ko_set _ _ _ _)).trans (ko_set _ _ _ _)).trans (ko_set _ _ _ _)).trans (ko_set _ _ _ _)).trans (ko_set _ _ _ _))) hB2q.symm hB2s.symm) hml (⟨r0, r1, r2, r3, r4, r5⟩ : En)).2)⟩
            case measure => simp [intOf]; omega
          · cases r5
            · have HX : Hid (hearQ ⟨r0, r1, r2, r3, r4, false⟩ ⟨t0, t1, t2, t3, t4⟩ = (⟨r0, r1, r2, r3, true, t4⟩ : En)) := by (show hearQ ⟨r0, r1, r2, r3, r4, false⟩ ⟨t0, t1, t2, t3, t4⟩ = _; unfold hearQ shutO shutQ; dsimp only; rw [HM.out]; simp [HLb.out, HEb.out])
              rw [HX.out] at HS
              go_wp2_with fail
              go_region
              go_wp2_with (go_at_call 19; (with_reducible refine (KL _).mono ?_); rintro e w2 ⟨rfl, hb2⟩; have gg := grown2 hb2; obtain ⟨gB1, gB2, hbl, hsz⟩ := gg; have y0 := cell_of_row _ _ 0 _ _ _ gB1; have y1 := cell_of_row _ _ 1 _ _ _ gB1; have y2 := cell_of_row _ _ 2 _ _ _ gB1; have y3 := cell_of_row _ _ 3 _ _ _ gB1; have y4 := cell_of_row _ _ 4 _ _ _ gB1; have z0 := cell_of_row _ _ 0 _ _ _ gB2; have z1 := cell_of_row _ _ 1 _ _ _ gB2; have z2 := cell_of_row _ _ 2 _ _ _ gB2; have z3 := cell_of_row _ _ 3 _ _ _ gB2; have z4 := cell_of_row _ _ 4 _ _ _ gB2; have z5 := cell_of_row _ _ 5 _ _ _ gB2; have z6 := cell_of_row _ _ 6 _ _ _ gB2; have fB := fun j => frozen_of_row _ _ j _ _ gB2; have T2 := HTk.out.below hbl; have hd2 := T2.head.2; rw [hearAllQ_length, HN.out] at hd2; have gs2 := T2.slot hml; rw [HR.out] at gs2; dsimp only at gs2; obtain ⟨g0', g1', g2', g3', g4', g5', g6'⟩ := gs2; have fz2 := T2.frozen; have hB1s : wr.heap.size ≠ s := (Nat.ne_of_gt hsr); have hB2s : wr.heap.size + 1 ≠ s := (by omega); have hB2q : wr.heap.size + 1 ≠ q := (by omega); clear g0 g1 g2 g3 g4 g5 g6 gB1 gB2 c0 c1 c2 c3 c4 hd' fz)
              go_region
              go_wp2
              go_roundw
              case rel => exact ⟨k + 1, by go_num, by omega, by rw [HS.out]; exact (ent_world (T2.ko (X := wr.heap.size + 1) (by first | exact Ko.refl _ _ | exact ko_set _ _ _ _ | exact (ko_set _ _ _ _).trans (ko_set _ _ _ _) | exact (((((((ko_set _ _ _ _).trans (ko_set _ _ _ _)).trans (ko_set _ _ _ _)).trans (ko_set _ _ _ _)).trans (ko_set _ _ _ _)).trans (ko_set _ _ _ _)).trans (ko_set _ _ _ _)) | exact (((((((((ko_set _ _ _ _).trans (ko_set _ _ _ _)).trans (ko_set _ _ _ _)).trans (ko_set _ _ _ _)).trans (ko_set _ _ _ _)).trans (ko_set _ _ _ _)).trans (ko_set _ _ _ _)).trans (ko_set _ _ _ _)).trans (ko_set _ _ _ _))) hB2q.symm hB2s.symm) hml (⟨r0, r1, r2, r3, true, t4⟩ : En)).1.drew, ko_drew ((ko_off (hK.then hbl) (B := wr.heap.size + 1) (by first | exact Ko.refl _ _ | exact ko_set _ _ _ _ | exact (ko_set _ _ _ _).trans (ko_set _ _ _ _) | exact (((((((ko_set _ _ _ _).trans (ko_set _ _ _ _)).trans (ko_set _ _ _ _)).trans (ko_set _ _ _ _)).trans (ko_set _ _ _ _)).trans (ko_set _ _ _ _)).trans (ko_set _ _ _ _)) | exact (((((((((ko_set _ _ _ _).trans (ko_set _ _ _ _)).trans (ko_set _ _ _ _)).trans (ko_set _ _ _ _)).trans (ko_set _ _ _ _)).trans (ko_set _ _ _ _)).trans (ko_set _ _ _ _)).trans (ko_set _ _ _ _)).trans (ko_set _ _ _ _))) (by have := hK.1; omega)).trans (ent_world (T2.ko (X := wr.heap.size + 1) (by first | exact Ko.refl _ _ | exact ko_set _ _ _ _ | exact (ko_set _ _ _ _).trans (ko_set _ _ _ _) | exact (((((((ko_set _ _ _ _).trans (ko_set _ _ _ _)).trans (ko_set _ _ _ _)).trans (ko_set _ _ _ _)).trans (ko_set _ _ _ _)).trans (ko_set _ _ _ _)).trans (ko_set _ _ _ _)) | exact (((((((((ko_set _ _ _ _).trans (ko_set _ _ _ _)).trans (ko_set _ _ _ _)).trans (ko_set _ _ _ _)).trans (ko_set _ _ _ _)).trans (ko_set _ _ _ _)).trans (ko_set _ _ _ _)).trans (ko_set _ _ _ _)).trans (ko_set _ _ _ _))) hB2q.symm hB2s.symm) hml (⟨r0, r1, r2, r3, true, t4⟩ : En)).2)⟩
              case measure => simp [intOf]; omega
            · have HX : Hid (hearQ ⟨r0, r1, r2, r3, r4, true⟩ ⟨t0, t1, t2, t3, t4⟩ = (⟨r0, r1, r2, r3, true, true⟩ : En)) := by (show hearQ ⟨r0, r1, r2, r3, r4, true⟩ ⟨t0, t1, t2, t3, t4⟩ = _; unfold hearQ shutO shutQ; dsimp only; rw [HM.out]; simp [HLb.out, HEb.out])
              rw [HX.out] at HS
              go_wp2_with fail
              go_region
              go_wp2_with (go_at_call 19; (with_reducible refine (KL _).mono ?_); rintro e w2 ⟨rfl, hb2⟩; have gg := grown2 hb2; obtain ⟨gB1, gB2, hbl, hsz⟩ := gg; have y0 := cell_of_row _ _ 0 _ _ _ gB1; have y1 := cell_of_row _ _ 1 _ _ _ gB1; have y2 := cell_of_row _ _ 2 _ _ _ gB1; have y3 := cell_of_row _ _ 3 _ _ _ gB1; have y4 := cell_of_row _ _ 4 _ _ _ gB1; have z0 := cell_of_row _ _ 0 _ _ _ gB2; have z1 := cell_of_row _ _ 1 _ _ _ gB2; have z2 := cell_of_row _ _ 2 _ _ _ gB2; have z3 := cell_of_row _ _ 3 _ _ _ gB2; have z4 := cell_of_row _ _ 4 _ _ _ gB2; have z5 := cell_of_row _ _ 5 _ _ _ gB2; have z6 := cell_of_row _ _ 6 _ _ _ gB2; have fB := fun j => frozen_of_row _ _ j _ _ gB2; have T2 := HTk.out.below hbl; have hd2 := T2.head.2; rw [hearAllQ_length, HN.out] at hd2; have gs2 := T2.slot hml; rw [HR.out] at gs2; dsimp only at gs2; obtain ⟨g0', g1', g2', g3', g4', g5', g6'⟩ := gs2; have fz2 := T2.frozen; have hB1s : wr.heap.size ≠ s := (Nat.ne_of_gt hsr); have hB2s : wr.heap.size + 1 ≠ s := (by omega); have hB2q : wr.heap.size + 1 ≠ q := (by omega); clear g0 g1 g2 g3 g4 g5 g6 gB1 gB2 c0 c1 c2 c3 c4 hd' fz)
              go_region
              go_wp2
              go_roundw
              case rel => exact ⟨k + 1, by go_num, by omega, by rw [HS.out]; exact (ent_world (T2.ko (X := wr.heap.size + 1) (by first | exact Ko.refl _ _ | exact ko_set _ _ _ _ | exact (ko_set _ _ _ _).trans (ko_set _ _ _ _) | exact (((((((ko_set _ _ _ _).trans (ko_set _ _ _ _)).trans (ko_set _ _ _ _)).trans (ko_set _ _ _ _)).trans (ko_set _ _ _ _)).trans (ko_set _ _ _ _)).trans (ko_set _ _ _ _)) | exact (((((((((ko_set _ _ _ _).trans (ko_set _ _ _ _)).trans (ko_set _ _ _ _)).trans (ko_set _ _ _ _)).trans (ko_set _ _ _ _)).trans (ko_set _ _ _ _)).trans (ko_set _ _ _ _)).trans (ko_set _ _ _ _)).trans (ko_set _ _ _ _))) hB2q.symm hB2s.symm) hml (⟨r0, r1, r2, r3, true, true⟩ : En)).1.drew, ko_drew ((ko_off (hK.then hbl) (B := wr.heap.size + 1) (by first | exact Ko.refl _ _ | exact ko_set _ _ _ _ | exact (ko_set _ _ _ _).trans (ko_set _ _ _ _) | exact (((((((ko_set _ _ _ _).trans (ko_set _ _ _ _)).trans (ko_set _ _ _ _)).trans (ko_set _ _ _ _)).trans (ko_set _ _ _ _)).trans (ko_set _ _ _ _)).trans (ko_set _ _ _ _)) | exact (((((((((ko_set _ _ _ _).trans (ko_set _ _ _ _)).trans (ko_set _ _ _ _)).trans (ko_set _ _ _ _)).trans (ko_set _ _ _ _)).trans (ko_set _ _ _ _)).trans (ko_set _ _ _ _)).trans (ko_set _ _ _ _)).trans (ko_set _ _ _ _))) (by have := hK.1; omega)).trans (ent_world (T2.ko (X := wr.heap.size + 1) (by first | exact Ko.refl _ _ | exact ko_set _ _ _ _ | exact (ko_set _ _ _ _).trans (ko_set _ _ _ _) | exact (((((((ko_set _ _ _ _).trans (ko_set _ _ _ _)).trans (ko_set _ _ _ _)).trans (ko_set _ _ _ _)).trans (ko_set _ _ _ _)).trans (ko_set _ _ _ _)).trans (ko_set _ _ _ _)) | exact (((((((((ko_set _ _ _ _).trans (ko_set _ _ _ _)).trans (ko_set _ _ _ _)).trans (ko_set _ _ _ _)).trans (ko_set _ _ _ _)).trans (ko_set _ _ _ _)).trans (ko_set _ _ _ _)).trans (ko_set _ _ _ _)).trans (ko_set _ _ _ _))) hB2q.symm hB2s.symm) hml (⟨r0, r1, r2, r3, true, true⟩ : En)).2)⟩
              case measure => simp [intOf]; omega
        · have HX : Hid (hearQ ⟨r0, r1, r2, r3, r4, r5⟩ ⟨t0, t1, t2, t3, t4⟩ = (⟨(m : Int), t1, t2, t3, true, t4⟩ : En)) := by (show hearQ ⟨r0, r1, r2, r3, r4, r5⟩ ⟨t0, t1, t2, t3, t4⟩ = _; unfold hearQ shutO shutQ; dsimp only; rw [HM.out]; simp [HLb.out])
          rw [HX.out] at HS
          go_wp2_with fail
          go_region
          go_wp2_with (go_at_call 19; (with_reducible refine (KL _).mono ?_); rintro e w2 ⟨rfl, hb2⟩; have gg := grown2 hb2; obtain ⟨gB1, gB2, hbl, hsz⟩ := gg; have y0 := cell_of_row _ _ 0 _ _ _ gB1; have y1 := cell_of_row _ _ 1 _ _ _ gB1; have y2 := cell_of_row _ _ 2 _ _ _ gB1; have y3 := cell_of_row _ _ 3 _ _ _ gB1; have y4 := cell_of_row _ _ 4 _ _ _ gB1; have z0 := cell_of_row _ _ 0 _ _ _ gB2; have z1 := cell_of_row _ _ 1 _ _ _ gB2; have z2 := cell_of_row _ _ 2 _ _ _ gB2; have z3 := cell_of_row _ _ 3 _ _ _ gB2; have z4 := cell_of_row _ _ 4 _ _ _ gB2; have z5 := cell_of_row _ _ 5 _ _ _ gB2; have z6 := cell_of_row _ _ 6 _ _ _ gB2; have fB := fun j => frozen_of_row _ _ j _ _ gB2; have T2 := HTk.out.below hbl; have hd2 := T2.head.2; rw [hearAllQ_length, HN.out] at hd2; have gs2 := T2.slot hml; rw [HR.out] at gs2; dsimp only at gs2; obtain ⟨g0', g1', g2', g3', g4', g5', g6'⟩ := gs2; have fz2 := T2.frozen; have hB1s : wr.heap.size ≠ s := (Nat.ne_of_gt hsr); have hB2s : wr.heap.size + 1 ≠ s := (by omega); have hB2q : wr.heap.size + 1 ≠ q := (by omega); clear g0 g1 g2 g3 g4 g5 g6 c0 c1 c2 c3 c4 hd' fz)
          have b9 := box9 gB2 (.int .i64 (m : Int)) (.int .i64 t1) (.int .i64 t2) (.string t3) (.bool false) (.bool false) (.bool false) (.bool true) (.bool t4)
          obtain ⟨Wn, hWn⟩ : ∃ Wn, (((((((((w2.setCell ⟨wr.heap.size + 1, 0, none⟩ (.int .i64 (m : Int))).setCell ⟨wr.heap.size + 1, 1, none⟩ (.int .i64 t1)).setCell ⟨wr.heap.size + 1, 2, none⟩ (.int .i64 t2)).setCell ⟨wr.heap.size + 1, 3, none⟩ (.string t3)).setCell ⟨wr.heap.size + 1, 4, none⟩ (.bool false)).setCell ⟨wr.heap.size + 1, 5, none⟩ (.bool false)).setCell ⟨wr.heap.size + 1, 6, none⟩ (.bool false)).setCell ⟨wr.heap.size + 1, 5, none⟩ (.bool true)).setCell ⟨wr.heap.size + 1, 6, none⟩ (.bool t4)) = Wn := ⟨_, rfl⟩
          rw [hWn] at b9 ⊢
          have gn1 := (b9.2.2 wr.heap.size (by omega)).trans gB1
          have T3 := T2.ko b9.2.1 hB2q.symm hB2s.symm
          have hd3 := T3.head.2
          rw [hearAllQ_length, HN.out] at hd3
          have gs3 := T3.slot hml
          rw [HR.out] at gs3
          dsimp only at gs3
          have fz3 := T3.frozen
          have KO : Hid (Ko w2 Wn (wr.heap.size + 1)) := b9.2.1
          clear hWn T2 hd2 g0' g1' g2' g3' g4' g5' g6' fz2 y0 y1 y2 y3 y4 z0 z1 z2 z3 z4 z5 z6 fB gB1 gB2
          obtain ⟨g0', g1', g2', g3', g4', g5', g6'⟩ := gs3
          have y0 := cell_of_row _ _ 0 _ _ _ gn1
          have z0 := cell_of_row _ _ 0 _ _ _ b9.1
          have z1 := cell_of_row _ _ 1 _ _ _ b9.1
          have z2 := cell_of_row _ _ 2 _ _ _ b9.1
          have z3 := cell_of_row _ _ 3 _ _ _ b9.1
          have z4 := cell_of_row _ _ 4 _ _ _ b9.1
          have z5 := cell_of_row _ _ 5 _ _ _ b9.1
          have z6 := cell_of_row _ _ 6 _ _ _ b9.1
          clear b9 gn1
          go_region
          go_wp2
          go_roundw
          case rel => exact ⟨k + 1, by go_num, by omega, by rw [HS.out]; exact (ent_world T3 hml (⟨(m : Int), t1, t2, t3, true, t4⟩ : En)).1.drew, ko_drew ((ko_off (hK.then hbl) KO.out (by have := hK.1; omega)).trans (ent_world T3 hml (⟨(m : Int), t1, t2, t3, true, t4⟩ : En)).2)⟩
          case measure => simp [intOf]; omega
      · have hkl' : ¬ (k : Int) < (l.length : Int) := by omega
        have e : k = l.length := by omega
        subst e
        rw [List.take_length] at hT
        go_wp2
        go_ret
        rw [HF0.out]
        exact ⟨rfl, hT, hK⟩
  · have bF : (F != 0) = true := by simp [hF0]
    rw [if_neg hF0]
    clear hF0 h hl
    go_enter Try.func15, Try.ntmps15
    go_wp2_with (go_at_call 26; (with_reducible refine K26.mono ?_); rintro e w1 ⟨rfl, hb1⟩)
    go_ret
    exact ⟨rfl, HT.out.below hb1, ko_below hb1⟩
end Go.Proofs.Ytmhgoddlbklbfaa.Ra
