/- The document's Take and Tell. Conditions: the talker lies in memory and has at most twenty entries. -/
import Derived.Test.YtmhgoddlbklbfaaRa
namespace Go.Proofs.Ytmhgoddlbklbfaa.Ra
open Go.RowKit Ta Tb
variable {w : World} {base q s cap : Nat} {W : Int} {rs : List En}

def openQ (r : En) : Bool := decide (r.ver ≠ 0) && !r.kn
def toQ (r : En) : To := ⟨r.sl, r.ver, r.who, r.val, openQ r⟩
def calmQ (r : En) : En := { r with ow := false }
def toldQ (rs : List En) : List To := (rs.filter (fun r => openQ r || r.ow)).map toQ
def takeQ (N : Nat) (rs : List En) : List En := (rs.take N).map calmQ ++ rs.drop N
theorem takeQ_length (N : Nat) (rs : List En) : (takeQ N rs).length = rs.length := by simp [takeQ]; omega
theorem takeQ_at {i : Nat} (hi : i < rs.length) : (takeQ i rs)[i]'(by rw [takeQ_length]; exact hi) = rs[i] := by
  have h1 : ((rs.take i).map calmQ).length = i := by simp; omega
  have h2 : (takeQ i rs)[i]? = rs[i]? := by
    unfold takeQ
    rw [List.getElem?_append_right (by omega), h1, Nat.sub_self, List.getElem?_drop, Nat.add_zero]
  rw [List.getElem?_eq_getElem (by rw [takeQ_length]; exact hi), List.getElem?_eq_getElem hi] at h2
  exact Option.some.inj h2
theorem takeQ_succ {i : Nat} (hi : i < rs.length) : (takeQ i rs).set i (calmQ rs[i]) = takeQ (i + 1) rs := by
  have h1 : ((rs.take i).map calmQ).length = i := by simp; omega
  unfold takeQ
  rw [List.set_append_right _ _ (by omega), h1, Nat.sub_self, List.drop_eq_getElem_cons hi, List.set_cons_zero, List.take_succ_eq_append_getElem hi, List.map_append, List.append_assoc]
  rfl
theorem toldQ_succ {i : Nat} (hi : i < rs.length) : toldQ (rs.take (i + 1)) = if (openQ rs[i] || rs[i].ow) = true then toldQ (rs.take i) ++ [toQ rs[i]] else toldQ (rs.take i) := by
  unfold toldQ
  rw [List.take_succ_eq_append_getElem hi, List.filter_append, List.map_append]
  split
  · rename_i h; simp [h]
  · rename_i h; simp [h]
theorem toldQ_le (rs : List En) : (toldQ rs).length ≤ rs.length := by
  unfold toldQ
  rw [List.length_map]
  exact List.length_filter_le _ _
theorem Rk.low {W2 : World} {n : Nat} (h : Rk w base q s cap W rs) (hb : Below n w W2) (h1 : q < n) (h2 : s < n) : Rk W2 base q s cap W rs := by
  refine ⟨(hb.block q h1).trans h.1, ?_, h.2.2⟩
  obtain ⟨e1, h' | ⟨g, cap', cur, hv, hg, hh, h3⟩⟩ := h.2.1
  · exact absurd h'.1 (by simp)
  · simp only [Value.slice.injEq, Option.some.injEq, Addr.mk.injEq, and_true, true_and] at hv
    obtain ⟨rfl, rfl⟩ := hv
    exact ⟨e1, .inr ⟨s, cap, cur, rfl, hg, (hb.block s h2).trans hh, h3⟩⟩

theorem cell_told' (w : World) (n : Nat) (hn : w.heap.size = n) (e0 e1 e2 : Int) (e3 : ByteArray) (e4 : Bool) : ∀ j u, (tl ⟨e0, e1, e2, e3, e4⟩)[j]? = some u → (w.alloc (.cells #[.int .i64 e0, .int .i64 e1, .int .i64 e2, .string e3, .bool e4] 44)).cell? ((⟨n, 0, none⟩ : Addr).add j) = some u := by
  subst hn
  exact cell_told w e0 e1 e2 e3 e4

set_option maxHeartbeats 4000000 in
theorem take_doc (h : Rk w base q s cap W rs) (hN : rs.length ≤ 20) :
    Calls Try.prog 12 #[.pointer (some ⟨q, 0, none⟩)] w fun e w' => ∃ v, e = .returned v ∧ w'.ownsRow w.heap.size 44 5 v (toldQ rs).length (tls (toldQ rs)) ∧ Rk w' base q s cap W (rs.map calmQ) ∧ Ko w w' s := by
  obtain ⟨i44, hi44, hz440, hz441, hz442⟩ := info_parts info44
  have hq := h.lt.1
  have hs := h.lt.2
  have hqs : q ≠ s := Nat.ne_of_lt h.2.2
  have HT : Hid (Rk w base q s cap W rs) := h
  have e1 : rs.map calmQ = takeQ rs.length rs := by simp [takeQ]
  have e2 : toldQ rs = toldQ (rs.take rs.length) := by simp
  rw [e1, e2]
  obtain ⟨N, hNN⟩ : ∃ N, rs.length = N := ⟨_, rfl⟩
  rw [hNN] at hN ⊢
  have HN : Hid (rs.length = N) := hNN
  clear h e1 e2 hNN
  go_enter Try.func12, Try.ntmps12
  go_wp2
  go_loopw [3, 4, 5, 6] (fun lv iv _ _ wr => ∃ (i : Nat), iv = .int .i64 (i : Int) ∧ i ≤ N ∧ wr.ownsRow w.heap.size 44 5 lv (toldQ (rs.take i)).length (tls (toldQ (rs.take i))) ∧ Rk wr base q s cap W (takeQ i rs) ∧ Ko w wr s) (fun _ iv _ _ _ => N - (intOf iv).toNat)
  case atStart => exact ⟨0, rfl, by omega, ⟨by simp [toldQ, tls], .inl ⟨rfl, rfl⟩⟩, by simpa [takeQ] using HT.out, Ko.refl _ _⟩
  case round =>
    obtain ⟨i, rfl, hi, hown, hT, hK⟩ := hrel
    have hd := hT.head.2
    rw [takeQ_length, HN.out] at hd
    by_cases hil : i < N
    · have hil' : (i : Int) < (N : Int) := by omega
      have hie : i < rs.length := by rw [HN.out]; exact hil
      have hit : i < (takeQ i rs).length := by rw [takeQ_length]; exact hie
      have g := hT.slot hit
      rw [takeQ_at hie] at g
      have HC : Hid (∀ W2, Below w.heap.size wr W2 → Rk (W2.setCell ⟨s, i * 7 + 6, none⟩ (.bool false)) base q s cap W (takeQ (i + 1) rs) ∧ Ko w (W2.setCell ⟨s, i * 7 + 6, none⟩ (.bool false)) s) := fun W2 hb => by
        have := (hT.low hb hq hs).set hit 6 (by omega) (.bool false) (calmQ rs[i]) (by rw [takeQ_at hie]; rfl)
        rw [takeQ_succ hie] at this
        exact ⟨this, (hK.low hb).trans (ko_set _ _ _ _)⟩
      have HF : Hid (∀ W2, Below w.heap.size wr W2 → W2.cell? ⟨s, i * 7 + 6, none⟩ = some (.bool rs[i].ow) ∧ W2.frozen? ⟨s, i * 7 + 6, none⟩ = false ∧ W2.cell? ⟨q, 1, none⟩ = some (.slice (some ⟨s, 0, none⟩) N cap)) := fun W2 hb => by
        have g2 := ((hT.low hb hq hs).slot hit).2.2.2.2.2.2
        rw [takeQ_at hie] at g2
        have hd2 := (hT.low hb hq hs).head.2
        rw [takeQ_length, HN.out] at hd2
        exact ⟨g2, (hT.low hb hq hs).frozen _, hd2⟩
      have HL : Hid (toldQ (rs.take (i + 1)) = if (openQ rs[i] || rs[i].ow) = true then toldQ (rs.take i) ++ [toQ rs[i]] else toldQ (rs.take i)) := toldQ_succ hie
      have hlen : (toldQ (rs.take i)).length ≤ 20 := Nat.le_trans (toldQ_le _) (by simp; omega)
      have hws : w.heap.size ≤ wr.heap.size := hK.1
      obtain ⟨L, hL⟩ : ∃ L, toldQ (rs.take i) = L := ⟨_, rfl⟩
      rw [hL] at hown HL hlen
      obtain ⟨⟨e0, e1, e2, e3, e4, e5⟩, he⟩ : ∃ e, rs[i] = e := ⟨_, rfl⟩
      rw [he] at g HF HL
      dsimp only at g HF
      have HY : Hid (∀ o : Bool, openQ ⟨e0, e1, e2, e3, e4, e5⟩ = o → ((o || e5) = true → toldQ (rs.take (i + 1)) = L ++ [⟨e0, e1, e2, e3, o⟩]) ∧ ((o || e5) = false → toldQ (rs.take (i + 1)) = L)) := fun o ho => by
        have h := HL.out
        unfold toQ at h
        rw [ho] at h
        dsimp only at h
        constructor
        · intro h1; rw [h1] at h; exact h
        · intro h1; rw [h1] at h; exact h
      clear HL
      obtain ⟨g0, g1, g2, g3, g4, g5, g6⟩ := g
      have hlq : q < wr.heap.size := Nat.lt_of_lt_of_le hq hws
      have hls : s < wr.heap.size := Nat.lt_of_lt_of_le hs hws
      have bA : ∀ o o', Below w.heap.size wr ((wr.alloc o).alloc o') := fun o o' => ((Below.refl _ wr).alloc hws o).alloc (by simp; omega) o'
      have FA := fun o o' => HF.out _ (bA o o')
      have FA1 := fun o o' => (FA o o').1
      have FA2 := fun o o' => (FA o o').2.1
      have FA3 := fun o o' => (FA o o').2.2
      clear he hL hT hK hie hit FA
      by_cases hz : e1 = 0
      · have bz : (e1 != 0) = false := by simp [hz]
        have dz : decide (e1 ≠ 0) = false := decide_eq_false (by simp [hz])
        have HO : Hid (openQ ⟨e0, e1, e2, e3, e4, e5⟩ = false) := by (show openQ ⟨e0, e1, e2, e3, e4, e5⟩ = false; unfold openQ; dsimp only; rw [dz]; rfl)
        have HZ := HY.out false HO.out
        clear hz dz HO HY
        cases e5
        · have HL : Hid (toldQ (rs.take (i + 1)) = L) := HZ.2 rfl
          clear HZ
          go_wp2
          go_roundw
          case rel => exact ⟨i + 1, by go_num, by omega, by rw [HL.out]; exact ((own_set hown hs _).alloc _).alloc _, (HC.out _ (Below.refl _ _)).1.below (((Below.refl _ _).alloc (Nat.le_refl _) _).alloc (by simp) _), (HC.out _ (Below.refl _ _)).2.then (((Below.refl _ _).alloc (Nat.le_refl _) _).alloc (by simp) _)⟩
          case measure => simp [intOf]; omega
        · have HL : Hid (toldQ (rs.take (i + 1)) = L ++ [⟨e0, e1, e2, e3, _⟩]) := HZ.1 rfl
          clear HZ
          go_wp2_with (at_builtin; refine wpList_append_own _ rfl (.tmp 40) (.tmp 42) 36 rfl w.heap.size 44 i44 (.agg #[.int .i64 0, .int .i64 0, .int .i64 0, .string ByteArray.empty, .bool false]) 5 48 Try.underlying36 hi44 hz440 hz441 hz442 rfl (by decide) _ _ _ rfl (((hown.alloc _).alloc _).alloc _) ⟨_, 0, none⟩ 1 1 (tl ⟨e0, e1, e2, e3, _⟩) rfl rfl (cell_told' _ _ (by simp) e0 e1 e2 e3 _) (tl_one _) (by unfold maxLen; omega) (by omega) (by simp; omega) ?_; intro v' W2 hown3 hgrow3 _; have hb3 : Below w.heap.size wr W2 := ((bA _ _).alloc (by simp; omega) _).grown hgrow3 (by simp; omega) (fun q hq => (hown.lt q hq).1); have f3 := HF.out W2 hb3; obtain ⟨f31, f32, f33⟩ := f3)
          go_roundw
          case rel => exact ⟨i + 1, by go_num, by omega, by rw [HL.out, tls_snoc, List.length_append]; exact own_set hown3 hs _, (HC.out _ hb3).1, (HC.out _ hb3).2⟩
          case measure => simp [intOf]; omega
      · have bz : (e1 != 0) = true := by simp [hz]
        have dz : decide (e1 ≠ 0) = true := decide_eq_true hz
        have HO : Hid (openQ ⟨e0, e1, e2, e3, e4, e5⟩ = !e4) := by (show openQ ⟨e0, e1, e2, e3, e4, e5⟩ = !e4; unfold openQ; dsimp only; rw [dz]; rfl)
        have HZ := HY.out _ HO.out
        clear hz dz HO HY
        cases e4
        · have HL : Hid (toldQ (rs.take (i + 1)) = L ++ [⟨e0, e1, e2, e3, _⟩]) := HZ.1 rfl
          clear HZ
          go_wp2_with (at_builtin; refine wpList_append_own _ rfl (.tmp 40) (.tmp 42) 36 rfl w.heap.size 44 i44 (.agg #[.int .i64 0, .int .i64 0, .int .i64 0, .string ByteArray.empty, .bool false]) 5 48 Try.underlying36 hi44 hz440 hz441 hz442 rfl (by decide) _ _ _ rfl (((hown.alloc _).alloc _).alloc _) ⟨_, 0, none⟩ 1 1 (tl ⟨e0, e1, e2, e3, _⟩) rfl rfl (cell_told' _ _ (by simp) e0 e1 e2 e3 _) (tl_one _) (by unfold maxLen; omega) (by omega) (by simp; omega) ?_; intro v' W2 hown3 hgrow3 _; have hb3 : Below w.heap.size wr W2 := ((bA _ _).alloc (by simp; omega) _).grown hgrow3 (by simp; omega) (fun q hq => (hown.lt q hq).1); have f3 := HF.out W2 hb3; obtain ⟨f31, f32, f33⟩ := f3)
          go_roundw
          case rel => exact ⟨i + 1, by go_num, by omega, by rw [HL.out, tls_snoc, List.length_append]; exact own_set hown3 hs _, (HC.out _ hb3).1, (HC.out _ hb3).2⟩
          case measure => simp [intOf]; omega
        · cases e5
          · have HL : Hid (toldQ (rs.take (i + 1)) = L) := HZ.2 rfl
            clear HZ
            go_wp2
            go_roundw
            case rel => exact ⟨i + 1, by go_num, by omega, by rw [HL.out]; exact ((own_set hown hs _).alloc _).alloc _, (HC.out _ (Below.refl _ _)).1.below (((Below.refl _ _).alloc (Nat.le_refl _) _).alloc (by simp) _), (HC.out _ (Below.refl _ _)).2.then (((Below.refl _ _).alloc (Nat.le_refl _) _).alloc (by simp) _)⟩
            case measure => simp [intOf]; omega
          · have HL : Hid (toldQ (rs.take (i + 1)) = L ++ [⟨e0, e1, e2, e3, _⟩]) := HZ.1 rfl
            clear HZ
            go_wp2_with (at_builtin; refine wpList_append_own _ rfl (.tmp 40) (.tmp 42) 36 rfl w.heap.size 44 i44 (.agg #[.int .i64 0, .int .i64 0, .int .i64 0, .string ByteArray.empty, .bool false]) 5 48 Try.underlying36 hi44 hz440 hz441 hz442 rfl (by decide) _ _ _ rfl (((hown.alloc _).alloc _).alloc _) ⟨_, 0, none⟩ 1 1 (tl ⟨e0, e1, e2, e3, _⟩) rfl rfl (cell_told' _ _ (by simp) e0 e1 e2 e3 _) (tl_one _) (by unfold maxLen; omega) (by omega) (by simp; omega) ?_; intro v' W2 hown3 hgrow3 _; have hb3 : Below w.heap.size wr W2 := ((bA _ _).alloc (by simp; omega) _).grown hgrow3 (by simp; omega) (fun q hq => (hown.lt q hq).1); have f3 := HF.out W2 hb3; obtain ⟨f31, f32, f33⟩ := f3)
            go_roundw
            case rel => exact ⟨i + 1, by go_num, by omega, by rw [HL.out, tls_snoc, List.length_append]; exact own_set hown3 hs _, (HC.out _ hb3).1, (HC.out _ hb3).2⟩
            case measure => simp [intOf]; omega
    · have hil' : ¬ (i : Int) < (N : Int) := by omega
      have e : i = N := by omega
      subst e
      go_wp2
      go_ret
      exact ⟨_, rfl, hown, hT, hK⟩
end Go.Proofs.Ytmhgoddlbklbfaa.Ra
