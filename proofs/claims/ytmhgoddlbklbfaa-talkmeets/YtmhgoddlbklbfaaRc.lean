/- The document's Tell, Later and WrongTold. Conditions: the talker lies in memory and has at most twenty entries. -/
import Derived.Test.YtmhgoddlbklbfaaRb
import Derived.Laws.Cover1
namespace Go.Proofs.Ytmhgoddlbklbfaa.Ra
open Go.RowKit Ta Tb
variable {w : World} {base q s cap : Nat} {W : Int} {rs : List En}

def shutQ (r : En) : To := ⟨r.sl, r.ver, r.who, r.val, false⟩
def tellQ (rs : List En) : List To := (rs.filter (fun r => decide (0 < r.ver))).map shutQ
theorem tellQ_succ {i : Nat} (hi : i < rs.length) : tellQ (rs.take (i + 1)) = if 0 < rs[i].ver then tellQ (rs.take i) ++ [shutQ rs[i]] else tellQ (rs.take i) := by
  unfold tellQ
  rw [List.take_succ_eq_append_getElem hi, List.filter_append, List.map_append]
  split
  · rename_i h; simp [h]
  · rename_i h; simp [h]
theorem tellQ_le (rs : List En) : (tellQ rs).length ≤ rs.length := by
  unfold tellQ
  rw [List.length_map]
  exact List.length_filter_le _ _

set_option maxHeartbeats 4000000 in
theorem tell_doc (h : Rk w base q s cap W rs) (hN : rs.length ≤ 20) :
    Calls Try.prog 17 #[.pointer (some ⟨q, 0, none⟩)] w fun e w' => ∃ v, e = .returned v ∧ w'.ownsRow w.heap.size 44 5 v (tellQ rs).length (tls (tellQ rs)) ∧ Below w.heap.size w w' := by
  obtain ⟨i44, hi44, hz440, hz441, hz442⟩ := info_parts info44
  have HT : Hid (Rk w base q s cap W rs) := h
  have e2 : tellQ rs = tellQ (rs.take rs.length) := by simp
  rw [e2]
  obtain ⟨N, hNN⟩ : ∃ N, rs.length = N := ⟨_, rfl⟩
  rw [hNN] at hN ⊢
  have HN : Hid (rs.length = N) := hNN
  clear h e2 hNN
  go_enter Try.func17, Try.ntmps17
  go_wp2
  go_loopw [3, 4] (fun lv iv wr => ∃ (i : Nat), iv = .int .i64 (i : Int) ∧ i ≤ N ∧ wr.ownsRow w.heap.size 44 5 lv (tellQ (rs.take i)).length (tls (tellQ (rs.take i))) ∧ Below w.heap.size w wr) (fun _ iv _ => N - (intOf iv).toNat)
  case atStart => exact ⟨0, rfl, by omega, ⟨by simp [tellQ, tls], .inl ⟨rfl, rfl⟩⟩, Below.refl _ _⟩
  case round =>
    obtain ⟨i, rfl, hi, hown, hB⟩ := hrel
    have hT := HT.out.below hB
    have hd := hT.head.2
    rw [HN.out] at hd
    by_cases hil : i < N
    · have hil' : (i : Int) < (N : Int) := by omega
      have hie : i < rs.length := by rw [HN.out]; exact hil
      have g := hT.slot hie
      have HL : Hid (tellQ (rs.take (i + 1)) = if 0 < rs[i].ver then tellQ (rs.take i) ++ [shutQ rs[i]] else tellQ (rs.take i)) := tellQ_succ hie
      have hlen : (tellQ (rs.take i)).length ≤ 20 := Nat.le_trans (tellQ_le _) (by simp; omega)
      have hws : w.heap.size ≤ wr.heap.size := hB.size
      obtain ⟨L, hL⟩ : ∃ L, tellQ (rs.take i) = L := ⟨_, rfl⟩
      rw [hL] at hown HL hlen
      obtain ⟨⟨e0, e1, e2, e3, e4, e5⟩, he⟩ : ∃ e, rs[i] = e := ⟨_, rfl⟩
      rw [he] at g HL
      dsimp only [shutQ] at g HL
      obtain ⟨g0, g1, g2, g3, g4, g5, g6⟩ := g
      clear he hL hT hie
      by_cases hs : 0 < e1
      · rw [if_pos hs] at HL
        go_wp2_with (at_builtin; refine wpList_append_own _ rfl (.tmp 24) (.tmp 33) 36 rfl w.heap.size 44 i44 (.agg #[.int .i64 0, .int .i64 0, .int .i64 0, .string ByteArray.empty, .bool false]) 5 48 Try.underlying36 hi44 hz440 hz441 hz442 rfl (by decide) _ _ _ rfl (hown.alloc _) ⟨_, 0, none⟩ 1 1 (tl ⟨e0, e1, e2, e3, _⟩) rfl rfl (cell_told _ e0 e1 e2 e3 _) (tl_one _) (by unfold maxLen; omega) (by omega) (by simp; omega) ?_; intro v' W2 hown3 hgrow3 _; have hb3 : Below w.heap.size w W2 := (hB.alloc hws _).grown hgrow3 (by simp; omega) (fun q hq => (hown.lt q hq).1))
        go_roundw
        case rel => exact ⟨i + 1, by go_num, by omega, by rw [HL.out, tls_snoc, List.length_append]; exact hown3, hb3⟩
        case measure => simp [intOf]; omega
      · rw [if_neg hs] at HL
        go_wp2
        go_roundw
        case rel => exact ⟨i + 1, by go_num, by omega, by rw [HL.out]; exact hown, hB⟩
        case measure => simp [intOf]; omega
    · have hil' : ¬ (i : Int) < (N : Int) := by omega
      have e : i = N := by omega
      subst e
      go_wp2
      go_ret
      exact ⟨_, rfl, hown, hB⟩

/-- is the first one later? -/
def laterB (x y : To) : Bool := if x.ver ≠ y.ver then decide (y.ver < x.ver) else if x.who ≠ y.who then decide (y.who < x.who) else !(Op.bytesLess x.val.toList y.val.toList || x.val.toList == y.val.toList)
set_option maxHeartbeats 1000000 in
theorem later_any (x y : To) (w : World) : Calls Try.prog 19 #[vt x, vt y] w fun e w' => e = .returned (.bool (laterB x y)) ∧ Below w.heap.size w w' := by
  obtain ⟨x0, x1, x2, x3, x4⟩ := x
  obtain ⟨y0, y1, y2, y3, y4⟩ := y
  unfold vt laterB
  dsimp only
  have hb := fun o o' => ((Below.refl w.heap.size w).alloc (Nat.le_refl _) o).alloc (by simp) o'
  by_cases h1 : x1 = y1
  · subst h1
    have b1 : (x1 != x1) = false := by simp
    rw [if_neg (by simp)]
    by_cases h2 : x2 = y2
    · subst h2
      have b2 : (x2 != x2) = false := by simp
      rw [if_neg (by simp)]
      cases hp : Op.bytesLess x3.toList y3.toList <;> cases hr : (x3.toList == y3.toList)
      all_goals
        go_enter Try.func19, Try.ntmps19
        go_wp2
        go_ret
        exact ⟨rfl, hb _ _⟩
    · have b2 : (x2 != y2) = true := by simpa using h2
      rw [if_pos h2]
      go_enter Try.func19, Try.ntmps19
      go_wp2
      go_ret
      exact ⟨rfl, hb _ _⟩
  · have b1 : (x1 != y1) = true := by simpa using h1
    rw [if_pos h1]
    go_enter Try.func19, Try.ntmps19
    go_wp2
    go_ret
    exact ⟨rfl, hb _ _⟩
end Go.Proofs.Ytmhgoddlbklbfaa.Ra
